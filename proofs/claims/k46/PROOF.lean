import PyProof.Rows.All
import Wide.All
import OpenK.AllK
import Wide.FinOn
import Lean
import PyProof.EqAt
import PyProof.EqKinds
import PyProof.TupleCall
import KE.KDictList
import PyProof.StrLawsIdx
import PyProof.StrBlockH
import PyProof.EnumStmt
import PyProof.ListNew
import PyProof.AutoListH
import PyProof.TupleIter
import KE.KDictOf
import PyProof.ZipIter
import PyProof.Rows.ZipGen
import PyProof.ListIndex
import PyProof.AttrMissHeap
import PyProof.NeKinds
import KE.KLam
import KE.KNestM
import KE.KDictLaws
import KE.KItemsList
import PyProof.SeqI3
import PyProof.DictWalks
import KE.KIntText
import PyProof.StationsW
import PyProof.ExcClass2
import PyProof.InstStore
import PyProof.InstStoreFacts
import KE.KIsAll
import PyProof.ExcAttrAll.ValueError
import KE.KTryMore
import PyProof.AutoIntOps
import PyProof.StrLawsIn
import PySem.Challenge.RW_menutree_k46_houses_kept
set_option Elab.async false
set_option linter.all false
set_option maxRecDepth 100000
set_option maxHeartbeats 16000000
open Array renaming find?_toList->Xa,forIn_toList->XZ,getElem?_eq_some_iff->TY,length_toList->Tg
open Bool renaming and_eq_true->S5,and_false->VW,eq_iff_iff->VE,false_eq_true->Tu,false_ne_true->RA,not_eq_true'->Vt,or_false->Ur
open Eq renaming refl->UZ
open False renaming elim->QS
open ForInStep renaming yield->Td
open Function renaming comp_def->Vd
open Int renaming zero_add->XA
open List renaming all_cons->Tq,all_eq_true->T4,any_cons->Sv,any_eq_true->W7,any_map->V5,append_assoc->Ul,append_nil->Rh,dropLast_concat->VU,drop_eq_getElem_cons->Wi,drop_length->W6,drop_zero->WU,eq_nil_of_length_eq_zero->T8,filterMap_cons->Vc,filter_cons_of_neg->Wx,filter_cons_of_pos->Ww,find?_cons->Tt,flatMap_cons->Vs,forIn_cons->VD,getD_eq_getElem?_getD->Sr,getElem?_append_left->Rc,getElem?_append_right->Ro,getElem?_cons_succ->Rf,getElem?_cons_zero->SM,getElem?_eq_getElem->Up,getElem?_eq_none->UD,getElem?_eq_some_iff->RO,getElem?_map->RC,getElem?_range->Th,getElem?_replicate->S9,getElem?_set->Vr,getElem?_set_ne->VT,getElem?_set_self->X1,getElem?_toArray->X9,getElem?_zipWith->UC,getElem_mem->Sz,getElem_of_mem->XY,getLast?_concat->Ta,length->SY,length_append->RF,length_cons->QV,length_drop->Uy,length_filter_le->VF,length_map->RB,length_nil->WD,length_replicate->UB,length_singleton->X8,length_take->Tc,length_zipWith->Vb,lookup->XI,map_append->SX,map_congr_left->Sy,map_cons->RG,map_map->Rm,map_nil->Vq,map_zipWith->W5,mem_append->Ra,mem_append_left->SD,mem_append_right->RN,mem_cons->R7,mem_cons_of_mem->R6,mem_cons_self->RZ,mem_filterMap->Xh,mem_map->SU,mem_map_of_mem->UR,mem_of_getElem?->VS,mem_range->WT,mem_singleton->Sd,nodup_append->TQ,nodup_cons->RT,not_mem_nil->Rx,of_mem_zip->VC,pairwise_map->Xs,range->S7,range'_succ->W4,replicate->Sh,size_toArray->Rb,sum_cons->Uo,takeWhile_append_dropWhile->W0,take_of_length_le->So,zipWith_cons_cons->V4
open List.cons renaming injEq->Uq
open Nat renaming add_assoc->UK,add_sub_cancel_left->V1,le_add_right->WB,le_of_ble_eq_true->XH,le_of_eq->U8,le_of_lt->Vz,le_refl->R9,le_succ->UM,le_succ_of_le->TR,le_trans->Rg,lt_irrefl->Ru,lt_of_lt_of_le->QX,lt_succ_of_lt->Vy,lt_succ_self->V0,ne_of_gt->Tf,ne_of_lt->RY,not_lt->VB,not_lt_zero->WQ,zero_add->Vx,zero_le->UL
open Ne renaming symm->Rv
open Option renaming bind_eq_some_iff->Re,bind_some->Vp,getD_none->Xg,isSome_iff_exists->Ui,map_eq_some_iff->RJ
open Option.some renaming inj->SG
open Or renaming inl->XG,inr->Wt
open PyProof.Rows renaming AllBare->V3,IntsAre->Xr,callWith_type1->T7,envOfC->T6,slot_tuple_getitem->Tp,subscriptTail->XX,subscriptTail_builtinR->Xq
open PySem renaming Around->RV,BindsTo->X0,CmpOp->WM,Draws->Ws,Env->Uz,IsPair->Tj,IsPart->Wc,IsTupleKey->W9,IsZip->Vm,Keyword->Xp,Model->Wo,NameKind->Tz,Paired->X7,PassesOwn->Vo,Pos->SL,Program->R8,Result->Xo,Shared->QR,Tok->XD,Within->Wu,World->RH,assign->W8,assignEach->SJ,atKey->X6,attributeBase->S8,backTo->SN,backToKw->TH,behindInMarks->TZ,binaryOp->TV,bindArgs->VI,bindC->Xe,bindL->Xd,bootBuiltins->Sj,builtinsNs->VY,call->XM,callWith->VH,call_meets->U6,call_meetsIn->WH,callerA->WG,codeAny->Uj,codeAny_call_builtin->UW,codeAny_mono->UG,compareOp->Ri,concat_meets->Xl,eqIsQuiet->WZ,eval->Rj,excClassObj->Vk,field->Xc,foldedSetIterable->Sx,getItem->Vn,getMethod->Um,handleBy->X5,holding->V2,intText?->WE,keywordEach->SS,lastMarks->Xb,letOwnedTupleGo->VZ,limitOf->Xk,mainGlobals->R5,mem_of_lookup->SF,model->RE,newFunctionEnv->X4,noFill_tuple_add->WY,noteFrame->VG,rawInt->T5,relabel->Xj,seq_tuple_add->XJ,setFlight->WX,sizeLine_eq->Rt,sliceBounds->UV,standAt->US,starEach->QU,strIterType->Ti,subscripted->Wj,swapsWith->SR,sysModules->SI,typeIs_str->U5,typeLookup->X3,valueAt->UF,wpAny->QZ,wpAny_Call_Name_kw->TM,wpAny_Call_method_late->VX,wpAny_attempt->W3,wpAny_bind->QQ,wpAny_call->UO,wpAny_callSpecial?_slot->TF,wpAny_call_entry->TC,wpAny_comprehension_free->V8,wpAny_execs_cons->WW,wpAny_execs_nil->U1,wpAny_field->Ry,wpAny_holding->SZ,wpAny_loadPart_at->UE,wpAny_mono->Rz,wpAny_newObj_type->Sn,wpAny_onRaise->V7,wpAny_passesOwn->TU,wpAny_pure->QW,wpAny_pyIter_enum->Tb,wpAny_pyIter_list->Sm,wpAny_pyIter_zip->WV,wpAny_pyNext_list_item->Xi,wpAny_seqItems->Su,wpAny_setField->Us,wpAny_setField_rec->U4,wpAny_specialOf->Ua,wpAny_standAt->Tx,wpAny_truthy_bool->SK,wpAny_updateSeq_pair->Vj
open PySem.AutoSeq1 renaming wpAny_loadPart'->UY
open PySem.Builtin.List renaming listTooLong->UN
open PySem.Builtin.Slice renaming sliceAdjust->UI,sliceApplied->Vg,slicePlaces->TK
open PySem.Builtin.SmallTypes renaming nextOf->Rq,ownedTupleHandOut->UX,ownedTupleIsFree->Sb
open PySem.Builtin.Str renaming occurrences->RI,partsBetween->SW,strKind->Sf
open PySem.Builtin.Tuple renaming tupleExact->TN,tupleHashOf->Sk,tupleItemsOf->Vf
open PySem.Calls renaming Name_function_global->WN,callWith_builtin->U0,evalArgs_plain->VN
open PySem.Data renaming cell->Ux,fields->VR
open PySem.Draws renaming list->XU
open PySem.EntryCells renaming newEntry->Wh
open PySem.F renaming args_str_split_2->Uh,args_str_split_3->Ug,args_tuple_add_2->Ue,args_tuple_iterator_next_1->Wg,entry_dict_get->Wf,entry_str_split->Sg,entry_tuple_add->Uk,entry_tuple_iterator_next->Wr,plainAttrs_dict->To,plainAttrs_list->Tn,plainAttrs_str->We,slot_dict_get->U3,slot_dict_getitem->WC,slot_dict_itemiterator_iter->VQ,slot_dict_items->WS,slot_dict_pop->Wq,slot_list_append->Tw,slot_list_extend->WL,slot_str_partition->WA,slot_str_split->SQ,slot_tuple_add->Uv,slot_tuple_hash->Uw,slot_tuple_iterator_next->Te,slot_zip_next->VP,type_dict_get->Wp,type_list_append->Ud
open PySem.Heap renaming SameBut->T9,get?_none_of_le->VO,get?_push_of_some->QT,get?_push_size->RD,get?_update_other->SE,get?_update_self->UA,lt_size->QY,size_push->SA
open PySem.Heap.SameBut renaming update->WK
open PySem.IsTupleKey renaming inj->XF
open PySem.NameKind renaming cell->VM,free->U7
open PySem.Obj renaming data_mapFields->Uc,isFreed_of_fields->VL,mapFields->UJ
open PySem.P renaming add_list->XR
open PySem.Paired renaming length->SH
open PySem.PassesOwn renaming never->Vl
open PySem.SeqAt renaming EqAt->Ts
open PySem.SeqAt.EqAt renaming int_str->Wn,of_refs->Wm,same->Vi,str_int->Wl
open PySem.SeqAt.RcAt renaming tuples->Wv
open PySem.Shared renaming heap->Wz
open PySem.Str renaming empty->Wy,join->TL,length->Ub,ofString->QP
open PySem.StrLaws renaming occBody->UH,partsBetween_eq->WR,partsFrom->XE
open PySem.Value renaming bool->WJ,builtin->Va,int->Uu,none->S6,ref->RU,str->U9,type->WI
open PySem.W renaming Frag->QO,InstAt->Xn,OpenLaw->Vw,callWith_K->UQ,cellsFrom_some->Wa,codeIn->Se,emptyDict->SO,exmOne->UP,exm_one->Xf,findIn->Rn,fnOf->Rr,handedIn->XQ,hasDictIn->TJ,instObj->Ss,isFn->Ut,keepIn->Rl,kia_one->Si,kitOne->VA,kitx_dict->XC,lookIn->V9,makesIn->Vv,methodCall_KW->Wk,methodObj->Ve,mg_of->Sa,notCls->Xm,nsIn->RK,plainGet->Sw,plainGet_of->VJ,plainOver->Tv,takerIn->Vu
open PySem.W.Looks renaming ld->Wb
open PySem.WalksT renaming enumerateD->Vh
open Sum renaming inl->X2,inr->Rp
open Sum.inr renaming inj->V6
open ToString renaming toString->UT
open True renaming intro->Sq
open Option renaming some->Z',none->Y'
open Bool renaming false->Y1,true->Y2
section
set_option hygiene false
set_option compiler.extract_closed false
section
open Lean
def DqT:Array String:=#["*","*","Addr×Obj","*","List PV","Y9 1","Y9 0","*","*","Y9 2",".ref C","Dk hk hp ck cp g",".ref a","Yd x","RE X.prog X.w","Yc.refl H","*","RE prog w","*","Key×V","f ρ",".str nm","Y9 3",".ref f","List Nat","Yk hu","a8 st",".bl Y1","R9 _","*",".obj \"Desk\" kD ws",".str @n",".lst @a4",".str x",".int i","av 0","Str×Str",".bl Y2","aO h","av 2",
"⟨_,rfl⟩","av 1",".inr nm","aY st","kI 0","kI 1","Z' @k","Y9 4","aL 1",".lst ps","fE hu","ar 0",".leaf @fw","cF C N' scope cl L s H fp",".str @dt",".inl rfl",".lst xs","aF P w","Z' @m",".dK kvs","kvs.map @s","Str×Addr","Str×Yg","aL 0","kI 2","RE C.X.prog C.X.w",".Name x np",".ref it",".tup ps",".str T","","",".ret p","κ×V","av 3","bR hN hv hd hcd","kvs.map @d",".int how","cd t","tw w",
"*",".dct ks ps",".Name x pos","I.ok.hd hc",".type T",".int b","cd nm","aL 2","⟨w,tabs,qual⟩","a7 @f aE","*","EP X J' σ Q",".tup xs","kS \" \"",".str s","Z' v","UU kk Yx kp YA","⟨rfl,rfl⟩",".int hour","",".tree t",".own p",".ref D","QP \" \"",".ref B","wG hu","az @Y aM @J ak","fI nt Xw ρ","NN.map .str","⟨t,rfl⟩",".str row","fV 2 @dC","cd l.2","Str×V",".int s",".int a","yc hu","kI 3","aL 3","*",
"ha J' s σ H _ I h","a6 @W ag","a9 @j @S Yh",".val @b1","af (ao fS)",".Name x p",".str n",".lst L","RE P w","PV×Tr","kS \"\"","av 4","dX r","fun _ _ _ _ _=>(lb 0)",".val (.str number)","a7 @j aE","fun _ _=>False","bu (kB Y1)","","Option Value",".str \" \"",".YL o u","Z' @x",".ref x",".int 0","fs ρ",".bl b","Y9 5","QY e",".ListComp elt [⟨tg,iter,ifs,0⟩] scope pos","A.deeper (T6 qual @A s.heap.objs.size f Y5)",".two @l @eU","a9 @f @S Yh","ρ.set i @cr",".Tuple elts kk tp",".str \"house\"","a6 @al ag",".str \"name\"","a6 @aJ ag","List (Key×YU)",
"a7 @g aE",".builtin id","Str×Value","ps.zip us",".str \"ok\"",".ref b",".ref e",".int k",".inr x","[x,y,z]","ay rs","Ri op","aw @z @J aa",".leaf @d7",".str @fs",".ref s.heap.objs.size","fun vs H Q E h=>h.1","a7 @w aE","aD (aB (ao fS))",".two @aa @b7","EV.o @cz","a6 bz ag","ay h.rooms","QU es X.env","Option Expr","ay d.rooms","Yc.refl H1",".lst @eC",".whole 0",".inr rfl",".tup ys",".lst qs",".dT kvs",".val p",".int w","g i j","bJ ag","sgn c","cU st","aD fM",
"a++b","aw @z @P aa","[.tree @E,W,.tree @hg,.val f,.val w]",".lst @jQ","aw @z @J ak","⟨_,RD _ rfl,rfl,rfl⟩","a9 @j @T Yh",".ins C dx fs",".str \"hand\"","rP C.X.K g","Option Int",".str \"end\"","Key×PV","κ×Value","fV 2 @iH",".next ρ2",".next ρ'","Str×Tz",".ref i1",".inr y","vs++Zd",".own x",".int 1","trV t","lj×V","iT hu","hU aE","ar 2","aw @z @N aa","fun _ _ _ _ _=>(lT rfl (bW (lb 0) (bW (lb 1) iI)))",".str (Yd @rJ)",".lst @g1","ll \"NoName\" Y1","a9 @g @S Yh",".str @fC","rs.map fun r=>r.2.pv","I1.hok.fresh @C","a6 @be ag","he J' s σ H _ I h",".val @dv",
"lj×Addr×Value","EV.o @b6","Rj o C.X.env",".inr \"first\"",".str @dz","upd H a o","Yc.new nf","EV.o @c0",".val @I","eqU x","U5 _ _ _",".ref z","",".int R","top 101",".ref i2",".ref fa","aH d.h",".ref p",".int z","fe ρ","t ρ","dg i","Yd l","bh he dZ hs","s1.trans s2","aG @Z (aG (ar 1) fN)","[.tree D,.tree @aa,.val @v,.val @ar,.val @az,.no,.no]","a9 @f @T Yh","⟨i,j,rfl,rfl,k _ H @p rfl⟩","ks.any fun j=>decide (j=k)",".Compare a [op] [b] pos",".inr \"letters\"","fun i H h=>h.1",".inr \"rooms\"","a9 @g @T Yh","Yd @fG","aJ @ll","kS \"letters\"","QU es C.X.env",
".val (.int t)","ns.map V.int","fun _ _=>rfl","due kk kp nm","Kp.upd q rfl",".str \"names\"","YG @g jT","ns.map .int","glue c ws t","due ks ps x","F4 w.params","DR xs lo hi",".str \"menu\"","xs.map enc","fun _ q=>q","SS kws env","Key×Value",".dct Yx YA","[x,y,z,u,v]","x.map sgn","ks.map kV","cs.map Yt",".val r.pv","Option V",".whole i",".str k.s","Z7 @g",".str kw","ps++qs","List V",".own q",".own a","[a,b,c]","g p q","enc x","kV k","kI 8","g ρ","cd x","cd n",
"av 5","aL 4","Yd y","Y9 7","Y9 6","EV.o (aj fD (EV.o (aj jr @P aa)) aa)","lst S NL RL T U @bu @bj c w t a b","[.tree @l,.tree @aa,.val @v,.val @ac,.val @az,.val @a6,.val d0]","xs.map fun x=>.str @n","a9 @g (kS \"rooms\") Yh","[.own @gU,.own @n1,.val @qH]","DU P w K mg base N x @A f Y5 A outer s H E","EV.o @oD","A.deeper (T6 x @A s.heap.objs.size f Y5)","[[104,111,117,115,101]]","[.inr \"first\",.inr \"letters\",.inr \"rooms\"]","Z' (.builtin \"object.__setattr__\")","cf (az @Y aM @dj ak)","kvs.any fun kv=>decide @iw",".tup [.str \"menu\",.str \"names\"]",".Assign [.Name x pos'] e pos","EV.o (cS rfl T.c_BENEATH)","rs.map fun r=>.inr r.1",".att \"Desk\" 0 \"houses\"","az @Y aM @P ak","[98,97,99,107]","Dk hk' Ys YN YM g'","⟨H,H,fun _=>Y'⟩","a9 @g @am Yh","Z' (.Name x pos')","I.hok.fresh @C","(ys++[z]).map Yt","aj bj ak @N","[\"kind\",\"values\"]","σ.set i @aR",".Tuple es k pos","⟨B.1,H1,B.3⟩","[\"field\",\"part\"]",".room n @bs","[.val @cB,.no]",
"ρ.set i @aX","iE hk hp @Q",".val (.int M)",".lst @ei","nR ks ps k p","kP c_BENEATH","a7 @g @aL","a6 @al @bh",".inr \"names\"","xs.map .str","xN \"NoName\"","ks.map .inr","frs X.stack",".bool Y2","Yc.new hp","Yc.new hl","z6 C.X.K s","start N vs","kS \"hours\"","a7 @V aE","Yd (cn xs)","K w.params",".str d.fst",".leaf @aD",".dct kk kp","kS \"ok\"","ks.map wV","fV 2 @gc",".cont ρ2","EV.o gu","jX iC nm",".next ρ",".int i t",".cont ρ","mU nm T","cT @al","cG q hn","Yc.kp s","CXr P w",".tbl ps",
".str \"\"",".ref t",".leaf p",".brk ρ","[op,op']","us++ds","lQ n r","h p ρ","TE×TE","Rv h_a",".str y",".str k",".ref c","num i","lu bz","af gx",".ok a",".Zt t",".YX x","[e,it]","[.tree @l,.val (.str @jk),.val (.lst @pQ),.val (.lst [.str nm])]","YF (aW (a9 @V @bd gGt)) (bL (bN 5 (a9 (kS \"show \") @j bt)) (bN 6 (iV (kL 1) @j @bq mJ))) br","⟨ρ,vw.same s',(RQ.same k s').imp fun z _ k2 v2 H2 s2 r2=>k2 v2 H2 @hG r2⟩","u5 (aW (aN (a7 @dO (a7 @rR @aL)) bQ))","[.val @la,.val @lc,.val @bm,.val r.pv,.val @k9]","YS @tc @s4 cy","aG @cZ (aG (ar 3) fN)","EV.o (aw @z (EN.o (bJ @kd)) @ez)","cnX P w K mg base N qual @A f Y5 A outer s H E","DU P w K mg base N qual @A f Y5 A outer s H E","(ρ.set i @l4).set j (.tree u')","(ρ.set 0 (.val x)).set 1 (.val y)","⟨.ref _,H',I',rfl,k _ H' sm r'⟩","fun b o hb e=>(sb.2 b hb).trans e","⟨.bl _,H,I,rfl,k _ H @p rfl⟩","lst S NL RL T U n @bj c w t a b","eX @g (gU @am) (gU (kI 22))","[.val @ef,.val (.lst vs)]","[.tree t,.val a,.val b,.tree u]","lst S NL RL T U n k c w t a b",
".Compare a @fQ [b,c] pos",".Attribute @hT m Y4","Yd @rm","bX (aW @j6)",".builtin \"object.__class__\"","xs.map fun x=>PV.str @n","fun b o hb e=>eb b o hb e","I.base.keep b o e n hb hx","k.fs.map fun f=>.str f.s",".ref s₂.heap.objs.size","TX.glue 32 @eI nm","hb J' s1 σ H1 _ I1 q1","ha pos J' s σ H _ I h","fr.elim S6 fun f=>T5 f","af (SV.YL 1 (ao @W))",".lst @h9",".lst (ps++[p])",".first h.first","RN _ (RN _ (jm hb e))",".att \"Desk\" 0 \"calls\"","a6 @cz ag",".str (Yg.kd r).s","Yd @rV","HT.YB xs.length 0 lo",".Name \"isinstance\" p","⟨rfl,xs,Zc.of hx⟩",".Constant @I j r3",".Name cls np","fun b ob q=>QT _ q","bC @a2 @f1 aC",".dct hk hp","[.tree t,.val @v]","qy ps lo hi","aF C.X.prog C.X.w",".Attribute o m Y4","[e1,e2,.Name y yp]","[d.h.pv,.int hour]","h.letters.map Yt",".dK (Xz kvs k v)","a7 @dE aE",
"a7 @j @cb","a7 @f @bv","a6 @ev ag",".str h.first","⟨rfl,rfl,rfl⟩","fun b hb=>ai hb","aw @z @ce aa","a9 @w @S Yh","Rj @ao C.X.env","RU g1.objs.size","Addr×List Addr",".str @h6",".leaf @ir","q _ H @p rfl","ll \"NoName\" Y2","aJ (bN 6 @iI)","EX 1 @ii",".val (.int w')",".str \"letters\"",".int ps.length","qj 3 @c4","⟨ρ2,S4,q1⟩","σ.set i @ag","L2.start N vs","(g9 h).map jW","h1.trans z","vo 1 @cY","upd H T @aO","a7 @f @bU","a6 @aJ @c9","a6 @W @bQ","Z' (.ref a0)","K8 (tyN p) c",".obj c ks ws",".obj D ks ws","⟨f,ls,ys⟩","tOp r ta tb","s1.trans s'","s'.trans s2",".tup x.vals",
".fld 0 @dK","⟨B,S',b⟩","fun b h=>h","af (ao gu)","a9 fa fb g","a6 @b6 ag","I.YJ x c e",".whole 1",".two D0 D1",".tup [x,y]",".Name y xp",".Name o np","[z.1,z.2.1]","clS x c e","aF prog w","Yd (jW r)","List @cK",".val @dp",".val @bm",".val @v",".ok .next","⟨_,aq⟩","truthy v","num hour","jX pG nm","hwr b hb",".str r.1","xs++[v]","ws++[t]","ot @eD","n8 @cC","","gU @T","","f.s=t.s","cxH X a","bu @f","aW @eD","aJ @bx","TV .Add",
"R6 _ hz","","R6 _ hw",".str TX",".ref sl",".lst Xx","",".ZU 4 6","x=@eT","rl knd","kv.1=k","Rv c_a","Ri op'","RN _ z","QT _ e",".str b",".str a",".int n",".int 2",".inr k",".inl i","aG (ar 3) (aG (ar 4) fN)","i8 (a7 @s6 (a7 (kB Y2) aE))","[.tree @l,.tree @aa,.val @v,.val @ac,.val (.int 3),.val @c6,.val @bY]","[.tree T,.tree U,.val @bn,.val @ba,.val @b1,.val @cs,.val @H,d]","xq @df @bq (oS @dI @cY (oS @dK newD Li))","[.val d.h.pv,.val @aU,.val @fu,.val @fu]","bC @a2 (af (ao (ax dA hr (a6 @W (a6 bz @cf))))) aC","D1.frame _ _ _ st1 fun b hb o e=>c1.extBut _ _ (Z.a1 b hb).1 e","[.tree @l,.tree @aa,.val @v,.val @ac,.val @az,.no,.no]","⟨p,ps,s',r,ep,fun J H2 s2 it=>k J H2 @hG it⟩","Rr x qual @cw @R @A .none kV doc pm an Y5 ct","Vk nm ql C N bs bm hd sn sb ab co dd k0 k1 k2 k3 k5 ni","[.val @F,.val (.str Kd.first.s),.val (.lst [.str n])]","Rr x x @cw @R @A .none kV doc pm an Y5 ct","a9 (a9 @rM @S Yh) @fq Yp","DQ CX P w K mg base N qual scope f Y5 A outer s H E","eX (YG (Az 5 6) ml) iw @ie","[.val @b8,.val @bn,.tree (aO iX),.no,.no,.no]","gv fun y hy hk=>I.ok.has y.1 @se",
"lst S NL RL T U n k c (.val @cs) t a b","[.tree @l,.val @v,.val @ac,.no,.no]","[.tree @l,.val @bP,.val @v,.tree u]","QX @bI I.ok.above",".lst [.str \"drop\",.str nm]","a9 (kS \"show \") @ey bt","ho J' s2 σ H2 x y v u _ I2 r1 r2 q2","fun i h=>h.IsStrIter it (Ti x) x t i","RY (QX @bI (I.ok.cab x c hfn hc))",".builtin \"getset_descriptor.__get__\"","T6 qual scope s.heap.objs.size f cd","a9 @lj @bM Yh",".Constant @fW j kp","aV.cons @sb aV.nil","fun u h=>(w.nt u h).1","L.map fun z=>.tup @hU","aW (a9 @bi @li Yp)","aW (a9 @c5 @fq Yp)",".Attribute (.Name o po) m pm","⟨.int _,H,I.tok _,@O,q⟩","Yd (mU @aI (cd @dt))","RI a b 0 a.length (Xk a n)","ps.map fun y=>.str @ew",".tup [@bP,@lb]","a9 @V @bd Yp","t2 vw q fun _ _ _ _ h=>h","aG (ar 6) (aG (ar 7) fN)","aG (ar 1) (aG @cZ fN)","a9 (kS \"house \") @j bt","[\"rooms\",\"kind\",\"values\"]","f9 ps.length N.length g","f @fE (.int j u)","aV.kp kp _ (rr.same s1)","a9 @g @ko Yh","⟨ps,qs,s',ip,e1,z,k⟩","fun b z=>absurd z @a","aW (a9 @V @bd ZJ)","I.base.free b o e n hx","","(s1.trans s2).trans s3",
".Name \"self\" r1",".Name \"self\" q1",".Name \"self\" p1","[.Name x p1,.Name D p2]","h3 H' t' ρ' ep s' ht",".type \"BaseException\"",".Constant @I j pos",".Attribute o name Y4","⟨⟨_,he'⟩,hi'⟩","ρ.set i @l4","sr rE nm @h5","⟨o2,g2,c2,n2,d2⟩","[.str k,.str @dz]","ho J' s σ H _ I h","dY fi h t fe nt Xw","bR hN' hv' hd' ac4","az @Y aM @dd ak","UU kk2 ab9 kp2 ab8",".Return (Z' e) pos","⟨σ',H',I.YD,q⟩","⟨o,k _ _ h rfl⟩","⟨H,gs,dr,tk,os⟩","hm b _ q fun z=>z","fun f vs=>XM f vs","fun _ _ q=>QT _ q","cw (a6 @cz @gK)","bN 2 (aN @aL bU)","aw @z @br aa","a9 @j (kL 1) cO","a9 @f (kI 4) Yh","RR Xx cenv.locals",".letters l.1 @a8","⟨Yc.refl _,rp⟩","z1.trans z2.symm","sr rE nm (num 7)","a6 b5 @lZ","⟨c1,c2,c3,c4⟩","⟨_,e,rfl,rfl⟩","cS rfl T.c_KEYS","aw @z @aw aa",
"aw @z @N ak","aD (aB (ao b5))","a9 @V @S Yh","a9 @f @bd Yh","a9 @f @am Yh","⟨xs,x,g',ex⟩","kS \"first\"","fun z=>nb @i","aG @cZ @iH","Xz kvs p.1 p.2","Str×XD×Value","Dr s₁.heap H",".int xs.length",".dK (se kvs k)",".Name x px","⟨v,H,I,r,h⟩","⟨o,s _ _ q⟩","⟨_,ho2,rfl⟩","[e2,.Name y yp]","ρ.set i @aW","ns.map PV.int","aj fD @N aa","aj bj ak @aw","aF X.prog X.w",".type \"tuple\"",".cons ru .nil",".If c a b pos","⟨xs,hD,rp⟩","⟨_,rfl,hq⟩","⟨_,ho,rfl⟩","[e,.Name c p2]","sm.trans sm'","sm.trans s2'","neC b o e hx","af (ao @W)","aJ (bu @fx)","aJ (bu @j)","a6 @W @bS","TP X J' σ Q",".type \"list\"",
".str \"rooms\"",".str \"asked\"","⟨_,w,rfl⟩","⟨_,rfl,q⟩","⟨_,e,rfl⟩","⟨0,0,0,0⟩","pyIter @ap","k _ _ h rfl","fs.lookup f","cd b++[120]","Rg I2.sz hL","QX I2.lt hL",".type \"int\"",".tup (bg r)",".str x.kd.s",".str \"hour\"",".lst x.vals",".inr \"menu\"",".fld 0 @dI","vw.same sm","sm.free nD","r1 C.X.K g","kS \"house\"","kP c_FORMS","hRm _ @a","bu (kB Y2)","a7 @S aE","Z' C.X.env","Rj e X.env","PV×Tr×Tr","N'.drop nt","L.map @d","Kp.refl H1","Ie C n Z D","F.binds hb",".leaf @gG",".YL o @ah",".Name y yp","⟨hl,hk⟩","⟨H,I,q⟩",
"xs.map Yt","upd H x o","ps.drop i","neT _ _ e","min n1 n2","ks.map Yt","kS \"back\"","kP c_KEYS","fun _=>Y'","fs.map Nd","Str×Bool","Ri .NotIn","Hb i ρ p","HA i ρ p","EV.o @cC",".str @dM",".ret @fl",".lst @gW",".inl @O","uD ha hs","qj i tab","pj kvs k","ne b _ e","lt b o e","l _ @a","a6 b5 ag","Ug _ _ _","I.ZQ b z","BO.fz mu",".type cs",".tree t'",".lst [H]",".inl .Yj","[.no,.no]","@mD++e","vj 0 hu","tA1 C f","jW @gH","gf 12 x","fl b hb",
"cT @W","cT @b6","bN 2 kN","aG h h'","Z7 @f","Z' @bZ","Z' @gR","Xx++[p]","Ss C dx","RY @i3","R6 _ hr","Lu i ρ","Itl K a","I.tok _","AR i ρ",".tree u",".ref Da",".inl aq",".ZU 0 5","upd H a u'","bM (YS (bX (aW (a9 @bi (kS \"drop\") Yp))) (bM (l0 @eR @cE) @kR) cy) (bM (YS (bX (aW (a9 @bi (kS \"call\") Yp))) (v8 (o8 \"Desk\" \"begin_call\" 0 (a7 @hb @pf) bK)) cy) (bM (YS (bX (aW (a9 @bi (kS \"press\") Yp))) noB cy) (bM (YS (bX (aW (a9 @bi (kS \"hang\") Yp))) (bM (l0 @gJ @cE) @kR) cy) (aJ (bu (aN (a7 @bi @cb) n5))))))","bM (aJ (bN 4 (hU (a7 @ho (a7 @ho @pU))))) (bM (aJ (bN 4 (a9 @V (hU @pU) bt))) (aJ (bN 2 (i8 (a7 @s6 (a7 (yD (qj 3 @hi) (yD (qj 3 @hi) (a9 (kB Y2) @V cO))) aE))))))","[\"_law_script\",\"_law_names_here\",\"_law_number\",\"_law_rooms\",\"_law_desks\",\"_law_kept\",\"_law_k\",\"_law_cell\",\"_law_which\",\"_law_text_here\",\"_law_name\",\"_law_told_here\"]","D2.frame _ _ _ st2 fun b hb o e=>c3.extBut _ _ (Z.a2 b hb).2.1 (c2.extBut _ _ (Z.a2 b hb).2.2 (c1.extBut _ _ (Z.a2 b hb).1 e))","[.tree @l,.val (.str @jO),.val @nv,.val (.lst [H,.int hour])]","[.tree @hQ,U,a,b,c,.val @cs]","JI \"Desk\" \"houses\" \"calls\" \"greatest\" 0","bN 9 (aN (a7 @w (a7 (aN (a7 (a9 (a9 @ex (kI 6) i5) @T bt) (a7 (kI 69621) aE)) cj) aE)) hW)","bN 1 (aN (a7 (aN (a7 (aN (a7 @g @lm) bY) (a7 (kI 16807) aE)) cj) (a7 @bd aE)) cR)","bN 3 (aN (a7 (a9 (a9 (a9 @j @eq lg) @eq BP) (a9 @j (kI 7) i5) bt) (a7 @bd aE)) cR)","[97,99,100,101,102,103,104,105,106,108,109,110,111,112,113,114,115,116,117,118,119,120,121,122]","[.tree T,.tree U,.val @bn,.val @ba,.val @b1,.val @cs,.val @H,.val @dZ]","a9 (a9 (kS \"call \") (Y9 10) bt) (kS \" 7\") bt","⟨rfl,(lim t wr wa hr.1 hr.2.1 hr.2.2).1,CI hr.1,(lim t wr wa hr.1 hr.2.1 hr.2.2).2⟩","[.str (Txt.partition a b).1,.str (Txt.partition a b).2.1,.str (Txt.partition a b).2.2]","[.tree @l,.tree @aa,.val @v,.val @ac,.val @az,.val @c6,.val @bY]","Nw ha hb I h fun v u s2 x y H2 I2 rx ry q=>ho J' s2 σ H2 x y v u Q I2 rx ry q","[.tree T,.tree U,.val @bn,.val @ba,.val @b1,.val @cs,c,d]","lst S NL RL T U @fa @dk @db @hl t .no .no","⟨ρ,vw.same s',(k.same s').imp fun b _ k2 H2 s2=>k2 H2 @hG⟩",
"[.val S,.val @G,.val @dp,.val RL,.no,.no,.no,.no,.no,.no,.no,.no]","bN 8 (a9 (a9 (a9 @j (a9 @am (kI 10) Kg) lg) @bd i5) @am lg)","⟨oc,od,.func (Rr x x @cw @R @A .none kV dc pm an cd ct),sl⟩","⟨oc,od,.func (Rr n n @cw @R @A .none kV dc pm an cd ct),sl⟩","bN 2 (aN (a7 (aN (a7 @g (a7 @T aE)) bY) (a7 (kI 39373) aE)) cj)","[.val S,.val @G,.val @dp,.no,.no,.no,.no,.no,.no,.no,.no,.no]","[.tree D,.tree @aa,.val @v,.val @ar,.val @az,.val @a6,.val d0]","bN 6 (a9 @j (a9 (a9 @rO @am lg) @bd i5) Yh)","⟨i,j,rfl,rfl,_,fun _ _=>rfl,fun H Q q=>⟨i,j,rfl,rfl,hc,q⟩⟩",".tup [@bR,(.str \"many\"),@bR,(.str \"many\"),@bR,(.str \"text\")]","⟨v,p,ps,rfl,s',r,ep,fun J H2 s2 it=>k J H2 @hG it⟩","[.tree D,.tree @aa,.val @v,.val @ar,.val @az,.val @c6,.no]","lst S NL RL T U @fa @dk @db w t .no .no","ifV @pT @rS @bq","⟨ρ,vw,q.bind.imp fun p _ k v H1 s1 r1=>⟨p,r1,s1,k⟩⟩","bN 2 (aN (a7 (a9 @ex @ey bt) (a7 (kI 48271) aE)) cj)","bH (EV.o (EZ AC rfl T.n_isinstance rfl T.n_str @bf @J))","⟨@py,hi.at fun o x=>k it @a o x⟩","[.val S,.val @G,.no,.no,.no,.no,.no,.no,.no,.no,.no,.no]","a7 @V (a7 (a9 @bH (i8 (a7 (YG @j qt) aE)) bt) aE)","⟨h1,h2.keeps fun b ys hb=>Kp.upd q rfl _ _ hb rfl,h3⟩","XO.bind (yh \"Desk\" \"value_of\" 0 2 @w @V aK @cA) _","EV.o (aw @z (EV.o (aw @z @P @tt)) aa)","EV.o (pI cStr rfl T.n_str rfl @pW)","Rr name qual params body scope dV kV doc pm an Y5 ct","Rr m qual @cw @R @A .none kV doc pm an Y5 ct","⟨y,B',rfl,exp,q1 H' (h3 H' t' ρ' ep s' ht).tb⟩",".ListComp elt [⟨target,iter,ifs,0⟩] scope pos","⟨o,es,ep,k _ o (fun z=>(hw _ z).2.1 rfl) ho,r⟩","⟨w,H2,I2.tok _,rw',k3 w H2 @kO rp⟩","[.val @F,.val (.str y.kd.s),.val (.lst y.vals)]",".tup [.str d.fst,.str \"\",.int 0,.int 0,.str \"\"]","[.tree @l,.val @c6,.val @i4,.val @l5]","a9 @f (a9 (a9 @j (kI 16) lg) @bd i5) Yh","lst S NL RL T' U' n k c (.val @cs) t a b","[.val @F,.val @ra,.val @cB]","fun b o _ _ hc e _=>⟨o.slots,k b o hc e⟩","ax gB hr (a6 (ax jz hr @th) @cf)","EV.o (cS rfl T.c_FORMS)",".lst [.str \"call\",.str nm,.str @h5]",
"[.tree @l,.val @v,.val @ar,.val H,.no]","yg \"Desk\" \"say\" @it (a7 @mK aE) b8",".builtin \"BaseException.__getattribute__\"","⟨.str _,H,I.tok _,@O,k _ H @p rfl⟩","⟨.int _,H,I.tok _,@O,k _ H @p rfl⟩","[.val @F,.val @gL,.val (.lst @fS)]",".tup [.str (Yd @gA),.str m,.str (Yd T)]","fun h' c' kp e=>fin Xv r' hz h' c' kp e","c3.extBut _ _ zO (c2.extBut _ _ z1 hz1)","[.val @b8,.val @bn,.tree @M,a,b,.no]","[.tree @E,.val @a6,.val (.lst W),.no]","eX @f @ie iw","aW (a9 @f @pY cO)","Z7 (hU (a7 (kS \"1\") (a7 (kS \"2\") aE)))","TT hk hk' hp Ys ck3 ai6 cp3 ai5 g3 g3'","TT hk hk' hp Ys ck2 ah1 cp2 ah0 g2 g2'","FN 3 (o8 \"Desk\" \"values_of\" 0 @bv bV)","(ρ.set i (.tree T')).set j (.tree U')","bN 4 (YG (BU \"Desk\" 0 \"greatest\") jS)","a7 (Y9 9) (a7 (a9 @j (kI 5) i5) aE)",".Subscript e @qK pos","[cd n,dg wr.1,cd wr.2,dg wa.1,cd wa.2]","aw @z (EV.o (il Co De @W ak)) aa","a9 (a9 @f (YG @T Kh) Yh) @S Yh","⟨(hs.2 p.1 ne).trans e,n,ne,nf,d⟩","[.val @b8,.val @bn,.no,.no,.no,.no]","[.str x.kd.s,.tup (bg r),.lst x.vals]","bN 5 (a9 @rO @am i5)","⟨_,RD _ rfl,rfl,@O,fun _=>rfl⟩","af (ao (EN.v (bJ @tg)))",".inr ⟨T,.none,.inl rfl,rfl,fl⟩",".dct ck cp","⟨.int @ct,H,I.tok _,@O,q⟩","[.tree t',W,.tree u',.val f,.val w]","bN 7 (iV (Az 1 5) @ey @iI mJ)","EV.o (gM vM rfl T.n_len rfl @N)","((s1.trans s2).trans s3).trans s4","TT hk hk' hp Ys ck YN cp YM g g'",".lst [.str \"house\",.str (Yd nm)]",".dct (es.map fun e=>.inr e.1) ps",
".Subscript @ao @lx pos","⟨e,z,hs,vs,rv,o,es,ep,e,rest⟩","⟨_,_,_,_,_,_,_,_,_,_,a,l,c,k⟩","upd H6 s₂.heap.objs.size @gF","scope.names.lookup p.2=Z' .free","(TX.YW 32 k.fs.length x).drop 1","⟨_,_,rfl,rfl,_,_,rfl,rp,rfl⟩","fun b o _ _ hc e _=>k b o hc e","bN 5 (a9 (kS \"drop \") @j bt)",".lst (xs.map fun x=>.bl (p x))",".Assign [.Name x px] @bJ spos","(bT kk kp @Q).getD @fM","[fv .name @et,fv .text @aA]","[.val @g7,.own @c3,.own @cg]","[\"self\",\"form\",\"word\",\"values\"]","h.letters.map fun l=>.str l.2","⟨z.1,z.2.1.keeps ht,z.2.2⟩","","[.tree @E,.val @a6,.no,.no]","jk @mw (a7 @i5 aE) aS","cT (ax jA hr (a6 @al @c9))","aW (a9 @f @li Yp)","⟨kvs,s _ _ q,ek,r.same s⟩","aW (a9 @g (kS \"name\") Yp)","aW (a9 @g (kS \"from\") Yp)","aD (pR T.z_NoName uV hr b5)","(S7 i).map fun t=>.str @gs","[hd,.ref L,.none,T5 L,.none]","hr pos J' s1 σ H1 _ I1 q1","gM vM rfl T.n_len rfl @J",".tup [d.h.pv,.int hour,st]",".lst [.str \"show\",.str nm]","⟨f,_,uw l c k,Sa X G a⟩","[.int d.s,.int 24,.str d.b]","ha pos J' s1 σ H1 _ I1 q","a7 (a9 @j (kI 6) i5) aE","Z7 (aN (a7 @g @cb) fR)","Z' (.Attribute @jG x p2)","Z' (.Attribute @jF y q2)","Z' (.Attribute @jE z r2)",
".type \"method_descriptor\"",".tup [@bR,(.str \"text\")]",".leaf (Hq ks ps @iF)","⟨i,rfl,k _ H @p rfl⟩","[.str q.1.s,.str (Yd q.2)]","[\"H\",\"hour\",\"name\",\"back\"]","ys.map fun r=>PV.str r.1","x5 (zx (kI 6)) (ar 4) eL","qs.map Sl.val++[.tree u]","c1.extBut _ _ (Rv zO) hO","aw @z @lO @aw","Yc.new (ap a @a).2.2.2","EV.o (cS rfl T.c_FIELDS)",".str (Yd @ta)",".Subscript @ao @jc pos","⟨_,QT _ eg,rfl,_,rfl⟩","[.str x.kd.s,.lst x.vals]","zt ps.length N.length g","zr ps.length N.length g","upd H a (XAt a @aY dx)","qQ ps.length N.length g","fun q y=>R.Yn (g p q y)","cf (az @Y aM @N ak)","ax ib hr @th","aW (YG @g (ES \"str\"))","a9 @j (kS \"rooms\") Yh","a7 @S (a7 (kI 23) aE)","a7 (a9 @w @T Yh) aE","FX ps.length N.length g",".obj c (vs.map @d) ws",".Constant @fW j p1","(s13.trans s4).trans s5","⟨xs,aq,rr.same @fn⟩","[\"kind\",\"held\",\"values\"]","[\"_law_script\",\"_law_k\"]","l.map fun x=>.bl (p x)","inV (Z8 p) (qs.map Z8)","hc J' s3 σ H3 _ I3 q3","h pos J' s σ H _ I hq","fun b hb=>hb",
"bN 3 (HN (Br @bv cQ))","Kp.upd (s' _ _ hD) rfl","IW (vv newD) (vv newD)","EV.o (aj bj @br @aw)","(qs.map Z8).getD j .Yj","(ps.map Z8).getD j .Yj","⟨old,k e @a _ he⟩","⟨h3,k _ H @p rfl⟩","[110,97,109,101,115,32]","[.str \"no name\",.bl Y2]","[\"_law_cell\",\"_law_by\"]","cw (a6 b5 (a6 fS ag))","Ss C s.heap.objs.size","S1.grow (s2.trans s3)",".letters z.1 (cd z.2)",".ins C dx (YE f y fs)",".builtin \"isinstance\"",".Return (Z' @ao) pos",".Constant .none j pos",".Attribute @ao y pos",".Attribute o \"get\" Y4","(l.map @s).map .str","(bT ks ps k).getD .Yj","⟨ρ,B,S.grow s',q⟩","[.str \"house\",.str nm]","ρ.set i (.val @cV)","rs.map fun r=>Rp r.1","aW (a9 @f @dW ZJ)","a7 @ho (a7 @ho aE)","EV.o (aj jr @N aa)","EV.o (aj fD @P aa)","EV.o (aj fD @J aa)","BU \"Desk\" 0 \"houses\"",".Constant @H j pos",".BoolOp .And [a] pos","(A8 (k9 x)).map .tup","⟨_,es',ep',hL,r'⟩","⟨_,_,rfl,rfl,rfl⟩","[.val @cB,.val @c2]","[.ref x,.str name tk]",
"storeName X.env x u","intBits_le_64 h1 h2","hZ rfl T.n_range bz","fun i=>bs.getD i Y1","fun _ _ _ _ _=>@W","af (ao (EN.v @cu))","F.args_zip_next_1 _",".str (\"house \"++nm)",".dK (Xz kvs @cR v)",".UnaryOp .Not a pos",".Name \"enumerate\" p",".BoolOp .Or [a] pos","(xB ps qs).map .tup","(bT ks ps k).getD y","⟨u,hu,w.nt u hu⟩","⟨u,hu,h.nt u hu⟩","⟨o1,g1,c1,n1,d1⟩","⟨_,eg,rfl,_,rfl⟩","⟨_,_,rfl,rfl,ih⟩","⟨H',gs,dr,tk,os⟩","[.str f.s,.str @n]","z6 C.X.K (.ZU i k)","x.above y c (SF h)","hv J' s σ H _ I h","hcat _ _ e _ exp.1","hc J' s σ H _ I h","ha J' s σ H Q I h","h J' s σ H _ I hw","fun H=>Zc K H a xs","c1.extBut _ _ d1 x","az @Y aM @ez aa","az Gk rJ @P @fB","az Es oy @P @eG","aW (a9 @f kN BQ)","YB items.size 0 lo","I.base.tups b xs e",".str (\"call \"++nm)",".int g",".bl (decide (a=b))",".Subscript a b pos",
".Slice lo hi Y' p2",".BoolOp op [a] pos",".Attribute oe m Y4",".Attribute e f pos",".Assign [tg] e pos","⟨v,e1,rq.kp kp⟩","⟨e,z,Xv,m,rv,e⟩","⟨_,_,rfl,h1,ih⟩","⟨Yc.refl _,rfl⟩","[PV.str n,PV.str t]","[.str nm,.str @dt]","upd H l (.lst ys)","start N.length ps","sm.but na @je Z1","i8 (a7 @f @g4)","fun v _=>v=.bl Y2","fun b u q=>QT _ q","fun b u e=>QT _ e","bN 4 (aN @cb n0)","bN 3 (aN @g5 lP)","aw @z @nu @ce","aw @z @J @aw","aw @z @J @P","aD (aB (ao @aJ))","a9 @g (kI 4) Yh",".type \"enumerate\"",".str Kd.letters.s",".BinOp a op b pos","⟨o,k b o hc e⟩","⟨o,ho,hc,m,hd⟩","[.str k.s,.lst vs]","ns.map WData.int","l7 fa fb fc g g'","isNs_of_in X hok","il tF wN @aJ ak","il tF wN @al ak","fun _ _ _=>False","fun _ _ _ _ n=>n","cds N at_ t size","Yd (cd x++[120])",
"Ve @x (.ref y)","PIE X J' σ tg R","Ed r r' ta tb tc",".span d.s 24 d.b",".int @ct s.toks",".IfExp c a b pos","(A8 ps).map .tup","⟨z,H,I,rw',q⟩","","⟨g4,g2,g5,g6⟩","⟨_,_,_,_,rfl⟩","⟨H,I.tok _,q⟩","[\"house\",\"state\"]","xn s.heap I.big","xh 0 T.o_houses","r9 0 T.o_houses","one (if_pos h1)","key_of I.hok eb","itL (BR 0 @dI)","h1.symm.trans e","fF @j @aP j9","cx h.letters++l","aw @z @dd aa","aQ 5 eC.nd @e0","a9 @eD @w Yh","a9 @j @ko Yp","a9 @V @w bt","a9 @g @w Yh","a9 @g @bd Yh","a9 @g @dO Yh","a9 @g @f Yh","a9 @f @bd lg","W8 @kw C.X.env","TX.glue 32 ws t",".val (.str \"2\")",".tbl (ps++more)",".ok (.ret @b9)",".cons @a5 .nil",".Name \"range\" p","(g9 d.h).map jW",
"⟨ρ',Z,S',q⟩","⟨o,e,ex.2.1⟩","r9 0 T.o_calls","mU @aI (cd T)","h3.same S.same","fun a b=>[a,b]","fun _ _ _ e=>e","dI hx1 rfl rfl","chZ fc g' ρ q","Rep.kp kp _ r1","","QX hb (WB _ _)","O.free y hy hk","I.ok.ab7 b o e",".int rs.length",".inl (s _ _ q)",".builtin \"ord\"",".builtin \"len\"","⟨st.1,st.2⟩","⟨l.toArray⟩","⟨j,q,ej,fj⟩","⟨j,q,ej,e1⟩","⟨_,_,_,rfl⟩","[\"text\",\"most\"]","[\"self\",\"name\"]","[\"room\",\"held\"]","[\"name\",\"room\"]","xs.getD j .Yj","upd H1 a @gF","s1.trans @fm","rv.append rv2","rs.flatMap eD","lR ey rr @q","kI 2147483647","k _ H' s' rfl","fun z=>e @ht","dI ha rfl rfl","cds N at_ t i","ax tT hr @bh","ax lB hr @bh",
"ax iR hr @g6","XAt a @k dx","Txt.join x ys","Rj @aE X.env","NN.map PV.str",".val (.str X)",".str (Yd c24)",".str (Yd bel)",".lst (xs++zs)",".int x.length","⟨σ,H,I,h⟩","⟨ρ2,S4,k⟩","⟨o,e,ex.1⟩","⟨h1,h2,h3⟩","⟨_,rfl,rp⟩","⟨_,hz,rfl⟩","⟨_,he,rfl⟩","⟨H1,I1,q1⟩","xs.map V.str","xs++[.ref b]","upd H a @bB","u5 (aW @f)","sD @jb @nH","mix C0 16807","l0 @hP @j","kfs.map @s","kS \"no name\"","jh (bH @P)","fun _ _ e=>e","fpk fr' @a","cx h.letters","bs.getD i Y1","bX (aW @jo)","af (ao @b6)","a7 @bM @g3","a7 @g @g3","a6 @al @gK","a6 @al @cf","a6 @W @cf","a6 (aL 5) ag",
"Z7 @iX @eA","Value×Value","VZ tg @ap u","TV .FloorDiv","SS kws X.env","","SP C.X J' D'","IW @mE @mE","Fg K d o kvs","EV.o (B3 bz)","AP X J' σ Q",".str name tk",".str (Yd w0)",".str \"hours\"",".str \"first\"",".letters k l",".ins C dx vs",".inr \"hours\"",".List es pos","YG (dY (Z7 @dE) @Z iF dC 1 [2]) Kj","fun D'=>@O"]
def DqV(c:Char):Nat:=if c.isDigit then c.toNat+4 else if c.isUpper then c.toNat-39 else if c.isLower then c.toNat-97 else 9999
def DqC(c:Char):Bool:=c.isAlphanum||c=='_'||c=='\''||c.val>912&&c.val<970||c.val>8319&&c.val<8349
def DqK:Nat->List Char->List Char×List Char
|n+1,s=>let d:=s.takeWhile DqC;let t:=s.drop d.length;match t with
 |'.'::c::_=>if c.isDigit||!DqC c then (d,t) else let (x,y):=DqK n (t.drop 1);(d++'.'::x,y)
 |_=>(d,t)
|_,s=>([],s)
def DqN(d:List Char):Ident:=mkIdent (((String.ofList d).splitOn ".").foldl Name.mkStr .anonymous)
def DqG(e:Term):Nat->List Char->Term×List Char
|n+1,'.'::t=>let d:=t.takeWhile DqC;DqG ⟨Syntax.node .none ``Parser.Term.proj #[e,mkAtom ".",if d.all Char.isDigit then Syntax.node .none fieldIdxKind #[mkAtom (String.ofList d)] else DqN d]⟩ n (t.drop d.length)
|_,s=>(e,s)
def DqE:Nat->Nat->List Char->MacroM (Array Term×List Char)
|0,_,_=>Macro.throwUnsupported
|n+1,0,s=>do
 let (a,r)←DqE n 3 s
 let e←if a.size==1 then pure a[0]! else `($(a[0]!) $(a.extract 1 a.size)*)
 match r with
 |'×'::t=>do let (x,u)←DqE n 0 t;return (#[←`($e×$(x[0]!))],u)
 |'+'::'+'::t=>do let (x,u)←DqE n 0 t;return (#[←`($e++$(x[0]!))],u)
 |'='::t=>do let (x,u)←DqE n 0 t;return (#[←`($e=$(x[0]!))],u)
 |_=>return (#[e],r)
|n+1,1,s=>do
 let (x,r)←DqE n 0 s
 match r with
 |','::t=>do let (y,u)←DqE n 1 t;return (x++y,u)
 |_=>return (x,r.drop 1)
|n+1,3,s=>do
 let (x,r)←DqE n 2 s
 match r with
 |' '::t=>do let (y,u)←DqE n 3 t;return (x++y,u)
 |_=>return (x,r)
|n+1,_,s=>do
 let (e,r)←match s with
  |'('::t=>do let (x,u)←DqE n 0 t;pure (x[0]!,u.drop 1)
  |'f'::'u'::'n'::' '::t=>do
   let b:=t.takeWhile (·!='=')
   let (x,u)←DqE n 0 (t.drop (b.length+2))
   let l:Array (TSyntax ``Parser.Term.funBinder)←((String.ofList b).splitOn " ").toArray.mapM λy=>do if y=="_" then return ⟨(←`(_)).raw⟩ else return ⟨(DqN y.toList).raw⟩
   pure (←`(fun $l*=>$(x[0]!)),u)
  |'⟨'::t=>do let (x,u)←DqE n 1 t;pure (←`(⟨$[$x],*⟩),u)
  |'['::t=>do let (x,u)←DqE n 1 t;pure (←`([$[$x],*]),u)
  |'"'::t=>let d:=t.takeWhile (·!='"');pure (⟨Syntax.mkStrLit (String.ofList d)⟩,t.drop (d.length+1))
  |'↑'::t=>do let d:=t.takeWhile Char.isDigit;pure (←`(↑$(⟨Syntax.mkNumLit (String.ofList d)⟩)),t.drop d.length)
  |'@'::t=>do let d:=t.takeWhile DqC;pure (<-`(@$(DqN d)),t.drop d.length)
  |'.'::t=>do let d:=t.takeWhile DqC;pure (←`(.$(DqN d)),t.drop d.length)
  |_=>do
   let (d,t):=DqK 9 s
   pure (←if d==['_'] then `(_) else if d.all Char.isDigit then pure ⟨Syntax.mkNumLit (String.ofList d)⟩ else pure ⟨DqN d⟩,t)
 let (e,r):=DqG e 9 r
 return (#[e],r)
end
local macro_rules
|`(↑$n:num)=>match n.getNat with
|0=>`(by simp)
|1=>`(by grind)
|3=>`((·.1))
|7=>`(by decide)
|8=>`(by simp_all)
|16=>`(by omega)
|18=>`((·.2))
|29=>`(by rfl)
|119=>`(by decide +kernel)
|80=>`(by simpa using hi)
|90=>`(by kernel_rfl)
|n=>do return (←DqE 99 0 (DqT[n]!).toList).1[0]!
local macro_rules
|`(@$x:ident)=>do let n:=match x.getId.toString.toList with|[a]=>DqV a|[a,b]=>52+DqV a*62+DqV b|_=>9999;if (DqT.getD n "")=="" then Lean.Macro.throwUnsupported else `(↑$(Lean.Syntax.mkNumLit (toString n)))
local macro_rules
|`(tactic|sleep 1)=>`(tactic|intro J' s σ H Q I ⟨ρ,vw,q⟩)
|`(tactic|sleep 2)=>`(tactic|refine aI rfl ?_)
|`(tactic|sleep 3)=>`(tactic|obtain⟨t,rfl⟩:=rx)
|`(tactic|sleep 4)=>`(tactic|intro J' s σ H Q I h)
|`(tactic|sleep 5)=>`(tactic|intro X hP hw hK hc i J' s σ H E I hf st hg)
|`(tactic|sleep 6)=>`(tactic|intro J' s σ H x y v u Q I rx ry h)
|`(tactic|sleep 7)=>`(tactic|obtain⟨t',rfl⟩:=ry)
|`(tactic|sleep 8)=>`(tactic|intro J' s σ H D I h)
|`(tactic|sleep 9)=>`(tactic|intro J' s σ H x y v u Q I rx ry ⟨p,q,z,hp,hq,e,k⟩)
|`(tactic|sleep 10)=>`(tactic|obtain⟨f0,f1,f2,f3,f4,f5⟩:=hf it @a)
|`(tactic|sleep 11)=>`(tactic|intro J' s σ H xs us Q I r ⟨v,p,z,e1,rp,ez,k⟩)
|`(tactic|sleep 12)=>`(tactic|intro J' s σ H D I ⟨ρ,B,S,q⟩)
|`(tactic|sleep 13)=>`(tactic|intro J' s σ H x xs v us Q I rx rs ⟨p,q,z,u,e1,rp,rq,ez,k⟩)
|`(tactic|sleep 14)=>`(tactic|intro J' st σ H Q I ⟨ρ,Z,S,q⟩)
|`(tactic|sleep 15)=>`(tactic|intro J' s σ H Q I ⟨ρ,Z,S,q⟩)
|`(tactic|sleep 16)=>`(tactic|intro J' s σ H D I ⟨ρ,B,S,h⟩)
|`(tactic|sleep 17)=>`(tactic|rw[show Dk hk hp ck cp g=.obj "Desk" kD [.own @gU,.own @n1,.val @qH]from rfl,wc hw hv])
|`(tactic|sleep 18)=>`(tactic|obtain⟨⟨zT,zO,z1,z2⟩,⟨TO,T1,T2⟩,⟨O1,O2⟩,n12,_⟩:=nd)
|`(tactic|sleep 19)=>`(tactic|exact⟨_,he,λv z=>by cases (show VR _=Ux v from z)⟩)
|`(tactic|sleep 20)=>`(tactic|rw[show Xv.toArray.any @dl=Xv.any @dl by simp,p5 r fs])
|`(tactic|sleep 21)=>`(tactic|refine(show QZ _ _ (Xc @dn 2>>=_) _ _ _ from QQ (Ry hz rfl (x:=.bool Y1) rfl (show QZ _ _ (Xc @dn 3>>=_) _ _ _ from QQ (Ry hz rfl (x:=.ref T) rfl (QQ (Su hT rfl (show QZ _ _ (Sb @dn>>=_) _ _ _ from QQ ?_))))))))
|`(tactic|sleep 22)=>`(tactic|refine vX (wr:=@f5) (n:=xs.length) (λX J' σ H s i hP hw hK hc I st hg=>?_) @a @pr (λi h st b hb=>?_) (λi h h' st k=>?_) @dJ @dJ λA i s Q E st h=>Tb st.1.choose_spec h)
|`(tactic|sleep 23)=>`(tactic|refine(show QZ _ _ (Xc @ap 1>>=_) _ _ s from QQ (Ry e1 e3 (x:=.int i 0) rfl (show QZ _ _ (seqItems? @fN>>=_) _ _ s from QQ (Su f1 f3 ?_)))))
|`(tactic|sleep 24)=>`(tactic|refine o3 (Zd:=[]) (ds:=[]) (E:=E0) a hr hg b c d .nil y9 ha hdb he hpl J' s σ H Q I ⟨ρ,vw,q.bind.imp λqs _ k vs H1 s1 r1=>?_⟩)
noncomputable section
namespace L2
open PySem PySem.Spec PyProof.Rows
abbrev Key:=Sum Int Str
noncomputable def vx:Key->Value->Bool
|.inl k,v=>Value.isInt k v
|.inr x,v=>Value.isStrOf x v
noncomputable def PZ(w:RH):Key->Int
|.inl k=>hashInt k
|.inr x=>hashStr w x
theorem bE:∀{k:Key}{v:Value},vx k v=Y2->(∃i t,k=X2 i/\v=Uu i t)\/(∃x t,k=Rp x/\v=U9 x t)
|.inl i,v,h=>by
  obtain⟨t,e⟩:=Value.isInt_shape (k:=i) (v:=v) h
  simp_all
|.inr x,v,h=>by
  obtain⟨t,e⟩:=Value.isStrOf_shape (x:=x) (v:=v) h
  simp_all
theorem Ar(i:Int)(t:XD):vx @iG @fE=Y2:=by simp[vx,Value.isInt]
theorem Aq(x:Str)(t:XD):vx @b2 (.str x t)=Y2:=by simp[vx,Value.isStrOf]
theorem JU(a b:Int):decide ((X2 a:Key)=X2 b)=(a==b):=by
 grind
theorem JR(a b:Str):decide ((Rp a:Key)=Rp b)=decide (a=b):=by
 simp_all
theorem JT(a:Int)(b:Str):decide ((X2 a:Key)=Rp b)=Y1:=decide_eq_false (λq=>nomatch q)
theorem JS(a:Str)(b:Int):decide ((Rp a:Key)=X2 b)=Y1:=decide_eq_false (λq=>nomatch q)
def aF(prog:R8)(w:RH):PySem.KeyKind prog w Key where
 is:=vx
 hash:=PZ w
 inj:=λv a b ha hb=>by
  grind[bE]
 byValue:=λk v h=>by
  rcases bE h with⟨i,t,rfl,rfl⟩|⟨x,t,rfl,rfl⟩<;>rfl
 pyHash:=λhv h=>by
  rcases bE hv with⟨i,t,rfl,rfl⟩|⟨x,t,rfl,rfl⟩
  .exact wpAny_pyHash_int h
  .exact wpAny_pyHash_str h
 eqBool:=λhu hv h=>by
  rcases bE hu with⟨i,t,rfl,rfl⟩|⟨x,t,rfl,rfl⟩
  .rcases bE hv with⟨j,u,rfl,rfl⟩|⟨y,u,rfl,rfl⟩
   .grind[JU,wpAny_eqBool_int]
   .rw[JT]at h;exact Wn i t y u _ _ _ _ h
  .rcases bE hv with⟨j,u,rfl,rfl⟩|⟨y,u,rfl,rfl⟩
   .rw[JS]at h;exact Wl x t j u _ _ _ _ h
   grind[JR,wpAny_eqBool_str]
 «strs»:=λk x t v h=>by
  rcases bE h with⟨i,u,rfl,e⟩|⟨y,u,rfl,e⟩
  .simp_all
  .injection e with e1 _
   subst e1;cases v<;>rfl
theorem vt(prog:R8)(w:RH)(i:Int)(t:XD):(aF prog w).is @iG @fE=Y2:=Ar i t
theorem jL(prog:R8)(w:RH)(x:Str)(t:XD):(aF prog w).is @b2 (.str x t)=Y2:=Aq x t
abbrev lj:=List (Key ⊕ List Key)
section
variable{prog:R8}{w:RH}{K:Type}[DecidableEq K](knd:KeyKind prog w K)
inductive Yo (h:Heap):List (K ⊕ List K)->List Value->Prop
|nil:Yo h [] []
|sc {k:K} {v:Value} {ks:List (K ⊕ List K)} {vs:List Value}:knd.is k v=Y2->Yo h ks vs->Yo h (.inl k::ks) (v::vs)
|tp {k:List K} {b:Addr} {ks:List (K ⊕ List K)} {vs:List Value}:W9 knd h k b->Yo h ks vs->Yo h (.inr k::ks) (.ref b::vs)
def bZ (h:Heap) (ks:List (K ⊕ List K)) (a:Addr):Prop:=∃o items n,h.get? a=Z' o/\o.cls=.type "tuple"/\o.data=.seq items n/\Yo knd h ks items.toList
variable{knd}
theorem wJ{h:Heap}{k:K}{b:Addr}(h1:knd.is k @bZ=Y2):False:=by
 have:=knd.byValue _ _ h1;simp[carriedByValue]at this
theorem Yo.inj{h:Heap}{x y:List (K ⊕ List K)}{vs:List Value}(hx:Yo knd h x vs)(hy:Yo knd h y vs):x=y:=by
 induction hx generalizing y with
|nil=>cases hy;rfl
|sc h1 _ ih=>
  cases hy with
  |sc h2 t2=>rw[knd.inj _ _ _ h1 h2,ih t2]
  |tp h2 t2=>exact(wJ (h:=h) h1).elim
|tp h1 _ ih=>
  cases hy with
  |sc h2 t2=>exact(wJ (h:=h) h2).elim
  |tp h2 t2=>rw[XF h1 h2,ih t2]
theorem bZ.typeIs {s:QR} {ks:List (K ⊕ List K)} {a:Addr} (x:bZ knd s.heap ks a):s.TypeIs @m "tuple":=let ⟨o,_,_,ho,hc,_⟩:=x;⟨o,ho,hc⟩
theorem bZ.inj{h:Heap}{a:Addr}{x y:List (K ⊕ List K)}(hx:bZ knd h x a)(hy:bZ knd h y a):x=y:=by
 obtain⟨o,items,n,ho,_,hd,hi⟩:=hx;obtain⟨o',items',n',ho',_,hd',hi'⟩:=hy;obtain rfl:o=o':=SG (ho.symm.trans ho');rw[hd]at hd';injection hd' with h1 _;subst h1;exact hi.inj hi'
theorem Yo.keeps{h h':Heap}{ks:List (K ⊕ List K)}{vs:List Value}{d:Addr}{o:Obj}{es ep}(x:Yo knd h ks vs)(ho:h.get? d=Z' o)(hd:o.data=.dict es ep)(hs:T9 d h h'):Yo knd h' ks vs:=by
 induction x with
|nil=>exact .nil
|sc h1 _ ih=>exact .sc h1 ih
|tp h1 _ ih=>exact .tp (h1.keeps ho hd hs) ih
theorem bZ.keeps{h h':Heap}{ks:List (K ⊕ List K)}{a d:Addr}{o:Obj}{es ep}(x:bZ knd h ks a)(ho:h.get? d=Z' o)(hd:o.data=.dict es ep)(hs:T9 d h h'):bZ knd h' ks a:=by
 obtain⟨o',items,n,ho',hc,hd',hi⟩:=x
 have hne:a≠d:=by
  rintro rfl;obtain rfl:o'=o:=SG (ho'.symm.trans ho);rw[hd]at hd';exact nomatch hd'
 exact⟨o',items,n,(hs.2 a hne).trans ho',hc,hd',hi.keeps ho hd hs⟩
noncomputable def rl(knd:KeyKind prog w K):K ⊕ List K->Int
|.inl k=>knd.hash k
|.inr ks=>tupleKeyHash knd ks
def vq:K ⊕ List K->Nat
|.inl _=>1
|.inr ks=>ks.length+1
def rj(knd:KeyKind prog w K)(ks:List (K ⊕ List K)):Int:=reduceHash (Sk (ks.map @iv))
variable{A:RV}{E:Value->QR->Prop}{s:QR}
theorem va{ks:List (K ⊕ List K)}{a:Addr}{Q:Int->QR->Prop}(hu:A.units+8<cLine)(hk:bZ knd s.heap ks a)(h:Q (rj knd ks) {s with toks:=s.toks+((ks.map vq).sum+1)}):
  QZ @r A (pyHash @m) Q E s:=by
 have hT:=hk.typeIs;obtain⟨o,items,n,ho,_,hd,hi⟩:=hk;unfold pyHash
 first|unfold pyHashByItsType|skip
 first|refine QQ (wpAny_cRoomFor_or (.inr (show A.units<cLine by grind)) ?_)|skip
 refine QQ (Ua hT Uw.lookup ?_);show QZ _ _ (if (Z' (Va "tuple.__hash__")==Z' S6)=Y2 then _ else _) Q E s;rw[if_neg @i];refine QQ (Ua hT Uw.lookup ?_);show QZ _ _ (callSpecialIfBoundUnlessNone? @m "__hash__" _>>=_) Q E s;refine QQ (wpAny_callSpecialIfBoundUnlessNone?_slot hT Uw (TC Uw hT F.entry_tuple_hash ?_ (F.args_tuple_hash_1 _)));show QZ _ _ (Vf @m>>=_) _ _ s;refine QQ (wpAny_tupleItemsOf ho hd ?_);refine QQ ?_;rw[<-XZ]
 refine wpAny_forIn_list _
  (λrest (b:Array Int) s'=>∃done left,ks=done++left/\Yo knd s.heap left rest/\b.toList=done.map @iv/\s'={s with toks:=s.toks+(done.map vq).sum})
  _ ?_ ?_ _ _ ⟨[],ks,rfl,hi,rfl,rfl⟩
 .rintro x rest b s' ⟨done,left,rfl,hl,hb,rfl⟩
  cases hl with
  |@sc k _ ks' _ h1 hl'=>
   refine QQ (knd.pyHash h1 ?_)
   first
    |exact QW ⟨done++[.inl k],ks',by simp,hl',by simp[hb,rl],by simp[UK,vq]⟩
    |exact QQ (QW (QW ⟨done++[.inl k],ks',by simp,hl',by simp[hb,rl],by simp[UK,vq]⟩))
  |@tp k b' ks' _ h1 hl'=>
   refine QQ (wpAny_pyHash_tuple (knd:=knd) (ks:=k) (show A.units+1<cLine by grind) h1 ?_)
   first
    |exact QW ⟨done++[.inr k],ks',by simp,hl',by simp[hb,rl],by simp[UK,vq]⟩
    |exact QQ (QW (QW ⟨done++[.inr k],ks',by simp,hl',by simp[hb,rl],by simp[UK,vq]⟩))
 .rintro b s' ⟨done,left,rfl,hl,hb,rfl⟩
  cases hl;rw[Rh]at h;show QZ _ _ (retInt (Sk b.toList)) _ _ _;rw[hb];refine wpAny_ret_mkInt ?_;show QZ _ _ (if (decide (-(2:Int)^63<=Sk (done.map @iv))&&decide (Sk (done.map @iv)<2^63))=true then _ else _) Q E _
  grind[rj,reduceHash,decide,Sk,rl,QW,UK,QQ]
end
theorem vI{α:Type}[DecidableEq α]:∀k j:List α,((S7 (min k.length j.length)).all (λi=>decide (k[i]?=j[i]?))&&k.length==j.length)=decide (k=j)
|[],[]=>by simp
|[],_::_=>by simp
|_::_,[]=>by simp
|x::k,y::j=>by
  have ih:=vI k j;have hm:min (x::k).length (y::j).length=min k.length j.length+1:=by simp only[QV];simp
  rw[hm,List.range_succ_eq_map,Tq,List.all_map];have hs:((λi=>decide ((x::k)[i]?=(y::j)[i]?))∘Nat.succ)=λi=>decide (k[i]?=j[i]?):=by funext i;simp
  rw[hs,QV,QV];have h0:decide ((x::k)[0]?=(y::j)[0]?)=decide (x=y):=by simp
  rw[h0];have e2:(k.length+1==j.length+1)=(k.length==j.length):=by simp
  rw[e2,Bool.and_assoc,ih,VE];simp
theorem EJ{P P':R8}{w w':RH}{A:RV}{s:QR}{k j:Key}{v u:Value}(h1:(aF P w).is k v=true)(h2:(aF P' w').is j u=true):Ts A s v u (decide (k=j)):=λprog ww E Q q=>(aF prog ww).eqBool (a:=k) (b:=j) h1 h2 q
theorem qw{P:R8}{w:RH}{A:RV}{s:QR}:∀{k j:List Key}{vs us:List Value},ItemsAre @af k vs->ItemsAre @af j us->∀(i:Nat)(h1:i<vs.length)(h2:i<us.length),Ts A s vs[i] us[i] (decide (k[i]?=j[i]?))
|_,_,_,_,.nil,_,i,h1,_=>absurd h1 (WQ _)
|_,_,_,_,.cons _ _,.nil,i,_,h2=>absurd h2 (WQ _)
|_,_,_,_,.cons (k:=k) a1 t1,.cons (k:=j) a2 t2,0,_,_=>by
  grind[SM,decide,EJ]
|_,_,_,_,.cons a1 t1,.cons a2 t2,i+1,h1,h2=>by
  rw[Rf,Rf];exact qw t1 t2 i @i @i
theorem H9{P:R8}{w:RH}{A:RV}{s:QR}{k j:List Key}{a b:Addr}(hu:A.units+1<cLine)(h1:W9 @af s.heap k a)(h2:W9 @af s.heap j b):Ts A s @m @bZ (decide (k=j)):=by
 by_cases e:a=b
 .grind[XF,decide_eq_true,Vi]
 .obtain⟨o1,i1,n1,g1,c1,d1,m1⟩:=h1
  obtain⟨o2,i2,n2,g2,c2,d2,m2⟩:=h2;have l1:=m1.length;have l2:=m2.length;have z:=vI k j;rw[l1,l2,Tg,Tg]at z;rw[<-z];refine Wm (λq=>e q) (Wv @qm @jP @b λi h1 h2=>?_);have:=qw (A:=A.in1) (s:=s) m1 m2 i @q @q
  simp_all
theorem Ez{P:R8}{w:RH}{A:RV}{s:QR}{k:Key}{j:List Key}{v:Value}{b:Addr}(hu:A.units<cLine)(h1:(aF P w).is k v=Y2)(h2:W9 @af s.heap j b):Ts A s v @bZ Y1/\Ts A s @bZ v Y1:=by
 obtain⟨o2,i2,n2,g2,c2,d2,m2⟩:=h2;have pl:s.heap.IsTuple b i2:=@jP;rcases bE h1 with⟨i,t,rfl,rfl⟩|⟨x,t,rfl,rfl⟩
 .grind[SeqAt.EqAt.int_tuple,SeqAt.EqAt.tuple_int]
 grind[SeqAt.EqAt.str_tuple,SeqAt.EqAt.tuple_str]
theorem ye{P:R8}{w:RH}{A:RV}{s:QR}(hu:A.units+1<cLine):∀{k j:List (Key ⊕ List Key)}{vs us:List Value},Yo @af s.heap k vs->Yo @af s.heap j us->∀(i:Nat)(h1:i<vs.length)(h2:i<us.length),Ts A s vs[i] us[i] (decide (k[i]?=j[i]?)):=by
 intro k j vs us h1
 induction h1 generalizing j us with
|nil=>simp_all
|@sc k v ks vs a1 t1 ih=>
  intro h2 i l1 l2;cases h2 with
  |nil=>grind
  |@sc j u js us a2 t2=>
   grind[SM,decide,EJ,Rf]
  |@tp j b js us a2 t2=>
   grind[SM,decide,Ez,Rf]
|@tp k b ks vs a1 t1 ih=>
  intro h2 i l1 l2;cases h2 with
  |nil=>grind
  |@sc j u js us a2 t2=>
   cases i with
   |zero=>
    rw[SM,SM,show decide (Z' (Rp k:Key ⊕ List Key)=Z' (.inl j))=Y1 by simp];exact(Ez @b a2 a1).2
   |succ i=>simp_all
  |@tp j c js us a2 t2=>
   grind[SM,decide,H9,Rf]
theorem Yo.length{P:R8}{w:RH}{h:Heap}{k:List (Key ⊕ List Key)}{vs:List Value}(x:Yo @af h k vs):k.length=vs.length:=by
 induction x with
|nil=>rfl
|sc _ _ ih=>simp[ih]
|tp _ _ ih=>simp[ih]
theorem Gq{P:R8}{w:RH}{A:RV}{s:QR}{k j:List (Key ⊕ List Key)}{a b:Addr}(hu:A.units+8<cLine)(h1:bZ @af s.heap k a)(h2:bZ @af s.heap j b):Ts A s @m @bZ (decide (k=j)):=by
 by_cases e:a=b
 .grind[bZ.inj,decide_eq_true,Vi]
 .obtain⟨o1,i1,n1,g1,c1,d1,m1⟩:=h1
  obtain⟨o2,i2,n2,g2,c2,d2,m2⟩:=h2;have l1:=m1.length;have l2:=m2.length;have z:=vI k j;rw[l1,l2,Tg,Tg]at z;rw[<-z];refine Wm (λq=>e q) (Wv @qm @jP @b λi h1 h2=>?_);have:=ye (A:=A.in1) (s:=s) (show A.units+1+1<cLine by grind) m1 m2 i @q @q
  simp_all
section
variable{prog:R8}{w:RH}{A:RV}{E:Value->QR->Prop}{s:QR}
theorem tK{n:Nat}{a:Addr}{items:Array Value}{Q:Bool->QR->Prop}(ht:s.heap.IsTuple a items)(hq:∀v∈items.toList,∀(Q':Bool->QR->Prop),Q' Y2 s->QZ @r A (WZ n v) Q' E s)(h:Q Y2 s):QZ @r A (WZ (n+1) @m) Q E s:=by
 have hT:=ht.typeIs;obtain⟨o,ho,hc,m,hd⟩:=ht;unfold WZ;refine QQ (Ua hT F.slot_tuple_eq.lookup ?_);show QZ _ _ (isInstance @m @kG>>=_) _ _ s;refine QQ (wpAny_isInstance hT isSubtype_tuple_tuple ?_);simp only[Bool.not_true,Tu,if_false];refine QQ (Su ho hd ?_);refine QQ ?_;show QZ _ _ (forIn items _ _) _ _ s;rw[<-XZ];refine wpAny_forIn_list _ (λrest r s'=>r.1=Y'/\s'=s/\∀v∈rest,v∈items.toList) _ ?_ ?_ _ _ ⟨rfl,rfl,λv h=>h⟩
 .grind[QQ,RZ,Bool.not_true,Tu,QW,R6]
 grind[QW]
theorem Yo.quiet{n:Nat}{k:List (Key ⊕ List Key)}{vs:List Value}(x:Yo @hW s.heap k vs):∀v∈vs,∀(Q':Bool->QR->Prop),Q' Y2 s->QZ @r A (WZ (n+1) v) Q' E s:=by
 induction x with
|nil=>simp_all
|sc h1 _ ih=>
  intro v hv Q' hQ;rcases R7.mp hv with rfl|hv
  .rw[eqIsQuiet_byValue _ ((aF prog w).byValue _ _ h1)]
   exact QW hQ
  simp_all
|tp h1 _ ih=>
  intro v hv Q' hQ;rcases R7.mp hv with rfl|hv
  .obtain⟨o,items,m,ho,hc,hd,hi⟩:=h1
   refine tK @rd (λu hu Q2 h2=>?_) hQ;rw[eqIsQuiet_byValue _ (hi.byValue u hu)];exact QW h2
  simp_all
theorem xW{k:List (Key ⊕ List Key)}{a:Addr}{Q:Bool->QR->Prop}(hk:bZ @hW s.heap k a)(h:Q Y2 s):QZ @r A (WZ 8 @m) Q E s:=by
 obtain⟨o,items,m,ho,hc,hd,hi⟩:=hk;exact tK @rd hi.quiet h
end
def kA(prog:R8)(w:RH):HeapKind prog w (List (Key ⊕ List Key)) where
 is:=bZ @hW
 hash:=rj @hW
 draws:=λks=>(ks.map vq).sum+1
 room:=λA=>A.units+8<cLine
 inj:=λhx hy=>hx.inj hy
 keeps:=λx ho hd hs=>x.keeps ho hd hs
 pyHash:=λhu hk h=>va hu hk h
 eqBool:=λhu hx hy h=>Gq hu hx hy _ _ _ _ h
 quiet:=λhk h=>xW hk h
inductive V where
|Yj|bl (b:Bool)|int (i:Int)|str (x:Str)|byt (b:Array UInt8)|flt (b:UInt64)|ref (a:Addr)|ty (n:String)
 deriving DecidableEq
def RelV:V->Value->Prop
|.Yj,u=>u=S6
|.bl b,u=>u=WJ b
|.int i,u=>∃t,u=Uu i t
|.str x,u=>∃t,u=U9 x t
|.byt b,u=>∃t,u=Value.bytes b t
|.flt b,u=>∃t,u=Value.float b t
|.ref a,u=>u=RU a
|.ty n,u=>u=WI n
abbrev Vals:List V->List Value->Prop:=X7 RelV
theorem Vals.length{xs:List V}{us:List Value}(r:Vals xs us):xs.length=us.length:=SH r
theorem Vals.get:∀{xs:List V}{us:List Value}{i:Nat}{x:V},Vals xs us->xs[i]?=Z' x->∃u,us[i]?=Z' u/\RelV x u
|_,_,_,_,.nil,e=>by simp at e
|_,_,0,_,.cons r _,e=>by simp_all
|_,_,i+1,x,.cons _ t,e=>by
  obtain⟨u,h1,h2⟩:=Vals.get (i:=i) (x:=x) t @i
  simp_all
theorem Vals.append:∀{xs ys:List V}{us ws:List Value},Vals xs us->Vals ys ws->Vals (xs++ys) (us++ws)
|_,_,_,_,.nil,s=>s
|_,_,_,_,.cons r t,s=>.cons r (Vals.append t s)
theorem Vals.take:∀{xs:List V}{us:List Value}(n:Nat),Vals xs us->Vals (xs.take n) (us.take n)
|_,_,0,_=>.nil
|_,_,_+1,.nil=>.nil
|_,_,n+1,.cons r t=>.cons r (Vals.take n t)
theorem Vals.drop:∀{xs:List V}{us:List Value}(n:Nat),Vals xs us->Vals (xs.drop n) (us.drop n)
|_,_,0,r=>r
|_,_,_+1,.nil=>.nil
|_,_,n+1,.cons _ t=>Vals.drop n t
def pf:Option V->Option Value->Prop
|some v,Z' u=>RelV v u
|none,Y'=>True
|_,_=>False
def KV{κ:Type}:List @av->List @cL->Prop:=X7 λ(p:κ×V) (q:κ×Value)=>p.1=q.1/\RelV p.2 q.2
def kV:Key->V
|.inl i=>.int i
|.inr x=>.str x
inductive HO where
  |lst (xs:List V)
  |tup (xs:List V)
  |dK (kvs:List (Key×V))|dT (kvs:List (lj×V))
  |set (S:Int->Bool) (n:Nat)
  |ins (C dx:Addr) (fs:List (Str×V))
  |own (x:Addr)
  |xd (fs:List (Str×V))
  |met (f x:Addr)
  |rng (lo hi:Int)
  |YL (o:Obj) (u:HO)
  |tbl (ps:Array Value)
  |ext (φ:Heap->Prop)
abbrev Hp:=Addr->Option HO
noncomputable def upd(H:Hp)(a:Addr)(o:HO):Hp:=λb=>if b=a then Z' o else H b
theorem aq{H:Hp}{a:Addr}{o:HO}:upd H a o a=Z' o:=by unfold upd;rw[if_pos rfl]
theorem ai{H:Hp}{a b:Addr}{o:HO}(h:b≠a):upd H a o b=H b:=by unfold upd;rw[if_neg h]
theorem MA{H:Hp}{a b:Addr}{o u:HO}(h:H a=Z' o)(h':H b=Z' u)(d:o≠u):a≠b:=by
 grind
theorem cG{H:Hp}{a b:Addr}{o:HO}(h:H a=Z' o)(h':H b=Y'):a≠b:=by
 grind
def E6 (h:Heap) (a:Addr) (items:Array Value):Prop:=∃o,h.get? a=Z' o/\o.cls=.type "tuple"/\(∃n,o.data=.seq items n)/\((∀v∈items.toList,∃b,v=RU b)->o.dict=Y')
theorem E6.up{h:Heap}{a:Addr}{items:Array Value}(x:E6 h a items):IsTup h a items:=by
 obtain⟨o,e,c,d,_⟩:=x;exact⟨o,e,c,d⟩
theorem E6.new (h:Heap) (items:Array Value):E6 (h.push {cls:=.type "tuple",data:=.seq items}) h.objs.size items:=@nY
def NV(H:Hp):lj->List V->Prop
|[],vs=>vs=[]
|.inl k::ks,vs=>∃r,vs=kV k::r/\NV H ks r
|.inr l::ks,vs=>∃c r,vs=.ref c::r/\H c=Z' (.tup (l.map kV))/\NV H ks r
def l9(H:Hp)(b:Addr)(k:lj):Prop:=∃vs,H b=Z' (.tup vs)/\NV H k vs
theorem NV.keeps{H H':Hp}(ht:∀b ys,H b=Z' @co->H' b=Z' @co):∀{k:lj}{vs:List V},NV H k vs->NV H' k vs
|[],_,h=>h
|.inl _::_,_,⟨r,e,t⟩=>⟨r,e,NV.keeps ht t⟩
|.inr _::_,_,⟨c,r,e,hc,t⟩=>⟨c,r,e,ht _ _ hc,NV.keeps ht t⟩
theorem l9.keeps{H H':Hp}{b:Addr}{k:lj}(x:l9 H b k)(ht:∀b ys,H b=Z' @co->H' b=Z' @co):l9 H' b k:=let ⟨vs,e,t⟩:=x;⟨vs,ht _ _ e,t.keeps ht⟩
section
variable(P:R8)(w:RH)
def eM(H:Hp)(h:Heap)(a:Addr):HO->Prop
|.lst xs=>xs.length<=sizeLine/\∃(Xv:List Value) (n:Nat),Vals xs Xv/\h.get? a=Z' {cls:=.type "list",data:=.seq Xv.toArray n}
|.tup xs=>xs.length<=sizeLine/\∃Xv:List Value,Vals xs Xv/\E6 h a Xv.toArray
|.dK kvs=>kvs.length<=sizeLine/\(a==SI)=Y1/\∃vs,KV kvs vs/\h.DictOf @af a vs
|.dT kvs=>kvs.length<=sizeLine/\(a==SI)=Y1/\∃xs:List @dc,
   X7 (λ(p:lj×V) (q:lj×Addr×Value)=>p.1=q.1/\l9 H q.2.1 p.1/\RelV p.2 q.2.2) kvs xs/\
   ∃o es ep,h.get? a=Z' o/\o.ExactDict/\o.data=.dict es ep/\es.toList=xs.map (entryOfKey (kA P w))/\(xs.map @d).Nodup
|.set S n=>h.SetOf (intKind P w) a S n
|.ins C dx fs=>H dx=Z' @el/\fs.length<=1000/\dx≠a/\h.get? a=Z' @mm/\
   ∃mA,h.Ns1 dx mA/\(∀f,pf @k4 (mA f))/\Wu mA (fs.map @d)
|.own _=>∃o,h.get? a=Z' o
|.xd fs=>∃mA,h.Ns1 a mA/\∀f,pf @k4 (mA f)
|.rng lo hi=>∃t u v,h.get? a=Z' {cls:=.type "range",data:=.fields #[.int lo t,.int hi u,.int 1 v]}
|.YL o u=>h.get? a=Z' o/\eM H h a u
|.tbl ps=>h.get? a=Z' {cls:=.none,data:=.fields ps}
|.met f x=>h.get? a=Z' (Ve @x @bD)
|.ext φ=>φ h/\(∃o,h.get? a=Z' o)/\∀h1 h2:Heap,φ h1->(∀o,h1.get? a=Z' o->h2.get? a=Z' o)->φ h2
def Z4(H:Hp)(h:Heap):Prop:=∀a o,H a=Z' o->eM P w H h a o
end
section
variable{P:R8}{w:RH}{H H':Hp}{h h':Heap}{a:Addr}{o:HO}
theorem eM.lt(x:eM P w H h a o):a<h.objs.size:=by
 cases o with
|lst xs=>obtain⟨_,_,_,_,e⟩:=x;exact QY e
|tup xs=>obtain⟨_,_,_,p⟩:=x;exact p.up.lt
|dK kvs=>obtain⟨_,_,_,_,o,_,_,e,_⟩:=x;exact QY e
|dT kvs=>obtain⟨_,_,_,_,o,_,_,e,_⟩:=x;exact QY e
|set S n=>obtain⟨o,_,_,_,e,_⟩:=x;exact QY e
|ins C dx fs=>obtain⟨_,_,_,e,_⟩:=x;exact QY e
|own y=>obtain⟨_,e⟩:=x;exact QY e
|xd fs=>obtain⟨_,⟨_,_,_,e,_⟩,_⟩:=x;exact QY e
|rng lo hi=>obtain⟨_,_,_,e⟩:=x;exact QY e
|YL ob u=>obtain⟨e,_⟩:=x;exact QY e
|tbl ps=>exact QY (show h.get? a=Z' _ from x)
|met f y=>exact QY (show h.get? a=Z' _ from x)
|ext φ=>obtain⟨_,⟨_,e⟩,_⟩:=x;exact QY e
theorem Paired.af4{α β:Type}{F G:α->β->Prop}:∀{l₁:List α}{l₂:List β},X7 F l₁ l₂->(∀a b,F a b->G a b)->X7 G l₁ l₂
|_,_,.nil,_=>.nil
|_,_,.cons r t,f=>.cons (f _ _ r) (Paired.af4 t f)
theorem eM.stay(x:eM P w H h a o)(k:∀b u,(b=a\/H b=Z' @el)->h.get? b=Z' u->h'.get? b=Z' u)
  (ho:∀b,H b=Z' @el->H' b=Z' @el) (ht:∀b xs,H b=Z' @aO->H' b=Z' @aO):eM P w H' h' a o:=by
 induction o with
|lst xs=>obtain⟨z,Xv,n,r,e⟩:=x;exact⟨z,Xv,n,r,k _ _ @ad e⟩
|tup xs=>obtain⟨z,Xv,r,ob,e,c⟩:=x;exact⟨z,Xv,r,ob,k _ _ @ad e,c⟩
|dK kvs=>obtain⟨z,y,vs,r,ob,es,ep,e,c⟩:=x;exact⟨z,y,vs,r,ob,es,ep,k _ _ @ad e,c⟩
|dT kvs=>
  obtain⟨z,y,xs,r,ob,es,ep,e,c⟩:=x;exact⟨z,y,xs,Paired.af4 r λp q z=>@oq,ob,es,ep,k _ _ @ad e,c⟩
|set S n=>obtain⟨ob,es,ep,t,e,c⟩:=x;exact⟨ob,es,ep,t,k _ _ @ad e,c⟩
|ins C dx fs=>
  obtain⟨d,z,ne,e,mA,⟨od,es,ep,e2,c⟩,r⟩:=x;exact⟨ho _ d,z,ne,k _ _ @ad e,mA,⟨od,es,ep,k _ _ (.inr d) e2,c⟩,r⟩
|own y=>obtain⟨ob,e⟩:=x;exact⟨ob,k _ _ @ad e⟩
|xd fs=>obtain⟨mA,⟨od,es,ep,e,c⟩,r⟩:=x;exact⟨mA,⟨od,es,ep,k _ _ @ad e,c⟩,r⟩
|rng lo hi=>obtain⟨t,u,v,e⟩:=x;exact⟨t,u,v,k _ _ @ad e⟩
|YL ob u ih=>obtain⟨e,q⟩:=x;exact⟨k _ _ @ad e,ih q⟩
|tbl ps=>
  have e:h.get? a=Z' {cls:=.none,data:=.fields ps}:=x;show h'.get? a=Z' {cls:=.none,data:=.fields ps}
  simp_all
|met f y=>
  have e:h.get? a=Z' @ro:=x;show h'.get? a=Z' @ro
  simp_all
|ext φ=>obtain⟨p,⟨o,e⟩,st⟩:=x;exact⟨st _ _ p λo q=>k _ _ @ad q,⟨o,k _ _ @ad e⟩,st⟩
theorem Z4.lt(x:Z4 P w H h)(e:H a=Z' o):a<h.objs.size:=(x a o e).lt
theorem Z4.fresh(x:Z4 P w H h)(e:h.objs.size<=a):H a=Y':=by
 cases q:H a with
|none=>rfl
|some u=>exact absurd (QX (x.lt q) e) (Ru _)
theorem Z4.kept(x:Z4 P w H h)(k:∀b u,h.get? b=Z' u->h'.get? b=Z' u):Z4 P w H h':=λa o e=>
 (x a o e).stay (λb u _ q=>k b u q) @d4 λ_ _ q=>q
theorem Z4.laid(x:Z4 P w H h)(k:∀b u,h.get? b=Z' u->h'.get? b=Z' u)(hp:h.objs.size<=a)(new:eM P w @dh h' a o):Z4 P w @dh h':=λb u e=>by
 have hn:=x.fresh hp
 by_cases hb:b=a
 .grind[aq]
 .rw[ai hb]at e
  exact(x b u e).stay (λc v _ q=>k c v q) (λc q=>by rw[ai @fI];exact q) λc xs q=>by rw[ai @fI];exact q
end
def Rd(H:Hp)(a:Addr)(u:HO):Prop:=H a=Z' u\/∃o,H a=Z' @bB
theorem Rd.ok{P:R8}{w:RH}{H:Hp}{h:Heap}{a:Addr}{u:HO}(r:Rd H a u)(x:Z4 P w H h):eM P w H h a u:=by
 rcases r with r|⟨o,r⟩
 .exact x a u r
 .obtain⟨_,q⟩:=x a _ r
  exact q
def Mut:Option HO->Prop
|some (.lst _)=>True
|some (.dK _)=>True
|some (.dT _)=>True
|some (.set _ _)=>True
|some (.ins _ _ _)=>True
|some (.ext _)=>True
|_=>False
section
variable{P:R8}{w:RH}{H:Hp}{h h':Heap}{x e:Addr}{o':HO}
theorem Z4.write(ok:Z4 P w H h)(mu:Mut (H x))(he:e=x\/H e=Z' @cT)(k:∀b u,b≠e->h.get? b=Z' u->h'.get? b=Z' u)(heo:∃u,h'.get? e=Z' u)
  (new:eM P w (upd H x o') h' x o'):Z4 P w (upd H x o') h':=λb u q=>by
 have nown:∀c y,H c=Z' (.own y)->c≠x:=λc y r z=>by subst z;rw[r]at mu;exact mu
 have ntup:∀c xs,H c=Z' @aO->c≠x:=λc xs r z=>by subst z;rw[r]at mu;exact mu
 by_cases hb:b=x
 .subst hb;rw[aq]at q;cases q;exact new
 .rw[ai hb]at q
  by_cases hbe:b=e
  .have q':H b=Z' @cT:=by
    rcases he with z|z
    .exact absurd (hbe.trans z) hb
    .rw[hbe];exact z
   rw[q]at q';cases q';obtain⟨v,hv⟩:=heo;exact⟨v,by rw[hbe];exact hv⟩
  .refine(ok b u q).stay (λc v hc r=>k c v ?_ r) (λc r=>by rw[ai (nown c b r)];exact r) λc xs r=>by rw[ai (ntup c xs r)];exact r
   rcases hc with rfl|hc
   .exact hbe
   .rintro rfl
    rcases he with z|z
    .exact nown c b hc z
    .rw[hc]at z;cases z;exact hb rfl
end
structure Un(fs ex:List Addr)(H H':Hp)(h h':Heap):Prop where
 keep:∀b o,h.get? b=Z' o->H b=Y'->b∉fs->b∉ex->h'.get? b=Z' o
 slot:∀b o,h.get? b=Z' o->H b=Y'->b∈fs->b∉ex->∃sl,h'.get? b=Z' {o with slots:=sl}
 free:∀b o,h.get? b=Z' o->H b=Y'->b∉ex->H' b=Y'
 there:∀b o,h.get? b=Z' o->b∉ex->∃o',h'.get? b=Z' o'
 tups:∀b xs,H b=Z' @aO->H' b=Z' @aO
 Zj:∀b o u,H b=Z' @bB->H' b=Z' @bB
 ZD:∀b ps,H b=Z' @fL->∃more,H' b=Z' @rX
section
variable{fs fs' ex ex':List Addr}{H H1 H2:Hp}{h h1 h2 h':Heap}{a x e:Addr}{o:HO}
theorem Un.any(u:Un fs ex H H1 h h1){b:Addr}{ob:Obj}(q:h.get? b=Z' ob)(n:H b=Y')(hx:b∉ex):∃sl,h1.get? b=Z' {ob with slots:=sl}:=by
 by_cases hb:b∈fs
 .exact u.slot b ob q n hb hx
 .exact⟨ob.slots,u.keep b ob q n hb hx⟩
theorem Un.kept(k:∀b u,h.get? b=Z' u->h'.get? b=Z' u):Un fs ex H H h h':=
 ⟨λb ob q _ _ _=>k b ob q,λb ob q _ _ _=>⟨ob.slots,k b ob q⟩,λ_ _ _ n _=>n,λb ob q _=>⟨ob,k b ob q⟩,λ_ _ q=>q,λ_ _ _ q=>q,λ_ ps q=>⟨#[],by rw[q];simp⟩⟩
theorem Un.refl:Un fs ex H H h h:=Un.kept λ_ _ q=>q
theorem Un.laid(k:∀b u,h.get? b=Z' u->h'.get? b=Z' u)(hp:h.objs.size<=a)(hn:H a=Y'):Un fs ex H @dh h h' where
 keep:=λb u q _ _ _=>k b u q
 slot:=λb u q _ _ _=>⟨u.slots,k b u q⟩
 free:=λb u q n _=>by rw[ai (RY (QX (QY q) hp))];exact n
 there:=λb u q _=>⟨u,k b u q⟩
 tups:=λb xs q=>by rw[ai @fI];exact q
 Zj:=λb u xs q=>by rw[ai @fI];exact q
 ZD:=λb ps q=>⟨#[],by rw[ai @fI,q];simp⟩
theorem Un.write(mu:Mut (H x))(he:e=x\/H e=Z' @cT)(k:∀b u,b≠e->h.get? b=Z' u->h'.get? b=Z' u)(heo:∃u,h'.get? e=Z' u):Un fs ex H @lB h h':=by
 have hx:∀b,H b=Y'->b≠x:=λb n z=>by subst z;rw[n]at mu;exact mu
 have hb:∀b,H b=Y'->b≠e:=λb n z=>by
  simp_all
 have hm:∀b u,H b=Z' u->¬ Mut (Z' u)->b≠x:=λb u q nm z=>by simp_all
 refine⟨λb u q n _ _=>k b u (hb b n) q,λb u q n _ _=>⟨u.slots,k b u (hb b n) q⟩,λb u q n _=>by rw[ai (hx b n)];exact n,λb u q _=>?_,
  λb xs q=>by rw[ai @j0];exact q,λb u xs q=>by rw[ai @j0];exact q,λb ps q=>⟨#[],by rw[ai @j0,q];simp⟩⟩
 grind
end
noncomputable def trk(h:Heap)(H:Hp):List Addr:=(S7 h.objs.size).filter λa=>(H a).isSome
def Dr(h:Heap)(H:Hp):Heap:=PySem.W.hideAll h (trk h H)
theorem AH(h:Heap)(H:Hp):(Dr h H).objs.size=h.objs.size:=PySem.W.hideAll_size _ _
theorem Dq{h:Heap}{H:Hp}{b:Addr}{o:Obj}(e:h.get? b=Z' o)(n:H b=Y'):(Dr h H).get? b=Z' o:=
 PySem.W.hideAll_get _ e λhm=>by
  have q:(H b).isSome=Y2:=(List.mem_filter.mp hm).2
  simp_all
theorem Gm{h:Heap}{H:Hp}{b:Addr}{o:Obj}(e:(Dr h H).get? b=Z' o):h.get? b=Z' o/\H b=Y':=by
 have e':h.get? b=Z' o:=PySem.W.of_hideAll (trk h H) e;refine⟨e',?_⟩;cases q:H b with
|none=>rfl
|some x=>
  grind[trk,QY,Dr,PySem.W.hideAll_none]
noncomputable def HE(g h:Heap)(L:Addr):List @c:=(S7 h.objs.size).filterMap λa=>if a=L\/(g.get? a).isSome=Y2 then Y' else (h.get? a).map λo=>(a,o)
def rest(g h:Heap)(L d:Addr):List @c:=(HE g h L).filter λp=>decide (p.1≠d)
structure Mod(K:QO)(mg:Str->Option Value)(base:Heap):Prop where
 kin:K.In base
 glob:base.Ns R5 mg
 blt:∃mb,base.Ns VY mb/\∀x:Str,x≠"__name__"->mb x=Sj x
 nolimit:base.NoLimit
structure Cx where
 prog:R8
 w:RH
 K:QO
 mg:Str->Option Value
 base:Heap
 A:RV
 N:List Str
 s₀:QR
 H₀:Hp
 env:Uz
 outer:List Uz
 stack:List Uz
 ex:List Addr
 fn:Str->Bool
 calm:Bool
 pn:List @c
 xe:Value->QR->Prop
def frs(l:List Uz):List Addr:=l.filterMap (·.frame)
abbrev Cx.fs(X:Cx):List Addr:=frs X.outer
def Z3(sc:Scope)(x:Str):Prop:=sc.names.lookup x=Z' .local\/sc.names.lookup x=Z' .cell\/sc.names.lookup x=Z' .free
def Loc(sc:Scope)(x:Str):Prop:=sc.names.lookup x=Z' .local\/sc.names.lookup x=Z' .cell
def Look(env:Uz)(h:Heap)(m:Str->Option Value)(x:Str)(u:Value):Prop:=
 (env.kindOf x=Z' .local/\m x=Z' u)\/((env.kindOf x=Z' .cell\/env.kindOf x=Z' .free)/\∃c,env.cells.lookup x=Z' c/\h.IsCell c (Z' u))
structure Cx.Ok(X:Cx):Prop where
 mod:Mod X.K X.mg X.base
 kind:X.env.scope.kind=.function
 glob:X.env.globals=R5
 blt:X.env.builtins=VY
 above:X.s₀.heap.objs.size<=X.env.locals
 inj:∀x y c,X.env.cells.lookup x=Z' c->X.env.cells.lookup y=Z' c->x=y
 has:∀x,(X.env.kindOf x=Z' .cell\/X.env.kindOf x=Z' .free)->∃c,X.env.cells.lookup x=Z' c
 cab:∀x c,X.fn x=Y2->X.env.cells.lookup x=Z' c->X.s₀.heap.objs.size<=c
 hd:X.calm=Y2->X.A.handled=Y'
 frames:X.A.frames=Z' X.stack
 stk:X.stack=X.outer\/(X.stack=X.env::X.outer/\X.env.frame=Z' X.env.locals)
 exf:∀b∈X.ex,b≠X.env.locals/\∀x c,X.env.cells.lookup x=Z' c->c≠b
 bs:∀b o,X.base.get? b=Z' o->X.s₀.heap.get? b=Z' o/\X.H₀ b=Y'
 bsz:X.base.objs.size<=X.s₀.heap.objs.size
 ab7:∀b o,X.base.get? b=Z' o->b∉X.ex
 ae9:∀b∈X.ex,b∉X.fs
 Zi:X.s₀.heap.FunFrames X.base X.outer
 frf:∀b∈X.fs,X.H₀ b=Y'
structure Inv(X:Cx)(J':List @c)(σ:List @ed)(H:Hp)(s:QR):Prop where
 ok:X.Ok
 os:s.os=X.s₀.os
 bare:V3 s.gens
 base:Un X.fs X.ex X.H₀ H X.s₀.heap s.heap
 loc:∃m,s.heap.Ns X.env.locals m/\∀(i:Nat)(x:Str)(v:V),X.N[i]?=Z' x->σ[i]?=Z' @aR->Z3 X.env.scope x->∃u,RelV v u/\Look X.env s.heap m x u
 cell:∀x c,X.env.cells.lookup x=Z' c->∃v,s.heap.IsCell c v
 free:H X.env.locals=Y'
 YJ:∀x c,X.env.cells.lookup x=Z' c->H c=Y'
 pin:∀p∈X.pn++J',s.heap.get? p.1=Z' p.2/\H p.1=Y'/\p.1≠X.env.locals/\p.1∉X.fs/\∀v,p.2.data≠.cell v
 hok:Z4 X.prog X.w H s.heap
 len:σ.length=X.N.length
section
variable{X:Cx}{J':List @c}{σ:List @ed}{H H':Hp}{s:QR}{h':Heap}
theorem Cx.Ok.nofr(ok:X.Ok){b:Addr}{o:Obj}(e:X.base.get? b=Z' o):b∉X.fs:=λhb=>by
 have:=(ok.Zi.mem hb).1
 simp_all
theorem Inv.bs(I:Inv X J' σ H s):∀b o,X.base.get? b=Z' o->s.heap.get? b=Z' o/\H b=Y':=λb o e=>
 ⟨I.base.keep b o (I.ok.bs b o e).1 (I.ok.bs b o e).2 (I.ok.nofr e) @sf,I.base.free b o (I.ok.bs b o e).1 (I.ok.bs b o e).2 @sf⟩
theorem Inv.bk(I:Inv X J' σ H s):∀b o,X.base.get? b=Z' o->s.heap.get? b=Z' o:=λb o e=>(I.bs b o e).1
theorem Inv.mod(I:Inv X J' σ H s):Mod X.K X.mg X.base:=I.ok.mod
theorem Inv.Z6(I:Inv X J' σ H s):X.K.In s.heap:=I.ok.mod.kin.keeps I.bk
theorem Inv.lt(I:Inv X J' σ H s):X.env.locals<s.heap.objs.size:=let ⟨_,hn,_⟩:=I.loc;hn.lt
theorem Inv.sz(I:Inv X J' σ H s):X.s₀.heap.objs.size<=s.heap.objs.size:=Rg I.ok.above (Vz I.lt)
theorem Inv.nofs(I:Inv X J' σ H s){a:Addr}(h:s.heap.objs.size<=a):a∉X.fs:=λhb=>by
 obtain⟨_,o,ho,_⟩:=I.ok.Zi.mem hb;exact absurd (QX (QY ho) (Rg I.sz h)) (Ru _)
theorem Inv.cne(I:Inv X J' σ H s):∀x c,X.env.cells.lookup x=Z' c->c≠X.env.locals:=λx c e z=>by
 obtain⟨v,o,ho,hd⟩:=I.cell x c e;obtain⟨m,⟨o',es,ep,ho',hd',_⟩,_⟩:=I.loc
 simp_all
theorem Inv.Zi(I:Inv X J' σ H s):s.heap.FunFrames X.base X.outer:=by
 have all:∀(l:List Uz),(∀b∈frs l,b∈X.fs)->X.s₀.heap.FunFrames X.base l->s.heap.FunFrames X.base l:=by
  intro l
  induction l with
  |nil=>intro _ _;trivial
  |cons env r ih=>
   intro hs hl;obtain⟨hk,⟨L,o,hf,hn,ho,hd⟩,hr⟩:=hl;have hL:L∈X.fs:=hs L (by grind[frs,Vc,RZ]);obtain⟨sl,e⟩:=I.base.slot L o ho (I.ok.frf L hL) hL λz=>I.ok.ae9 L z hL;exact⟨hk,⟨L,_,hf,hn,e,hd⟩,ih (λb hb=>hs b (by grind[frs,Vc,R6])) hr⟩
 exact all X.outer (λ_ hb=>hb) I.ok.Zi
theorem Inv.stack(I:Inv X J' σ H s):s.heap.FunFrames X.base X.stack:=by
 rcases I.ok.stk with e|⟨e,hf⟩
 .rw[e];exact I.Zi
 .rw[e]
  obtain⟨m,hn,_⟩:=I.loc;refine .cons (by rw[I.ok.kind];decide) hf hn ?_ I.Zi;exact VO (Rg I.ok.bsz I.ok.above)
theorem Inv.ZQ(I:Inv X J' σ H s):∀b∈frs X.stack,b∈X.env.locals::X.fs:=λb hb=>by
 rcases I.ok.stk with e|⟨e,hf⟩
 .simp_all
 grind[frs,Vc]
theorem Inv.ZR(I:Inv X J' σ H s):∀b∈frs X.stack,H b=Y':=λb hb=>by
 rcases R7.mp (I.ZQ b hb)with e|hb
 .rw[e];exact I.free
 .obtain⟨_,o,ho,_⟩:=I.ok.Zi.mem hb
  exact I.base.free b o ho (I.ok.frf b hb) λz=>I.ok.ae9 b z hb
theorem Inv.step{g':Array GenState}{t':Nat}{d':Drawn}{ch:List Addr}(I:Inv X J' σ H s)
  (hch:∀b∈ch,(b∈X.ex\/X.s₀.heap.objs.size<=b)/\b≠X.env.locals/\(∀x c,X.env.cells.lookup x=Z' c->c≠b)/\∀p∈X.pn++J',p.1≠b)
  (keep:∀b o,b≠X.env.locals->b∉X.fs->b∉ch->s.heap.get? b=Z' o->H b=Y'->h'.get? b=Z' o)
  (slot:∀b o,b≠X.env.locals->b∈X.fs->b∉ch->s.heap.get? b=Z' o->H b=Y'->∃sl,h'.get? b=Z' {o with slots:=sl}) (free:∀b o,b∉ch->s.heap.get? b=Z' o->H b=Y'->H' b=Y')
  (there:∀b o,b∉ch->s.heap.get? b=Z' o->∃o',h'.get? b=Z' o')
  (tups:∀b xs,H b=Z' @aO->H' b=Z' @aO) (Zj:∀b o u,H b=Z' @bB->H' b=Z' @bB) (ZD:∀b ps,H b=Z' @fL->∃more,H' b=Z' @rX)
  (ns:∀m,s.heap.Ns X.env.locals m->h'.Ns X.env.locals m) (hok:Z4 X.prog X.w H' h') (hg:V3 g'):
  Inv X J' σ H' {s with heap:=h',gens:=g',drawn:=d',toks:=t'}:=by
 have neL:∀b o,X.s₀.heap.get? b=Z' o->b≠X.env.locals:=λb o e=>RY @i3
 have neC:∀b o,X.s₀.heap.get? b=Z' o->b∉X.ex->b∉ch:=λb o e hx hb=>by
  rcases (hch b hb).1 with z|z
  .exact hx z
  .exact absurd (QX @bI z) (Ru _)
 have cellK:∀x c,X.env.cells.lookup x=Z' c->∀v,s.heap.IsCell c v->h'.IsCell c v:=λx c e v ⟨o,ho,hd⟩=>by
  have nch:c∉ch:=λz=>(hch c z).2.2.1 x c e rfl
  by_cases hc:c∈X.fs
  .obtain⟨sl,q⟩:=slot c o (I.cne x c e) hc nch ho @hO
   exact⟨_,q,hd⟩
  .exact⟨o,keep c o (I.cne x c e) hc nch ho @hO,hd⟩
 refine⟨I.ok,I.os,hg,⟨λb o e n hb hx=>?_,λb o e n hb hx=>?_,λb o e n hx=>?_,λb o e hx=>?_,λb xs e=>tups b xs @qF,λb o xs e=>Zj b o xs (I.base.Zj b o xs e),λb ps e=>?_⟩,?_,λx c e=>?_,?_,λx c e=>?_,λp hp=>?_,hok,I.len⟩
 .exact keep b o (neL b o e) hb @kP @gx @jB
 .obtain⟨sl,e1⟩:=I.base.slot b o e n hb hx
  obtain⟨sl',e2⟩:=slot b _ (neL b o e) hb @kP e1 @jB
  simp_all
 .obtain⟨o',e1⟩:=I.base.there b o e hx
  exact free b o' @kP e1 @jB
 .obtain⟨o',e1⟩:=I.base.there b o e hx
  simp_all
 .obtain⟨m1,e1⟩:=I.base.ZD b ps e
  grind
 .obtain⟨m,hn,hl⟩:=I.loc
  refine⟨m,ns m hn,λi x v e1 e2 e3=>?_⟩;obtain⟨u,r,l⟩:=hl i x v e1 e2 e3;refine⟨u,r,?_⟩;rcases l with l|⟨k,c,e,z⟩
  .exact .inl l
  .exact .inr ⟨k,c,e,cellK x c e _ z⟩
 .obtain⟨v,z⟩:=I.cell x c e
  grind
 .obtain⟨m,⟨o,_,_,ho,_⟩,_⟩:=I.loc
  exact free _ o (λz=>(hch _ z).2.1 rfl) ho I.free
 .obtain⟨v,o,ho,hd⟩:=I.cell x c e
  exact free c o (λz=>(hch c z).2.2.1 x c e rfl) ho @hO
 .obtain⟨e,n,ne,nf,d⟩:=I.pin p hp
  grind
theorem Inv.un{t':Nat}(I:Inv X J' σ H s)(u:Un X.fs [] H H' s.heap h')(hok:Z4 X.prog X.w H' h'):Inv X J' σ H' {s with heap:=h',toks:=t'}:=by
 obtain⟨m,⟨o,es,ep,ho,r⟩,_⟩:=id I.loc;obtain⟨sl,hL⟩:=u.any ho I.free @a
 exact I.step (g':=s.gens) (d':=s.drawn) (ch:=[]) (λ_ z=>nomatch z) (λb o _ hb _ e n=>u.keep b o e n hb @a) (λb o _ hb _ e n=>u.slot b o e n hb @a) (λb o _ e n=>u.free b o e n @a) (λb o _ e=>u.there b o e @a) u.tups u.Zj u.ZD (λm' hm=>by
  obtain⟨o',es',ep',ho',r'⟩:=hm;rw[ho]at ho';cases ho';exact@p2) hok I.bare
theorem Inv.call{g':Array GenState}{t':Nat}{d':Drawn}{ch:List Addr}(I:Inv X J' σ H s)(u:Un @fk ch H H' s.heap h')(hok:Z4 X.prog X.w H' h')(hg:V3 g')
  (hch:∀b∈ch,(b∈X.ex\/X.s₀.heap.objs.size<=b)/\b≠X.env.locals/\(∀x c,X.env.cells.lookup x=Z' c->c≠b)/\∀p∈X.pn++J',p.1≠b):
  Inv X J' σ H' {s with heap:=h',gens:=g',drawn:=d',toks:=t'}:=by
 obtain⟨m,⟨o,es,ep,ho,r⟩,_⟩:=id I.loc;obtain⟨sl,hL⟩:=u.any ho I.free λz=>(hch _ z).2.1 rfl
 exact I.step (ch:=ch) hch (λb o hL hb hc e n=>u.keep b o e n (λz=>(R7.mp @l1).elim hL hb) hc) (λb o _ _ hc e n=>u.any e n hc) (λb o hc e n=>u.free b o e n hc) (λb o hc e=>u.there b o e hc) u.tups u.Zj u.ZD (λm' hm=>by
  obtain⟨o',es',ep',ho',r'⟩:=hm;rw[ho]at ho';cases ho';exact@p2) hok hg
theorem Inv.turned{t':Nat}{it:Addr}(I:Inv X J' σ H s)(k:∀b o,b≠it->s.heap.get? b=Z' o->h'.get? b=Z' o)(hn:H it=Y')(hL:it≠X.env.locals)
  (h1:it∈X.ex\/X.s₀.heap.objs.size<=it) (h2:∀x c,X.env.cells.lookup x=Z' c->c≠it) (h3:∀p∈X.pn++J',p.1≠it):Inv X J' σ H {s with heap:=h',toks:=t'}:=by
 have nit:∀b u,H b=Z' u->b≠it:=λb u e z=>by simp_all
 refine I.step (g':=s.gens) (d':=s.drawn) (ch:=[it]) (λb hb=>?_) (λb o _ _ hc e _=>k b o (λz=>hc (by simp[z])) e) (λb o _ _ hc e _=>⟨o.slots,k b o (λz=>hc (by simp[z])) e⟩) @rl
  (λb o hc e=>⟨o,k b o (λz=>hc (by simp[z])) e⟩) @s8 @r8 (λb ps e=>⟨#[],by rw[e];simp⟩) (λm hm=>?_) (λb u e=>?_) I.bare
 .grind
 .obtain⟨o,es,ep,ho,r⟩:=hm
  exact⟨o,es,ep,k _ o (Rv hL) ho,r⟩
 .refine(I.hok b u e).stay (λc v hc q=>k c v ?_ q) @d4 λ_ _ q=>q
  grind
theorem Inv.tok(I:Inv X J' σ H s)(t:Nat):Inv X J' σ H {s with toks:=t}:=I.un (h':=s.heap) (t':=t) Un.refl I.hok
theorem Inv.kept{t':Nat}(I:Inv X J' σ H s)(k:∀b u,s.heap.get? b=Z' u->h'.get? b=Z' u):Inv X J' σ H {s with heap:=h',toks:=t'}:=I.un (Un.kept k) (I.hok.kept k)
theorem Inv.laid{a:Addr}{o:HO}{t':Nat}(I:Inv X J' σ H s)(k:∀b u,s.heap.get? b=Z' u->h'.get? b=Z' u)(hp:s.heap.objs.size<=a)(new:eM X.prog X.w @dh h' a o):
  Inv X J' σ @dh {s with heap:=h',toks:=t'}:=I.un (Un.laid k hp (I.hok.fresh hp)) (I.hok.laid k hp new)
theorem Inv.write{x e:Addr}{o:HO}{t':Nat}(I:Inv X J' σ H s)(mu:Mut (H x))(he:e=x\/H e=Z' @cT)(k:∀b u,b≠e->s.heap.get? b=Z' u->h'.get? b=Z' u)(heo:∃u,h'.get? e=Z' u)
  (new:eM X.prog X.w @lB h' x o):Inv X J' σ @lB {s with heap:=h',toks:=t'}:=I.un (Un.write mu he k heo) (I.hok.write mu he k heo new)
theorem Inv.Z9{Zu:List @c}(I:Inv X J' σ H s)(h:∀p∈Zu,s.heap.get? p.1=Z' p.2/\H p.1=Y'/\p.1≠X.env.locals/\p.1∉X.fs/\∀v,p.2.data≠.cell v):Inv X Zu σ H s:=
 ⟨I.ok,I.os,I.bare,I.base,I.loc,I.cell,I.free,I.YJ,λp hp=>(Ra.mp hp).elim (λz=>I.pin p (SD _ z)) (h p),I.hok,I.len⟩
theorem ri{N:List Str}(hN:N.Nodup){i j:Nat}{x:Str}(a:N[i]?=Z' x)(b:N[j]?=Z' x):i=j:=by
 grind[List.getElem_inj]
theorem zb{M:Wo}{A:RV}{E:Value->QR->Prop}{i:Nat}{x:Str}{v:V}{u:Value}{Q:Unit->QR->Prop}(I:Inv X J' σ H s)(hN:X.N.Nodup)(hi:X.N[i]?=Z' x)(hx:Loc X.env.scope x)(r:RelV v u)
  (h:∀s',Inv X J' @e2 H s'->(∃a,T9 a s.heap s'.heap/\(a=X.env.locals\/X.env.cells.lookup x=Z' a))->Q () s') (hf:X.fn x=Y2\/X.env.scope.names.lookup x=Z' .local:=by first|exact .inl rfl|exact .inr rfl|assumption):QZ M A @p6 Q E s:=by
 obtain⟨m,hn,hl⟩:=id I.loc;have hcls:(X.env.scope.kind==.class ||(X.env.scope.kind==.module&&X.env.locals != X.env.globals))=Y1:=by rw[I.ok.kind];rfl
 have hiσ:i<σ.length:=by rw[I.len];exact(RO.mp hi).1
 have cne:=I.cne
 have tracked:∀{a:Addr}{h':Heap},(∃o,s.heap.get? a=Z' o/\H a=Y')->T9 a s.heap h'->Z4 X.prog X.w H h':=λ{a h'} ha hs b ob e=>by
  obtain⟨_,_,hfree⟩:=ha;refine(I.hok b ob e).stay (λc w' hc q=>(hs.2 c ?_).trans q) @d4 λ_ _ q=>q;rintro rfl;rcases hc with rfl|hc
  .rw[hfree]at e;cases e
  .rw[hfree]at hc;cases hc
 rcases hx with hk|hk
 .refine wpAny_storeName_local hk hn (λh' hn' hs=>?_) hcls
  obtain⟨oL,_,_,hoL,_⟩:=id hn;refine h _ ⟨I.ok,I.os,I.bare,⟨λb o e n hb hx=>?_,λb o e n hb hx=>?_,I.base.free,λb o e hx=>?_,I.base.tups,I.base.Zj,I.base.ZD⟩,⟨_,hn',λj y v' e1 e2 e3=>?_⟩,λy c e=>?_,I.free,I.YJ,λp hp=>?_,tracked ⟨oL,hoL,I.free⟩ hs,by simpa using I.len⟩ ⟨_,hs,.inl rfl⟩
  .exact(hs.2 b @mn).trans @gx
  .obtain⟨sl,e1⟩:=I.base.slot b o e n hb hx
   exact⟨sl,(hs.2 b @mn).trans e1⟩
  .obtain⟨o',e1⟩:=I.base.there b o e hx
   exact⟨o',(hs.2 b @mn).trans e1⟩
  .by_cases hj:j=i
   .subst hj
    rw[hi]at e1;cases e1;rw[X1 hiσ]at e2;cases e2;exact⟨u,r,.inl ⟨hk,by simp⟩⟩
   .rw[VT (Rv hj)]at e2
    obtain⟨u',r',q⟩:=hl j y v' e1 e2 e3;refine⟨u',r',?_⟩;rcases q with⟨k,e⟩|⟨k,c,e,z⟩
    .refine .inl ⟨k,?_⟩
     have:y≠x:=λe=>hj (ri hN e1 (e▸hi));simp[this,e]
    .exact .inr ⟨k,c,e,z.sameBut hs (cne y c e)⟩
  .obtain⟨w',z⟩:=I.cell y c e
   exact⟨w',z.sameBut hs (cne y c e)⟩
  .obtain⟨e,n,ne,nf,d⟩:=I.pin p hp
   exact@nU
 .have hfn:X.fn x=Y2:=by
   rcases hf with z|z
   .exact z
   .rw[z]at hk;cases hk
  obtain⟨c,hc⟩:=I.ok.has x (.inl hk);obtain⟨w',z⟩:=I.cell x c hc;refine wpAny_storeName_cell I.ok.kind hk hc z (λh' hc' hs=>?_);obtain⟨oc,hoc,hocd⟩:=id z;refine h {s with heap:=h'} ⟨I.ok,I.os,I.bare,⟨λb o e n hb hx=>?_,λb o e n hb hx=>?_,I.base.free,λb o e hx=>?_,I.base.tups,I.base.Zj,I.base.ZD⟩,⟨m,hn.sameBut hs (Rv (cne x c hc)),λj y v' e1 e2 e3=>?_⟩,λy c' e=>?_,I.free,I.YJ,λp hp=>?_,tracked ⟨oc,hoc,I.YJ x c hc⟩ hs,by simpa using I.len⟩ ⟨c,hs,.inr hc⟩
  .exact(hs.2 b @i8).trans @gx
  .obtain⟨sl,e1⟩:=I.base.slot b o e n hb hx
   exact⟨sl,(hs.2 b @i8).trans e1⟩
  .obtain⟨o',e1⟩:=I.base.there b o e hx
   exact⟨o',(hs.2 b @i8).trans e1⟩
  .by_cases hj:j=i
   .subst hj
    rw[hi]at e1;cases e1;rw[X1 hiσ]at e2;cases e2;exact⟨u,r,.inr ⟨.inl hk,c,hc,hc'⟩⟩
   .rw[VT (Rv hj)]at e2
    obtain⟨u',r',q⟩:=hl j y v' e1 e2 e3;refine⟨u',r',?_⟩;rcases q with q|⟨k,c',e,z'⟩
    .exact .inl q
    .refine .inr ⟨k,c',e,z'.sameBut hs ?_⟩
     rintro rfl;exact hj (ri hN e1 (I.ok.inj _ _ _ e hc▸hi))
  .by_cases hcc:c'=c
   .subst hcc;exact⟨_,hc'⟩
   .obtain⟨w2,z2⟩:=I.cell y c' e
    exact⟨w2,z2.sameBut hs hcc⟩
  .obtain⟨e,n,ne,nf,d⟩:=I.pin p hp
   refine⟨(hs.2 p.1 ?_).trans e,n,ne,nf,d⟩;intro q;rw[q,hoc]at e;have q':oc=p.2:=SG e;exact d w' (by rw[<-q'];exact hocd)
theorem mQ{M:Wo}{A:RV}{E:Value->QR->Prop}{i:Nat}{x:Str}{v:V}{u:Value}{Q:Unit->QR->Prop}(I:Inv X J' σ H s)(hN:X.N.Nodup)(hi:X.N[i]?=Z' x)(hx:Loc X.env.scope x)(r:RelV v u)
  (h:∀s',Inv X J' @e2 H s'->Q () s') (hf:X.fn x=Y2\/X.env.scope.names.lookup x=Z' .local:=by first|exact .inl rfl|exact .inr rfl|assumption):QZ M A @p6 Q E s:=
 zb I hN hi hx r (λs' I' _=>h s' I') hf
theorem Inv.ag2{s':QR}{ch:List Addr}(I:Inv X J' σ H s)(ho:s'.os=s.os)(u:Un @fk ch H H' s.heap s'.heap)(hok:Z4 X.prog X.w H' s'.heap)(hg:V3 s'.gens)
  (hch:∀b∈ch,(b∈X.ex\/X.s₀.heap.objs.size<=b)/\b≠X.env.locals/\(∀x c,X.env.cells.lookup x=Z' c->c≠b)/\∀p∈X.pn++J',p.1≠b):Inv X J' σ H' s':=by
 obtain⟨h',g',d',t',o'⟩:=s';have e:o'=s.os:=ho;subst e;exact I.call (g':=g') (t':=t') (d':=d') u hok hg hch
end
abbrev XK:=Value->Option Addr->Hp->Prop
abbrev St:=List @ed
abbrev VK:=V->Hp->Prop
abbrev TE:=St->Hp->VK->Prop
abbrev TT:=St->Hp->(Bool->Hp->Prop)->Prop
abbrev TA:=St->Hp->(List V->Hp->Prop)->Prop
structure Ends where
 nx:St->Hp->Prop
 rt:VK
 bk:St->Hp->Prop:=λ_ _=>False
 ct:St->Hp->Prop:=λ_ _=>False
abbrev TS:=Ends->St->Hp->Prop
def EP(X:Cx)(J':List @c)(σ:St)(Q:VK)(u:Value)(s':QR):Prop:=∃v H',Inv X J' σ H' s'/\RelV v u/\Q v H'
def TP(X:Cx)(J':List @c)(σ:St)(Q:Bool->Hp->Prop)(b:Bool)(s':QR):Prop:=∃H',Inv X J' σ H' s'/\Q b H'
def AP(X:Cx)(J':List @c)(σ:St)(Q:List V->Hp->Prop)(us:List Value)(s':QR):Prop:=∃vs H',Inv X J' σ H' s'/\Vals vs us/\Q vs H'
def SP(X:Cx)(J':List @c)(D:Ends)(f:Flow)(s':QR):Prop:=
 match f with
|.next=>∃σ' H',Inv X J' σ' H' s'/\D.nx σ' H'
|.brk=>∃σ' H',Inv X J' σ' H' s'/\D.bk σ' H'
|.cont=>∃σ' H',Inv X J' σ' H' s'/\D.ct σ' H'
|.ret u=>∃v σ' H',Inv X J' σ' H' s'/\RelV v u/\D.rt v H'
def PE(X:Cx)(e:Expr)(t:TE):Prop:=
 ∀(J':List @c)(s:QR)(σ:St)(H:Hp)(Q:VK),Inv X J' σ H s->t σ H Q->QZ @o X.A @lo @aN X.xe s
def PT(X:Cx)(e:Expr)(t:TT):Prop:=
 ∀(J':List @c)(s:QR)(σ:St)(H:Hp)(Q:Bool->Hp->Prop),Inv X J' σ H s->t σ H Q->QZ @o X.A (isTrue e X.env @lo) @kU X.xe s
def PW(X:Cx)(e:Expr)(t:TT):Prop:=
 ∀(whole:Sem Value)(J':List @c)(s:QR)(σ:St)(H:Hp)(Q:Bool->Hp->Prop),Inv X J' σ H s->t σ H Q->QZ @o X.A (isTrue e X.env whole) @kU X.xe s
theorem PW.pt{X:Cx}{e:Expr}{t:TT}(h:PW X e t):PT X e t:=h _
def PA(X:Cx)(es:List Expr)(t:TA):Prop:=
 ∀(pos:SL)(J':List @c)(s:QR)(σ:St)(H:Hp)(Q:List V->Hp->Prop),Inv X J' σ H s->t σ H Q->QZ @o X.A (spliced (SN pos @ch)) @tu X.xe s
def PS(X:Cx)(st:Stmt)(t:TS):Prop:=
 ∀(J':List @c)(s:QR)(σ:St)(H:Hp)(D:Ends),Inv X J' σ H s->t D σ H->QZ @o X.A (exec st X.env) (SP X J' D) X.xe s
def PSs(X:Cx)(st:List Stmt)(t:TS):Prop:=
 ∀(J':List @c)(s:QR)(σ:St)(H:Hp)(D:Ends),Inv X J' σ H s->t D σ H->QZ @o X.A (execs st X.env) (SP X J' D) X.xe s
theorem Yl{α:Type}{t:Sem α}{Q Q':α->QR->Prop}{M:Wo}{A:RV}{E:Value->QR->Prop}{s:QR}(h:QZ M A t Q E s)(hQ:∀a s,Q a s->Q' a s):QZ M A t Q' E s:=Rz h hQ λ_ _ x=>x
section
variable{X:Cx}
def J1(i:Nat):TE:=fun σ H Q=>∃v,σ[i]?=Z' @aR/\Q v H
def tC(v:V):TE:=λ_ H Q=>Q v H
theorem bR {i:Nat} {x:Str} {pos:SL} (hN:X.N[i]?=Z' x) (hv:Z3 X.env.scope x) (hd:(x==("__debug__":Str))=Y1:=by decide) (hcd:(x==("__classdict__":Str))=Y1:=by decide):PE X @aE (J1 i):=by
 sleep 4;obtain⟨v,e,h⟩:=h;obtain⟨m,hn,hl⟩:=I.loc;obtain⟨u,r,l⟩:=hl i x v hN e hv;have fin:EP X J' σ Q u s:=@kx;rcases l with⟨hk,hm⟩|⟨hk,c,hc,hcell⟩
 .exact wpAny_Name (wpAny_loadName_local I.ok.kind hk hn hm fin) hd
 .rcases hk with hk|hk
  .exact wpAny_Name (wpAny_loadName_cell I.ok.kind hk hc hcell fin) hd
  .exact wpAny_Name (wpAny_loadName_free I.ok.kind hk hc hcell fin hcd) hd
theorem wB{i j pos}:PE X @jK (tC @I):=λ_ _ _ H _ I h=>wpAny_Constant_int ⟨.int i,H,I.tok _,@O,h⟩
theorem Mq{b j pos}:PE X (.Constant (.bool b) j pos) (tC @bG):=λ_ _ _ H _ I h=>Constant_bool ⟨.bl b,H,I,rfl,h⟩
theorem Js{j pos}:PE X @pK (tC .Yj):=λ_ _ _ H _ I h=>Constant_none ⟨.Yj,H,I,rfl,h⟩
theorem nY{x j pos}:PE X @pZ (tC @H):=λ_ _ _ H _ I h=>Calls.Constant_str ⟨.str x,H,I.tok _,@O,h⟩
def Gl(X:Cx)(x:Str):Prop:=X.env.kindOf x=Z' .globalImplicit
theorem lI{E:Value->QR->Prop}{J':List @c}{s:QR}{σ:St}{H:Hp}{x:Str}{u:Value}{pos:SL}{Q:Value->QR->Prop}(I:Inv X J' σ H s)(hg:Gl X x)(hm:X.mg x=Z' u)(h:Q u s)
  (hd:(x==("__debug__":Str))=Y1:=by decide):QZ @o X.A @sJ Q E s:=
 WN I.ok.kind hg (Calls.loadGlobal_global (by rw[I.ok.glob];exact I.mod.glob.keeps I.bk) hm h) hd
theorem oj{E:Value->QR->Prop}{J':List @c}{s:QR}{σ:St}{H:Hp}{x:Str}{u:Value}{pos:SL}{Q:Value->QR->Prop}(I:Inv X J' σ H s)(hg:Gl X x)(hm:X.mg x=Y')(hv:Sj x=Z' u)(h:Q u s)
  (hn:x≠"__name__":=by decide) (hd:(x==("__debug__":Str))=Y1:=by decide):QZ @o X.A @sJ Q E s:=by
 obtain⟨mb,h1,h2⟩:=I.mod.blt;exact WN I.ok.kind hg (Calls.loadGlobal_builtin (by rw[I.ok.glob];exact I.mod.glob.keeps I.bk) hm (by rw[I.ok.blt];exact h1.keeps I.bk) ((h2 x hn).trans hv) h) hd
theorem zX {x:Str} {v:V} {u:Value} {pos:SL} (hg:Gl X x) (hm:X.mg x=Z' u) (r:RelV v u) (hd:(x==("__debug__":Str))=Y1:=by decide):PE X @aE (tC v):=
 λ_ _ _ H _ I h=>lI I hg hm @kx hd
theorem A0 {x:Str} {v:V} {u:Value} {pos:SL} (hg:Gl X x) (hm:X.mg x=Y') (hv:Sj x=Z' u) (r:RelV v u) (hn:x≠"__name__":=by decide) (hd:(x==("__debug__":Str))=Y1:=by decide):PE X @aE (tC v):=
 λ_ _ _ H _ I h=>oj I hg hm hv @kx hn hd
variable{a b:Expr}{ta tb:TE}{pos:SL}
noncomputable def tB(t:TE):TT:=fun σ H Q=>t σ H λx H1=>∃c,x=.bl c/\Q c H1
theorem Ji{e:Expr}{t:TE}(h:PE X e t)(he:∀whole,isTrue e X.env whole=(do let v<- whole;US e.pos;V2 [v] @h4):=by intro _;rfl):PT X e (tB t):=by
 intro J' s σ H Q I hw;refine isTrue_plain (Yl @qx λv s1 ⟨x,H1,I1,r1,q1⟩=>?_) (he _);obtain⟨d,rfl,q⟩:=q1;cases r1;exact SK ⟨H1,I1,q⟩
variable{tA tB':TT}{rest:List Expr}
noncomputable def Pk(t u:TT):TT:=fun σ H Q=>t σ H λc H1=>if c=Y2 then u σ H1 Q else Q Y1 H1
noncomputable def tOr(t u:TT):TT:=fun σ H Q=>t σ H λc H1=>if c=Y2 then Q Y2 H1 else u σ H1 Q
def Pe(t:TT):TT:=fun σ H Q=>t σ H λc H1=>Q (!c) H1
theorem G1(ha:PT X a tA):PW X @p0 tA:=by
 intro wh J' s σ H Q I h;refine isTrue_and (Yl @qw λc s1 e=>?_)
 grind[isTrue_and_nil]
theorem Jg(ha:PT X a tA):PW X @qh tA:=by
 intro wh J' s σ H Q I h;refine isTrue_or (Yl @qw λc s1 e=>?_)
 grind[isTrue_or_nil]
theorem Jh(ha:PT X a tA)(hb:PW X (.BoolOp .And (b::rest) pos) tB'):PW X (.BoolOp .And (a::b::rest) pos) (Pk tA tB'):=by
 intro wh J' s σ H Q I h;refine isTrue_and (Yl @bg λc s1 ⟨H1,I1,q1⟩=>?_);cases c with
|true=>exact hb wh J' s1 σ H1 Q I1 q1
|false=>exact@sX
theorem Mf(ha:PT X a tA)(hb:PW X (.BoolOp .Or (b::rest) pos) tB'):PW X (.BoolOp .Or (a::b::rest) pos) (tOr tA tB'):=by
 intro wh J' s σ H Q I h;refine isTrue_or (Yl @bg λc s1 ⟨H1,I1,q1⟩=>?_);cases c with
|true=>exact@sX
|false=>exact hb wh J' s1 σ H1 Q I1 q1
theorem Em(ha:PT X a tA):PT X @qf (Pe tA):=by
 sleep 4;exact isTrue_not (ha J' s σ H (λc H1=>Q (!c) H1) I h)
noncomputable def M5(ta tb:TE):TE:=fun σ H Q=>ta σ H λx H1=>∃c,x=.bl c/\if c=Y2 then tb σ H1 Q else Q @B H1
noncomputable def Pd(ta tb:TE):TE:=fun σ H Q=>ta σ H λx H1=>∃c,x=.bl c/\if c=Y2 then Q @L H1 else tb σ H1 Q
theorem Jr{op}{t:TE}(h:PE X a t):PE X @qL t:=λJ' s σ H Q I hw=>BoolOp_one (h J' s σ H Q I hw)
theorem Ju(ha:PE X a ta)(hb:PE X (.BoolOp .And (b::rest) pos) tb):PE X (.BoolOp .And (a::b::rest) pos) (M5 ta tb):=by
 sleep 4;refine BoolOp_and (Yl @bg λv s1 ⟨x,H1,I1,r1,q1⟩=>?_);obtain⟨c,rfl,q1⟩:=q1;cases r1;refine SK ?_;cases c with
|true=>exact hb J' s1 σ H1 Q I1 q1
|false=>exact⟨.bl Y1,H1,I1,rfl,q1⟩
theorem Mp(ha:PE X a ta)(hb:PE X (.BoolOp .Or (b::rest) pos) tb):PE X (.BoolOp .Or (a::b::rest) pos) (Pd ta tb):=by
 sleep 4;refine BoolOp_or (Yl @bg λv s1 ⟨x,H1,I1,r1,q1⟩=>?_);obtain⟨c,rfl,q1⟩:=q1;cases r1;refine SK ?_;cases c with
|false=>exact hb J' s1 σ H1 Q I1 q1
|true=>exact⟨.bl Y2,H1,I1,rfl,q1⟩
noncomputable def tIf(t:TT)(ta tb:TE):TE:=fun σ H Q=>t σ H λc H1=>if c=Y2 then ta σ H1 Q else tb σ H1 Q
theorem CP{c:Expr}(hc:PT X c tA)(ha:PE X a ta)(hb:PE X b tb):PE X @rt (tIf tA ta tb):=by
 sleep 4;refine wpAny_IfExp (Yl @qv λd s1 ⟨H1,I1,q1⟩=>?_);cases d with
|true=>exact ha J' s1 σ H1 Q I1 q1
|false=>exact hb J' s1 σ H1 Q I1 q1
end
def Zc(K:QO)(H:Hp)(a:Addr)(xs:List V):Prop:=
 Rd H a @ae ∨
  ∃(o:Obj) (Xv:Array Value) (n:Nat),K.lookup a=Z' o/\o.cls=.type "list"/\o.dict=Y'/\o.data=.seq Xv n/\Xv.size<=sizeLine/\Vals xs Xv.toList
def Zo(K:QO)(H:Hp)(a:Addr)(xs:List V):Prop:=
 Rd H a @aO ∨
  ∃(o:Obj) (Xv:Array Value) (n:Nat),K.lookup a=Z' o/\o.cls=.type "tuple"/\o.data=.seq Xv n/\Xv.size<=sizeLine/\Vals xs Xv.toList/\o.dict=Y'
noncomputable def Qt:Value->Option V
|.none=>Z' .Yj
|.bool b=>Z' @bG
|.int i _=>Z' @I
|.str x _=>Z' @H
|.bytes b _=>Z' (.byt b)
|.float b _=>Z' (.flt b)
|.ref a=>Z' @m
|.type n=>Z' (.ty n)
|_=>Y'
theorem RelV.abs{x:V}{u:Value}(r:RelV x u):Qt u=Z' x:=by
 cases x with
|Yj=>cases r;rfl
|bl _=>cases r;rfl
|int _=>obtain⟨t,rfl⟩:=r;rfl
|str _=>obtain⟨t,rfl⟩:=r;rfl
|byt _=>obtain⟨t,rfl⟩:=r;rfl
|flt _=>obtain⟨t,rfl⟩:=r;rfl
|ref _=>cases r;rfl
|ty _=>cases r;rfl
theorem RelV.inj{x y:V}{u:Value}(r:RelV x u)(q:RelV y u):x=y:=SG (r.abs.symm.trans q.abs)
theorem Vals.inj:∀{xs ys:List V}{us:List Value},Vals xs us->Vals ys us->xs=ys
|_,_,_,.nil,.nil=>rfl
|_,_,_,.cons r t,.cons r' t'=>by rw[r.inj r',Vals.inj t t']
section
variable{X:Cx}{J':List @c}{σ:St}{H:Hp}{s:QR}{a:Addr}{xs ys:List V}
theorem Zc.of{K:QO}(h:H a=Z' @ae):Zc K H a xs:=.inl (.inl h)
theorem Inv.list(I:Inv X J' σ H s)(h:Zc X.K H a xs):∃Xv:List Value,Vals xs Xv/\PlainL s.heap a Xv.toArray/\xs.length<=sizeLine:=by
 rcases h with h|⟨o,Xv,n,hk,hc,hd,hs,hz,r⟩
 .obtain⟨z,Xv,n,r,e⟩:=h.ok I.hok
  exact⟨Xv,r,⟨_,n,e,rfl,rfl,rfl⟩,z⟩
 .refine⟨Xv.toList,r,⟨o,n,I.Z6 a o hk,hc,hd,by omega⟩,?_⟩
  have e:=r.length
  simp_all
theorem Inv.tuple(I:Inv X J' σ H s)(h:Zo X.K H a xs):∃Xv:List Value,Vals xs Xv/\IsTup s.heap a Xv.toArray/\xs.length<=sizeLine:=by
 rcases h with h|⟨o,Xv,n,hk,hc,hs,hz,r,hdn⟩
 .obtain⟨z,Xv,r,p⟩:=h.ok I.hok
  exact⟨Xv,r,p.up,z⟩
 .refine⟨Xv.toList,r,⟨o,I.Z6 a o hk,hc,n,by omega⟩,?_⟩
  have e:=r.length
  simp_all
theorem Inv.af5(I:Inv X J' σ H s)(h:Zc X.K H a xs)(h':Zc X.K H a ys):xs=ys:=by
 obtain⟨Xv,r,⟨o,n,e,_,_,d⟩,_⟩:=I.list h;obtain⟨its',r',⟨o',n',e',_,_,d'⟩,_⟩:=I.list h';rw[e]at e';cases e';rw[d]at d';injection d' with d1 _;have:Xv=its':=by simpa using congrArg Array.toList d1
 subst this;exact r.inj r'
theorem Inv.ad'(I:Inv X J' σ H s)(h:Zo X.K H a xs)(h':Zo X.K H a ys):xs=ys:=by
 obtain⟨Xv,r,⟨o,e,_,n,d⟩,_⟩:=I.tuple h;obtain⟨its',r',⟨o',e',_,n',d'⟩,_⟩:=I.tuple h';rw[e]at e';cases e';rw[d]at d';injection d' with d1 _;have:Xv=its':=by simpa using congrArg Array.toList d1
 subst this;exact r.inj r'
end
abbrev Cx.Z2(X:Cx)(E:Value->QR->Prop):Cx:={X with xe:=E}
abbrev Cx.nox(X:Cx):Cx:=X.Z2 λ_ _=>False
theorem Cx.Ok.Z2{X:Cx}(ok:X.Ok)(E:Value->QR->Prop):(X.Z2 E).Ok:=
 ⟨ok.mod,ok.kind,ok.glob,ok.blt,ok.above,ok.inj,ok.has,ok.cab,ok.hd,ok.frames,ok.stk,ok.exf,ok.bs,ok.bsz,ok.ab7,ok.ae9,ok.Zi,ok.frf⟩
theorem Cx.Ok.YD{X:Cx}{E:Value->QR->Prop}(ok:(X.Z2 E).Ok):X.Ok:=
 ⟨ok.mod,ok.kind,ok.glob,ok.blt,ok.above,ok.inj,ok.has,ok.cab,ok.hd,ok.frames,ok.stk,ok.exf,ok.bs,ok.bsz,ok.ab7,ok.ae9,ok.Zi,ok.frf⟩
section
variable{X:Cx}{J':List @c}{σ:St}{H:Hp}{s:QR}{E:Value->QR->Prop}
theorem Inv.Z2(I:Inv X J' σ H s)(E:Value->QR->Prop):Inv (X.Z2 E) J' σ H s:=⟨I.ok.Z2 E,I.os,I.bare,I.base,I.loc,I.cell,I.free,I.YJ,I.pin,I.hok,I.len⟩
theorem Inv.YD(I:Inv (X.Z2 E) J' σ H s):Inv X J' σ H s:=⟨I.ok.YD,I.os,I.bare,I.base,I.loc,I.cell,I.free,I.YJ,I.pin,I.hok,I.len⟩
theorem SP.YD{D:Ends}{f:Flow}{s':QR}(h:SP (X.Z2 E) J' D f s'):SP X J' D f s':=by
 cases f with
|next=>obtain⟨σ',H',I,q⟩:=h;exact@jX
|brk=>obtain⟨σ',H',I,q⟩:=h;exact@jX
|cont=>obtain⟨σ',H',I,q⟩:=h;exact@jX
|ret u=>obtain⟨v,σ',H',I,r,q⟩:=h;exact⟨v,σ',H',I.YD,r,q⟩
theorem PSs.nox{st:List Stmt}{t:TS}(h:PSs X.nox st t):PSs X st t:=λJ' s σ H D I hw=>
 Rz (h J' s σ H D (I.Z2 _) hw) (λ_ _ q=>q.YD) λ_ _ z=>QS z
end
section
variable{X:Cx}{st:Stmt}{rest:List Stmt}{t u:TS}{e:Expr}{te:TE}{pos:SL}
def LY:TS:=λD σ H=>D.nx σ H
def ah7(t u:TS):TS:=λD σ H=>t {D with nx:=u D} σ H
theorem zH:PSs X [] LY:=λ_ _ σ H _ I h=>U1 @sQ
theorem mV(h1:PS X st t)(h2:PSs X rest u):PSs X (st::rest) (ah7 t u):=by
 sleep 8;refine WW (Yl (h1 J' s σ H {D with nx:=u D} I h) λf s1 q=>?_);cases f with
|next=>
  obtain⟨σ',H',I',q⟩:=q;exact h2 J' s1 σ' H' D I' q
|ret v=>exact q
|brk=>exact q
|cont=>exact q
theorem vb(h1:PS X st t):PSs X [st] t:=by
 sleep 8;refine WW (Yl (h1 J' s σ H D I h) λf s1 q=>?_)
 grind[U1,ret]
theorem Inv.quiet{J':List @c}{σ:St}{H:Hp}{s:QR}(I:Inv X J' σ H s):interactive X.env=Y1:=by simp[interactive,I.ok.kind]
def M0(te:TE):TS:=λD σ H=>te σ H λ_ H1=>D.nx σ H1
theorem nS(he:PE X e te)(hs:SR e Y' pos.line X.env=pure Y1:=by rfl):PS X (.Expr e pos) (M0 te):=by
 sleep 8;exact wpAny_Expr_any (Yl @da λv s1 ⟨x,H1,I1,r1,q1⟩=>⟨σ,H1,I1,q1⟩) I.quiet hs
def Pc(te:TE):TS:=λD σ H=>te σ H D.rt
theorem wy(he:PE X e te):PS X @jW (Pc te):=by
 sleep 8;exact wpAny_Return_some (Yl @da λv s1 ⟨x,H1,I1,r1,q1⟩=>⟨x,σ,H1,I1,r1,q1⟩)
noncomputable def Pg(c:TT)(t u:TS):TS:=λD σ H=>c σ H λb H1=>if b=Y2 then t D σ H1 else u D σ H1
theorem Jj{c:Expr}{a b:List Stmt}{tc:TT}(hc:PT X c tc)(ha:PSs X a t)(hb:PSs X b u):PS X @kI (Pg tc t u):=by
 sleep 8;refine wpAny_If (Yl @qv λd s1 ⟨H1,I1,q1⟩=>?_);cases d with
|true=>exact ha J' s1 σ H1 D I1 q1
|false=>exact hb J' s1 σ H1 D I1 q1
end
abbrev TG:=V->St->Hp->(St->Hp->Prop)->Prop
abbrev TGs:=List V->St->Hp->(St->Hp->Prop)->Prop
def PG(X:Cx)(target:Expr)(t:TG):Prop:=
 ∀(J':List @c)(s:QR)(σ:St)(H:Hp)(v:V)(u:Value)(Q:St->Hp->Prop),Inv X J' σ H s->RelV v u->t v σ H Q->
  QZ @o X.A (W8 target X.env u) (λ_ s'=>∃σ' H',Inv X J' σ' H' s'/\Q σ' H') X.xe s
def PGs(X:Cx)(ts:List Expr)(t:TGs):Prop:=
 ∀(J':List @c)(s:QR)(σ:St)(H:Hp)(vs:List V)(us:List Value)(Q:St->Hp->Prop),Inv X J' σ H s->Vals vs us->t vs σ H Q->
  QZ @o X.A (assignInOrder ((SJ ts X.env).map @s) us) (λ_ s'=>∃σ' H',Inv X J' σ' H' s'/\Q σ' H') X.xe s
abbrev Qx:=V->V->V->Hp->(Hp->Prop)->Prop
section
variable{X:Cx}{pos:SL}
def Ki(i:Nat):TG:=λv σ H Q=>Q @e2 H
theorem vd{i:Nat}{x:Str}(hN:X.N.Nodup)(hi:X.N[i]?=Z' x)(hx:Loc X.env.scope x)(hf:X.fn x=Y2\/X.env.scope.names.lookup x=Z' .local:=by first|exact .inl rfl|exact .inr rfl|assumption):PG X @aE (Ki i):=by
 intro J' s σ H v u Q I r h;exact wpAny_assign_Name (mQ I hN hi hx r (λs' I'=>⟨_,H,I',h⟩) hf)
def Qh:TGs:=λvs σ H Q=>vs=[]/\Q σ H
noncomputable def N6(t:TG)(u:TGs):TGs:=λvs σ H Q=>∃v r,vs=v::r/\t v σ H fun σ' H'=>u r σ' H' Q
theorem zP:PGs X [] Qh:=by
 intro J' s σ H vs us Q I r h;obtain⟨e,h⟩:=h;subst e;cases r;exact assignInOrder_nil @sQ
theorem wA{e:Expr}{es:List Expr}{t:TG}{u:TGs}(h1:PG X e t)(h2:PGs X es u)
  (hs:(SJ (e::es) X.env).map @s=W8 e X.env::(SJ es X.env).map @s:=by rfl):PGs X (e::es) (N6 t u):=by
 intro J' s σ H vs us Q I r h;obtain⟨v,vr,e1,h⟩:=h;subst e1;cases r with
|cons r rr=>
  rw[hs];refine assignInOrder_cons (Yl (h1 J' s σ H _ _ _ I r h) λ_ s1 ⟨σ1,H1,I1,q1⟩=>?_);exact h2 J' s1 σ1 H1 _ _ Q I1 rr q1
noncomputable def Qg(K:QO)(n:Nat)(t:TGs):TG:=λv σ H Q=>∃a xs,v=.ref a/\Zo K H a xs/\xs.length=n/\t xs σ H Q
theorem Ep{es:List Expr}{k:Nat}{t:TGs}{n:Nat}(hc:X.calm=Y2)(h:PGs X es t)
  (hn:(SJ es X.env).length=n:=by rfl) (hst:(SJ es X.env).findIdx? @d=Y':=by rfl):PG X @e3 (Qg X.K n t):=by
 intro J' s σ H v u Q I r hw;obtain⟨a,xs,e1,hq,hl,hw⟩:=hw;subst e1;cases r;obtain⟨Xv,rv,ht,hz⟩:=I.tuple hq;refine assign_Tuple_tuple @aF ht (by simp[hn,<-hl,rv.length]) hst λh' hx=>?_;have I1:Inv X J' σ H {s with heap:=h'}:=I.kept (t':=s.toks) λb o e=>hx b o (RY @bI) e;exact h J' _ σ H xs _ Q I1 @q hw
noncomputable def OS(to ti:TE)(t:Qx):TG:=λv σ H Q=>to σ H λo H1=>ti σ H1 λi H2=>t o i v H2 λH3=>Q σ H3
noncomputable def Oh(te:TE)(g:TG):TS:=λD σ H=>te σ H λx H1=>g x σ H1 D.nx
theorem Jk{tg e:Expr}{te:TE}{g:TG}(he:PE X e te)(hg:PG X tg g)(hs:swapsWithSole [tg] e pos.line X.env=pure Y1:=by rfl)(hw:swappedStores [tg] e X.env=pure Y':=by rfl)
  (h1:(SJ [tg] X.env).map @s=[W8 tg X.env]:=by rfl):PS X @qO (Oh te g):=by
 sleep 8;refine wpAny_Assign_stores (Yl @da λv s1 ⟨x,H1,I1,r1,q1⟩=>?_) hs hw;rw[h1];exact Yl (hg J' s1 σ H1 x v _ I1 r1 q1) λ_ s2 q=>q
theorem wx{i:Nat}{x:Str}{e:Expr}{te:TE}{pos':SL}(hN:X.N.Nodup)(hi:X.N[i]?=Z' x)(hx:Loc X.env.scope x)(he:PE X e te)(hs:SR e @eX pos.line X.env=pure Y1:=by rfl)(hf:X.fn x=Y2\/X.env.scope.names.lookup x=Z' .local:=by first|exact .inl rfl|exact .inr rfl|assumption):
  PS X @eO (Oh te (Ki i)):=by
 sleep 8;refine wpAny_Assign_Name (Yl @da λv s1 ⟨y,H1,I1,r1,q1⟩=>?_) hs;exact mQ I1 hN hi hx r1 (λs2 I2=>⟨_,H1,I2,q1⟩) hf
end
section
variable{X:Cx}{pos:SL}
noncomputable def J0(c:TT)(tb:TS):TS:=λD σ H=>∃W:Nat->St->Hp->Prop,(∃m,W m σ H)/\∀m σ H,W m σ H->
 c σ H λb H1=>if b=Y2 then ∃N:St->Hp->Prop,(∀σ' H',N σ' H'->∃m',m'<m/\W m' σ' H')/\tb {D with nx:=N,ct:=N,bk:=D.nx} σ H1 else D.nx σ H1
theorem CG{c:Expr}{body:List Stmt}{tc:TT}{tb:TS}(hp:Vo @o X.A X.env X.xe)(hc:PT X c tc)(hb:PSs X body tb):PS X (.While c body [] pos) (J0 tc tb):=by
 sleep 8;obtain⟨W,⟨m0,w0⟩,turn⟩:=h;refine wpAny_While (codeAny_whileLoop (λn s'=>∃σ' H',Inv X J' σ' H' s'/\W n σ' H') ?_ m0 ⟨σ,H,I,w0⟩);rintro n s1 ⟨σ1,H1,I1,w1⟩;refine TU hp (Yl (hc J' s1 σ1 H1 _ I1 (turn n σ1 H1 w1)) λb s2 ⟨H2,I2,q2⟩=>?_);cases b with
|true=>
  obtain⟨N,hN,q2⟩:=q2;rw[if_pos rfl];refine TU hp (Yl (hb J' s2 σ1 H2 _ I2 q2) λf s3 q3=>?_);cases f with
  |next=>
   obtain⟨σ3,H3,I3,n3⟩:=q3
   grind
  |cont=>
   obtain⟨σ3,H3,I3,n3⟩:=q3
   grind
  |brk=>exact q3
  |ret v=>exact q3
|false=>
  rw[if_neg RA];exact U1 ⟨σ1,H2,I2,q2⟩
end
structure It where
 go:Nat->Hp->Prop
 yld:Nat->Hp->V->Hp->Prop
 stop:Nat->Hp->Prop
def uO(X:Cx)(J':List @c)(H:Hp)(b:Addr):Prop:=
 H b=Y'/\b≠X.env.locals/\b∉X.fs/\(b∈X.ex\/X.s₀.heap.objs.size<=b)/\(∀x c,X.env.cells.lookup x=Z' c->c≠b)/\∀p∈X.pn++J',p.1≠b
theorem Inv.ZK{X:Cx}{J':List @c}{σ:St}{H H':Hp}{s:QR}{b:Addr}(I:Inv X J' σ H s)(hb:s.heap.objs.size<=b)(hn:H' b=Y'):uO X J' H' b:=by
 refine⟨hn,Tf (QX I.lt hb),I.nofs hb,.inr (Rg I.sz hb),λx c e z=>?_,λp hp z=>?_⟩
 .obtain⟨v,q⟩:=I.cell x c e
  exact absurd (QX q.lt @i) (Ru _)
 .exact absurd (QX (QY (I.pin p hp).1) @i) (Ru _)
structure Turn(P:R8)(w:RH)(K:QO)(tg:Expr)(J:It)(fp:List Addr)(it:Addr)(tn:Nat->Heap->Prop):Prop where
 mem:it∈fp
 obj:∀i h,tn i h->∀b∈fp,∃o,h.get? b=Z' o/\∀v,o.data≠.cell v
 keep:∀i h h',tn i h->(∀b∈fp,∀o,h.get? b=Z' o->h'.get? b=Z' o)->tn i h'
 item:∀(X:Cx),X.prog=P->X.w=w->X.K=K->X.calm=Y2->∀(i:Nat)(J':List @c)(s:QR)(σ:St)(H:Hp)(E:Value->QR->Prop),Inv X J' σ H s->(∀b∈fp,uO X J' H b)->tn i s.heap->J.go i H->
  QZ @bo X.A (pyNext @ap) (λr s1=>∃u,r=Z' u/\
   QZ @bo X.A @tm (λ_ s2=>∃x H',Inv X J' σ H' s2/\RelV x u/\J.yld i H x H'/\tn (i+1) s2.heap/\∀b∈fp,H' b=Y') E s1) E s
 done:∀(X:Cx),X.prog=P->X.w=w->X.K=K->X.calm=Y2->∀(i:Nat)(J':List @c)(s:QR)(σ:St)(H:Hp)(E:Value->QR->Prop),Inv X J' σ H s->(∀b∈fp,uO X J' H b)->tn i s.heap->J.stop i H->
  QZ @bo X.A (pyNext @ap) (λr s1=>r=Y'/\Inv X J' σ H s1) E s
 self:∀(A:RV)(i:Nat)(s:QR)(Q:Value->QR->Prop)(E:Value->QR->Prop),tn i s.heap->Q @ap s->QZ @bo A @k2 Q E s
abbrev TI:=St->Hp->(It->Hp->Prop)->Prop
def PIE(X:Cx)(J':List @c)(σ:St)(tg:Expr)(R:It->Hp->Prop)(itv:Value)(s2:QR):Prop:=
 ∃(it:Addr)(fp:List Addr)(tn:Nat->Heap->Prop)(J:It)(H':Hp),itv=.ref it/\Inv X J' σ H' s2/\Turn X.prog X.w X.K tg J fp it tn/\tn 0 s2.heap/\(∀b∈fp,uO X J' H' b)/\R J H'
def PI(X:Cx)(tg iter:Expr)(wi:TI):Prop:=
 ∀(J':List @c)(s:QR)(σ:St)(H:Hp)(R:It->Hp->Prop),Inv X J' σ H s->wi σ H R->
  QZ @o X.A (Rj iter X.env) (λv s1=>QZ @o X.A (pyIter v) @rp X.xe s1) X.xe s
theorem AN{M:Wo}{A:RV}{E:Value->QR->Prop}{s:QR}{tg:Expr}{it:Addr}{u:Value}{o:Obj}{n:String}{vs:Array Value}{Q:Unit->QR->Prop}(ho:s.heap.get? it=Z' o)(hc:o.cls=.type n)(hd:o.data=.fields vs)
  (hn:["enumerate","zip","dict_itemiterator","dict_reverseitemiterator","odict_iterator","itertools.zip_longest","itertools.pairwise"].contains n=Y1) (hQ:Q () s):QZ M A @tm Q E s:=by
 unfold VZ;cases tg<;>grind[QW,QQ,wpAny_load,QZ,contains,T5]
noncomputable def Itl(K:QO)(a:Addr):It:=
 ⟨λi H=>∃xs x,Zc K H a xs/\xs[i]?=Z' x,λi H x H'=>H'=H/\∀xs,Zc K H a xs->xs[i]?=Z' x,λi H=>∃xs,Zc K H a xs/\xs.length<=i⟩
noncomputable def Itt(K:QO)(a:Addr):It:=
 ⟨λi H=>∃xs x,Zo K H a xs/\xs[i]?=Z' x,λi H x H'=>H'=H/\∀xs,Zo K H a xs->xs[i]?=Z' x,λi H=>∃xs,Zo K H a xs/\xs.length<=i⟩
noncomputable def Itr(lo:Int)(n:Nat):It:=⟨λi _=>i<n,λi H x H'=>H'=H/\x=.int (lo+i),λi _=>n<=i⟩
theorem sN{P:R8}{w:RH}{K:QO}{tg:Expr}(a it:Addr):Turn P w K tg @mq [it] it (λi h=>h.IsListIter it a i) where
 mem:=by simp
 obj:=λi h st b hb=>by
  have e:b=it:=by simpa using hb
  subst e;obtain⟨o,e,c,d⟩:=st;exact⟨o,e,λv z=>by rw[d]at z;cases z⟩
 keep:=λi h h' st k=>st.at λo e=>k it @a o e
 item:=by
  sleep 5;subst hP hw hK;obtain⟨xs,x,hq,hx⟩:=hg;obtain⟨Xv,rv,p,hz⟩:=I.list hq;obtain⟨u,hu,ru⟩:=rv.get hx;sleep 10;refine Xi st p.isList (x:=u) (by simpa using hu) λh' st' sb=>?_;have I1:Inv X J' σ H {s with heap:=h'}:=I.turned (t':=s.toks) @gj f0 f1 f3 f4 f5;obtain⟨o,e,c,d⟩:=id st';exact⟨u,rfl,AN (s:={s with heap:=h'}) e c d @h ⟨x,H,I1,ru,⟨rfl,λys hy=>by rw[I.af5 hy hq];exact hx⟩,st',λb hb=>(hf b hb).1⟩⟩
 done:=by
  sleep 5;subst hP hw hK;obtain⟨xs,hq,hx⟩:=hg;obtain⟨Xv,rv,p,hz⟩:=I.list hq;sleep 10;have hl:=rv.length;exact wpAny_pyNext_list_end @aF st p.isList (by simp;simp_all) λh' eb=>⟨rfl,I.turned (t':=s.toks) @gw f0 f1 f3 f4 f5⟩
 self:=λ_ _ _ _ _ st h=>wpAny_pyIter_listiter st h
theorem xE{P:R8}{w:RH}{K:QO}{tg:Expr}(a it:Addr):Turn P w K tg (Itt K a) [it] it (λi h=>h.IsTupleIter it a i) where
 mem:=by simp
 obj:=λi h st b hb=>by
  have e:b=it:=by simpa using hb
  subst e;obtain⟨o,e,c,d⟩:=st;exact⟨o,e,λv z=>by rw[d]at z;cases z⟩
 keep:=λi h h' st k=>st.at λo e=>k it @a o e
 item:=by
  sleep 5;subst hP hw hK;obtain⟨xs,x,hq,hx⟩:=hg;obtain⟨Xv,rv,p,hz⟩:=I.tuple hq;obtain⟨u,hu,ru⟩:=rv.get hx;sleep 10;refine wpAny_pyNext_tuple_item st (show s.heap.IsTuple a Xv.toArray from p) (x:=u) (by simpa using hu) λh' st' sb=>?_;have I1:Inv X J' σ H {s with heap:=h'}:=I.turned (t':=s.toks) @gj f0 f1 f3 f4 f5;obtain⟨o,e,c,d⟩:=id st';exact⟨u,rfl,AN (s:={s with heap:=h'}) e c d @h ⟨x,H,I1,ru,⟨rfl,λys hy=>by rw[I.ad' hy hq];exact hx⟩,st',λb hb=>(hf b hb).1⟩⟩
 done:=by
  sleep 5;subst hP hw hK;obtain⟨xs,hq,hx⟩:=hg;obtain⟨Xv,rv,p,hz⟩:=I.tuple hq;sleep 10;have hl:=rv.length;exact wpAny_pyNext_tuple_end @aF st (show s.heap.IsTuple a Xv.toArray from p) (by simp;simp_all) λh' eb=>⟨rfl,I.turned (t':=s.toks) @gw f0 f1 f3 f4 f5⟩
 self:=λ_ _ _ _ _ st h=>wpAny_pyIter_tupleiter st h
theorem xG{P:R8}{w:RH}{K:QO}{tg:Expr}(it:Addr)(lo:Int)(n:Nat):Turn P w K tg (Itr lo n) [it] it (λi h=>IsRangeIter h it (lo+(i:Nat)*1) ((n:Int)-(i:Nat)) 1) where
 mem:=by simp
 obj:=λi h st b hb=>by
  simp_all
 keep:=λi h h' st k=>k it @a _ st
 item:=by
  sleep 5;subst hP hw hK;sleep 10;have W:=Walks.range (prog:=X.prog) (w:=X.w) @aF it lo 1 n;refine W.item i s _ _ hg st λv h' tk hv st' kk=>?_;obtain⟨t,rfl⟩:=hv;have I1:Inv X J' σ H {s with heap:=h',toks:=tk}:=I.turned (λb o hb e=>kk b o @i e) f0 f1 f3 f4 f5;refine⟨_,rfl,AN (s:={s with heap:=h',toks:=tk}) (n:="range_iterator") st' rfl rfl ↑7 ⟨.int (lo+i),H,I1,⟨t,?_⟩,@aT,st',λb hb=>(hf b hb).1⟩⟩;rw[Int.mul_one]
 done:=by
  sleep 5;subst hP hw hK;sleep 10;exact wpAny_pyNext_range_end @aF st (by have:n<=i:=hg;grind) λh' eb=>⟨rfl,I.turned (t':=s.toks) @gw f0 f1 f3 f4 f5⟩
 self:=λ_ _ _ _ _ st h=>wpAny_pyIter_rangeiter st h
section
variable{X:Cx}{tg:Expr}
theorem Cy{J':List @c}{σ:St}{H:Hp}{s:QR}{R:It->Hp->Prop}{E:Value->QR->Prop}{lo hi:Int}{t u v:XD}{tk:Nat}(I:Inv X J' σ H s)(h1:-(2^62)<=lo)(h2:lo<2^62)(h3:-(2^62)<=hi)(h4:hi<2^62)
  (q:R (Itr lo (hi-lo).toNat) H):QZ @o X.A (pyIter @b9) @rp E {s with heap:=s.heap.push {cls:=.type "range",data:=.fields #[.int lo t,.int hi u,.int 1 v]},toks:=tk}:=by
 refine wpAny_pyIter_range (IsRange.new ..) (small_one h1 h2 h3 h4) ?_;have I1:Inv X J' σ H {s with heap:=s.heap.push {cls:=.type "range",data:=.fields #[.int lo t,.int hi u,.int 1 v]},toks:=tk}:=I.kept λb o e=>QT _ e
 refine⟨(s.heap.push {cls:=.type "range",data:=.fields #[.int lo t,.int hi u,.int 1 v]}).objs.size,[(s.heap.push {cls:=.type "range",data:=.fields #[.int lo t,.int hi u,.int 1 v]}).objs.size],_,_,H,rfl,
  I1.kept (t':=tk) λb o e=>QT _ e,xG _ lo (hi-lo).toNat,?_,λb hb=>?_,q⟩
 .have e1:lo+((0:Nat):Int)*1=lo:=by simp
  have e2:(((hi-lo).toNat:Nat):Int)-((0:Nat):Int)=Builtin.Range.rangeSize lo hi 1:=by rw[rangeSize_one];split<;>grind
  show IsRangeIter _ _ (lo+((0:Nat):Int)*1) ((((hi-lo).toNat:Nat):Int)-((0:Nat):Int)) 1;rw[e1,e2];exact RD _ rfl
 .have e:b=(s.heap.push {cls:=.type "range",data:=.fields #[.int lo t,.int hi u,.int 1 v]}).objs.size:=by simpa using hb
  subst e;exact I1.ZK @C @c8
def N1(ta:TA):TI:=fun σ H R=>ta σ H λvs H1=>∃j:Int,vs=[.int j]/\-(2^62)<=j/\j<2^62/\R (Itr 0 j.toNat) H1
theorem zN {a:Expr} {ta:TA} {p pos:SL} (hg:Gl X "range") (hm:X.mg "range"=Y') (ha:PA X [a] ta) (hs:QU [a] X.env=[(Y1,Rj a X.env)]:=by rfl):PI X tg (.Call @r0 [a] [] pos) (N1 ta):=by
 intro J' s σ H R I h;refine Call_ (oj I hg hm boot_range (T7 (Yl @gC λus s1 ⟨vs,H1,I1,r1,q1⟩=>?_) hs rfl));obtain⟨j,e,q1,q2,q⟩:=q1;subst e;cases r1 with
|cons r rr=>
  cases rr;obtain⟨t,rfl⟩:=r
  grind[call_range_1,Cy]
noncomputable def Pi(wi:TI)(g:TG)(tb:TS):TS:=λD σ H=>wi σ H λJ H1=>∃W:Nat->Nat->St->Hp->Prop,(∃m,W 0 m σ H1)/\∀i m σ H,W i m σ H->
 (J.stop i H/\D.nx σ H)\/(J.go i H/\∃N:St->Hp->Prop,(∀σ' H',N σ' H'->∃m',m'<m/\W (i+1) m' σ' H')/\∀x H',J.yld i H x H'->g x σ H' fun σ2 H2=>tb {D with nx:=N,ct:=N,bk:=D.nx} σ2 H2)
noncomputable def q8(fp:List Addr)(h:Heap):List @c:=fp.filterMap λb=>(h.get? b).map λo=>(b,o)
theorem jm{fp:List Addr}{h:Heap}{b:Addr}{o:Obj}(hb:b∈fp)(e:h.get? b=Z' o):(b,o)∈q8 fp h:=Xh.mpr ⟨b,hb,by rw[e];rfl⟩
theorem A7{fp:List Addr}{h:Heap}{p:Addr×Obj}(hp:p∈q8 fp h):p.1∈fp/\h.get? p.1=Z' p.2:=by
 obtain⟨b,hb,e⟩:=Xh.mp hp;cases q:h.get? b with
|none=>simp_all
|some o=>
  grind
theorem Inv.pinned{J':List @c}{σ:St}{H:Hp}{s:QR}{fp:List Addr}(I:Inv X J' σ H s)(hf:∀b∈fp,uO X J' H b)(ho:∀b∈fp,∃o,s.heap.get? b=Z' o/\∀v,o.data≠.cell v):Inv X (J'++q8 fp s.heap) σ H s:=
 I.Z9 λp hp=>(Ra.mp hp).elim (λz=>I.pin p @iz) λz=>by
  obtain⟨hb,e⟩:=A7 z;obtain⟨f0,f1,f2,_⟩:=hf p.1 hb
  grind
theorem Inv.YY{J' pl:List @c}{σ:St}{H:Hp}{s:QR}(I:Inv X (J'++pl) σ H s):Inv X J' σ H s:=I.Z9 λp hp=>I.pin p (RN _ (SD _ hp))
theorem En{iter:Expr}{body:List Stmt}{wi:TI}{g:TG}{tb:TS}{pos:SL}(hp:Vo @o X.A X.env X.xe)(hc:X.calm=Y2)(hi:PI X tg iter wi)(hg:PG X tg g)(hb:PSs X body tb)
  (hs:∀x,Sx iter X.env x=pure x:=by intro _;rfl):PS X (.For tg iter body [] pos) (Pi wi g tb):=by
 sleep 8;refine wpAny_For (Yl (hi J' s σ H _ I h) λv s1 h1=>Yl h1 λitv s2 h2=>?_) hs;obtain⟨it,fp,tn,J,H2,e,I2,T,st2,f2,W,⟨m0,w0⟩,turn⟩:=h2;subst e;have stat:∀{H':Hp},(∀b∈fp,H' b=Y')->∀b∈fp,uO X J' H' b:=λhn b hb=>⟨hn b hb,(f2 b hb).2⟩;refine codeAny_forLoop_any (λn s'=>∃i σ' H',Inv X J' σ' H' s'/\tn i s'.heap/\(∀b∈fp,H' b=Y')/\W i n σ' H') ?_ m0 ⟨0,σ,H2,I2,st2,λb hb=>(f2 b hb).1,w0⟩;rintro n s3 ⟨i,σ3,H3,I3,st3,fr3,w3⟩;rcases turn i n σ3 H3 w3 with⟨stop,qn⟩|⟨go,N,hN,step⟩
 .refine TU hp (Yl (T.done X rfl rfl rfl hc i J' s3 σ3 H3 X.xe I3 (stat fr3) st3 stop) λr s4 ⟨hr,I4⟩=>?_)
  subst hr;exact U1 ⟨σ3,H3,I4,qn⟩
 .refine TU hp (Yl (T.item X rfl rfl rfl hc i J' s3 σ3 H3 X.xe I3 (stat fr3) st3 go) λr s4 ⟨u,hr,h4⟩=>?_)
  subst hr;refine TU hp (Yl h4 λ_ s5 ⟨x,H5,I5,r5,y5,st5,fr5⟩=>?_);have I5':=I5.pinned (stat fr5) (T.obj _ _ st5);refine TU hp (Yl (hg _ s5 σ3 H5 x u _ I5' r5 (step x H5 y5)) λ_ s6 ⟨σ6,H6,I6,q6⟩=>?_);refine TU hp (Yl (hb _ s6 σ6 H6 _ I6 q6) λf s7 q7=>?_)
  have again:∀{σ7:St}{H7:Hp},Inv X (J'++q8 fp s5.heap) σ7 H7 s7->N σ7 H7->∃m,m<n/\∃i σ' H',Inv X J' σ' H' s7/\tn i s7.heap/\(∀b∈fp,H' b=Y')/\W i m σ' H':=λ{σ7 H7} I7 n7=>by
   obtain⟨m',hm,w7⟩:=hN σ7 H7 n7;refine⟨m',hm,i+1,σ7,H7,I7.YY,T.keep _ _ _ st5 λb hb o e=>(I7.pin (b,o) @gI).1,λb hb=>?_,w7⟩;obtain⟨o,e,d⟩:=T.obj _ _ st5 b hb;exact(I7.pin (b,o) @gI).2.1
  cases f with
  |next=>obtain⟨σ7,H7,I7,n7⟩:=q7;grind
  |cont=>obtain⟨σ7,H7,I7,n7⟩:=q7;grind
  |brk=>obtain⟨σ7,H7,I7,q7⟩:=q7;exact⟨σ7,H7,I7.YY,q7⟩
  |ret v=>obtain⟨x7,σ7,H7,I7,r7,q7⟩:=q7;exact⟨x7,σ7,H7,I7.YY,r7,q7⟩
end
abbrev R2:=V->V->Hp->VK->Prop
def YH(X:Cx)(f:Value->Value->Sem Value)(r:R2):Prop:=
 ∀(J':List @c)(s:QR)(σ:St)(H:Hp)(x y:V)(v u:Value)(Q:VK),Inv X J' σ H s->RelV x v->RelV y u->r x y H Q->
  QZ @o X.A (f v u) @aN X.xe s
def UnR(X:Cx)(f:Value->Sem Value)(r:V->Hp->VK->Prop):Prop:=
 ∀(J':List @c)(s:QR)(σ:St)(H:Hp)(x:V)(v:Value)(Q:VK),Inv X J' σ H s->RelV x v->r x H Q->
  QZ @o X.A (f v) @aN X.xe s
def gw(X:Cx)(f:Value)(r:List V->Hp->VK->Prop):Prop:=
 ∀(J':List @c)(s:QR)(σ:St)(H:Hp)(xs:List V)(us:List Value)(Q:VK),Inv X J' σ H s->Vals xs us->r xs H Q->
  QZ @o X.A (call f us) @aN X.xe s
def OU(X:Cx)(r:V->Hp->(Bool->Hp->Prop)->Prop):Prop:=
 ∀(J':List @c)(s:QR)(σ:St)(H:Hp)(x:V)(v:Value)(Q:Bool->Hp->Prop),Inv X J' σ H s->RelV x v->r x H Q->
  QZ @o X.A @h4 @kU X.xe s
noncomputable def tOp(r:R2)(ta tb:TE):TE:=fun σ H Q=>ta σ H λx H1=>tb σ H1 λy H2=>r x y H2 Q
noncomputable def tUn(r:V->Hp->VK->Prop)(ta:TE):TE:=fun σ H Q=>ta σ H λx H1=>r x H1 Q
noncomputable def rI(C:Int->Int->Prop)(g:Int->Int->V):R2:=λx y H Q=>∃i j,x=.int i/\y=.int j/\C i j/\Q @ct H
noncomputable def rI0(g:Int->Int->V):R2:=λx y H Q=>∃i j,x=.int i/\y=.int j/\Q @ct H
def rU(g:Int->V):V->Hp->VK->Prop:=λx H Q=>∃i,x=.int i/\Q (g i) H
section
variable{X:Cx}{a b c:Expr}{ta tb tc:TE}{pos:SL}
theorem Nw(ha:PE X a ta)(hb:PE X b tb){J':List @c}{s:QR}{σ:St}{H:Hp}{R:V->V->Hp->Prop}(I:Inv X J' σ H s)
  (h:ta σ H λx H1=>tb σ H1 λy H2=>R x y H2) {Q:Value->QR->Prop} {f:Value->Value->Sem Value}
  (hf:∀v u s2 x y H2,Inv X J' σ H2 s2->RelV x v->RelV y u->R x y H2->QZ @o X.A (f v u) Q X.xe s2):
  QZ @o X.A (Rj a X.env) (λv s₁=>QZ @o X.A (Rj b X.env) (λu s₂=>QZ @o X.A (f v u) Q X.xe s₂) X.xe s₁) X.xe s:=by
 refine Yl @bg λv s1 ⟨x,H1,I1,r1,q1⟩=>?_;refine Yl @gB λu s2 ⟨y,H2,I2,r2,q2⟩=>?_
 grind
theorem Jq{op:Operator}{r:R2}(ho:YH X (TV op) r)(ha:PE X a ta)(hb:PE X b tb):PE X @rb @hE:=by
 sleep 4;exact wpAny_BinOp @mO
theorem Mo{op:UnaryOp}{r:V->Hp->VK->Prop}(ho:UnR X (unaryOp op) r)(ha:PE X a ta):PE X (.UnaryOp op a pos) (tUn r ta):=by
 sleep 4;exact UnaryOp_ (Yl @bg λv s1 ⟨x,H1,I1,r1,q1⟩=>ho J' s1 σ H1 x v Q I1 r1 q1)
theorem opI{f:Value->Value->Sem Value}{C:Int->Int->Prop}{g:Int->Int->Int}
  (rule:∀(i j:Int)(t u:XD)(s:QR)(Q:Value->QR->Prop)(E:Value->QR->Prop),C i j->Q @rs {s with toks:=s.toks+1}->QZ @o X.A @jv Q E s):
  YH X f (rI C λi j=>.int @ct):=by
 sleep 6;obtain⟨i,j,rfl,rfl,hc,q⟩:=h;sleep 3;sleep 7;exact rule i j t t' s _ _ hc @n2
theorem PP{f:Value->Value->Sem Value}{g:Int->Int->Int}
  (rule:∀(i j:Int)(t u:XD)(s:QR)(Q:Value->QR->Prop)(E:Value->QR->Prop),Q @rs {s with toks:=s.toks+1}->QZ @o X.A @jv Q E s):
  YH X f (rI0 λi j=>.int @ct):=by
 sleep 6;obtain⟨i,j,rfl,rfl,q⟩:=h;sleep 3;sleep 7;exact rule i j t t' s _ _ @n2
theorem Mx{f:Value->Value->Sem Value}{g:Int->Int->Bool}
  (rule:∀(i j:Int)(t u:XD)(s:QR)(Q:Value->QR->Prop)(E:Value->QR->Prop),Q (.bool @ct) s->QZ @o X.A @jv Q E s):
  YH X f (rI0 λi j=>.bl @ct):=by
 sleep 6;obtain⟨i,j,rfl,rfl,q⟩:=h;sleep 3;sleep 7;exact rule i j t t' s _ _ ⟨.bl @ct,H,I,rfl,q⟩
def QA(i j:Int):Prop:=0<j/\j<1073741824
def NF(i j:Int):Prop:=(-(2^64)<i/\i<2^64)\/(-(2^64)<j/\j<2^64)
theorem NF.ok{i j:Int}(h:NF i j):IntMulOk i j:=by
 rcases h with⟨h1,h2⟩|⟨h1,h2⟩
 .exact .of_left @p7
 .exact .of_right @p7
theorem JA:YH X @il (rI0 λi j=>.int (i+j)):=PP λ_ _ _ _ _ _ _ q=>add_int q
theorem Jx:YH X (TV .Mult) (rI NF λi j=>.int (i*j)):=opI λ_ _ _ _ _ _ _ hc q=>mul_int q hc.ok
theorem Gi:YH X @tn (rI QA λi j=>.int (i/j)):=opI λi j _ _ _ _ _ hc q=>by
 have h1:(0:Int)<j:=hc.1;have h2:j<1073741824:=hc.2
 grind[floordiv_int,Int.fdiv_eq_ediv_of_nonneg,PyProof.noPylong_small]
theorem Jy:YH X (TV .Mod) (rI (λ_ j=>0<j) λi j=>.int (i%j)):=opI λi j _ _ _ _ _ hc q=>by
 grind[mod_int',Int.fmod_eq_emod_of_nonneg]
theorem unI{f:Value->Sem Value}{g:Int->Int}
  (rule:∀(i:Int)(t:XD)(s:QR)(Q:Value->QR->Prop)(E:Value->QR->Prop),Q (.int (g i) s.toks) {s with toks:=s.toks+1}->QZ @o X.A (f @fE) Q E s):
  UnR X f (rU λi=>.int (g i)):=by
 intro J' s σ H x v Q I rx h;obtain⟨i,rfl,q⟩:=h;sleep 3;exact rule i t s _ _ ⟨.int (g i),H,I.tok _,@O,q⟩
theorem IT:UnR X (unaryOp .USub) (rU λi=>.int (-i)):=unI λ_ _ _ _ _ q=>neg_int q
end
noncomputable def Ef:V->V->Bool
|.Yj,.Yj=>Y2|.Yj,.int _=>Y2|.int _,.Yj=>Y2|.Yj,.bl _=>Y2|.bl _,.Yj=>Y2|.Yj,.str _=>Y2|.str _,.Yj=>Y2
|.int _,.int _=>Y2|.bl _,.bl _=>Y2|.str _,.str _=>Y2|.byt _,.byt _=>Y2
|.int _,.str _=>Y2|.str _,.int _=>Y2|.bl _,.str _=>Y2|.str _,.bl _=>Y2
|_,_=>Y1
def rEq:R2:=λx y H Q=>Ef x y=true/\Q (.bl (decide (x=y))) H
def rNe:R2:=λx y H Q=>Ef x y=Y2/\Q (.bl (!decide (x=y))) H
theorem Bi{i j:Int}:decide (V.int i=V.int j)=(i==j):=by
 grind
theorem F5{i j:Bool}:decide (V.bl i=V.bl j)=(i==j):=by
 grind
theorem Bh{i j:Str}:decide (V.str i=V.str j)=(i==j):=by
 grind
theorem Bj{i j:Array UInt8}:decide (V.byt i=V.byt j)=(i.toList==j.toList):=by
 rw[VE]
 simp_all
section
variable{X:Cx}{a b c:Expr}{ta tb tc:TE}{pos:SL}
theorem bA{J':List @c}{σ:St}{H:Hp}{s:QR}{Q:VK}{k k':Bool}(I:Inv X J' σ H s)(q:Q (.bl k) H)(e:k=k'):EP X J' σ Q (.bool k') s:=by
 subst e;exact⟨.bl k,H,I,rfl,q⟩
theorem Mv:YH X (Ri .Eq) rEq:=by
 sleep 6;obtain⟨hs,q⟩:=h;cases x with
|Yj=>
  cases rx;cases y with
  |Yj=>cases ry;grind[PySem.EqNone.eq_none_none,bA]
  |bl j=>cases ry;grind[PySem.EqNone.eq_none_bool,bA]
  |int j=>obtain⟨t',rfl⟩:=ry;grind[PySem.EqNone.eq_none_int,bA]
  |str j=>obtain⟨t',rfl⟩:=ry;grind[PySem.EqNone.eq_none_str,bA]
  |_=>exact absurd (show Y1=Y2 from hs) RA
|bl i=>
  cases rx;cases y with
  |Yj=>cases ry;grind[PySem.EqNone.eq_bool_none,bA]
  |bl j=>cases ry;exact eq_bool (bA I q F5)
  |str j=>obtain⟨t',rfl⟩:=ry;grind[PySem.EqMixed.eq_bool_str,bA]
  |_=>exact absurd (show Y1=Y2 from hs) RA
|int i=>
  sleep 3;cases y with
  |Yj=>cases ry;grind[PySem.EqNone.eq_int_none,bA]
  |int j=>obtain⟨t',rfl⟩:=ry;exact eq_int (bA I q Bi)
  |str j=>obtain⟨t',rfl⟩:=ry;grind[PySem.EqMixed.eq_int_str,bA]
  |_=>exact absurd (show Y1=Y2 from hs) RA
|str i=>
  sleep 3;cases y with
  |Yj=>cases ry;grind[PySem.EqNone.eq_str_none,bA]
  |bl j=>cases ry;grind[PySem.EqMixed.eq_str_bool,bA]
  |int j=>obtain⟨t',rfl⟩:=ry;grind[PySem.EqMixed.eq_str_int,bA]
  |str j=>obtain⟨t',rfl⟩:=ry;exact eq_str (bA I q Bh)
  |_=>exact absurd (show Y1=Y2 from hs) RA
|byt i=>
  sleep 3;cases y with
  |byt j=>obtain⟨t',rfl⟩:=ry;exact PySem.W.eq_bytes (bA I q Bj)
  |_=>exact absurd (show Y1=Y2 from hs) RA
|_=>cases y<;>exact absurd (show Y1=Y2 from hs) RA
theorem Mr:YH X (Ri .NotEq) rNe:=by
 sleep 6;obtain⟨hs,q⟩:=h;cases x with
|Yj=>
  cases rx;cases y with
  |Yj=>cases ry;grind[PySem.EqNone.ne_none_none,bA]
  |bl j=>cases ry;grind[PySem.EqNone.ne_none_bool,bA]
  |int j=>obtain⟨t',rfl⟩:=ry;grind[PySem.EqNone.ne_none_int,bA]
  |str j=>obtain⟨t',rfl⟩:=ry;grind[PySem.EqNone.ne_none_str,bA]
  |_=>exact absurd (show Y1=Y2 from hs) RA
|bl i=>
  cases rx;cases y with
  |Yj=>cases ry;grind[PySem.EqNone.ne_bool_none,bA]
  |bl j=>cases ry;grind[ne_bool,bA,not,F5]
  |str j=>obtain⟨t',rfl⟩:=ry;grind[PySem.EqMixed.ne_bool_str,bA]
  |_=>exact absurd (show Y1=Y2 from hs) RA
|int i=>
  sleep 3;cases y with
  |Yj=>cases ry;grind[PySem.EqNone.ne_int_none,bA]
  |int j=>obtain⟨t',rfl⟩:=ry;grind[ne_int,bA,not,Bi]
  |str j=>obtain⟨t',rfl⟩:=ry;grind[PySem.EqMixed.ne_int_str,bA]
  |_=>exact absurd (show Y1=Y2 from hs) RA
|str i=>
  sleep 3;cases y with
  |Yj=>cases ry;grind[PySem.EqNone.ne_str_none,bA]
  |bl j=>cases ry;grind[PySem.EqMixed.ne_str_bool,bA]
  |int j=>obtain⟨t',rfl⟩:=ry;grind[PySem.EqMixed.ne_str_int,bA]
  |str j=>obtain⟨t',rfl⟩:=ry;grind[ne_str,bA,not,Bh]
  |_=>exact absurd (show Y1=Y2 from hs) RA
|byt i=>
  sleep 3;cases y with
  |byt j=>obtain⟨t',rfl⟩:=ry;grind[PySem.W.ne_bytes,bA,not,Bj]
  |_=>exact absurd (show Y1=Y2 from hs) RA
|_=>cases y<;>exact absurd (show Y1=Y2 from hs) RA
theorem Ms:YH X (Ri .Lt) (rI0 λi j=>.bl (decide (i<j))):=Mx λ_ _ _ _ _ _ _ q=>lt_int q
theorem Mt:YH X (Ri .LtE) (rI0 λi j=>.bl (decide (i<=j))):=Mx λ_ _ _ _ _ _ _ q=>le_int q
theorem Mu:YH X (Ri .Gt) (rI0 λi j=>.bl (decide (j<i))):=Mx λ_ _ _ _ _ _ _ q=>gt_int q
theorem A4:YH X (Ri .Lt) (λx y H Q=>∃i j,x=.str i/\y=.str j/\Q (.bl (decide (i.cps.toList<j.cps.toList))) H):=by
 sleep 6;obtain⟨i,j,rfl,rfl,q⟩:=h;sleep 3;sleep 7;exact lt_str (bA I q rfl)
theorem A5:YH X (Ri .In) (λx y H Q=>∃i j,x=.str i/\y=.str j/\Q (.bl (!(RI j i 0 j.length 1).isEmpty)) H):=by
 sleep 6;obtain⟨i,j,rfl,rfl,q⟩:=h;sleep 3;sleep 7;exact in_str (bA I q rfl)
theorem Jz:YH X (Ri .Is) (λx y H Q=>y=.Yj/\Q (.bl (decide (x=.Yj))) H):=by
 sleep 6;obtain⟨rfl,q⟩:=h;cases ry;refine is_none_gen (bA I q ?_)
 cases x<;>first
  |(cases rx;rfl)
  |(obtain⟨t,rfl⟩:=rx;rfl)
theorem Gh:YH X (Ri .IsNot) (λx y H Q=>y=.Yj/\Q (.bl (!decide (x=.Yj))) H):=by
 sleep 6;obtain⟨rfl,q⟩:=h;cases ry;refine isnot_none_gen (bA I q ?_)
 cases x<;>first
  |(cases rx;rfl)
  |(obtain⟨t,rfl⟩:=rx;rfl)
def isObj:HO->Bool
|.lst _=>Y2
|.ins _ _ _=>Y2
|_=>Y1
theorem wK(b:Expr){op:WM}(h:op≠.In:=by decide)(h2:op≠.NotIn:=by decide):TZ op b=Y1:=by
 have e1:(op==CmpOp.In)=Y1:=by cases op<;>first|rfl|exact absurd rfl h
 have e2:(op==CmpOp.NotIn)=Y1:=by cases op<;>first|rfl|exact absurd rfl h2
 cases b<;>simp[TZ,e1,e2]
theorem zZ{op:WM}{r:R2}(ho:YH X @b5 r)(ha:PE X a ta)(hb:PE X b tb)(hm:TZ op b=Y1):PE X @dH @hE:=by
 sleep 4;exact wpAny_Compare1 @mO hm
noncomputable def J2(t:TE):TT:=fun σ H Q=>t σ H λx H'=>∃k,x=.bl k/\Q k H'
theorem zG{op:WM}{r:R2}(ho:YH X @b5 r)(ha:PE X a ta)(hb:PE X b tb)(hm:TZ op b=Y1):PT X @dH (J2 @hE):=by
 sleep 4
 refine wpAny_isTrue_Compare1 (Yl @bg λv s1 ⟨x,H1,I1,r1,q1⟩=>Yl @gB λu s2 ⟨y,H2,I2,r2,q2⟩=>
  Yl @i6 λc s3 ⟨z,H3,I3,r3,k,e,q3⟩=>?_) hm
 subst e;cases r3;exact SK ⟨H3,I3,q3⟩
noncomputable def Ed(r r':R2)(ta tb tc:TE):TE:=fun σ H Q=>ta σ H λx H1=>tb σ H1 λy H2=>r x y H2 λz H3=>∃k,z=.bl k/\
 (if k=Y2 then tc σ H3 λw' H4=>r' y w' H4 Q else Q @B H3)
theorem CQ{op op':WM}{r r':R2}(ho:YH X @b5 r)(ho':YH X @iy r')(ha:PE X a ta)(hb:PE X b tb)(hc:PE X c tc)
  (hm:Xb @fQ [b,c]=Y1:=by with_unfolding_all rfl):PE X @gq @rq:=by
 sleep 4
 refine Compare_chain (Yl @bg λv s1 ⟨x,H1,I1,r1,q1⟩=>chain_link (Yl @gB λu s2 ⟨y,H2,I2,r2,q2⟩=>
  Yl @i6 λd s3 ⟨z,H3,I3,r3,k,e,q3⟩=>?_)) hm
 subst e;cases r3;refine SK ?_;cases k with
|false=>exact ite_ff ⟨.bl Y1,H3,I3,rfl,q3⟩
|true=>exact ite_tt (chain_last (Yl @pp λw' s4 ⟨z',H4,I4,r4,q4⟩=>ho' J' s4 σ H4 y z' u w' Q I4 r2 r4 q4))
theorem CF{op op':WM}{r r':R2}(ho:YH X @b5 r)(ho':YH X @iy r')(ha:PE X a ta)(hb:PE X b tb)(hc:PE X c tc)
  (hm:Xb @fQ [b,c]=Y1:=by with_unfolding_all rfl):PT X @gq (J2 @rq):=by
 sleep 4
 refine isTrue_chain (Yl @bg λv s1 ⟨x,H1,I1,r1,q1⟩=>test_link (Yl @gB λu s2 ⟨y,H2,I2,r2,q2⟩=>
  Yl @i6 λd s3 ⟨z,H3,I3,r3,k,e,q3⟩=>?_)) hm
 subst e;cases r3;refine SK ?_;cases k with
|false=>
  obtain⟨k',e',q'⟩:=q3;cases e';exact ite_ff ⟨H3,I3,q'⟩
|true=>
  refine ite_tt (test_last (Yl @pp λw' s4 ⟨z',H4,I4,r4,q4⟩=>Yl (ho' J' s4 σ H4 y z' u w' _ I4 r2 r4 q4) λd' s5 ⟨z2,H5,I5,r5,k2,e2,q5⟩=>?_));subst e2;cases r5;exact SK ⟨H5,I5,q5⟩
def Qw(K:QO)(x:V)(H:Hp)(k:Bool):Prop:=
 match x with
|.Yj=>k=Y1
|.bl b=>k=b
|.int i=>k=(i != 0)
|.str y=>y.length<=sizeLine/\k=((y.length:Int) != 0)
|.byt y=>y.size<=sizeLine/\k=((y.size:Int) != 0)
|.ref p=>(∃xs,Zc K H p xs/\k=!xs.isEmpty)\/(∃xs,Zo K H p xs/\k=!xs.isEmpty)\/∃kvs,H p=Z' @ah/\k=!kvs.isEmpty
|_=>False
theorem qo{κ:Type}{kvs:List @av}{vs:List @cL}(r:KV kvs vs):(!vs.isEmpty)=!kvs.isEmpty:=by
 cases r<;>rfl
theorem qm{xs:List V}{Xv:List Value}(r:Vals xs Xv):(!Xv.toArray.isEmpty)=!xs.isEmpty:=by
 cases r<;>simp
theorem ue:(sizeLine:Nat)<2^63:=by rw[Rt];decide
theorem pM:OU X (λx H Q=>∃k,Qw X.K x H k/\Q k H):=by
 intro J' s σ H x v Q I rx h;obtain⟨k,e,q⟩:=h;have hl:=ue;have hs:sizeLine=16777216:=Rt;cases x with
|Yj=>
  cases rx;have e':k=Y1:=e;subst e';exact truthy_none @lz
|bl b=>
  cases rx;have e':k=b:=e;subst e';exact SK @lz
|int i=>
  sleep 3;have e':k=(i != 0):=e;subst e';exact PySem.P.truthy_int @lz
|str y=>
  sleep 3;obtain⟨hy,e'⟩:y.length<=sizeLine/\k=((y.length:Int) != 0):=e;subst e';exact PySem.P.truthy_str @b @rz
|byt y=>
  sleep 3;obtain⟨hy,e'⟩:y.size<=sizeLine/\k=((y.size:Int) != 0):=e;subst e';exact PySem.W.truthy_bytes @b @rz
|ref p=>
  cases rx;have e':(∃xs,Zc X.K H p xs/\k=!xs.isEmpty)\/(∃xs,Zo X.K H p xs/\k=!xs.isEmpty)\/∃kvs,H p=Z' @ah/\k=!kvs.isEmpty:=e;rcases e' with⟨xs,hx,e'⟩|⟨xs,hx,e'⟩|⟨kvs,hx,e'⟩
  .subst e'
   obtain⟨Xv,r,pl,hz⟩:=I.list hx;have Xy:=r.length;exact wpAny_truthy_list pl.isList @b ⟨H,I.tok _,by rw[qm r];exact q⟩
  .subst e'
   obtain⟨Xv,r,pl,hz⟩:=I.tuple hx;have Xy:=r.length;exact truthy_tuple pl @b ⟨H,I.tok _,by rw[qm r];exact q⟩
  .subst e'
   obtain⟨hz,hS,vs,r,m⟩:kvs.length<=sizeLine/\(p==SI)=Y1/\∃vs,KV kvs vs/\s.heap.DictOf (aF X.prog X.w) p vs:=I.hok p _ hx;have Xy:kvs.length=vs.length:=SH r;exact wpAny_truthy_dict hS m @b ⟨H,I.tok _,by rw[qo r];exact q⟩
|_=>exact(show False from e).elim
theorem yb:YH X @il (λx y H Q=>∃i j,x=.str i/\y=.str j/\i.length+j.length<=sizeLine/\Q (.str (i++j)) H):=by
 sleep 6;obtain⟨i,j,rfl,rfl,hz,q⟩:=h;sleep 3;sleep 7;exact add_str (λt' tk=>⟨.str (i++j),H,I.tok _,@O,q⟩) hz
theorem vals1{x:V}{us:List Value}(r:Vals [x] us):∃u,us=[u]/\RelV x u:=by
 cases r with
|cons r1 r2=>cases r2;simp_all
theorem vals2{x y:V}{us:List Value}(r:Vals [x,y] us):∃u w',us=[u,w']/\RelV x u/\RelV y w':=by
 cases r with
|cons r1 r2=>
  cases r2 with
  |cons r3 r4=>cases r4;grind
theorem uJ:gw X @k8 (λxs H Q=>(∃i,xs=[.int i]/\Q @I H)\/∃k,xs=[.bl k]/\Q (.int (if k then 1 else 0)) H):=by
 intro J' s σ H xs us Q I r h;rcases h with⟨i,rfl,q⟩|⟨k,rfl,q⟩
 .obtain⟨u,rfl,t,rfl⟩:=vals1 r
  exact call_int_int ⟨.int i,H,I,@O,q⟩
 .obtain⟨u,rfl,r1⟩:=vals1 r
  cases r1;exact call_int_bool ⟨.int (if k then 1 else 0),H,I.tok _,@O,q⟩
theorem uI:gw X (.type "str") (λxs H Q=>∃i,xs=[.int i]/\i.natAbs.log2<1920/\Q (.str (UT i)) H):=by
 intro J' s σ H xs us Q I r h;obtain⟨i,rfl,hz,q⟩:=h;obtain⟨u,rfl,t,rfl⟩:=vals1 r;exact PySem.P.str_of_int hz ⟨.str _,H,I.tok _,@O,q⟩
theorem DW:gw X @si (λxs H Q=>∃x,xs=[.str x]/\x.length=1/\Q (.int (x.cps.getD 0 0:Nat)) H):=by
 intro J' s σ H xs us Q I r h;obtain⟨x,rfl,hz,q⟩:=h;obtain⟨u,rfl,t,rfl⟩:=vals1 r;exact ord_of_one hz @jj
def Qz(K:QO)(x:V)(H:Hp)(n:Nat):Prop:=
 match x with
|.str y=>y.length<=sizeLine/\n=y.length
|.byt y=>y.size<=sizeLine/\n=y.size
|.ref p=>(∃xs,Zc K H p xs/\n=xs.length)\/∃xs,Zo K H p xs/\n=xs.length
|_=>False
theorem si:gw X @sj (λxs H Q=>∃x n,xs=[x]/\Qz X.K x H n/\Q @iD H):=by
 intro J' s σ H xs us Q I r h;obtain⟨x,n,rfl,e,q⟩:=h;obtain⟨u,rfl,rx⟩:=vals1 r;have hl:=ue;have hs:sizeLine=16777216:=Rt;cases x with
|str y=>
  sleep 3;obtain⟨hy,e'⟩:y.length<=sizeLine/\n=y.length:=e;subst e';exact len_str @b @jj
|byt y=>
  sleep 3;obtain⟨hy,e'⟩:y.size<=sizeLine/\n=y.size:=e;subst e';exact PySem.W.len_bytes @b @jj
|ref p=>
  cases rx;have e':(∃xs,Zc X.K H p xs/\n=xs.length)\/∃xs,Zo X.K H p xs/\n=xs.length:=e;rcases e' with⟨xs,hx,e'⟩|⟨xs,hx,e'⟩
  .subst e'
   obtain⟨Xv,r',pl,hz⟩:=I.list hx;have Xy:=r'.length;exact Calls.call_len_list pl.isList @b ⟨.int xs.length,H,I.tok _,⟨_,by simp only[Rb];rw[Xy]⟩,q⟩
  .subst e'
   obtain⟨Xv,r',pl,hz⟩:=I.tuple hx;have Xy:=r'.length;exact len_tuple pl @b ⟨.int xs.length,H,I.tok _,⟨_,by simp only[Rb];rw[Xy]⟩,q⟩
|_=>exact(show False from e).elim
end
structure ad2(h:Heap)(x dx C:Addr)(mA:Str->Option Value):Prop where
 obj:h.get? x=Z' @mm
 ns:h.Ns1 dx mA
 ne:dx≠x
theorem Aj{h:Heap}{dx:Addr}{mA:Str->Option Value}(n:h.Ns1 dx mA):∃od,h.get? dx=Z' od/\∀name,V9 name od=Z' (mA name):=by
 obtain⟨o,es,ep,ho,hd,hk,_,hm⟩:=n;refine⟨o,ho,λname=>?_⟩;have e:=hm name;unfold nsFind findBy at e;rw[<-Xa]at e;unfold V9;rw[hd];dsimp only
 split
 .simp_all
 .rename_i q
  rw[q]at e
  have a:es.toList.any (·.refKey)=Y1:=by
   rw[List.any_eq_false];intro y hy;obtain⟨z,t,hkey⟩:=hk y (Array.mem_toList_iff.mp hy);simp[DictEntry.refKey,hkey]
  simp_all
theorem ad2.look{h:Heap}{x dx C:Addr}{mA:Str->Option Value}(I:ad2 h x dx C mA):∃od,Xn h x @mm C (Z' od)/\∀name,V9 name od=Z' (mA name):=
 let ⟨od,ho,hl⟩:=Aj I.ns
 ⟨od,⟨I.obj,rfl,rfl,ho⟩,hl⟩
section
variable{prog:R8}{w:RH}{A:RV}{E:Value->QR->Prop}{s:QR}{K:QO}{x dx C f:Addr}{mA:Str->Option Value}{name:Str}{v:Value}
theorem GQ{expr:Bool}{Q:Value->QR->Prop}(X:K.In s.heap)(I:ad2 s.heap x dx C mA)(hg:Sw K C name=Y2)(hh:TJ K C=Y2)
  (ha:Rn K @k name=Z' Y') (hv:mA name=Z' v) (hv':XQ v=Y2) (h:Q v {s with toks:=s.toks+1}):
  QZ @r A (getAttr @bD name expr) Q E s:=by
 obtain⟨od,J,hl⟩:=I.look;exact PySem.W.get_value X J (VJ hg).1 (PySem.W.findObj_own hh ha rfl (by rw[hl,hv])) hv' h
theorem Dx{pl:Sem Bool}{Q:Value×List Value->QR->Prop}(X:K.In s.heap)(I:ad2 s.heap x dx C mA)(hg:Sw K C name=Y2)
  (hf:Rn K @k name=Z' @bC) (ht:Ut K @x=Y2) (hv:mA name=Y') (h:Q (.ref f,[.ref x]) s):
  QZ @r A (Um @bD name pl) Q E s:=by
 obtain⟨od,J,hl⟩:=I.look;exact PySem.W.method_fn X J (VJ hg).1 (VJ hg).2 hf (beq_iff_eq.mp ht) (by show (V9 name od).map (·.isSome)=Z' Y1;simp_all) h
theorem FM{ns:List Str}{Q:Unit->QR->Prop}(X:K.In s.heap)(I:ad2 s.heap x dx C mA)
  (hs:Rn K @k "__setattr__"=Z' @eK) (hp:Tv K C=Y2) (ht:Vu K C name=Z' Y') (hh:TJ K C=Y2)
  (hw:Wu mA ns) (hsz:ns.length<=sizeLine)
  (h:∀h',ad2 h' x dx C (λy=>if y=name then Z' v else mA y)->T9 dx s.heap h'->Q () {s with heap:=h',toks:=s.toks+2}):
  QZ @r A (setAttr @bD name v) Q E s:=by
 obtain⟨od,J,hl⟩:=I.look;refine PySem.W.set_plain X J hs (PySem.W.osa_open (s:={s with toks:=s.toks+1}) (r:=Y') X J hp ht λb=>?_);obtain⟨cd,hc,hd'⟩:=PySem.W.any_some hh;have hx:s.heap.get? x=Z' ⟨.ref C,Z' dx,.plain,#[]⟩:=I.obj;refine QQ (QW (QQ (QQ (wpAny_loadPart hx (QQ (PySem.W.Looks.here (s:={s with toks:=s.toks+1}) (PySem.W.looks_clsIn X hc) ?_))))));rw[hd'];refine QW (a:=Z' dx) (QQ (QW (QQ ?_)));refine wpAny_nsSet1 (s:={s with toks:=s.toks+1}) I.ns λh' hn2 hs2=>?_;obtain⟨oD,esD,epD,hoD,hdD,hcD⟩:=hn2.count (PySem.Within.cons name v hw);refine QQ (wpAny_lookBehind hoD (by grind[pastItsLine_dict,Rg,QV]) ?_);exact QW (h _ ⟨(hs2.2 _ (Rv I.ne)).trans I.obj,hn2,I.ne⟩ hs2)
theorem Dd{R:Xo->QR->Prop}{vs:List Value}{kw:List @bW}(X:K.In s.heap)(hm:Vv K C=Y2)
  (hi:Rn K @k "__init__"=Z' @bC) (hf:PySem.W.typeIn K @x=Z' (.type "function"))
  (h:Uj @r (A.under (.builtin "type.__call__" ⟨.ref C::vs,kw⟩)) (.call @x ⟨.ref (s.heap.objs.size+1)::vs,kw⟩) (PySem.W.InitBack (s.heap.objs.size+1) R)
   {s with heap:=(s.heap.push SO).push (Ss C s.heap.objs.size)}):
  Uj @r A (.call @k ⟨vs,kw⟩) R s:=by
 obtain⟨hh,g,d,t,os⟩:=s;exact PySem.W.make_core (PySem.W.makes_of X hm) (PySem.W.looks_findIn X hi) (λself=>PySem.W.bind_fn X self hf) @ad h
end
noncomputable def YE(f:Str)(v:V):List @a9->List @a9
|[]=>[(f,v)]
|(g,x)::r=>if g=f then (g,v)::r else (g,x)::YE f v r
theorem oa(f g:Str)(v:V):∀fs:List @a9,(YE f v fs).lookup g=if g=f then Z' v else fs.lookup g
|[]=>by
  show XI g [(f,v)]=_
  grind
|(k,x)::r=>by
  have ih:=oa f g v r
  grind[YE,XI]
theorem oo(f:Str)(v:V):∀fs:List @a9,f∈(YE f v fs).map @d/\∀g,g∈fs.map @d->g∈(YE f v fs).map @d
|[]=>⟨by simp[YE],λg h=>by simp at h⟩
|(k,x)::r=>by
  obtain⟨i1,i2⟩:=oo f v r
  grind[YE,RG,R6]
theorem oh(f:Str)(v:V):∀fs:List @a9,(YE f v fs).length<=fs.length+1
|[]=>by simp[YE]
|(k,x)::r=>by
  have ih:=oh f v r
  grind[YE,QV]
theorem pf.some_of{v:V}{o:Option Value}(r:pf @aR o):∃u,o=Z' u/\RelV v u:=by
 cases o with
|none=>exact(show False from r).elim
|some u=>exact⟨u,rfl,r⟩
theorem pf.none_of{o:Option Value}(r:pf Y' o):o=Y':=by
 cases o with
|none=>rfl
|some u=>exact(show False from r).elim
theorem AJ{v:V}{u:Value}(r:RelV v u):XQ u=Y2:=by
 cases v with
|Yj=>cases (show u=S6 from r);rfl
|bl b=>cases (show u=WJ b from r);rfl
|int i=>obtain⟨t,e⟩:=(show ∃t,u=Uu i t from r);cases e;rfl
|str x=>obtain⟨t,e⟩:=(show ∃t,u=U9 x t from r);cases e;rfl
|byt b=>obtain⟨t,e⟩:=(show ∃t,u=Value.bytes b t from r);cases e;rfl
|flt b=>obtain⟨t,e⟩:=(show ∃t,u=Value.float b t from r);cases e;rfl
|ref a=>cases (show u=RU a from r);rfl
|ty n=>cases (show u=WI n from r);rfl
section
variable{P:R8}{w:RH}{H H':Hp}{h h':Heap}{a C dx:Addr}{fs fs':List @a9}
theorem vB(hok:Z4 P w H h)(e:H a=Z' @cF):∃mA,ad2 h a dx C mA/\(∀f,pf @k4 (mA f))/\Wu mA (fs.map @d)/\fs.length<=1000/\H dx=Z' @el:=by
 obtain⟨d,z,ne,ob,mA,n,r,q⟩:=(show eM P w H h a (.ins C dx fs)from hok a _ e);exact⟨mA,⟨ob,n,ne⟩,r,q,z,d⟩
end
structure Cls(K:QO)(C:Addr):Prop where
 pg:Sw K C Wy=Y2
 hd:TJ K C=Y2
 po:Tv K C=Y2
 sa:Rn K @k "__setattr__"=Z' @eK
theorem Cls.get{K:QO}{C:Addr}(c:Cls K C)(f:Str):Sw K C f=Y2:=c.pg
def Yv(K:QO)(C:Addr)(f:Str):Prop:=Rn K @k f=Z' Y'
theorem Yv.taker{K:QO}{C:Addr}{f:Str}(n:Yv K C f):Vu K C f=Z' Y':=by
 unfold Vu;rw[show Rn K @k f=Z' Y' from n];rfl
structure ZL(K:QO)(C:Addr)(f:Str)(v:V)(u:Value):Prop where
 at_:Rn K @k f=Z' (Z' u)
 rel:RelV v u
 get:PySem.W.specialIn K u "__get__"=Z' Y'
 cp:PySem.W.copiedNames.contains f=Y1
structure Meth(K:QO)(C:Addr)(m:Str)(f:Addr):Prop where
 at_:Rn K @k m=Z' @bC
 fn:Ut K @x=Y2
 kp:Rl K @x=Y2
section
variable{X:Cx}{J':List @c}{σ:St}{H:Hp}{s:QR}{a C dx:Addr}{fs:List @a9}{f:Str}{v:V}{A:RV}{E:Value->QR->Prop}
theorem qp{b:Bool}{Q:Value->QR->Prop}(I:Inv X J' σ H s)(e:H a=Z' @cF)(c:Cls X.K C)(n:Yv X.K C f)(l:fs.lookup f=Z' v)
  (h:∀u s',Inv X J' σ H s'->RelV v u->Q u s'):QZ @o A (getAttr @m f b) Q E s:=by
 obtain⟨mA,O,r,_,_,_⟩:=vB I.hok e;obtain⟨u,hu,ru⟩:=pf.some_of (v:=v) (o:=mA f) @b;exact GQ I.Z6 O (c.get f) c.hd n hu (AJ ru) (h u _ @mr ru)
theorem ZA{m:Str}{g:Addr}{pl:Sem Bool}{Q:Value×List Value->QR->Prop}(I:Inv X J' σ H s)(e:H a=Z' @cF)(c:Cls X.K C)(k:Meth X.K C m g)(l:fs.lookup m=Y')
  (h:Q (.ref g,[.ref a]) s):QZ @o A (Um @m m pl) Q E s:=by
 obtain⟨mA,O,r,_,_,_⟩:=vB I.hok e;have hn:mA m=Y':=pf.none_of @b;exact Dx I.Z6 O (c.get m) k.at_ k.fn hn h
theorem pP{y:V}{u:Value}{Q:Unit->QR->Prop}(I:Inv X J' σ H s)(e:H a=Z' @cF)(c:Cls X.K C)(n:Yv X.K C f)(hl:fs.length<1000)(ry:RelV y u)
  (h:∀s',Inv X J' σ (upd H a @pH) s'->Q () s'):QZ @o A (setAttr @m f u) Q E s:=by
 obtain⟨mA,O,r,wi,_,ho⟩:=vB I.hok e;have hz:(fs.map @d).length<=sizeLine:=by rw[RB,Rt];grind
 refine FM I.Z6 O c.sa c.po n.taker c.hd wi hz λh' O' sb=>h _ ?_;have hd:∃o,h'.get? dx=Z' o:=let ⟨o,_,_,e',_⟩:=O'.ns;⟨o,e'⟩
 refine I.write (x:=a) (e:=dx) (by rw[e];exact Sq) (.inr ho) (λb q hb z=>(sb.2 b hb).trans z) hd ?_;refine⟨by rw[ai O.ne];exact ho,?_,O.ne,O'.obj,_,O'.ns,λg=>?_,λg hg=>?_⟩
 .have:=oh f y fs;grind
 .grind[pf,YE,lookup,oa]
 .by_cases q:g=f
  .rw[q];exact(oo f y fs).1
  .refine(oo f y fs).2 g (wi g λz=>hg ?_)
   simp_all
theorem Inv.made(I:Inv X J' σ H s):Inv X J' σ (upd (upd H s.heap.objs.size (.own (s.heap.objs.size+1))) (s.heap.objs.size+1) (.ins C s.heap.objs.size []))
  {s with heap:=(s.heap.push SO).push (Ss C s.heap.objs.size)}:=by
 have e1:(s.heap.push SO).get? s.heap.objs.size=Z' SO:=RD s.heap rfl
 have e2:((s.heap.push SO).push @pE).get? (s.heap.objs.size+1)=Z' @pE:=by
  have:=RD (s.heap.push SO) (o:=Ss C s.heap.objs.size) rfl
  rwa [SA]at this
 have e3:(s.heap.push SO).Ns s.heap.objs.size @lI:=⟨SO,#[],_,e1,rfl,(λe he=>absurd he @a),λ_=>rfl⟩;have I1:=I.laid (a:=s.heap.objs.size) (o:=.own (s.heap.objs.size+1)) (h':=s.heap.push SO) (t':=s.toks) @q0 @C ⟨_,e1⟩;refine I1.laid (a:=s.heap.objs.size+1) (o:=.ins C s.heap.objs.size []) (t':=s.toks) @q0 (U8 (SA _ _)) ?_;have ne:s.heap.objs.size≠s.heap.objs.size+1:=RY (V0 _);refine⟨by rw[ai ne,aq],UL _,ne,e2,λ_=>Y',(Heap.Ns1.of_empty e3).at λo q=>QT _ q,λ_=>Sq,λy hy=>absurd rfl hy⟩
theorem Hz{prog:R8}{w:RH}{env:Uz}{e:Expr}{f:Str}{pos:SL}{s:QR}{Q:Value->QR->Prop}(hb:S8 e f env (Rj e env)=Rj e env)
  (h:QZ @r A (Rj e env) (λo s₁=>QZ @r A (getAttr o f Y2) Q E s₁) E s):QZ @r A (Rj @qN env) Q E s:=
 Attribute_any_ h (by rw[arm_eval_Attribute,hb])
end
noncomputable def Pj(K:QO)(ta:TE)(f:Str):TE:=fun σ H Q=>ta σ H λx H1=>∃a C dx fs v,x=.ref a/\H1 a=Z' @cF/\Cls K C/\Yv K C f/\fs.lookup f=Z' v/\Q v H1
def ag5(K:QO)(ta tv:TE)(f:Str):TS:=λD σ H=>tv σ H λy H1=>ta σ H1 λx H2=>∃a C dx fs,x=.ref a/\H2 a=Z' @cF/\Cls K C/\Yv K C f/\fs.length<1000/\
 D.nx σ (upd H2 a @pH)
def OX(X:Cx)(op:Operator)(rd:V->V->Hp->VK->Prop):Prop:=
 ∀(J':List @c)(s:QR)(σ:St)(H:Hp)(x y:V)(u v:Value)(Q:VK),Inv X J' σ H s->RelV x u->RelV y v->rd x y H Q->QZ @o X.A (inplaceOp op u v) @aN X.xe s
def FV(K:QO)(ta tv:TE)(rd:V->V->Hp->VK->Prop)(f:Str):TS:=λD σ H=>ta σ H λx H1=>∃a C dx fs v,x=.ref a/\H1 a=Z' @cF/\Cls K C/\Yv K C f/\fs.lookup f=Z' v/\
 tv σ H1 λy H2=>rd v y H2 λz H3=>∃dx' fs',H3 a=Z' (.ins C dx' fs')/\fs'.length<1000/\D.nx σ (upd H3 a (.ins C dx' (YE f z fs')))
section
variable{X:Cx}{o e value:Expr}{f:Str}{pos pos' tpos:SL}{ta tv:TE}
theorem zY(he:PE X e ta)(hb:S8 e f X.env @lo=Rj e X.env):PE X @qN (Pj X.K ta f):=by
 sleep 4;refine Hz hb (Yl @da λu s1 ⟨x,H1,I1,rx,a,C,dx,fs,v,ex,ea,c,n,l,q⟩=>?_);subst ex;obtain rfl:u=RU a:=rx;exact qp I1 ea c n l λu' s2 I2 ru=>⟨v,H1,I2,ru,q⟩
theorem zJ(ha:PE X o ta)(hv:PE X value tv)(hs:SR value (Z' (.Attribute o f pos')) pos.line X.env=pure Y1):PS X (.Assign [.Attribute o f pos'] value pos) (ag5 X.K ta tv f):=by
 sleep 8;refine plainObj_wpAny_Assign_Attribute (Yl @qt λu s1 ⟨y,H1,I1,ry,q⟩=>Yl (ha J' s1 σ H1 _ I1 q) λov s2 ⟨x,H2,I2,rx,a,C,dx,fs,ex,ea,c,n,l,q2⟩=>?_) hs;subst ex;obtain rfl:ov=RU a:=rx;exact pP I2 ea c n l ry λs3 I3=>⟨σ,_,I3,q2⟩
theorem zI{op:Operator}{rd:V->V->Hp->VK->Prop}(ha:PE X o ta)(hv:PE X value tv)(hop:OX X op rd):PS X (.AugAssign (.Attribute o f tpos) op value pos) (FV X.K ta tv rd f):=by
 sleep 8;refine wpAny_AugAssign_AttributeAny (Yl @bg λov s1 ⟨x,H1,I1,rx,a,C,dx,fs,v,ex,ea,c,n,l,q⟩=>?_);subst ex;obtain rfl:ov=RU a:=rx;refine qp I1 ea c n l λu s2 I2 ru=>Yl (hv J' s2 σ H1 _ I2 q) λw3 s3 ⟨y,H2,I3,ry,q3⟩=>Yl (hop J' s3 σ H2 v y u w3 _ I3 ru ry q3) λw4 s4 ⟨z,H3,I4,rz,dx',fs',ea',l',q4⟩=>?_;exact pP I4 ea' c n l' rz λs5 I5=>⟨σ,_,I5,q4⟩
def PH:V->V->Hp->VK->Prop:=λx y H Q=>∃i j,x=.int i/\y=.int j/\Q (.int (i+j)) H
theorem Kb:OX X .Add PH:=by
 rintro J' s σ H x y u v Q I rx ry ⟨i,j,rfl,rfl,q⟩;obtain⟨t,rfl⟩:=(show ∃t,u=Uu i t from rx);obtain⟨t',rfl⟩:=(show ∃t',v=Uu j t' from ry);exact PyProof.Rows.iadd_int ⟨.int (i+j),H,I.tok _,@O,q⟩
end
structure Yg(k:Nat)(A:RV):Prop where
 hd:A.handled=Y'
 dp:A.depth+3*k+5<recursionLimit
 un:A.units+16*k+200<cLine
theorem Yg.mono{j k:Nat}{A:RV}(r:Yg k A)(h:j<=k):Yg j A:=⟨r.hd,by have:=r.dp;grind,by have:=r.un;grind⟩
theorem Yg.deeper{k:Nat}{A:RV}(r:Yg (k+1) A)(env:Uz):Yg k (A.deeper env):=
 ⟨r.hd,by have:=r.dp;show A.depth+1+3*k+5<_;grind,by have:=r.un;show A.units+3+16*k+200<_;grind⟩
theorem yj {A:RV} {C:Addr} {us:List Value} {kw:List @bW}:(A.under (.builtin "type.__call__" ⟨.ref C::us,kw⟩)).depth=A.depth+1:=by
 rfl
theorem yi {A:RV} {C:Addr} {us:List Value} {kw:List @bW}:(A.under (.builtin "type.__call__" ⟨.ref C::us,kw⟩)).units=A.units+1:=by
 rfl
theorem Yg.make {k:Nat} {A:RV} (r:Yg (k+1) A) (C:Addr) (us:List Value) (kw:List @bW):Yg k (A.under (.builtin "type.__call__" ⟨.ref C::us,kw⟩)):=
 ⟨r.hd,by have:=r.dp;rw[yj];grind,by have:=r.un;rw[yi];grind⟩
theorem Yg.depth{k:Nat}{A:RV}(r:Yg k A):A.depth<recursionLimit:=by have:=r.dp;grind
theorem Yg.units{k:Nat}{A:RV}(r:Yg k A):A.units+64<cLine:=by have:=r.un;grind
def Lf:TA:=λ_ H Q=>Q [] H
noncomputable def Cb(ta:TE)(tr:TA):TA:=fun σ H Q=>ta σ H λx H1=>tr σ H1 λxs H2=>Q (x::xs) H2
section
variable{X:Cx}{e:Expr}{es:List Expr}{te:TE}{t:TA}{pos:SL}
theorem dZ:PA X [] Lf:=λ_ _ _ _ H Q I h=>Calls.spliced_nil ⟨[],H,I,.nil,h⟩
theorem bh(ha:PE X e te)(hr:PA X es t)(hs:QU (e::es) X.env=(Y1,Rj e X.env)::QU es X.env:=by rfl):PA X (e::es) (Cb te t):=by
 intro pos J' s σ H Q I h;rw[hs];show QZ _ _ (spliced ((Y1,Rj e X.env)::SN pos @ch)) _ _ s;refine Calls.spliced_cons (Yl @bg λu s1 ⟨x,H1,I1,r1,q1⟩=>?_);exact Yl @oC λus s2 ⟨xs,H2,I2,r2,q2⟩=>⟨x::xs,H2,I2,.cons r1 r2,q2⟩
def P9(t:TA):TE:=fun σ H Q=>t σ H λxs H1=>xs.length<=sizeLine/\∀p,H1 p=Y'->Q @du (upd H1 p @aO)
def Pf(t:TA):TE:=fun σ H Q=>t σ H λxs H1=>xs.length<=sizeLine/\∀p,H1 p=Y'->Q @du (upd H1 p @ae)
theorem Jp{x1}(h:PA X es t):PE X (.Tuple es x1 pos) (P9 t):=by
 intro J' s σ H Q I hq;refine wpAny_Tuple_spliced (Yl @pq λus s1 ⟨xs,H1,I1,r,z,q⟩=>⟨by rw[<-r.length];exact z,?_⟩);have hf:H1 s1.heap.objs.size=Y':=I1.hok.fresh @C;refine⟨.ref s1.heap.objs.size,upd H1 s1.heap.objs.size @aO,I1.laid (t':=s1.toks) @q1 @C ?_,rfl,q _ hf⟩;exact⟨z,us,r,@nY⟩
theorem Er(h:PA X es t):PE X @tC (Pf t):=by
 intro J' s σ H Q I hq;refine wpAny_List_spliced (Yl @pq λus s1 ⟨xs,H1,I1,r,z,q⟩=>⟨by rw[<-r.length];exact z,?_⟩);have hf:H1 s1.heap.objs.size=Y':=I1.hok.fresh @C;refine⟨.ref s1.heap.objs.size,upd H1 s1.heap.objs.size @ae,I1.laid (t':=s1.toks) @q1 @C ?_,rfl,q _ hf⟩;exact⟨z,us,0,r,RD _ rfl⟩
end
abbrev Sp:=List V->Hp->VK->XK->Prop
abbrev CXT:=List Uz->Hp->QR->XK->Value->QR->Prop
structure ad3(P:R8)(w:RH)(K:QO)(mg:Str->Option Value)(base:Heap)(A:RV)(outer:List Uz)(s:QR)(H:Hp):Prop where
 frames:A.frames=Z' outer
 mod:Mod K mg base
 bs:∀b o,base.get? b=Z' o->s.heap.get? b=Z' o/\H b=Y'
 bsz:base.objs.size<=s.heap.objs.size
 Zi:s.heap.FunFrames base outer
 frf:∀b∈frs outer,H b=Y'
 hok:Z4 P w H s.heap
 bare:V3 s.gens
def CE(outer:List Uz)(P:R8)(w:RH)(H:Hp)(s:QR)(Q:VK)(u:Value)(s':QR):Prop:=
 ∃v H',s'.os=s.os/\V3 s'.gens/\Un (frs outer) [] H H' s.heap s'.heap/\Z4 P w H' s'.heap/\RelV v u/\Q v H'
def CR(CX:CXT)(outer:List Uz)(P:R8)(w:RH)(H:Hp)(s:QR)(Q:VK)(E:XK)(r:Xo)(s':QR):Prop:=
 match r with
|.ok (.ret u)=>CE outer P w H s Q u s'
|.ok _=>False
|.error e=>CX outer H s E e s'
structure YO(P:R8)(w:RH)(K:QO)(mg:Str->Option Value)(base:Heap)(CX:CXT)(k:Nat)(f:Addr)(fd:FuncData)(ps:List Str)(sp:Sp):Prop where
 len:∀vs H Q E,sp vs H Q E->vs.length=ps.length
 run:∀(A:RV)(outer:List Uz)(s:QR)(H:Hp)(args:Args)(us:List Value)(vs:List V)(Q:VK)(E:XK),Yg k A->ad3 P w K mg base A outer s H->X0 s fd args @bX->Vals vs us->sp vs H Q E->
  Uj @bo A (.call @x args) (CR CX outer P w H s Q E) s
theorem ad3.make{P:R8}{w:RH}{K:QO}{mg:Str->Option Value}{base:Heap}{A:RV}{outer:List Uz}{s:QR}{H:Hp}(e:ad3 P w K mg base A outer s H)(C:Addr)(us:List Value)(kw:List @bW):
  ad3 P w K mg base (A.under (.builtin "type.__call__" ⟨.ref C::us,kw⟩)) outer s H:=⟨by first|exact e.frames|(simpa[Around.under,Code.envs,Code.isFrame,pushEnvs]using e.frames),e.mod,e.bs,e.bsz,e.Zi,e.frf,e.hok,e.bare⟩
section
variable{X:Cx}{J':List @c}{σ:St}{H:Hp}{s s':QR}
theorem Inv.ai3(I:Inv X J' σ H s):ad3 X.prog X.w X.K X.mg X.base X.A X.stack s H:=
 ⟨I.ok.frames,I.ok.mod,I.bs,Rg I.ok.bsz I.sz,I.stack,I.ZR,I.hok,I.bare⟩
theorem Inv.after{Q:VK}{u:Value}(I:Inv X J' σ H s)(h:CE X.stack X.prog X.w H s Q u s'):EP X J' σ Q u s':=by
 obtain⟨v,H',os,bare,un,hok,r,q⟩:=h;obtain⟨hh,g,d,t,os'⟩:=s';obtain rfl:os'=s.os:=os;exact⟨v,H',I.call (h':=hh) (g':=g) (d':=d) (t':=t) (ch:=[]) un hok bare @jz,r,q⟩
end
noncomputable def M4(sp:Sp)(Zd:List V)(E:XK)(t:TA):TE:=fun σ H Q=>t σ H λvs H1=>sp @cS H1 Q E
noncomputable def ah4(C:Addr)(m:Str)(sp:Sp)(Zd:List V)(E:XK)(ta:TE)(t:TA):TE:=fun σ H Q=>ta σ H λx H1=>∃a dx fs,x=.ref a/\H1 a=Z' @cF/\fs.lookup m=Y'/\
 t σ H1 λvs H2=>sp (x::@cS) H2 Q E
def LZ(C:Addr)(sp:Sp)(Zd:List V)(E:XK)(t:TA):TE:=fun σ H Q=>t σ H λvs H1=>∀x dx,H1 x=Y'->H1 dx=Y'->dx≠x->
 sp (.ref x::@cS) (upd (upd H1 dx @cT) x (.ins C dx [])) (λv H2=>v=.Yj/\Q @bD H2) E
def Binds(K:QO)(fd:FuncData)(ps:List Str)(ds:List Value):Prop:=
 ∀(s:QR)(us:List Value),K.In s.heap->(us++ds).length=ps.length->X0 s fd ⟨us,[]⟩ (ps.zip @fR)
theorem Binds.all{K:QO}{fd:FuncData}{ps:List Str}(h:∀us:List Value,us.length=ps.length->VI fd ⟨us,[]⟩=pure @bX):Binds K fd ps []:=λs us _ hl=>by
 rw[Rh]at hl ⊢;exact .of_eq (h us hl)
def Passes(CX:CXT)(X:Cx)(E:XK):Prop:=∀(J':List @c)(σ:St)(H:Hp)(s:QR)(e:Value)(s':QR),Inv X J' σ H s->CX X.stack H s E e s'->X.xe e s'
section
variable{X:Cx}{CX:CXT}{k:Nat}{f C:Addr}{fd:FuncData}{ps:List Str}{sp:Sp}{Zd:List V}{ds:List Value}{E:XK}{x m:Str}{p pos Y4:SL}{e o:Expr}{es:List Expr}{ta:TE}{t:TA}
theorem Ei{J':List @c}{σ:St}{H:Hp}{s:QR}{Q:VK}{us:List Value}{vs:List V}(F:YO X.prog X.w X.K X.mg X.base CX k f fd ps sp)(hr:Yg k X.A)(hb:Binds X.K fd ps ds)(hd:Vals Zd ds)(hx:Passes CX X E)
  (I:Inv X J' σ H s) (r:Vals vs us) (h:sp @cS H Q E):QZ @o X.A (call @x us) @aN X.xe s:=by
 have r2:Vals @cS @fR:=r.append hd;have hl:(us++ds).length=ps.length:=by rw[<-r2.length];exact F.len _ _ _ _ h
 refine UO (UG (F.run X.A X.stack s H ⟨us,[]⟩ @fR @cS Q E hr I.ai3 (hb s us I.Z6 hl) r2 h) λr s' hq=>?_);cases r with
|error e=>exact hx J' σ H s e s' I hq
|ok fl=>
  cases fl with
  |ret u=>exact I.after hq
  |next=>exact QS hq
  |brk=>exact QS hq
  |cont=>exact QS hq
theorem o3(F:YO X.prog X.w X.K X.mg X.base CX k f fd ps sp)(hr:Yg k X.A)(hg:Gl X x)(hm:X.mg x=Z' @x)(hk:Rl X.K @x=Y2)(hb:Binds X.K fd ps ds)(hd:Vals Zd ds)(hx:Passes CX X E)
  (ha:PA X (e::es) t) (hdb:(x==("__debug__":Str))=Y1:=by decide) (he:QU (e::es) X.env=(Y1,Rj e X.env)::QU es X.env:=by rfl) (hpl:(SN pos @ch).any @d=Y1:=by rfl):
  PE X (.Call @bl (e::es) [] pos) (M4 sp Zd E t):=by
 sleep 4;refine TM (lI I hg hm ?_ hdb);refine UQ (h₀:=X.base) I.ok.mod.kin hk (Yl @gC λus s1 ⟨vs,H1,I1,r,q⟩=>⟨I1.Z6,?_⟩) he hpl;exact Ei F hr hb hd hx I1 r q
theorem vk{pl:Sem Bool}(he:PE X o ta)(c:Cls X.K C)(hm:Meth X.K C m f)(F:YO X.prog X.w X.K X.mg X.base CX k f fd ps sp)(hr:Yg k X.A)(hb:Binds X.K fd ps ds)(hd:Vals Zd ds)(hx:Passes CX X E)(ha:PA X (e::es) t)
  (hst:QU (e::es) X.env=(Y1,Rj e X.env)::QU es X.env:=by rfl) (hpl:(SN pos @ch).any @d=Y1:=by rfl)
  (ht:Rj (.Call @gY (e::es) [] pos) X.env=(do
   let ov<- Rj o X.env
   US Y4.atName
   let (f,first)<- V2 [ov] (Um ov m pl)
   VH pos f first (SN pos (QU (e::es) X.env)) (TH pos (SS [] X.env))):=by rfl):
  PE X (.Call @gY (e::es) [] pos) (ah4 C m sp Zd E ta t):=by
 sleep 4;refine Wk (pl:=pl) (Yl @da λu s1 ⟨x,H1,I1,rx,a,dx,fs,ex,ea,l,q⟩=>?_) ht;subst ex;obtain rfl:u=RU a:=rx;refine ZA I1 ea c hm l ?_;refine UQ (first:=[.ref a]) (h₀:=X.base) I.ok.mod.kin hm.kp (Yl @oI λus s2 ⟨vs,H2,I2,r,q2⟩=>⟨I2.Z6,?_⟩) hst hpl;exact Ei (us:=.ref a::us) (vs:=.ref a::vs) F hr hb hd hx I2 (.cons rfl r) q2
structure Mk(K:QO)(C f:Addr):Prop where
 makes:Vv K C=Y2
 init:Rn K @k "__init__"=Z' @bC
 fn:Ut K @x=Y2
 kp:Rl K @k=Y2
theorem Cp{J':List @c}{σ:St}{H:Hp}{s:QR}{Q:VK}{us:List Value}{vs:List V}(M:Mk X.K C f)(F:YO X.prog X.w X.K X.mg X.base CX k f fd ps sp)(hr:Yg (k+1) X.A)(hb:Binds X.K fd ps ds)(hd:Vals Zd ds)
  (hx:Passes CX X E) (I:Inv X J' σ H s) (r:Vals vs us)
  (h:∀x dx,H x=Y'->H dx=Y'->dx≠x->sp (.ref x::@cS) (upd (upd H dx @cT) x (.ins C dx [])) (λv H2=>v=.Yj/\Q @bD H2) E):
  QZ @o X.A (call @k us) @aN X.xe s:=by
 have hq:=h (s.heap.objs.size+1) s.heap.objs.size (I.hok.fresh (UM _)) @eY (RY (V0 _));have I2:=Inv.made (C:=C) I;have r2:Vals (V.ref (s.heap.objs.size+1)::@cS) (RU (s.heap.objs.size+1)::@fR):=.cons rfl (r.append hd)
 have hl:(RU (s.heap.objs.size+1)::us++ds).length=ps.length:=by
  have e:=r2.length;rw[F.len _ _ _ _ hq]at e;exact e.symm
 refine UO (Dd (f:=f) I.Z6 M.makes M.init (beq_iff_eq.mp M.fn) (UG (F.run _ X.stack _ _ ⟨RU (s.heap.objs.size+1)::us,[]⟩ (RU (s.heap.objs.size+1)::@fR) _ _ E (hr.make C us [])
  (I2.ai3.make C us []) (hb _ (RU (s.heap.objs.size+1)::us) I2.Z6 hl) r2 hq) λr s' hq'=>?_))
 cases r with
|error e=>exact hx J' σ _ _ e s' I2 hq'
|ok fl=>
  cases fl with
  |ret u=>
   obtain⟨v,H',I3,rv,ev,q3⟩:=I2.after hq';subst ev;exact⟨rv,⟨V.ref (s.heap.objs.size+1),H',I3,rfl,q3⟩⟩
  |next=>exact QS hq'
  |brk=>exact QS hq'
  |cont=>exact QS hq'
theorem CO(M:Mk X.K C f)(F:YO X.prog X.w X.K X.mg X.base CX k f fd ps sp)(hr:Yg (k+1) X.A)(hg:Gl X x)(hm:X.mg x=Z' @k)(hb:Binds X.K fd ps ds)(hd:Vals Zd ds)(hx:Passes CX X E)
  (hdb:(x==("__debug__":Str))=Y1:=by decide):PE X (.Call @bl [] [] pos) (LZ C sp Zd E Lf):=by
 sleep 4;refine TM (lI I hg hm ?_ hdb);exact PySem.W.callWith_K0 I.Z6 M.kp (Cp (us:=[]) M F hr hb hd hx I .nil h)
end
def PK(X:Cx)(kws:List Xp)(t:TA):Prop:=
 ∀(pos:SL)(J':List @c)(s:QR)(σ:St)(H:Hp)(Q:List V->Hp->Prop),Inv X J' σ H s->t σ H Q->QZ @o X.A (evalAll ((TH pos @to).map @s)) @tu X.xe s
section
variable{X:Cx}{CX:CXT}{k:Nat}{f C:Addr}{fd:FuncData}{ps ks:List Str}{sp:Sp}{E:XK}{x m:Str}{p pos Y4 kpos:SL}{e o:Expr}{es:List Expr}{kws:List Xp}{te ta:TE}{t tk:TA}{nm:Option Str}
theorem Jl:PK X [] Lf:=λ_ _ _ _ H Q I h=>wpAny_evalAll_nil ⟨[],H,I,.nil,h⟩
theorem G9(ha:PE X e te)(hr:PK X kws t):PK X (⟨nm,e,kpos⟩::kws) (Cb te t):=by
 intro pos J' s σ H Q I h;show QZ _ _ (evalAll ((do let v<- Rj e X.env;US pos;pure v)::(TH pos @to).map @s)) _ _ s;refine wpAny_evalAll_cons (QQ (Yl @bg λu s1 ⟨x,H1,I1,r1,q1⟩=>QQ (Tx (QW ?_))));exact Yl @oC λus s2 ⟨xs,H2,I2,r2,q2⟩=>⟨x::xs,H2,I2,.cons r1 r2,q2⟩
variable{g:List Value->List Value->List Value}{gV:List V->List V->List V}
end
structure Ye(N P:List Str)(sc:Scope):Prop where
 kind:sc.kind=.function
 co:sc.isCoroutine=Y1
 gen:sc.isGenerator=Y1
 nd:N.Nodup
 pre:N.take P.length=P
 par:∀x∈P,sc.names.lookup x=Z' .local\/sc.names.lookup x=Z' .cell
 ah9:∀y∈sc.names,y.2≠.free
theorem uK{kindOf:Str->Option Tz}{x:Str}:∀{binds:List @bW}{m:Str->Option Value},(∀v,(x,v)∉binds)->Xd kindOf binds m x=m x
|[],_,_=>rfl
|(n,v)::r,m,h=>by
  unfold Xd;rw[uK λw hw=>h w @io]
  split
  .grind
  .rfl
theorem uM{kindOf:Str->Option Tz}{x:Str}:∀{binds:List @bW}{m:Str->Option Value},(∀v,(x,v)∉binds)->Xe kindOf binds m x=m x
|[],_,_=>rfl
|(n,v)::r,m,h=>by
  unfold Xe;rw[uM λw hw=>h w @io]
  split
  .rfl
  grind
theorem uL{kindOf:Str->Option Tz}{x:Str}{v:Value}:∀{P:List Str}{vs:List Value}{i:Nat}{m:Str->Option Value},P.Nodup->P[i]?=Z' x->vs[i]?=Z' v->kindOf x=Z' .local->
  Xd kindOf (P.zip vs) m x=Z' v
|[],_,_,_,_,h,_,_=>by simp at h
|_::_,[],_,_,_,_,h,_=>by simp at h
|p::P,w::vs,0,m,nd,h1,h2,hk=>by
  simp at h1 h2;subst h1;subst h2;show Xd kindOf ((p,w)::P.zip vs) m p=_;unfold Xd;rw[uK λv hv=>(RT.mp nd).1 (VC hv).1,if_pos hk];simp
|p::P,w::vs,i+1,m,nd,h1,h2,hk=>by
  show Xd kindOf ((p,w)::P.zip vs) m x=_;unfold Xd;exact uL (i:=i) (RT.mp nd).2 @i @i hk
theorem uN{kindOf:Str->Option Tz}{x:Str}{v:Value}:∀{P:List Str}{vs:List Value}{i:Nat}{m:Str->Option Value},P.Nodup->P[i]?=Z' x->vs[i]?=Z' v->kindOf x≠Z' .local->
  Xe kindOf (P.zip vs) m x=Z' v
|[],_,_,_,_,h,_,_=>by simp at h
|_::_,[],_,_,_,_,h,_=>by simp at h
|p::P,w::vs,0,m,nd,h1,h2,hk=>by
  simp at h1 h2;subst h1;subst h2;show Xe kindOf ((p,w)::P.zip vs) m p=_;unfold Xe;rw[uM λv hv=>(RT.mp nd).1 (VC hv).1,if_neg hk];simp
|p::P,w::vs,i+1,m,nd,h1,h2,hk=>by
  show Xe kindOf ((p,w)::P.zip vs) m x=_;unfold Xe;exact uN (i:=i) (RT.mp nd).2 @i @i hk
noncomputable def start(N:List Str)(vs:List V):St:=vs.map Z'++Sh (N.length-vs.length) Y'
noncomputable def DQ(CX:CXT)(P:R8)(w:RH)(K:QO)(mg:Str->Option Value)(base:Heap)(N:List Str)(qual:Str)(scope:Scope)(f:Addr)(cd:Value)(A:RV)(outer:List Uz)(s:QR)(H:Hp)(E:XK):Cx where
 prog:=P
 w:=w
 K:=K
 mg:=mg
 base:=base
 A:=A.deeper @ja
 N:=N
 s₀:=s
 H₀:=H
 env:=T6 qual scope s.heap.objs.size f cd
 outer:=outer
 stack:=T6 qual scope s.heap.objs.size f cd::outer
 ex:=[]
 calm:=Y2
 fn:=λ_=>Y2
 pn:=[]
 xe:=λe s'=>QZ @bo (A.deeper @ja) (leaving @ja e) (λ_ s''=>CX outer H s E e s'') (λe' s''=>CX outer H s E e' s'') s'
theorem xv{sc:Scope}{n:Nat}{x:Str}(h:sc.names.lookup x=Z' .cell):∃c,(cellsFrom n sc.names []).lookup x=Z' c:=by
 have q:=Wa sc.names n [] (.inl h);exact Ui.mp q
theorem AG{CX:CXT}{P:R8}{w:RH}{K:QO}{mg:Str->Option Value}{base:Heap}{N ps:List Str}{qual:Str}{scope:Scope}{f:Addr}{cd:Value}{A:RV}{outer:List Uz}{s s1:QR}{H:Hp}{E:XK}{us:List Value}{vs:List V}
  (S:Ye N ps scope) (hd:A.handled=Y') (e0:ad3 P w K mg base A outer s H) (hl:vs.length=ps.length) (r:Vals vs us)
  (x:InCallC s s.heap.objs.size (Xd (T6 qual scope s.heap.objs.size f cd).kindOf @bX λ_=>Y') (cellsFrom (s.heap.objs.size+1) scope.names []) (Xe (T6 qual scope s.heap.objs.size f cd).kindOf @bX λ_=>Y') s1):
  Inv (DQ CX P w K mg base N qual scope f cd A outer s H E) [] @fp H s1:=by
 have hpl:ps.length<=N.length:=by have:=congrArg SY S.pre;rw[Tc]at this;grind
 obtain⟨h1,tk,rfl,hk⟩:=x.done;have noA:∀b:Addr,b∉(DQ CX P w K mg base N qual scope f cd A outer s H E).ex:=λb z=>absurd (show b∈([]:List Addr)from z) @a
 refine⟨⟨e0.mod,S.kind,rfl,rfl,R9 _,λy z c h1 h2=>?_,λy hy=>?_,λy c _ h=>?_,λ_=>hd,Around.frames_deeper e0.frames,.inr @aT,λb z=>absurd z (noA b),e0.bs,e0.bsz,λb _ _=>noA b,λb z=>absurd z (noA b),e0.Zi,e0.frf⟩,
  rfl,e0.bare,Un.kept hk,⟨_,x.toInCall.ns,λi y v h1 h2 h3=>?_⟩,λy c h=>⟨_,x.cell y c h⟩,e0.hok.fresh @C,λy c h=>?_,λp hp=>absurd (show p∈([]:List @c)from hp) @a,e0.hok.kept hk,?_⟩
 .exact name_of_addr x.apart (SF h1) (SF h2)
 .have hy:scope.names.lookup y=Z' .cell\/scope.names.lookup y=Z' .free:=hy
  rcases hy with hy|hy
  .exact xv hy
  .exact absurd rfl (S.ah9 _ (SF hy))
 .exact Vz @qs
 .have hi:i<vs.length:=by
   unfold start at h2
   by_cases hi:i<vs.length
   .exact hi
   .rw[Ro @aC]at h2
    rw[S9]at h2;split at h2<;>cases h2
  have ha:vs[i]?=Z' v:=by
   unfold start at h2;rw[Rc @aC,RC]at h2;cases e:vs[i]? with
   |none=>rw[e]at h2;cases h2
   |some a=>rw[e]at h2;cases h2;rfl
  obtain⟨u,hu,rv⟩:=r.get ha
  have hp:ps[i]?=Z' y:=by
   rw[<-S.pre,List.getElem?_take_of_lt @i];exact h1
  have ndP:ps.Nodup:=by rw[<-S.pre];exact S.nd.sublist (List.take_sublist _ _)
  refine⟨u,rv,?_⟩;rcases S.par y (VS hp)with k|k
  .exact .inl ⟨k,uL ndP hp hu k⟩
  .obtain⟨c,e⟩:=xv (n:=s.heap.objs.size+1) k
   refine .inr ⟨.inl k,c,e,?_⟩;have q:=x.cell y c e;rw[uN ndP hp hu (by show scope.names.lookup y≠_;rw[k];decide)]at q;exact q
 .exact e0.hok.fresh (Vz @qs)
 .unfold start
  show _=N.length;rw[RF,RB,UB];simp[*]
theorem Kl{CX:CXT}{P:R8}{w:RH}{K:QO}{mg:Str->Option Value}{base:Heap}{k:Nat}{f:Addr}{name qual:Str}{params:Arguments}{body:List Stmt}{scope:Scope}{dV kV doc pm Y5 ct oc:Value}{an od:Option Addr}
  {osl:Array @bz} {N ps:List Str} {sp:Sp} (lk:K.lookup f=Z' ⟨oc,od,.func @ng,osl⟩) (hcd:Se K Y5 qual=Y2) (S:Ye N ps scope)
  (len:∀vs H Q E,sp vs H Q E->vs.length=ps.length)
  (Y3:∀(A:RV)(outer:List Uz)(s:QR)(H:Hp)(vs:List V)(Q:VK)(E:XK),Yg k (A.deeper (T6 qual scope s.heap.objs.size f Y5))->sp vs H Q E->
   ∃t,PSs @iW body t/\t {nx:=λ_ H'=>Q .Yj H',rt:=Q} @fp H):
  YO P w K mg base CX (k+1) f @ng ps sp:=by
 refine⟨len,λA outer s H args us vs Q E hr e0 hb r hsp=>?_⟩;have hl:=len _ _ _ _ hsp;have KX:K.In s.heap:=e0.mod.kin.keeps λb o e=>(e0.bs b o e).1;have lim:s.heap.NoLimit:=e0.mod.nolimit.keeps λb o e=>(e0.bs b o e).1
 have hkind:∀y∈ps.zip us,scope.names.lookup y.1=Z' .local\/(scope.names.lookup y.1=Z' .cell/\((cellsFrom (s.heap.objs.size+1) scope.names []).lookup y.1).isSome=Y2):=λ⟨n,v⟩ hy=>by
  rcases S.par n (VC hy).1 with q|q
  .exact .inl q
  .exact .inr ⟨q,Wa _ _ _ (.inl q)⟩
 refine codeAny_call_function hr.depth (KX _ _ lk) rfl S.co S.gen rfl (PySem.W.codeRec_of KX hcd) (hb _ _ _ _ ?_);refine wpAny_newFunctionEnv_cells S.kind hkind λenv he s1 x=>?_;subst he;refine⟨lim.keeps x.toInCall.keep,codeAny_func ?_⟩;obtain⟨t,ht,hq⟩:=Y3 A outer s H vs Q E (hr.deeper _) hsp;have I:Inv @iW [] @fp H s1:=AG S hr.hd e0 hl r x;refine Rz (ht [] s1 @fp H _ I hq) (λfl s' hs=>?_) λe s' hs=>hs
 have fin:∀{σ':St}{H':Hp}{v:V}{u:Value},Inv @iW [] σ' H' s'->RelV v u->Q v H'->CE outer P w H s Q u s':=
  λ{σ' H' v u} J rv q=>⟨v,H',J.os,J.bare,J.base,J.hok,rv,q⟩
 cases fl with
|ret u=>
  obtain⟨v,σ',H',J,rv,q⟩:=hs;exact fin J rv q
|next=>
  obtain⟨σ',H',J,q⟩:=hs;exact fin (v:=V.Yj) (u:=S6) J rfl q
|brk=>
  obtain⟨_,_,_,q⟩:=hs;exact QS q
|cont=>
  obtain⟨_,_,_,q⟩:=hs;exact QS q
section
variable{X:Cx}{x:Str}{p pos:SL}{e:Expr}{es:List Expr}{t:TA}{id T:String}{r:List V->Hp->VK->Prop}
noncomputable def tCB(r:List V->Hp->VK->Prop)(t:TA):TE:=fun σ H Q=>t σ H λvs H1=>r vs H1 Q
theorem rg (hc:gw X @bV r) (hg:Gl X x) (hm:X.mg x=Y') (hv:Sj x=Z' @bV) (ha:PA X (e::es) t) (hn:x≠"__name__":=by decide) (hdb:(x==("__debug__":Str))=Y1:=by decide)
  (he:QU (e::es) X.env=(Y1,Rj e X.env)::QU es X.env:=by rfl) (hpl:(SN pos @ch).any @d=Y1:=by rfl):PE X (.Call @bl (e::es) [] pos) (tCB r t):=by
 sleep 4;refine TM (oj I hg hm hv ?_ hn hdb);exact PyProof.Rows.callWith_builtin1 (Yl @gC λus s1 ⟨vs,H1,I1,r1,q1⟩=>hc J' s1 σ H1 vs us Q I1 r1 q1) he hpl
theorem tY (hc:gw X @aG r) (hg:Gl X x) (hm:X.mg x=Y') (hv:Sj x=Z' @aG) (ha:PA X (e::es) t) (hn:x≠"__name__":=by decide) (hdb:(x==("__debug__":Str))=Y1:=by decide)
  (he:QU (e::es) X.env=(Y1,Rj e X.env)::QU es X.env:=by rfl) (hpl:(SN pos @ch).any @d=Y1:=by rfl):PE X (.Call @bl (e::es) [] pos) (tCB r t):=by
 sleep 4;refine TM (oj I hg hm hv ?_ hn hdb);exact T7 (Yl @gC λus s1 ⟨vs,H1,I1,r1,q1⟩=>hc J' s1 σ H1 vs us Q I1 r1 q1) he hpl
end
end L2
namespace HT
open PySem PyProof.Rows
section
variable{prog:R8}{w:RH}{A:RV}{E:Value->QR->Prop}{s:QR}
noncomputable def YB(n d:Nat):Option Int->Nat
|none=>d
|some v=>if v<0 then (v+(n:Int)).toNat else min v.toNat n
theorem Jb(n d:Nat)(hd:d<=n)(o:Option Int):YB n d o<=n:=by
 cases o with
|none=>exact hd
|some v=>
  show (if v<0 then (v+(n:Int)).toNat else min v.toNat n)<=n
  by_cases hv:v<0
  .rw[if_pos hv];grind
  .rw[if_neg hv];exact Nat.min_le_right _ _
theorem Bp(v:Int)(n d:Nat):(if v<0 then max (v+(n:Int)) 0 else min v (n:Int))=((YB n d @aR:Nat):Int):=by
 show (if v<0 then max (v+(n:Int)) 0 else min v (n:Int))=(((if v<0 then (v+(n:Int)).toNat else min v.toNat n):Nat):Int)
 by_cases hv:v<0
 .simp only[if_pos hv];simp
 .simp only[if_neg hv];grind
theorem yF(lo hi:Option Int)(n:Nat):UI lo hi 1 (n:Int)=(((YB n 0 lo:Nat):Int),((YB n n hi:Nat):Int)):=by
 have h1:¬ ((1:Int)<0):=by decide
 unfold UI;simp only[h1,if_false];refine Prod.ext ?_ ?_
 .cases lo with
  |none=>rfl
  |some v=>exact Bp v n 0
 .cases hi with
  |none=>rfl
  |some v=>exact Bp v n n
theorem xX(i j:Nat):TK (i:Int) (j:Int) 1=j-i:=by
 unfold TK;have h1:(1:Int)>0:=by decide
 simp only[h1,if_true,Int.ediv_one]
 split<;>omega
theorem pO{v:Value}{o:Option Int}{Q:Option Int->QR->Prop}(p:Wc v o)(h:Q o s):QZ @r A (Builtin.Slice.slicePartIndex v) Q E s:=by
 cases p with
|none=>exact slicePart_none h
|int i t=>exact slicePart_int h
theorem mB{sl:Addr}{vl vu:Value}{lo hi:Option Int}{n:Nat}{Q:Int×Int×Nat->QR->Prop}(hs:s.heap.IsSliceOf sl vl vu .none)(pl:Wc vl lo)(pu:Wc vu hi)
  (h:Q (((YB n 0 lo:Nat):Int),1,YB n n hi-YB n 0 lo) s):QZ @r A (Vg @iq (pure (n:Int))) Q E s:=by
 obtain⟨os,hos,hcs,hds⟩:=id hs;unfold Vg Builtin.Slice.sliceFields;refine QQ (QQ (Ry hos hds (x:=vl) rfl (QQ (Ry hos hds (x:=vu) rfl (QQ (Ry hos hds (x:=.none) rfl (QW ?_)))))));refine QQ (slicePart_none ?_);show QZ _ _ (if ((1:Int)==0)=Y2 then _ else _) _ _ s;rw[if_neg @h];refine QQ (pO pl (QQ (pO pu (QQ (QW ?_)))));show QZ _ _ (match UI lo hi 1 (n:Int)with|(lo,hi)=>pure (lo,(1:Int),TK lo hi 1)) _ _ s;rw[yF lo hi n];show QZ _ _ (pure (((YB n 0 lo:Nat):Int),(1:Int),TK ((YB n 0 lo:Nat):Int) ((YB n n hi:Nat):Int) 1)) _ _ s;rw[xX];exact QW h
theorem CJ(xs:Array Value)(i k:Nat):((S7 k).filterMap λ(m:Nat)=>xs[((i:Int)+(m:Int)*1).toNat]?).toArray=((xs.toList.drop i).take k).toArray:=by
 have e:(λ(m:Nat)=>xs[((i:Int)+(m:Int)*1).toNat]?)=λm=>xs[i+m]?:=by
  funext m
  have:((i:Int)+(m:Int)*1).toNat=i+m:=by grind
  rw[this]
 rw[e];have:=pick_run xs i k;rw[List.filterMap_map]at this;have e2:((λx=>xs[x]?)∘λx=>i+x)=λm=>xs[i+m]?:=rfl;rw[e2]at this;rw[this]
theorem Zb{t sl:Addr}{items:Array Value}{vl vu:Value}{lo hi:Option Int}{Q:Value->QR->Prop}(ht:IsTup s.heap t items)(hs:s.heap.IsSliceOf sl vl vu .none)(pl:Wc vl lo)(pu:Wc vu hi)
  (hw:¬ (YB items.size 0 lo=0/\YB items.size items.size hi=items.size))
  (h:Q @b9 {s with heap:=s.heap.push {cls:=.type "tuple",data:=.seq ((items.toList.drop (YB items.size 0 lo)).take (YB items.size items.size hi-YB items.size 0 lo)).toArray} })
  (hsz:items.size<=sizeLine):QZ @r A (Vn @fN @iq) Q E s:=by
 have ad7:sizeOk (.seq ((items.toList.drop @qE).take (YB items.size items.size hi-YB items.size 0 lo)).toArray):=by
  show ((items.toList.drop @qE).take (YB items.size items.size hi-YB items.size 0 lo)).toArray.size<=sizeLine;rw[Rb,Tc,Uy,Tg];omega
 have hj:YB items.size items.size hi<=items.size:=Jb _ _ @C hi;obtain⟨os,hos,hcs,hds⟩:=id hs;have hTs:s.TypeIs @iq "slice":=⟨os,hos,hcs⟩;unfold Vn
 try with_reducible refine SZ ?_
 first|refine QQ (QW ?_)|skip
 refine QQ (wpAny_sequenceKey ht.typeIs @h ?_)
 refine QQ (TF (name:=QP "__getitem__") ht.typeIs Tp
  (TC Tp ht.typeIs entry_tuple_getitem ?_ (args_tuple_getitem _ _)))
 show QZ _ _ (Vf @fN>>=_) _ _ s;refine QQ (tupleItemsOf_ ht ?_);refine QQ (wpAny_typeOf hTs ?_);rw[if_pos @h];refine QQ (mB hs pl pu ?_)
 have hno:¬ ((((YB items.size 0 lo:Nat):Int)==0&&(1:Int)==1&&(YB items.size items.size hi-YB items.size 0 lo)==items.size)=Y2):=by
  intro q;rw[S5,S5]at q;have q1:((YB items.size 0 lo:Nat):Int)=0:=eq_of_beq q.1.1;have q2:YB items.size items.size hi-YB items.size 0 lo=items.size:=eq_of_beq q.2;exact hw ⟨by simp_all,by simp_all⟩
 show QZ _ _ (if (((YB items.size 0 lo:Nat):Int)==0&&(1:Int)==1&&(YB items.size items.size hi-YB items.size 0 lo)==items.size)=Y2 then _ else _) _ _ s;rw[if_neg hno,CJ]
 first
  |exact QQ (m:=TN _) (Sn (QW ⟨_,rfl,QW h⟩) ad7)
  |exact QQ (m:=TN _) (Sn (QQ (QW (QW ⟨_,rfl,QW h⟩))) ad7)
  |exact QQ (QQ (m:=TN _) (Sn (QW (QW ⟨_,rfl,QW h⟩)) ad7))
  |exact QQ (QQ (m:=TN _) (Sn (QW ⟨_,rfl,QW h⟩) ad7))
end
end HT
namespace L2
open PySem PySem.Spec PyProof.Rows
abbrev TO:=St->Hp->(Option Int->Hp->Prop)->Prop
def PO(X:Cx)(e:Option Expr)(t:TO):Prop:=
 ∀(J':List @c)(s:QR)(σ:St)(H:Hp)(Q:Option Int->Hp->Prop),Inv X J' σ H s->t σ H Q->
  QZ @o X.A (evalPart e X.env) (λu s'=>∃o H',Inv X J' σ H' s'/\Wc u o/\Q o H') X.xe s
def FJ:TO:=λ_ H Q=>Q Y' H
noncomputable def LX(t:TE):TO:=fun σ H Q=>t σ H λx H1=>∃i,x=.int i/\Q (Z' i) H1
section
variable{X:Cx}{e:Expr}{te:TE}{lo hi:Option Expr}{tl th:TO}{pos p2:SL}
theorem G7:PO X Y' FJ:=by
 sleep 4;rw[evalPart_none];exact QW ⟨Y',H,I,.none,h⟩
theorem G6(h:PE X e te):PO X (Z' e) (LX te):=by
 intro J' s σ H Q I hw;rw[evalPart_some];refine Yl @qx λu s1 ⟨x,H1,I1,r1,q1⟩=>?_;obtain⟨i,rfl,q⟩:=q1;obtain⟨t,rfl⟩:=r1;exact⟨Z' i,H1,I1,.int i t,q⟩
def SlR(X:Cx)(r:V->Option Int->Option Int->Hp->VK->Prop):Prop:=
 ∀(J':List @c)(s:QR)(σ:St)(H:Hp)(x:V)(v vl vu:Value)(lo hi:Option Int)(sl:Addr)(Q:VK),Inv X J' σ H s->RelV x v->s.heap.IsSliceOf sl vl vu .none->Wc vl lo->Wc vu hi->r x lo hi H Q->
  ∃T id,X3 @aG "__getitem__"=pure (Z' @bV)/\s.TypeIs v T/\QZ @o X.A (Vn v @iq) @aN X.xe s
noncomputable def tSl(r:V->Option Int->Option Int->Hp->VK->Prop)(te:TE)(tl th:TO):TE:=fun σ H Q=>te σ H λx H1=>tl σ H1 λl H2=>th σ H2 λu H3=>r x l u H3 Q
theorem CN{r:V->Option Int->Option Int->Hp->VK->Prop}(hr:SlR X r)(he:PE X e te)(hl:PO X lo tl)(hu:PO X hi th):PE X @nQ (tSl r te tl th):=by
 sleep 4;refine Subscript_ (Yl @da λv s1 ⟨x,H1,I1,r1,q1⟩=>?_);refine wpAny_Slice (Yl (hl J' s1 σ H1 _ I1 q1) λvl s2 ⟨l,H2,I2,pl,q2⟩=>Yl (hu J' s2 σ H2 _ I2 q2) λvu s3 ⟨u,H3,I3,pu,q3⟩=>?_);rw[evalPart_none];refine QW ?_;have I4:Inv X J' σ H3 {s3 with heap:=s3.heap.push {cls:=.type "slice",data:=.fields #[vl,vu,.none]} }:=I3.kept (t':=s3.toks) λb ob q=>QT _ q;obtain⟨T,id,hT,ht,hg⟩:=hr J' {s3 with heap:=s3.heap.push {cls:=.type "slice",data:=.fields #[vl,vu,.none]} } σ H3 x v vl vu l u s3.heap.objs.size Q I4 r1 (Heap.IsSliceOf.new ..) pl pu q3;show QZ @o X.A (XX e @qK v (.ref s3.heap.objs.size)) @aN X.xe {s3 with heap:=s3.heap.push {cls:=.type "slice",data:=.fields #[vl,vu,.none]} };exact tail_any (ops:=[.ref s3.heap.objs.size,v]) ht hT hg (by with_unfolding_all rfl)
def DR(xs:List V)(lo hi:Option Int):List V:=(xs.drop @gN).take (HT.YB xs.length xs.length hi-HT.YB xs.length 0 lo)
theorem oR(xs:List V)(lo hi:Option Int):(DR xs lo hi).length<=xs.length:=by
 unfold DR;rw[Tc,Uy]
 grind
def Pw(K:QO):V->Option Int->Option Int->Hp->VK->Prop:=λx lo hi H Q=>∃a xs,x=.ref a/\Zo K H a xs/\
 ¬ (HT.YB xs.length 0 lo=0/\HT.YB xs.length xs.length hi=xs.length)/\∀p,H p=Y'->Q @du (upd H p (.tup @d1))
theorem J8:SlR X (Pw X.K):=by
 intro J' s σ H x v vl vu lo hi sl Q I rx hs pl pu h;obtain⟨a,xs,rfl,hx,hw,q⟩:=h;cases rx;obtain⟨Xv,r,ht,hz⟩:=I.tuple hx;have Xy:Xv.toArray.size=xs.length:=by rw[Rb];exact r.length.symm
 refine⟨"tuple",_,Tp.lookup,ht.typeIs,?_⟩;refine HT.Zb ht hs pl pu (by rw[Xy];exact hw) ?_ (by rw[Xy];exact hz);rw[Xy];refine⟨.ref s.heap.objs.size,_,I.laid (t':=s.toks) (o:=.tup @d1) @gS @C ?_,rfl,q _ @eY⟩;exact⟨Rg (oR xs lo hi) hz,_,(r.drop @gN).take (HT.YB xs.length xs.length hi-HT.YB xs.length 0 lo),E6.new _ _⟩
end
noncomputable def ixN(n:Nat)(i:Int):Option Nat:=if 0<=i then (if i<n then Z' i.toNat else Y')else if -(n:Int)<=i then Z' (i+n).toNat else Y'
def Yu{α:Type}(xs:List α)(i:Int):Option α:=(ixN xs.length i).bind λj=>xs[j]?
theorem GI{n:Nat}{i:Int}{j:Nat}(h:ixN n i=Z' j):seqIndex? i n=Z' j/\j<n/\-(n:Int)<=i/\i<n:=by
 unfold ixN at h
 by_cases h0:0<=i
 .rw[if_pos h0]at h
  by_cases h1:i<n
  .rw[if_pos h1]at h
   have e:i.toNat=j:=SG h;exact⟨by rw[seqIndex_of h0 h1,e],by grind,by grind,h1⟩
  .rw[if_neg h1]at h;cases h
 .rw[if_neg h0]at h
  by_cases h1:-(n:Int)<=i
  .rw[if_pos h1]at h
   have e:(i+n).toNat=j:=SG h;exact⟨by rw[seqIndex_neg @i h1,e],by grind,h1,by grind⟩
  .rw[if_neg h1]at h;cases h
theorem vQ{α:Type}{xs:List α}{i:Int}{v:α}(h:Yu xs i=Z' v):∃j,seqIndex? i xs.length=Z' j/\xs[j]?=Z' v/\j<xs.length/\-(xs.length:Int)<=i/\i<xs.length:=by
 unfold Yu at h;cases e:ixN xs.length i with
|none=>rw[e]at h;cases h
|some j=>
  rw[e]at h;obtain⟨h1,h2,h3,h4⟩:=GI e;exact⟨j,h1,h,h2,h3,h4⟩
theorem sk{α:Type}(xs:List α)(v:α):Yu @h9 (-1)=Z' v:=by
 have hl:(xs++[v]).length=xs.length+1:=by simp
 have e:ixN (xs++[v]).length (-1)=Z' xs.length:=by
  unfold ixN;rw[hl,if_neg @h,if_pos @b]
  congr 1
  grind
 unfold Yu;rw[e];show (xs++[v])[xs.length]?=Z' v;simp
def BC(b:Expr):Prop:=∀o i,Wj b Y1 o i=operate [o,i] (Vn o i)
def IxR(X:Cx)(r:R2):Prop:=
 ∀(value slice:Expr)(J':List @c)(s:QR)(σ:St)(H:Hp)(x y:V)(v u:Value)(Q:VK),Inv X J' σ H s->RelV x v->RelV y u->r x y H Q->
  Wj slice Y1 v u=operate [v,u] (Vn v u)->QZ @o X.A (XX value slice v u) @aN X.xe s
def MtR(X:Cx)(id:String)(r:V->List V->Hp->VK->Prop):Prop:=
 ∀(J':List @c)(s:QR)(σ:St)(H:Hp)(x:V)(xs:List V)(v:Value)(us:List Value)(Q:VK),Inv X J' σ H s->RelV x v->Vals xs us->r x xs H Q->
  QZ @o X.A (call @bV (v::us)) @aN X.xe s
section
variable{X:Cx}{a b:Expr}{ta tb:TE}{pos:SL}
theorem Jt{r:R2}(hr:IxR X r)(ha:PE X a ta)(hb:PE X b tb)(hs:BC b):PE X @qJ @hE:=by
 sleep 4;exact Subscript_ (Nw ha hb I h λv u s2 x y H2 I2 rx ry q=>hr a b J' s2 σ H2 x y v u Q I2 rx ry q (hs _ _))
noncomputable def PC(K:QO):R2:=λx y H Q=>∃p xs i v,x=.ref p/\y=.int i/\Zc K H p xs/\Yu xs i=Z' v/\Q v H
noncomputable def Pz(K:QO):R2:=λx y H Q=>∃p xs i v,x=.ref p/\y=.int i/\Zo K H p xs/\Yu xs i=Z' v/\Q v H
noncomputable def PB:R2:=λx y H Q=>∃z i c,x=.str z/\y=.int i/\z.length<=sizeLine/\Yu z.cps.toList i=Z' c/\Q (.str ⟨#[c]⟩) H
theorem Ax:IxR X (PC X.K):=by
 intro value slice J' s σ H x y v u Q I rx ry h hs;obtain⟨p,xs,i,z,rfl,rfl,hq,he,q⟩:=h;cases rx;obtain⟨t,rfl⟩:=ry;obtain⟨Xv,r,pl,hz⟩:=I.list hq;obtain⟨j,h1,h2,h3,h4,h5⟩:=vQ he;obtain⟨w,ew,rw'⟩:=r.get h2;have hl:=r.length;have hn:=ue;have fin:EP X J' σ Q w s:=@rv
 by_cases h0:0<=i
 .have hj:i.toNat=j:=by
   rw[seqIndex_of h0 h5]at h1;exact SG h1
  exact item_listR pl.isList h0 @b (by rw[hj];simpa using ew) fin hs
 .have hj:(i+(Xv.toArray.size:Int)).toNat=j:=by
   rw[seqIndex_neg @i h4]at h1;rw[Rb,<-hl];exact SG h1
  exact Xq (x:=w) pl.isList.typeIs slot_list_getitem.lookup
   (wpAny_getItem_list_neg (Q:=λr s'=>r=w/\EP X J' σ Q r s') pl.isList @i (by rw[Rb]<;>simp_all) @b (by rw[hj];simpa using ew) ⟨rfl,fin⟩) hs
theorem K3:IxR X (Pz X.K):=by
 intro value slice J' s σ H x y v u Q I rx ry h hs;obtain⟨p,xs,i,z,rfl,rfl,hq,he,q⟩:=h;cases rx;obtain⟨t,rfl⟩:=ry;obtain⟨Xv,r,pl,hz⟩:=I.tuple hq;obtain⟨j,h1,h2,h3,h4,h5⟩:=vQ he;obtain⟨w,ew,rw'⟩:=r.get h2;have hl:=r.length;have hn:=ue;have fin:EP X J' σ Q w s:=@rv
 exact Xq (x:=w) pl.typeIs slot_tuple_getitem.lookup
  (getItem_tuple (j:=j) (Q:=λr s'=>r=w/\EP X J' σ Q r s') pl @b @b (by rw[Rb,<-hl];exact h1) (by simpa using ew) ⟨rfl,fin⟩) hs
theorem K4:IxR X PB:=by
 intro value slice J' s σ H x y v u Q I rx ry h hs;obtain⟨z,i,c,rfl,rfl,hz,he,q⟩:=h;sleep 3;sleep 7;obtain⟨j,h1,h2,h3,h4,h5⟩:=vQ he;have hl:z.cps.toList.length=z.length:=by simp[Ub]
 rw[hl]at h1 h4 h5;have hn:=ue
 exact tail_any (U5 s z t) slot_str_getitem.lookup (getItem_str (c:=c) (by
  have e1:decide (i < -(2^63:Int))=Y1:=decide_eq_false @b;have e2:decide (i ≥ 2^63)=Y1:=decide_eq_false @b;rw[e1,e2,Ur]) (by rw[h1];simpa using h2) ⟨.str ⟨#[c]⟩,H,I.tok _,@O,q⟩) hs
theorem sT(lo hi:Option Int)(n:Nat):(UV lo hi Y' n).1=((HT.YB n 0 lo:Nat):Int)/\(UV lo hi Y' n).2.1=((HT.YB n n hi:Nat):Int)/\(UV lo hi Y' n).2.2=1:=by
 refine⟨?_,?_,rfl⟩
 .cases lo with
  |none=>simp[UV,HT.YB]
  |some i=>
   simp only[UV,HT.YB,Xg,show (1:Int)>0 by decide,if_true]
   by_cases h:i<0
   .simp only[h,if_true]<;>grind
   .simp only[h,if_false]<;>grind
 .cases hi with
  |none=>simp[UV,HT.YB]
  |some i=>
   simp only[UV,HT.YB,Xg,show (1:Int)>0 by decide,if_true]
   by_cases h:i<0
   .simp only[h,if_true]<;>grind
   .simp only[h,if_false]<;>grind
theorem qL(Xv:List Value)(lo hi:Option Int):slicePick Xv.toArray lo hi Y'=((Xv.drop (HT.YB Xv.length 0 lo)).take (HT.YB Xv.length Xv.length hi-HT.YB Xv.length 0 lo)).toArray:=by
 obtain⟨h1,h2,h3⟩:=sT lo hi Xv.toArray.size;unfold slicePick;rw[h1,h2,h3];simp only[sliceRange_one,pick_run,Rb]<;>rfl
def Py(K:QO):V->Option Int->Option Int->Hp->VK->Prop:=λx lo hi H Q=>∃a xs,x=.ref a/\Zc K H a xs/\∀p,H p=Y'->Q @du (upd H p (.lst @d1))
theorem FL:SlR X (Py X.K):=by
 intro J' s σ H x v vl vu lo hi sl Q I rx hs pl pu h;obtain⟨a,xs,rfl,hx,q⟩:=h;cases rx;obtain⟨Xv,r,ht,hz⟩:=I.list hx;have Xy:=r.length;refine⟨"list",_,slot_list_getitem.lookup,ht.isList.typeIs,?_⟩;refine wpAny_getItem_list_slice ht.isList hs pl pu .none @a ?_ (by rw[Rb]<;>simp_all)
 rw[qL,<-Xy];refine⟨.ref s.heap.objs.size,_,I.laid (t':=s.toks) (o:=.lst @d1) @gS @C ?_,rfl,q _ @eY⟩;exact⟨Rg (oR xs lo hi) hz,_,0,(r.drop @gN).take (HT.YB xs.length xs.length hi-HT.YB xs.length 0 lo),RD _ rfl⟩
noncomputable def mK:V->Bool
|.Yj=>Y2
|.bl _=>Y2
|.int _=>Y2
|.str _=>Y2
|_=>Y1
noncomputable def eqV:V->V->Bool
|.Yj,.Yj=>Y2
|.bl a,.bl b=>a==b
|.bl a,.int b=>(if a then 1 else 0)==b
|.int a,.bl b=>a==(if b then 1 else 0)
|.int a,.int b=>a==b
|.str a,.str b=>a==b
|_,_=>Y1
theorem F1{A:RV}{s:QR}{y x:V}{u v:Value}(ry:RelV y u)(rx:RelV x v)(fy:mK y=Y2)(fx:mK x=Y2):Ts A s u v (eqV y x):=by
 cases y with
|Yj=>
  cases ry;cases x with
  |Yj=>cases rx;exact Vi _
  |bl b=>cases rx;exact SeqAt.EqAt.none_bool b
  |int b=>obtain⟨t,rfl⟩:=rx;exact SeqAt.EqAt.none_int b t
  |str b=>obtain⟨t,rfl⟩:=rx;exact SeqAt.EqAt.none_str b t
  |_=>exact absurd (show Y1=Y2 from fx) RA
|bl a=>
  cases ry;cases x with
  |Yj=>cases rx;exact SeqAt.EqAt.bool_none a
  |bl b=>cases rx;exact SeqAt.EqAt.bool_bool a b
  |int b=>obtain⟨t,rfl⟩:=rx;exact SeqAt.EqAt.bool_int a b t
  |str b=>obtain⟨t,rfl⟩:=rx;exact SeqAt.EqAt.bool_str a b t
  |_=>exact absurd (show Y1=Y2 from fx) RA
|int a=>
  sleep 7;cases x with
  |Yj=>cases rx;exact SeqAt.EqAt.int_none a t'
  |bl b=>cases rx;exact SeqAt.EqAt.int_bool a t' b
  |int b=>obtain⟨t,rfl⟩:=rx;exact SeqAt.EqAt.int_int a t' b t
  |str b=>obtain⟨t,rfl⟩:=rx;exact Wn a t' b t
  |_=>exact absurd (show Y1=Y2 from fx) RA
|str a=>
  sleep 7;cases x with
  |Yj=>cases rx;exact SeqAt.EqAt.str_none a t'
  |bl b=>cases rx;exact SeqAt.EqAt.str_bool a t' b
  |int b=>obtain⟨t,rfl⟩:=rx;exact Wl a t' b t
  |str b=>obtain⟨t,rfl⟩:=rx;exact SeqAt.EqAt.str_str a t' b t
  |_=>exact absurd (show Y1=Y2 from fx) RA
|_=>exact absurd (show Y1=Y2 from fy) RA
def eqU(x:V)(u:Value):Bool:=match u with
|.none=>eqV .Yj x
|.bool b=>eqV @bG x
|.int i _=>eqV @I x
|.str z _=>eqV (.str z) x
|_=>Y1
theorem F0{x y:V}{u:Value}(r:RelV y u)(f:mK y=Y2):eqU x u=eqV y x:=by
 cases y with
|Yj=>cases r;rfl
|bl b=>cases r;rfl
|int i=>obtain⟨t,rfl⟩:=r;rfl
|str z=>obtain⟨t,rfl⟩:=r;rfl
|_=>exact absurd (show Y1=Y2 from f) RA
theorem p5{x:V}:∀{xs:List V}{us:List Value},Vals xs us->xs.all mK=Y2->us.any @dl=xs.any λy=>eqV y x
|_,_,.nil,_=>rfl
|y::xs,u::us,.cons r t,f=>by
  rw[Tq,S5]at f;rw[Sv,Sv,F0 r f.1,p5 t f.2]
theorem kE{A:RV}{s:QR}{x:V}{v:Value}(rx:RelV x v)(fx:mK x=Y2):∀{xs:List V}{us:List Value},Vals xs us->xs.all mK=Y2->∀u∈us,Ts A s u v (eqU x u)
|_,_,.nil,_=>λu hu=>by cases hu
|y::xs,u::us,.cons r t,f=>λu' hu=>by
  rw[Tq,S5]at f;rcases R7.mp hu with rfl|hu
  .rw[F0 r f.1];exact F1 r rx f.1 fx
  .exact kE rx fx t f.2 u' hu
def inV(x:V)(xs:List V):Bool:=xs.any λy=>eqV y x
def rIn(K:QO)(neg:Bool):R2:=λx y H Q=>∃p xs,y=.ref p/\(Zc K H p xs\/Zo K H p xs)/\mK x=Y2/\xs.all mK=Y2/\Q (.bl (if neg then !inV x xs else inV x xs)) H
theorem u0:YH X (Ri .In) (rIn X.K Y1):=by
 sleep 6;obtain⟨p,xs,rfl,hq,fx,fs,q⟩:=h;cases ry;rcases hq with hq|hq
 .obtain⟨Xv,r,pl,hz⟩:=I.list hq
  refine SeqAt.in_listAt @dl pl.isList (λw hw=>kE rx fx r fs w (by simpa using hw)) ⟨.bl _,H,I,rfl,?_⟩;sleep 20;exact q
 .obtain⟨Xv,r,pl,hz⟩:=I.tuple hq
  refine SeqAt.in_tupleAt @dl pl (λw hw=>kE rx fx r fs w (by simpa using hw)) ⟨.bl _,H,I,rfl,?_⟩;sleep 20;exact q
theorem mf:YH X @lL (rIn X.K Y2):=by
 sleep 6;obtain⟨p,xs,rfl,hq,fx,fs,q⟩:=h;cases ry;rcases hq with hq|hq
 .obtain⟨Xv,r,pl,hz⟩:=I.list hq
  refine SeqAt.notIn_listAt @dl pl.isList (λw hw=>kE rx fx r fs w (by simpa using hw)) ⟨.bl _,H,I,rfl,?_⟩;sleep 20;exact q
 .obtain⟨Xv,r,pl,hz⟩:=I.tuple hq
  refine SeqAt.notIn_tupleAt @dl pl (λw hw=>kE rx fx r fs w (by simpa using hw)) ⟨.bl _,H,I,rfl,?_⟩;sleep 20;exact q
theorem tZ:YH X @lL (λx y H Q=>∃i j,x=.str i/\y=.str j/\Q (.bl (!(!(RI j i 0 j.length 1).isEmpty))) H):=by
 sleep 6;obtain⟨i,j,rfl,rfl,q⟩:=h;sleep 3;sleep 7;exact notIn_str ⟨.bl _,H,I,rfl,q⟩
theorem mw:gw X @kV (λxs H Q=>∃p ys,xs=[.ref p]/\(Zc X.K H p ys\/Zo X.K H p ys)/\∀l,H l=Y'->Q (.ref l) @qV):=by
 intro J' s σ H xs us Q I r h;obtain⟨p,ys,rfl,hq,q⟩:=h;obtain⟨u,rfl,rx⟩:=vals1 r;cases rx
 have fin:∀(Xv:List Value),Vals ys Xv->ys.length<=sizeLine->∀(h':Heap)(c':Nat),(∀b o',s.heap.get? b=Z' o'->h'.get? b=Z' o')->
   h'.get? s.heap.objs.size=Z' {cls:=.type "list",dict:=Y',data:=.seq Xv.toArray c',slots:=#[]}->EP X J' σ Q @b9 {s with heap:=h'}:=λXv r' hz h' c' kp e=>
  ⟨.ref s.heap.objs.size,_,I.laid (t':=s.toks) kp @C (show eM X.prog X.w _ h' _ (.lst ys)from ⟨hz,Xv,c',r',e⟩),rfl,q _ @eY⟩
 rcases hq with hq|hq
 .obtain⟨Xv,r',pl,hz⟩:=I.list hq
  have Xy:=r'.length;obtain⟨o,ho,hc,n,hd⟩:=pl.isList;exact call_list_seq p @ad ho hc hd @nD (by simp only[Rb]<;>simp_all)
 .obtain⟨Xv,r',pl,hz⟩:=I.tuple hq
  have Xy:=r'.length;obtain⟨o,ho,hc,n,hd⟩:=pl;exact call_list_seq p @cn ho hc hd @nD (by simp only[Rb]<;>simp_all)
theorem l8:gw X @kG (λxs H Q=>∃p ys,xs=[.ref p]/\((Zc X.K H p ys/\∀l,H l=Y'->Q (.ref l) (upd H l @co))\/(Zo X.K H p ys/\Q @du H))):=by
 intro J' s σ H xs us Q I r h;obtain⟨p,ys,rfl,h⟩:=h;obtain⟨u,rfl,rx⟩:=vals1 r;cases rx;rcases h with⟨hq,q⟩|⟨hq,q⟩
 .obtain⟨Xv,r',pl,hz⟩:=I.list hq
  have Xy:=r'.length;refine call_tuple_list pl.isList (λh' kp=>?_) (by simp only[Rb]<;>simp_all)
  have I1:Inv X J' σ H {s with heap:=h'}:=I.kept (t':=s.toks) kp
  have I2:Inv X J' σ (upd H h'.objs.size @co) {s with heap:=h'.push {cls:=.type "tuple",data:=.seq Xv.toArray} }:=
   I1.laid (t':=s.toks) (λb o e=>QT _ e) @C (show eM X.prog X.w _ _ _ (.tup ys)from ⟨hz,Xv,r',E6.new _ _⟩)
  exact⟨.ref h'.objs.size,_,I2,rfl,q _ @c8⟩
 .obtain⟨Xv,r',pl,hz⟩:=I.tuple hq
  exact call_tuple_same pl ⟨.ref p,H,I,rfl,q⟩
def tyV(K:QO)(T:String)(x:V)(H:Hp):Prop:=match x with
|.str _=>T="str"
|.int _=>T="int"
|.ref p=>(T="list"/\∃xs,Zc K H p xs)\/(T="tuple"/\∃o,K.lookup p=Z' o/\o.cls=.type "tuple"/\o.dict=Y') ∨
   (T="dict"/\((∃kvs,H p=Z' @ah)\/∃kvs,H p=Z' @cq))\/(T="set"/\∃S n,H p=Z' (.set S n))
|_=>False
theorem IV{J':List @c}{σ:St}{H:Hp}{s:QR}{T:String}{x:V}{v:Value}(I:Inv X J' σ H s)(r:RelV x v)(ty:tyV X.K T x H):
  s.TypeIs v T/\∀a,v=.ref a->∃ob,s.heap.get? a=Z' ob/\ob.dict=Y':=by
 cases x with
|str z=>
  obtain⟨t,rfl⟩:=r;cases (show T="str" from ty);exact⟨U5 s z t,λ_ e=>nomatch e⟩
|int i=>
  obtain⟨t,rfl⟩:=r;cases (show T="int" from ty);exact⟨typeIs_int s i t,λ_ e=>nomatch e⟩
|ref p=>
  cases r;rcases ty with⟨rfl,xs,hq⟩|⟨rfl,o,hk,hc,hd⟩|⟨rfl,hk⟩|⟨rfl,S,n,hk⟩
  .obtain⟨Xv,_,pl,_⟩:=I.list hq
   refine⟨pl.isList.typeIs,λa e=>?_⟩;cases e;obtain⟨o,n,e,c,hd,_⟩:=pl;exact⟨o,e,hd⟩
  .refine⟨⟨o,I.Z6 p o hk,hc⟩,λa e=>?_⟩
   cases e;exact⟨o,I.Z6 _ o hk,hd⟩
  .have z:∃o,s.heap.get? p=Z' o/\o.ExactDict:=by
    rcases hk with⟨kvs,hk⟩|⟨kvs,hk⟩
    .obtain⟨_,_,_,_,o,_,_,e,ex,_⟩:=I.hok p _ hk
     exact⟨o,e,ex⟩
    .obtain⟨_,_,_,_,o,_,_,e,ex,_⟩:=I.hok p _ hk
     exact⟨o,e,ex⟩
   obtain⟨o,e,ex⟩:=z;refine⟨@sS,λa e2=>?_⟩;cases e2;exact@r3
  .obtain⟨o,_,_,_,e,ex,_⟩:=I.hok p _ hk
   refine⟨@sS,λa e2=>?_⟩;cases e2;exact@r3
|_=>exact QS ty
noncomputable def tBM(K:QO)(T:String)(r:V->List V->Hp->VK->Prop)(to:TE)(t:TA):TE:=fun σ H Q=>to σ H λx H1=>tyV K T x H1/\t σ H1 λxs H2=>r x xs H2 Q
variable{o e:Expr}{es:List Expr}{to:TE}{t:TA}{name:Str}{Y4 Y0:SL}{T id:String}{r:V->List V->Hp->VK->Prop}
theorem vn (pa:PlainAttrs T) (slot:Slot T name id) (hty:typeOf @bV=pure @oO) (hm:MtR X id r) (ho:PE X o to) (ha:PA X (e::es) t)
  (hbase:S8 o name X.env (Rj o X.env)=Rj o X.env:=by rfl)
  (hfew:((SN Y0 (QU (e::es) X.env)).all (λx=>!x.1) && (TH Y0 (SS [] X.env)).all (λx=>x.1.isSome)
   && decide ((e::es).length+([]:List Xp).length+(if ([]:List Xp).isEmpty then 0 else 1)<30))=Y2:=by rfl)
  (Y6:(Y4.endLine==Y0.line)=Y2:=by rfl) (hs:QU (e::es) X.env=(Y1,Rj e X.env)::QU es X.env:=by rfl) (hplain:(SN Y0 @ch).any @d=Y1:=by rfl):
  PE X (.Call @jL (e::es) [] Y0) (tBM X.K T r to t):=by
 sleep 4;refine VX hbase hfew Y6 rfl (Yl @jR λv s1 ⟨x,H1,I1,r1,ty,q1⟩=>?_);obtain⟨h1,h2⟩:=IV I1 r1 ty;refine⟨T,id,pa,slot,hty,h1,h2,?_⟩;have hA:=ha Y0 J' s1 σ H1 _ I1 q1;rw[hs]at hA ⊢;refine U0 (by show (Y1 ||(SN Y0 @ch).any @d)=Y1;rw[hplain]<;>rfl) (VN ?_)
 exact Yl hA λus s2 ⟨vs,H2,I2,r2,q2⟩=>hm J' s2 σ H2 x vs v us Q I2 r1 r2 q2
end
def MtM(X:Cx)(id:String)(r:V->List V->Hp->VK->Prop):Prop:=
 ∀(J':List @c)(s:QR)(σ:St)(H:Hp)(x:V)(xs:List V)(v:Value)(us:List Value)(Q:VK),Inv X J' σ H s->RelV x v->Vals xs us->r x xs H Q->
  QZ @o X.A (call @bV (v::us)) @aN X.xe s
theorem Vals.one:∀{x:V}{us:List Value},Vals [x] us->∃u,us=[u]/\RelV x u
|_,_,.cons r .nil=>⟨_,rfl,r⟩
section
variable{X:Cx}{J':List @c}{σ:St}{H:Hp}{s:QR}{l b:Addr}{xs ys zs:List V}
theorem Inv.lset{Xv its':List Value}{n:Nat}{f:Array Value->Array Value}{t':Nat}(I:Inv X J' σ H s)(hH:H l=Z' @ae)
  (e:s.heap.get? l=Z' {cls:=.type "list",data:=.seq Xv.toArray n}) (hf:f Xv.toArray=its'.toArray) (hv:Vals ys its') (hz:ys.length<=sizeLine):
  Inv X J' σ @qV {s with heap:=s.heap.update l (Obj.mapSeq f),toks:=t'}:=by
 have q:=PySem.IsL.update e f;rw[hf]at q;refine I.write (x:=l) (e:=l) (by rw[hH];exact trivial) @ad (λb' u hb hu=>(SE s.heap (Obj.mapSeq f) (Rv hb)).trans hu) ⟨_,q⟩ ?_;exact⟨hz,its',_,hv,q⟩
theorem Inv.lnew{Xv:List Value}{t':Nat}(I:Inv X J' σ H s)(hv:Vals ys Xv)(hz:ys.length<=sizeLine):
  Inv X J' σ (upd H s.heap.objs.size (.lst ys)) {s with heap:=s.heap.push {cls:=.type "list",data:=.seq Xv.toArray},toks:=t'}:=
 I.laid @j2 @C ⟨hz,Xv,0,hv,RD _ rfl⟩
theorem Inv.fresh(I:Inv X J' σ H s):H s.heap.objs.size=Y':=I.hok.fresh @C
theorem Inv.lstM (I:Inv X J' σ H s) (hH:H l=Z' @ae):xs.length<=sizeLine/\∃(Xv:List Value) (n:Nat),Vals xs Xv/\xs.length=Xv.length/\s.heap.get? l=Z' {cls:=.type "list",data:=.seq Xv.toArray n}:=by
 obtain⟨z,Xv,n,r,e⟩:=I.hok l _ hH;exact⟨z,Xv,n,r,r.length,e⟩
theorem D4{n:Nat}(h:n<=sizeLine):UN n=Y1:=by
 unfold UN;exact decide_eq_false (by simp[*])
end
section
variable{X:Cx}
def G0:V->List V->Hp->VK->Prop:=λx vs H Q=>∃l xs y,x=.ref l/\vs=[y]/\H l=Z' @ae/\xs.length<sizeLine/\Q .Yj (upd H l (.lst (xs++[y])))
theorem kC:MtM X "list.append" G0:=by
 intro J' s σ H x vs v us Q I rx rv h;obtain⟨l,xs,y,rfl,rfl,hH,hz,q⟩:=h;cases rx;obtain⟨u,rfl,ru⟩:=rv.one;obtain⟨z,Xv,n,r,hl,e⟩:=I.lstM hH;refine U6 Tw @k0 F.entry_list_append (F.args_list_append_2 _ _) (PySem.list_append l Xv.toArray n u (by rw[Rb];simp_all)) ⟨e,?_⟩;refine⟨.Yj,_,I.lset (its':=Xv++[u]) hH e @a (r.append @kH) ?_,rfl,q⟩;rw[RF,X8]
 trivial
end
section
variable{κ:Type}[DecidableEq κ]
noncomputable def pj(kvs:List @av)(k:κ):Option V:=(kvs.find? λkv=>decide @iw).map @s
noncomputable def Xz(kvs:List @av)(k:κ)(v:V):List @av:=
 if @eM=Y2 then kvs.map (λkv=>if kv.1=k then (kv.1,v)else kv)else kvs++[(k,v)]
noncomputable def se(kvs:List @av)(k:κ):List @av:=kvs.filter λkv=>decide (kv.1≠k)
theorem i7{p:κ×V}{r:List @av}{k:κ}(e:p.1=k):pj (p::r) k=Z' p.2:=by simp[pj,Tt,e]
theorem eN{p:κ×V}{r:List @av}{k:κ}(e:¬ p.1=k):pj (p::r) k=pj r k:=by simp[pj,Tt,e]
theorem jl(k:κ):∀kvs:List @av,@eM=(pj kvs k).isSome
|[]=>rfl
|p::r=>by
  rw[Sv]
  by_cases e:p.1=k
  .simp only[i7 e,decide_eq_true e,Bool.true_or,Option.isSome_some]
  .rw[eN e,decide_eq_false e,Bool.false_or];exact jl k r
theorem jM(kvs:List @av)(k:κ)(v:V):(Xz kvs k v).length<=kvs.length+1:=by
 unfold Xz
 split
 .rw[RB];simp
 .rw[RF,QV,WD];simp
theorem pf.Zg{o:Option V}{u:Option Value}(r:pf o u):o.isSome=u.isSome:=by
 cases o with
|none=>cases u with
  |none=>rfl
  |some _=>exact(show False from r).elim
|some _=>cases u with
  |none=>exact(show False from r).elim
  |some _=>rfl
theorem KV.val{kvs:List @av}{vs:List @cL}(r:KV kvs vs)(k:κ):pf @lV (UF vs k):=by
 unfold KV at r
 induction r with
|nil=>exact Sq
|@cons p q ps qs h t ih=>
  obtain⟨h1,h2⟩:=h
  by_cases e:p.1=k
  .have e':q.1=k:=h1.symm.trans e
   have b:UF (q::qs) k=Z' q.2:=by simp[UF,Tt,e']
   rw[i7 e,b];exact h2
  .have e':¬ q.1=k:=λz=>e @ht
   have b:UF (q::qs) k=UF qs k:=by simp[UF,Tt,e']
   rw[eN e,b];exact ih
theorem KV.any{kvs:List @av}{vs:List @cL}(r:KV kvs vs)(k:κ):@eM=vs.any λkv=>decide @iw:=by
 unfold KV at r
 induction r with
|nil=>rfl
|cons h t ih=>rw[Sv,Sv,ih,h.1]
theorem KV.repl{kvs:List @av}{vs:List @cL}(r:KV kvs vs)(k:κ){y:V}{u:Value}(ry:RelV y u):
  KV (kvs.map λkv=>if kv.1=k then (kv.1,y)else kv) (vs.map λkv=>if kv.1=k then (kv.1,u)else kv):=by
 unfold KV at r ⊢
 induction r with
|nil=>exact .nil
|@cons p q ps qs h t ih=>
  rw[RG,RG];refine .cons ?_ ih;obtain⟨h1,h2⟩:=h
  by_cases e:p.1=k
  .rw[if_pos e,if_pos @rH];exact⟨h1,ry⟩
  .rw[if_neg e,if_neg @sB];exact⟨h1,h2⟩
theorem KV.put{kvs:List @av}{vs:List @cL}(r:KV kvs vs)(k:κ){y:V}{u:Value}(ry:RelV y u):KV (Xz kvs k y) (stored vs k u):=by
 unfold Xz stored;rw[r.any k]
 by_cases e:(vs.any λkv=>decide @iw)=Y2
 .rw[if_pos e,if_pos e];exact r.repl k ry
 .rw[if_neg e,if_neg e];exact Paired.snoc r ⟨rfl,ry⟩
theorem KV.drop{kvs:List @av}{vs:List @cL}(r:KV kvs vs)(k:κ):KV (se kvs k) (without vs k):=by
 unfold KV at r ⊢;unfold se without
 induction r with
|nil=>exact .nil
|@cons p q ps qs h t ih=>
  obtain⟨h1,h2⟩:=h;rw[List.filter_cons,List.filter_cons]
  by_cases e:p.1=k
  .have a:¬ decide (p.1≠k)=Y2:=by simp[e]
   have b:¬ decide (q.1≠k)=Y2:=by simp[h1.symm.trans e]
   rw[if_neg a,if_neg b];exact ih
  .have e':¬ q.1=k:=λz=>e @ht
   have a:decide (p.1≠k)=Y2:=by simp[e]
   have b:decide (q.1≠k)=Y2:=by simp[e']
   rw[if_pos a,if_pos b];exact .cons ⟨h1,h2⟩ ih
theorem KV.length{kvs:List @av}{vs:List @cL}(r:KV kvs vs):kvs.length=vs.length:=SH r
theorem DO(kvs:List @av)(k:κ):(se kvs k).length<=kvs.length:=VF _ _
end
theorem oq{P:R8}{w:RH}{k:Key}{u:Value}(r:RelV @ep u):(aF P w).is k u=Y2:=by
 cases k with
|inl i=>obtain⟨t,e⟩:=(show ∃t,u=Uu i t from r);subst e;exact vt P w i t
|inr x=>obtain⟨t,e⟩:=(show ∃t,u=U9 x t from r);subst e;exact jL P w x t
theorem ui{P:R8}{w:RH}:∀{ks:List Key}{us:List Value},Vals @ea us->ItemsAre @af ks us
|[],_,r=>by rw[Vq]at r;cases r;exact .nil
|k::ks,_,r=>by
  rw[RG]at r;cases r with
  |cons h t=>exact .cons (oq h) (ui t)
abbrev KT(H:Hp):List @cW->List @dc->Prop:=X7 λp q=>p.1=q.1/\l9 H q.2.1 p.1/\RelV p.2 q.2.2
theorem KT.val{H:Hp}{kvs:List @cW}{xs:List @dc}(r:KT H kvs xs)(k:lj):pf @lV ((X6 xs k).map @s):=by
 induction r with
|nil=>exact Sq
|@cons p q ps qs h t ih=>
  obtain⟨h1,_,h2⟩:=h
  by_cases e:p.1=k
  .have e':q.1=k:=h1.symm.trans e
   have b:X6 (q::qs) k=Z' q.2:=by simp[X6,Tt,e']
   rw[i7 e,b];exact h2
  .have e':¬ q.1=k:=λz=>e @ht
   have b:X6 (q::qs) k=X6 qs k:=by simp[X6,Tt,e']
   rw[eN e,b];exact ih
theorem KT.repl{H:Hp}{kvs:List @cW}{xs:List @dc}(r:KT H kvs xs)(k:lj){y:V}{u:Value}(ry:RelV y u):
  KT H (kvs.map λkv=>if kv.1=k then (kv.1,y)else kv) (xs.map (putAt k u)):=by
 induction r with
|nil=>exact .nil
|@cons p q ps qs h t ih=>
  rw[RG,RG];refine .cons ?_ ih;obtain⟨h1,h2,h3⟩:=h;unfold putAt
  by_cases e:p.1=k
  .rw[if_pos e,if_pos @rH];exact⟨h1,h2,ry⟩
  .rw[if_neg e,if_neg @sB];exact@sT
theorem KT.put{H:Hp}{kvs:List @cW}{xs:List @dc}(r:KT H kvs xs)(k:lj){b:Addr}{y:V}{u:Value}(hb:l9 H b k)(ry:RelV y u):
  KT H (Xz kvs k y) (storedH xs k b u):=by
 have e:@eM=(X6 xs k).isSome:=by
  rw[jl,(r.val k).Zg,Option.isSome_map]
 unfold Xz storedH;rw[e]
 by_cases q:(X6 xs k).isSome=Y2
 .rw[if_pos q,if_pos q];exact r.repl k ry
 .rw[if_neg q,if_neg q];exact Paired.snoc r ⟨rfl,hb,ry⟩
theorem KT.keeps{H H':Hp}{kvs:List @cW}{xs:List @dc}(r:KT H kvs xs)(ht:∀b ys,H b=Z' @co->H' b=Z' @co):KT H' kvs xs:=
 Paired.af4 r λ_ _ z=>@oq
section
variable{P:R8}{w:RH}{H:Hp}{h:Heap}{a:Addr}
theorem Jf{u:HO}(ok:Z4 P w H h)(e:Rd H a u):eM P w H h a u:=e.ok ok
theorem DP{kvs:List @t}(ok:Z4 P w H h)(e:Rd H a @ah):kvs.length<=sizeLine/\(a==SI)=Y1/\∃vs,KV kvs vs/\h.DictOf @af a vs:=
 show eM P w H h a (.dK kvs)from Jf ok e
theorem Hr{kvs:List @t}(ok:Z4 P w H h)(e:H a=Z' @ah):kvs.length<=sizeLine/\(a==SI)=Y1/\∃vs,KV kvs vs/\h.DictOf @af a vs:=DP ok (.inl e)
theorem H0{ks:List Key}(ok:Z4 P w H h)(e:H a=Z' (.tup @ea)):W9 @af h ks a:=by
 obtain⟨_,Xv,r,o,h1,h2,⟨n,h3⟩,_⟩:=(show eM P w H h a (.tup @ea)from ok a _ e);exact⟨o,Xv.toArray,n,h1,h2,h3,by simpa using ui r⟩
theorem o6(ok:Z4 P w H h):∀{ks:lj}{vs:List V}{us:List Value},NV H ks vs->Vals vs us->Yo @af h ks us
|[],_,_,e,r=>by cases e;cases r;exact .nil
|.inl k::ks,_,_,⟨t,e,m⟩,r=>by
  subst e;cases r with
  |cons h1 h2=>exact .sc (oq h1) (o6 ok m h2)
|.inr l::ks,_,_,⟨c,t,e,hc,m⟩,r=>by
  subst e;cases r with
  |cons h1 h2=>cases h1;exact .tp (H0 ok hc) (o6 ok m h2)
theorem key_of{ks:lj}(ok:Z4 P w H h)(e:l9 H a ks):(kA P w).is h ks a:=by
 obtain⟨vs,e,m⟩:=e;obtain⟨_,Xv,r,o,h1,h2,⟨n,h3⟩,_⟩:=(show eM P w H h a (.tup vs)from ok a _ e);exact⟨o,Xv.toArray,n,h1,h2,h3,by simpa using o6 ok m r⟩
theorem u7{A:RV}(hu:A.units+16<cLine):A.in1.units+8<cLine:=show A.units+1+8<cLine by grind
theorem DN{kvs:List @cW}(ok:Z4 P w H h)(e:Rd H a @cq):kvs.length<=sizeLine/\(a==SI)=Y1/\
  ∃xs,KT H kvs xs/\h.DictOfH (kA P w) a xs:=by
 obtain⟨z,y,xs,r,o,es,ep,h1,h2,h3,h4,h5⟩:=(show eM P w H h a (.dT kvs)from Jf ok e);refine⟨z,y,xs,r,o,es,ep,h1,h2,h3,h4,λx hx=>?_,h5⟩
 have all:∀{l:List @cW}{m:List @dc},KT H l m->∀x∈m,(kA P w).is h x.1 x.2.1:=by
  intro l m q
  induction q with
  |nil=>intro x hx;exact nomatch hx
  |@cons p q ps qs hq t ih=>
   intro x hx;rcases R7.mp hx with e|hx
   .subst e
    exact key_of ok (by rw[<-hq.1];exact hq.2.1)
   .exact ih x hx
 exact all r x hx
theorem Nl{kvs:List @cW}(ok:Z4 P w H h)(e:H a=Z' @cq):kvs.length<=sizeLine/\(a==SI)=Y1/\
  ∃xs,KT H kvs xs/\h.DictOfH (kA P w) a xs:=DN ok (.inl e)
end
def Fi(H:Hp)(a:Addr)(y:V)(r:Option V):Prop:=
 (∃kvs k,Rd H a @ah/\y=kV k/\r=pj kvs k)\/∃kvs k b,Rd H a @cq/\y=.ref b/\l9 H b k/\r=pj kvs k
def Ig(H:Hp)(a:Addr)(y v:V)(H':Hp):Prop:=
 (∃kvs k,H a=Z' @ah/\y=kV k/\kvs.length<sizeLine/\H'=upd H a @g2) ∨
 ∃kvs k b,H a=Z' @cq/\y=.ref b/\l9 H b k/\kvs.length<sizeLine/\H'=upd H a (.dT (Xz kvs k v))
theorem Fi.k{H:Hp}{a:Addr}{kvs:List @t}{k:Key}(e:H a=Z' @ah):Fi H a @ep @lV:=.inl ⟨kvs,k,.inl e,rfl,rfl⟩
theorem Ig.k{H:Hp}{a:Addr}{kvs:List @t}{k:Key}{v:V}(e:H a=Z' @ah)(hl:kvs.length<sizeLine):Ig H a @ep v (upd H a @g2):=.inl ⟨kvs,k,e,rfl,hl,rfl⟩
section
variable{X:Cx}{J':List @c}{σ:St}{H:Hp}{s:QR}{a:Addr}{y v:V}{u r:Value}{o:Option V}{A:RV}{E:Value->QR->Prop}
theorem Inv.big(I:Inv X J' σ H s):SI<s.heap.objs.size:=by
 have h:R5<s.heap.objs.size:=(I.mod.glob.keeps I.bk).lt;exact Nat.lt_trans @h h
theorem Bl{Q:Value->QR->Prop}(hu:A.units+16<cLine)(I:Inv X J' σ H s)(g:Fi H a y @aR)(ry:RelV y u)(h:∀w' s',Inv X J' σ H s'->RelV v w'->Q w' s'):
  QZ @o A (Vn @m u) Q E s:=by
 rcases g with⟨kvs,k,e,ey,l⟩|⟨kvs,k,b,e,ey,eb,l⟩
 .subst ey
  obtain⟨z,hd,vs,rel,dd⟩:=DP I.hok e;obtain⟨w',hw,rw'⟩:=pf.some_of (v:=v) (o:=UF vs k) (by rw[l];exact rel.val k);exact wpAny_getItem_of (oq ry) dd.mapOf hw (h w' _ @mr rw')
 .subst ey
  cases (show u=RU b from ry);obtain⟨z,hd,xs,rel,dd⟩:=DN I.hok e;obtain⟨w',hw,rw'⟩:=pf.some_of (v:=v) (o:=(X6 xs k).map @s) (by rw[l];exact rel.val k);obtain⟨p,hp,hp2⟩:=RJ.mp hw;refine wpAny_getItem_heap (u7 hu) @rF dd hp ?_;rw[hp2];exact h w' _ @mr rw'
theorem sf{h':Heap}{t':Nat}{ob:HO}(I:Inv X J' σ H s)(mu:Mut (H a))(hs:T9 a s.heap h')(he:∃q,h'.get? a=Z' q)(new:eM X.prog X.w (upd H a ob) h' a ob):
  Inv X J' σ (upd H a ob) {s with heap:=h',toks:=t'}:=
 I.write (x:=a) (e:=a) mu @ad (λb q hb z=>(hs.2 b hb).trans z) he new
theorem Bg{P:R8}{w:RH}{H':Hp}{h':Heap}{kvs:List @t}{vs:List @d6}(z:kvs.length<=sizeLine)(hd:(a==SI)=Y1)(rel:KV kvs vs)(dd:h'.DictOf @af a vs):
  eM P w H' h' a @ah:=⟨z,hd,vs,rel,dd⟩
theorem Bk{H':Hp}{Q:Unit->QR->Prop}(hu:A.units+16<cLine)(I:Inv X J' σ H s)(g:Ig H a y v H')(ry:RelV y u)(rv:RelV v r)(h:∀s',Inv X J' σ H' s'->Q () s'):
  QZ @o A (setItem @m u r) Q E s:=by
 rcases g with⟨kvs,k,e,ey,l,eH⟩|⟨kvs,k,b,e,ey,eb,l,eH⟩
 .subst ey eH
  obtain⟨z,hd,vs,rel,dd⟩:=Hr I.hok e;have hz:vs.length<=sizeLine:=by rw[<-rel.length];exact z
  have hl:(Xz kvs k v).length<=sizeLine:=by have:=jM kvs k v;grind
  refine wpAny_setItem_pairs (hsz:=hz) (oq ry) dd λh' dd' hs=>h _ ?_;have he:∃q,h'.get? a=Z' q:=let ⟨q,_,_,hq,_⟩:=dd';⟨q,hq⟩
  exact sf I (by rw[e];exact Sq) hs he (Bg hl hd (rel.put k rv) dd')
 .subst ey eH
  cases (show u=RU b from ry);obtain⟨z,hd,xs,rel,dd⟩:=Nl I.hok e;have hz:xs.length<=sizeLine:=by rw[<-SH rel];exact z
  have hl:(Xz kvs k v).length<=sizeLine:=by have:=jM kvs k v;grind
  refine wpAny_setItem_heap (hsz:=hz) (u7 hu) @rF dd λh' dd' hs=>h _ ?_;obtain⟨q,es,ep,hq,h2,h3,h4,_,h5⟩:=dd';refine sf I (by rw[e];exact Sq) hs ⟨q,hq⟩ ⟨hl,hd,_,(rel.put k eb rv).keeps λc ys ec=>?_,q,es,ep,hq,h2,h3,h4,h5⟩;rw[ai (MA ec e (λz=>nomatch z))];exact ec
end
section
variable{X:Cx}{J':List @c}{σ:St}{H:Hp}{s:QR}{a:Addr}{kvs:List @t}{k:Key}{u:Value}{A:RV}{E:Value->QR->Prop}
theorem Np{v:V}{more:List Value}{Q:Value->QR->Prop}(I:Inv X J' σ H s)(e:H a=Z' @ah)(ry:RelV @ep u)(l:pj kvs k=Z' v)(hm:more=[]\/∃x,more=[x])
  (h:∀w' s',Inv X J' σ (upd H a @kv) s'->RelV v w'->Q w' s'):QZ @o A (call (.builtin "dict.pop") (.ref a::u::more)) Q E s:=by
 obtain⟨z,hd,vs,rel,dd⟩:=Hr I.hok e;obtain⟨w',hw,rw'⟩:=pf.some_of (v:=v) (o:=UF vs k) (by rw[<-l];exact rel.val k)
 have hp:(keyPart u).isSome=Y2:=by
  cases k with
  |inl i=>obtain⟨t,q⟩:=(show ∃t,u=Uu i t from ry);subst q;rfl
  |inr x=>obtain⟨t,q⟩:=(show ∃t,u=U9 x t from ry);subst q;rfl
 have ha:argsOk "dict.pop" ⟨.ref a::u::more,[]⟩:=by
  rcases hm with q|⟨x,q⟩
  .subst q;exact PySem.F.args_dict_pop_2 _ _
  .subst q;exact PySem.F.args_dict_pop_3 _ _ _
 refine WH Wq dd.typeIs PySem.F.entry_dict_pop ha (meets_dict_pop_there @kF a (oq ry) more hm hp)
  ⟨vs,w',dd,by rw[<-rel.length];exact z,hw,λh' dd' hs=>h w' _ ?_ rw'⟩
 have he:∃q,h'.get? a=Z' q:=let ⟨q,_,_,hq,_⟩:=dd';⟨q,hq⟩
 exact sf I (by rw[e];exact Sq) hs he (Bg (Rg (DO kvs k) z) hd (rel.drop k) dd')
end
def OV(i:Expr):Prop:=∀ov iv,Wj i Y1 ov iv=operate [ov,iv] (Vn ov iv)
theorem FK{prog:R8}{w:RH}{A:RV}{E:Value->QR->Prop}{s:QR}{env:Uz}{value slice:Expr}{pos:SL}{T id:String}{Q:Value->QR->Prop}
  (hl:X3 @aG "__getitem__"=pure (Z' @bV)) (hs:OV slice)
  (h:QZ @r A (Rj value env) (λo s₁=>QZ @r A (Rj slice env) (λi s₂=>s₂.TypeIs o T/\QZ @r A (Vn o i) Q E s₂) E s₁) E s):
  QZ @r A (Rj (.Subscript value slice pos) env) Q E s:=by
 refine Subscript_ (Rz h (λo s₁ h₁=>Rz h₁ (λi s₂ h₂=>?_) λ_ _ x=>x) λ_ _ x=>x);obtain⟨hT,h₂⟩:=h₂;unfold XX;refine QQ ?_;rw[getitemInPython_of_ne hT.not_modules];refine QQ (Ua hT hl ?_)
 have fin:QZ @r A (Wj slice Y1 o i) (λr s₃=>QZ @r A (letTemporaryGo value o r>>=λ_=>pure r) Q E s₃) E s₂:=by
  rw[hs o i];exact wpAny_operating (Rz h₂ (λr s₃ h₃=>QQ (wpAny_letTemporaryGo (QW h₃))) λ_ _ x=>x)
 first
  |exact QW (QQ fin)
  |exact QQ (QW (QQ fin))
  |exact QQ fin
theorem vL {X:Cx} {J':List @c} {σ:St} {H:Hp} {s:QR} {a:Addr} {y:V} {o:Option V} (I:Inv X J' σ H s) (g:Fi H a y o):s.TypeIs @m "dict":=by
 rcases g with⟨kvs,k,e,_,_⟩|⟨kvs,k,b,e,_,_,_⟩
 .obtain⟨_,_,vs,_,dd⟩:=DP I.hok e
  exact dd.typeIs
 .obtain⟨_,_,xs,_,dd⟩:=DN I.hok e
  exact dd.typeIs
noncomputable def M3(td ty:TE):TE:=fun σ H Q=>td σ H λx H1=>ty σ H1 λy H2=>∃a v,x=.ref a/\Fi H2 a y @aR/\Q v H2
noncomputable def Ma(td ty tv:TE):TS:=λD σ H=>tv σ H λv H1=>td σ H1 λx H2=>ty σ H2 λy H3=>∃a H4,x=.ref a/\Ig H3 a y v H4/\D.nx σ H4
section
variable{X:Cx}{o i e value:Expr}{pos pos' tpos:SL}{td ty tv:TE}
theorem vm(hu:X.A.units+16<cLine)(ho:PE X o td)(hi:PE X i ty)(hs:OV i):PE X (.Subscript o i pos) (M3 td ty):=by
 sleep 4;refine FK WC.lookup hs (Yl @jR λu s1 ⟨x,H1,I1,rx,q1⟩=>Yl (hi J' s1 σ H1 _ I1 q1) λiv s2 ⟨y,H2,I2,ry,a,v,ex,g,q2⟩=>?_);subst ex;obtain rfl:u=RU a:=rx;exact⟨vL I2 g,Bl hu I2 g ry λw' s3 I3 rw'=>⟨v,H2,I3,rw',q2⟩⟩
theorem zK(hu:X.A.units+16<cLine)(ho:PE X o td)(hi:PE X i ty)(hv:PE X value tv)(hs:SR value (Z' (.Subscript o i pos')) pos.line X.env=pure Y1):
  PS X (.Assign [.Subscript o i pos'] value pos) (Ma td ty tv):=by
 sleep 8;refine wpAny_Assign_Subscript (Yl @qt λr s1 ⟨v,H1,I1,rv,q1⟩=>Yl (ho J' s1 σ H1 _ I1 q1) λu s2 ⟨x,H2,I2,rx,q2⟩=>Yl (hi J' s2 σ H2 _ I2 q2) λiv s3 ⟨y,H3,I3,ry,a,H4,ex,g,q3⟩=>?_) hs;subst ex;obtain rfl:u=RU a:=rx;exact Bk hu I3 g ry rv λs4 I4=>⟨σ,H4,I4,q3⟩
end
theorem xn {P:R8} {w:RH} {H:Hp} (h:Heap) (hb:SI<h.objs.size):eM P w H (h.push {cls:=.type "dict",data:=.dict #[]}) h.objs.size (.dK []):=
 ⟨UL _,beq_eq_false_iff_ne.mpr (Rv (RY hb)),[],.nil,Heap.DictOf.new h⟩
def z7:TE:=λ_ H Q=>∀p,H p=Y'->Q @du (upd H p (.dK []))
section
variable{X:Cx}{pos:SL}
theorem rf:PE X (.Dict [] [] pos) z7:=λJ' s σ H Q I h=>
 wpAny_Dict_empty ⟨.ref s.heap.objs.size,_,I.laid (a:=s.heap.objs.size) (o:=.dK []) (t':=s.toks) @j2 @C @rB,rfl,h _ @eY⟩
end
def pN:List @fU->St->Hp->(List (V×V)->Hp->Prop)->Prop
|[],_,H,Q=>Q [] H
|(tk,tv)::r,σ,H,Q=>tk σ H λx H1=>tv σ H1 λy H2=>pN r σ H2 λps H3=>Q ((x,y)::ps) H3
abbrev VV:List (V×V)->List @tl->Prop:=X7 λp q=>RelV p.1 q.1/\RelV p.2 q.2
def PPs(X:Cx)(pos:SL)(keys:List @ci)(values:List Expr)(Zp:List @fU):Prop:=
 ∀(J':List @c)(s:QR)(σ:St)(H:Hp)(Q:List (V×V)->Hp->Prop),Inv X J' σ H s->pN Zp σ H Q->
  QZ @o X.A (evalPairs (pairTrees keys values X.env pos)) (λvs s'=>∃ps H',Inv X J' σ H' s'/\VV ps vs/\Q ps H') X.xe s
theorem G5{X:Cx}{pos:SL}:PPs X pos [] [] []:=λJ' s σ H Q I h=>pairTrees_nil_walk ⟨[],H,I,.nil,h⟩
theorem wz{X:Cx}{pos:SL}{k v:Expr}{ks:List @ci}{vs:List Expr}{tk tv:TE}{Zp:List @fU}(hk:PE X k tk)(hv:PE X v tv)(hr:PPs X pos ks vs Zp):
  PPs X pos (Z' k::ks) (v::vs) ((tk,tv)::Zp):=λJ' s σ H Q I h=>
 pairTrees_cons_walk (Yl (hk J' s σ H _ I h) λu s1 ⟨x,H1,I1,rx,q1⟩=>Yl (hv J' s1 σ H1 _ I1 q1) λw2 s2 ⟨y,H2,I2,ry,q2⟩=>
  Yl (hr J' s2 σ H2 _ I2 q2) λws s3 ⟨ps,H3,I3,rel,q3⟩=>⟨(x,y)::ps,H3,I3,.cons ⟨rx,ry⟩ rel,q3⟩)
def jB(kvs more:List @t):List @t:=more.foldl (λXx kv=>Xz Xx kv.1 kv.2) kvs
theorem KV.merge:∀{more:List @t}{rs:List @d6}{kvs:List @t}{vs:List @d6},KV more rs->KV kvs vs->KV (jB kvs more) (merged vs rs):=by
 intro more rs kvs vs r;unfold KV at r
 induction r generalizing kvs vs with
|nil=>intro q;exact q
|@cons p q ps qs h t ih=>
  intro r0
  have e:KV @kr (stored vs q.1 q.2):=by
   have:=r0.put p.1 h.2;rw[<-h.1];exact this
  exact ih e
theorem kJ:∀(more kvs:List @t),(jB kvs more).length<=kvs.length+more.length
|[],kvs=>by show kvs.length<=kvs.length+0;simp
|p::r,kvs=>by
  have h1:=kJ r @kr;have h2:=jM kvs p.1 p.2;show (jB @kr r).length<=_;rw[QV];grind
theorem qA{P:R8}{w:RH}:∀{kvs:List @t}{ws:List @tl},VV (kvs.map λkv=>(kV kv.1,kv.2)) ws->∃rs,Carries @af ws rs/\KV kvs rs
|[],_,r=>by rw[Vq]at r;cases r;exact⟨[],Sq,.nil⟩
|p::kvs,_,r=>by
  rw[RG]at r;cases r with
  |@cons a b as bs h t=>
   obtain⟨rs,c,q⟩:=qA (P:=P) (w:=w) t;obtain⟨b1,b2⟩:=b;exact⟨(p.1,b2)::rs,⟨oq h.1,rfl,c⟩,.cons ⟨rfl,h.2⟩ q⟩
def M1(Zp:List @fU):TE:=fun σ H Q=>∀p,H p=Y'->pN Zp σ (upd H p (.dK [])) λps H2=>H2 p=Z' (.dK [])/\∃kvs:List @t,ps=kvs.map (λkv=>(kV kv.1,kv.2))/\kvs.length<=15/\Q @du (upd H2 p (.dK (jB [] kvs)))
theorem Ge{X:Cx}{pos:SL}{keys:List @ci}{values:List Expr}{Zp:List @fU}(h:PPs X pos keys values Zp)(hall:keys.all (·.isSome)=Y2)(hl:keys.length=values.length)(h0:keys≠[])
  (h15:keys.length<=15):PE X (.Dict keys values pos) (M1 Zp):=by
 intro J' s σ H Q I q;have hn:=I.hok.fresh (R9 s.heap.objs.size);have I1:=I.laid (a:=s.heap.objs.size) (o:=.dK []) (h':=s.heap.push {cls:=.type "dict",data:=.dict #[]}) (t':=s.toks) @j2 @C @rB;refine wpAny_Dict_walk (knd:=aF X.prog X.w) hall hl h0 h15 (Yl (h J' _ σ _ _ I1 (q _ hn)) λws s2 ⟨ps,H2,I2,rel,e,kvs,ep,lk,q2⟩=>?_);subst ep;obtain⟨rs,c,rk⟩:=qA (P:=X.prog) (w:=X.w) rel;obtain⟨z,hd,vs0,r0,dd⟩:=Hr I2.hok e;cases r0;refine⟨rs,c,dd,λh' dd' hs=>⟨.ref s.heap.objs.size,_,?_,rfl,q2⟩⟩
 have hz:(jB [] kvs).length<=sizeLine:=by
  have h1:=kJ kvs [];rw[WD]at h1;rw[Rt];grind
 have he:∃q,h'.get? s.heap.objs.size=Z' q:=let ⟨q,_,_,hq,_⟩:=dd';⟨q,hq⟩
 exact sf I2 (by rw[e];exact Sq) hs he (Bg hz hd (rk.merge .nil) dd')
end L2
namespace Att
open PySem PySem.W PySem.Calls PyProof.Rows
theorem oz{P:Params}{h:Heap}:∀(ns:List Int)(vs:List Value),WellAll P h vs @rf->Xr vs ns:=by
 intro ns
 induction ns with
|nil=>
  intro vs w;rw[Vq]at w;cases w;exact .nil
|cons n ns ih=>
  intro vs w;rw[RG]at w;cases w with
  |cons a b=>
   cases a;exact .cons _ _ (ih _ b)
theorem zd{l:OpenLaw}{n:Nat}(hn:l.most=Z' n){P:Params}{h:Heap}{args:List WData}{vals:List Value}
  (hpre:l.row.toRowW.claim.pre args=Y2) (hwl:WellAll P h vals args):
  ∃a vs ns,vals=[RU a]/\args=[WData.list @rf]/\h.get? a=Z' {cls:=.type "list",data:=.seq vs.toArray}/\Xr vs ns/\ns.length<=n:=by
 have hsh:WShape.hasAll [] args [.list .int]=Y2:=(pre_splitW hpre).1;have hc:l.pre.holds [] {args:=args}=Y2:=(pre_splitW hpre).2;obtain⟨d,r,rfl,h1,h2⟩:=hasAllW_cons hsh;obtain rfl:=hasAllW_nil h2;obtain⟨xs,rfl,h3⟩:=hasW_list h1;obtain⟨ns,rfl⟩:=items_int h3
 have Xy:ns.length<=n:=by
  unfold OpenLaw.pre at hc
  have h4:(WTm.not (.lt (.lit (.int (n:Int))) (.len (.arg 0)))).holds [] {args:=[.list @dX]}=Y2:=by
   have h4:=(holds_andW hc).1;rw[hn]at h4;exact h4
  have h5:=condW_of h4 (w_not (w_lt w_lit (w_len_list (w_arg rfl))));rw[RB]at h5;refine Nat.le_of_not_lt λq=>?_;have q':(n:Int)<((ns.length:Nat):Int):=by simp[*]
  first
   |(rw[decide_eq_true q']at h5;exact absurd h5 (by decide))
   |(simp at h5;omega)
 cases hwl with
|cons w1 w2=>
  cases w2;cases w1 with
  |list ho hall=>exact⟨_,_,ns,rfl,rfl,ho,oz ns _ hall,Xy⟩
theorem zL(l:OpenLaw)(args:List WData):l.row.toRowW.claim.post args @fl args=Y2:=
 postW_of (r:=l.row.toRowW) (X:=(Y2==Y2))
  (show WShape.has [] @fl .bool=Y2 by first|rfl|decide|simp[WShape.has,WShape.arms,WShape.armsAll])
  (show (WTm.eq .res (.lit @fl)).value [] {args:=args,res:=Z' @fl,after:=args}=Z' (.bool (Y2==Y2))from w_eq_bool (w_res rfl) w_lit) rfl
theorem ab5{l:OpenLaw}{n:Nat}{q:R8}{loose:List Str}{XP:(Str->Option Value)->Heap->Prop}{YP:RH->Heap->Prop}{d:DefRec}
  (hn:l.most=Z' n) (hdf:d.params.defaults=[])
  (call:∀(w:RH)(s₀ s₁:QR)(mg mb:Str->Option Value)(fa:Addr)(o:Obj)(pm cd doc:Value)(a:Addr)(vs:List Value)(ns:List Int),
   Ground q loose [] XP w s₀ mg mb s₁.heap->YP w s₁.heap->
   s₁.heap.get? fa=Z' o->o.data=.func (docDef d.name d.params d.body d.scope pm cd doc)->s₁.heap.CodeRec cd d.name->mg d.name=Z' @ds->
   s₁.heap.get? a=Z' {cls:=.type "list",data:=.seq vs.toArray}->Xr vs ns->ns.length<=n->s₁.gens=#[]->
   Uj (RE l.prog w) WG (.call @ds ⟨[.ref a],[]⟩) (λr s'=>r=.ok @lQ/\OldK s₁.heap s'.heap/\s'.os=s₁.os/\V3 s'.gens) s₁):
  WalkO q loose XP YP l.row.toRowW d [] @j1:=by
 intro w s₀ s₁ mg mb G Y fa o pm cd doc dV kV ho hd hcd hD hmg hg args vals as hpre hlay hrd hwl hlo;obtain rfl:dV=.none:=Dflts.none hD hdf;obtain rfl:kV=.none:=Dflts.noKw hD;obtain⟨a,vs,ns,rfl,rfl,hobj,hints,Xy⟩:=zd hn hpre hwl;refine enter_call (UG (call w s₀ s₁ mg mb fa o pm cd doc a vs ns G Y ho (fd_plain hd) hcd hmg hobj hints Xy hg) λr s' hq=>?_);obtain⟨rfl,h2,h3,h4⟩:=hq;exact⟨.inl ⟨.bool Y2,.bool Y2,[],rfl,λ_=>rfl,.bool Y2,zL l _,λ_=>⟨List.Pairwise.nil,λ_ hm=>(nomatch hm)⟩⟩,h2,h3,h4⟩
end Att
namespace L2
open PySem PySem.Spec PyProof.Rows
theorem sI:∀{vs:List Value}{ns:List Int},Xr vs ns->Vals @dR vs
|_,_,.nil=>.nil
|_,_,.cons n t h=>.cons @a5 (sI h)
def NB(H:Hp):Prop:=∀b,H b=Y'\/∃o xs,H b=Z' (.YL o @ae)
noncomputable def jP(s:Stmt)(j:Nat):Stmt:=match s with
|.ClassDef _ _ _ body _ _ _ _ _ _ _=>body.getD j (.Pass @k1)
|_=>.Pass @k1
noncomputable def cU(s:Stmt):Arguments:=match s with
|.FunctionDef _ a _ _ _ _ _ _ _ _=>a
|_=>{posonlyargs:=[],args:=[],vararg:=Y',kwonlyargs:=[],kw_defaults:=[],kwarg:=Y',defaults:=[]}
noncomputable def aY(s:Stmt):List Stmt:=match s with
|.FunctionDef _ _ b _ _ _ _ _ _ _=>b
|_=>[]
noncomputable def a8(s:Stmt):Scope:=match s with
|.FunctionDef _ _ _ _ _ _ sc _ _ _=>sc
|_=>{kind:=.function,names:=[],isGenerator:=Y1,isCoroutine:=Y1}
abbrev CX0:CXT:=λ_ _ _ _ _ _=>False
abbrev E0:XK:=λ_ _ _=>False
theorem y9{X:Cx}:Passes CX0 X E0:=λ_ _ _ _ _ _ _ h=>h.elim
structure Fun(K:QO)(x qual:Str)(st:Stmt)(f:Addr)(fd:FuncData):Prop where
 ex:∃(oc:Value)(od:Option Addr)(kV doc pm:Value)(an:Option Addr)(Y5 ct:Value)(osl:Array @bz),
  fd=Rr x qual @cw @R @A .none kV doc pm an Y5 ct/\K.lookup f=Z' ⟨oc,od,.func fd,osl⟩/\Se K Y5 qual=Y2
 kp:Rl K @x=Y2
section
variable{P:R8}{w:RH}{K:QO}{mg:Str->Option Value}{base:Heap}
theorem Fun.ok{x qual:Str}{st:Stmt}{f:Addr}{fd:FuncData}{N ps:List Str}{k:Nat}{sp:Sp}(F:Fun K x qual st f fd)(S:Ye N ps @A)(len:∀vs H Q E,sp vs H Q E->vs.length=ps.length)
  (Y3:∀(Y5:Value)(A:RV)(outer:List Uz)(s:QR)(H:Hp)(vs:List V)(Q:VK)(E:XK),Yg k @bK->sp vs H Q E->
   ∃t,PSs (DQ CX0 P w K mg base N qual @A f Y5 A outer s H E).nox @R t/\t {nx:=λ_ H'=>Q .Yj H',rt:=Q} @fp H):YO P w K mg base CX0 (k+1) f fd ps sp:=by
 obtain⟨oc,od,kV,doc,pm,an,Y5,ct,osl,rfl,lk,hcd⟩:=F.ex;refine Kl lk hcd S len λA outer s H vs Q E hr hsp=>?_;obtain⟨t,h,q⟩:=Y3 Y5 A outer s H vs Q E hr hsp;exact⟨t,h.nox,q⟩
theorem Fun.binds{x qual:Str}{st:Stmt}{f:Addr}{fd:FuncData}{ps:List Str}(F:Fun K x qual st f fd)
  (h:∀(kV doc pm:Value)(an:Option Addr)(Y5 ct:Value)(us:List Value),us.length=ps.length->VI @iR ⟨us,[]⟩=pure @bX):Binds K fd ps []:=by
 obtain⟨oc,od,kV,doc,pm,an,Y5,ct,osl,rfl,lk,hcd⟩:=F.ex;exact .all (h kV doc pm an Y5 ct)
theorem uw{x qual:Str}{st:Stmt}{f:Addr}{oc:Value}{od an:Option Addr}{osl:Array @bz}{kV doc pm Y5 ct:Value}(l:K.lookup f=Z' ⟨oc,od,.func @iR,osl⟩)
  (c:Se K Y5 qual=Y2) (k:Rl K @x=Y2):Fun K x qual st f @iR:=⟨⟨oc,od,kV,doc,pm,an,Y5,ct,osl,rfl,l,c⟩,k⟩
end
theorem Dn{A B:Prop}(h:B):if Y1=Y2 then A else B:=by
 rw[if_neg RA];exact h
theorem Dm{A B:Prop}(h:A):if Y2=Y2 then A else B:=by
 rw[if_pos rfl];exact h
end L2
namespace PU
theorem wX(s:PySem.Str)(l:List PySem.Str):PySem.Txt.join s l=TL s l:=PySem.StrLaws.glued_eq_join s l
open PySem L2
structure Lam where
 qual:Str
 args:Arguments
 body:FuncBody
 scope:Scope
 kept:List Str
 name:Str
inductive PV where
|Yj|bl (b:Bool)|int (i:Int)|str (x:Str)
|tup (ps:List PV)|lst (ps:List PV)
|dct (ks:List Key) (ps:List PV)|ZC (ks:List lj) (ps:List PV)
|fn (L:Lam) (cs:List PV)
noncomputable def Qi:List (List Str):=[["name"],["letters key","letters"],["name","many","name","many","name","text"],["key","target"],["word","name"],["name","name"],["from","till","name"],["name","text"],["menu","names","hours","hand","end"],
 ["new"],["house"],["house","hour"],["call","signs"],["call"],["house","hour","out"],["house","house","hour"],["house","names"],["hand","end"],["names"]]
noncomputable def za:List PV->List Str->Bool
|[],[]=>Y2
|.str x::ps,y::ys=>x==y&&za ps ys
|_,_=>Y1
def AE(ps:List PV):Bool:=Qi.any (za ps)
structure PX where
 cls:Str
 args:List PV
inductive R (α:Type) where
|ok (a:α)|er (x:PX)|no
namespace R
protected noncomputable def bind{α β:Type}:R α->(α->R β)->R β
|ok a,f=>f a
|er x,_=>er x
|no,_=>no
instance:Monad R where
 pure:=R.ok
 bind:=R.bind
@[simp]theorem Ym{α β:Type}(a:α)(f:α->R β):(R.ok a>>=f)=f a:=rfl
@[simp]theorem Nk{α β:Type}(x:PX)(f:α->R β):((R.er x:R α)>>=f)=R.er x:=rfl
@[simp]theorem My{α β:Type}(f:α->R β):((R.no:R α)>>=f)=R.no:=rfl
@[simp]theorem Mi{α:Type}(a:α):(pure a:R α)=R.ok a:=rfl
def Yn{α:Type}:Option α->R α
|some a=>ok a
|none=>no
@[simp]theorem YR{α:Type}(a:α):Yn (Z' a)=R.ok a:=rfl
@[simp]theorem Lh{α:Type}:Yn (Y':Option α)=R.no:=rfl
end R
inductive YU where
|val (p:PV)|own (p:PV)
inductive Tr where
|leaf (p:PV)|node (ks:List Key) (fs:List YU)|obj (c:Str) (ks:List Str) (fs:List YU)|two (t u:Tr)
inductive Sl where
|no|val (p:PV)|own (p:PV)|tree (t:Tr)|exc (x:PX)
abbrev Yb:=List Sl
noncomputable def Y9(i:Nat)(ρ:Yb):R PV:=match ρ[i]? with
|some (.val p)=>.ok p
|_=>.no
noncomputable def kL(i:Nat)(ρ:Yb):R PV:=match ρ[i]? with
|some (.val p)=>.ok p
|some (.own p)=>.ok p
|some (.tree (.leaf p))=>.ok p
|_=>.no
def kI(i:Int):Yb->R PV:=λ_=>.ok @I
def kB(b:Bool):Yb->R PV:=λ_=>.ok @bG
def kN:Yb->R PV:=λ_=>.ok .Yj
def kS(x:Str):Yb->R PV:=λ_=>.ok @H
def kP(p:PV):Yb->R PV:=λ_=>.ok p
def aE:Yb->R @e:=λ_=>.ok []
noncomputable def a7(f:Yb->R PV)(fs:Yb->R @e):Yb->R @e:=fun ρ=>f ρ>>=λp=>fs ρ>>=λps=>.ok (p::ps)
noncomputable def mj(ps:List PV):R @e:=if ps.length<=16777216 then .ok ps else .no
def i8(fs:Yb->R @e):Yb->R PV:=fun ρ=>fs ρ>>=λps=>mj ps>>=λps=>.ok @aq
def hU(fs:Yb->R @e):Yb->R PV:=fun ρ=>fs ρ>>=λps=>mj ps>>=λps=>.ok @X
noncomputable def a9(fa fb:Yb->R PV)(g:PV->PV->Option PV):Yb->R PV:=fun ρ=>fa ρ>>=λp=>fb ρ>>=λq=>R.Yn @en
noncomputable def l7(fa fb fc:Yb->R PV)(g g':PV->PV->Option PV):Yb->R PV:=fun ρ=>fa ρ>>=λp=>fb ρ>>=λq=>R.Yn @en>>=λz=>match z with
|.bl Y2=>fc ρ>>=λr=>R.Yn (g' q r)
|.bl Y1=>.ok @B
|_=>.no
noncomputable def pk:PV->Option Bool
|.Yj=>Z' Y1
|.bl b=>Z' b
|.int i=>Z' (i != 0)
|.str y=>if y.length<=16777216 then Z' ((y.length:Int) != 0)else Y'
|.tup ps=>Z' (!ps.isEmpty)
|.lst ps=>Z' (!ps.isEmpty)
|.dct ks _=>Z' (!ks.isEmpty)
|.ZC _ _=>Y'
|.fn _ _=>Y'
def aW(f:Yb->R PV):Yb->R Bool:=fun ρ=>f ρ>>=λp=>R.Yn (pk p)
noncomputable def bt:PV->PV->Option PV
|.int i,.int j=>Z' (.int (i+j))
|.str x,.str y=>if x.length+y.length<=16777216 then Z' (.str (x++y))else Y'
|.lst ps,.lst qs=>if ps.length+qs.length<=16777216 then Z' (.lst @ei)else Y'
|.tup ps,.tup qs=>if ps.length+qs.length<=16777216 then Z' (.tup @ei)else Y'
|_,_=>Y'
noncomputable def OS:PV->PV->Option PV
|.int i,.int j=>Z' (.int (i-j))
|_,_=>Y'
noncomputable def BP:PV->PV->Option PV
|.int i,.int j=>if i.natAbs<18446744073709551616\/j.natAbs<18446744073709551616 then Z' (.int (i*j))else Y'
|_,_=>Y'
noncomputable def lg:PV->PV->Option PV
|.int i,.int j=>if 0<j/\j<1073741824 then Z' (.int (i/j))else Y'
|_,_=>Y'
noncomputable def i5:PV->PV->Option PV
|.int i,.int j=>if 0<j then Z' (.int (i%j))else Y'
|_,_=>Y'
inductive Fl where
|next (ρ:Yb)|brk (ρ:Yb)|cont (ρ:Yb)|ret (p:PV)
noncomputable def bL(g g':Yb->R Fl):Yb->R Fl:=fun ρ=>g ρ>>=λfl=>match fl with
|.next ρ'=>g' ρ'
|.brk ρ'=>.ok (.brk ρ')
|.cont ρ'=>.ok (.cont ρ')
|.ret p=>.ok @au
def br:Yb->R Fl:=fun ρ=>.ok @fD
noncomputable def bu(f:Yb->R PV):Yb->R Fl:=fun ρ=>f ρ>>=λp=>.ok @au
noncomputable def YF(t:Yb->R Bool)(g g':Yb->R Fl):Yb->R Fl:=fun ρ=>t ρ>>=λk=>if k=Y2 then g ρ else g' ρ
noncomputable def bN(i:Nat)(f:Yb->R PV):Yb->R Fl:=fun ρ=>f ρ>>=λp=>.ok (.next @bN)
noncomputable def vo(i:Nat)(f:Yb->R PV):Yb->R Fl:=fun ρ=>f ρ>>=λp=>.ok (.next @e8)
def Qn:Yb->R Fl:=fun ρ=>.ok @fP
def Nq:Yb->R Fl:=fun ρ=>.ok @fF
def noF:Yb->R Fl:=λ_=>.no
noncomputable def AR(i:Nat)(ρ:Yb):Yb:=match ρ[i]? with
|some (.own p)=>ρ.set i @cr
|_=>ρ
def EX(i:Nat)(g:Yb->R Fl):Yb->R Fl:=fun ρ=>g @ms
abbrev YT:=PV->Yb->Option Yb
abbrev vS:=List PV->Yb->Option Yb
def ar(i:Nat):YT:=λp ρ=>Z' @bN
def fN:vS:=λps ρ=>match ps with
|[]=>Z' ρ
|_::_=>Y'
def aG(h:YT)(h':vS):vS:=λps ρ=>match ps with
|p::r=>(h p ρ).bind fun ρ1=>h' r ρ1
|[]=>Y'
noncomputable def fV(n:Nat)(h:vS):YT:=λp ρ=>match p with
|.tup ps=>if ps.length=n then h ps ρ else Y'
|_=>Y'
noncomputable def rS(h:PV->Yb->Option Yb)(g:Yb->R Fl):List PV->Yb->R Fl
|[],ρ=>.ok @fD
|p::ps,ρ=>R.Yn @fT>>=fun ρ1=>g ρ1>>=λfl=>match fl with
  |.next ρ2=>rS h g ps ρ2
  |.cont ρ2=>rS h g ps ρ2
  |.brk ρ2=>.ok @cN
  |.ret q=>.ok (.ret q)
def sA(fi:Yb->R @e)(h:YT)(g:Yb->R Fl):Yb->R Fl:=fun ρ=>fi ρ>>=λps=>rS h g ps ρ
noncomputable def aN(fs:Yb->R @e)(F:List PV->Option PV):Yb->R PV:=fun ρ=>fs ρ>>=λps=>R.Yn (F ps)
noncomputable def start(n:Nat)(ps:List PV):Yb:=ps.map Sl.val++Sh (n-ps.length) .no
def f9(m n:Nat)(g:Yb->R Fl)(ps:List PV):Option PV:=if ps.length=m then (match g (start n ps)with
|.ok (.ret p)=>Z' p
|.ok (.next _)=>Z' .Yj
|_=>Y')else Y'
def roS:Option Sl->Sl
|some (.val p)=>.val p
|_=>.no
noncomputable def fI(nt:Nat)(Xw:List Nat)(ρ:Yb):Yb:=Sh nt .no++Xw.map λi=>roS ρ[i]?
noncomputable def cm(h:YT)(t:Yb->R Bool)(fe:Yb->R PV)(ρ:Yb):List PV->R @e
|[]=>.ok []
|p::ps=>R.Yn @fT>>=fun ρ1=>t ρ1>>=λb=>if b=Y2 then fe ρ1>>=λq=>cm h t fe ρ ps>>=λqs=>.ok (q::qs)else cm h t fe ρ ps
def Ex{α:Type}:R α->R α
|.ok a=>.ok a
|_=>.no
def dY(fi:Yb->R @e)(h:YT)(t:Yb->R Bool)(fe:Yb->R PV)(nt:Nat)(Xw:List Nat):Yb->R PV:=
 fun ρ=>fi ρ>>=λps=>Ex (cm h t fe @a3 ps)>>=λqs=>mj qs>>=λqs=>.ok @cp
def iF:Yb->R Bool:=λ_=>.ok Y2
mutual
noncomputable def PM:PV->PV->Option Bool
|.Yj,q=>match q with
  |.Yj=>Z' Y2|.bl _=>Z' Y1|.int _=>Z' Y1|.str _=>Z' Y1|.tup _=>Z' Y1|.lst _=>Z' Y1|_=>Y'
|.bl a,q=>match q with
  |.bl b=>Z' (a==b)|.int b=>Z' ((if a then 1 else 0)==b)|.Yj=>Z' Y1|.str _=>Z' Y1|.tup _=>Z' Y1|.lst _=>Z' Y1|_=>Y'
|.int a,q=>match q with
  |.int b=>Z' (a==b)|.bl b=>Z' (a==(if b then 1 else 0))|.Yj=>Z' Y1|.str _=>Z' Y1|.tup _=>Z' Y1|.lst _=>Z' Y1|_=>Y'
|.str a,q=>match q with
  |.str b=>Z' (a==b)|.Yj=>Z' Y1|.bl _=>Z' Y1|.int _=>Z' Y1|.tup _=>Z' Y1|.lst _=>Z' Y1|_=>Y'
|.tup ps,q=>match q with
  |.tup qs=>Gc ps qs|.Yj=>Z' Y1|.bl _=>Z' Y1|.int _=>Z' Y1|.str _=>Z' Y1|.lst _=>Z' Y1|_=>Y'
|.lst ps,q=>match q with
  |.lst qs=>Gc ps qs|.Yj=>Z' Y1|.bl _=>Z' Y1|.int _=>Z' Y1|.str _=>Z' Y1|.tup _=>Z' Y1|_=>Y'
|_,_=>Y'
noncomputable def Gc:List PV->List PV->Option Bool
|[],[]=>Z' Y2
|[],_::_=>Z' Y1
|_::_,[]=>Z' Y1
|p::ps,q::qs=>(PM p q).bind λa=>(Gc ps qs).bind λb=>Z' (a&&b)
end
mutual
noncomputable def PN:PV->Nat
|.tup ps=>y8 ps+1
|.lst ps=>y8 ps+1
|.dct _ ps=>y8 ps+1
|.ZC _ ps=>y8 ps+1
|.fn _ ps=>y8 ps+1
|_=>0
noncomputable def y8:List PV->Nat
|[]=>0
|p::ps=>max (PN p) (y8 ps)
end
noncomputable def lJ:PV->Bool
|.Yj=>Y2|.bl _=>Y2|.int _=>Y2|.str _=>Y2
|_=>Y1
noncomputable def Z8:PV->V
|.bl b=>.bl b|.int i=>.int i|.str x=>.str x
|_=>.Yj
noncomputable def bT:List Key->List PV->Key->Option PV
|k::ks,p::ps,j=>if k=j then Z' p else bT ks ps j
|_,_,_=>Y'
def tEq(ps qs:List PV):Bool:=(S7 (min ps.length qs.length)).all (λj=>eqV @px @pw)&&ps.length==qs.length
def Yp:PV->PV->Option PV
|.tup ps,.tup qs=>if ps.all lJ=Y2/\qs.all lJ=Y2 then Z' (.bl (tEq ps qs))else Y'
|p,q=>if lJ p=true/\lJ q=true/\Ef (Z8 p) (Z8 q)=true then some (.bl (decide (Z8 p=Z8 q)))else none
def Zh:PV->PV->Option PV
|.tup ps,.tup qs=>if ps.all lJ=Y2/\qs.all lJ=Y2 then Z' (.bl (!tEq ps qs))else Y'
|p,q=>if lJ p=Y2/\lJ q=Y2/\Ef (Z8 p) (Z8 q)=Y2 then Z' (.bl (!decide (Z8 p=Z8 q)))else Y'
noncomputable def ZJ:PV->PV->Option PV
|.int i,.int j=>some (.bl (decide (i<j)))
|.str x,.str y=>some (.bl (decide (x.cps.toList<y.cps.toList)))
|_,_=>Y'
noncomputable def gLe:PV->PV->Option PV
|.int i,.int j=>some (.bl (decide (i<=j)))
|.str x,.str y=>Z' (.bl (!decide (y.cps.toList<x.cps.toList)))
|_,_=>Y'
noncomputable def gGt:PV->PV->Option PV
|.int i,.int j=>some (.bl (decide (j<i)))
|_,_=>Y'
noncomputable def gGe:PV->PV->Option PV
|.int i,.int j=>some (.bl (decide (j<=i)))
|_,_=>Y'
def mI:PV->Bool
|.Yj=>Y2
|_=>Y1
def BQ:PV->PV->Option PV
|p,.Yj=>Z' (.bl (mI p))
|_,_=>Y'
def yq:PV->PV->Option PV
|p,.Yj=>Z' (.bl (!mI p))
|_,_=>Y'
noncomputable def iG:PV->Option Key
|.int i=>Z' @iG
|.str x=>Z' @b2
|_=>Y'
noncomputable def GU:PV->PV->Option PV
|.lst ps,.lst qs=>if ps.length+qs.length<=16777216 then Z' (.lst @ei)else Y'
|_,_=>Y'
def Yh:PV->PV->Option PV
|.lst ps,.int i=>Yu ps i
|.tup ps,.int i=>Yu ps i
|.str z,.int i=>if z.length<=16777216 then (Yu z.cps.toList i).map λc=>.str ⟨#[c]⟩else Y'
|.dct ks ps,k=>(iG k).bind λk=>bT ks ps k
|_,_=>Y'
def inS(x y:Str):Bool:=!(RI y x 0 y.length 1).isEmpty
def YQ:PV->PV->Option PV
|.str x,.str y=>Z' (.bl (inS x y))
|p,.lst qs=>if lJ p=Y2/\qs.all lJ=Y2 then Z' (.bl @po)else Y'
|p,.tup qs=>if lJ p=Y2/\qs.all lJ=Y2 then Z' (.bl @po)else Y'
|p,.dct ks _=>(iG p).map λk=>.bl @dG
|_,_=>Y'
def cO(p q:PV):Option PV:=(YQ p q).bind λz=>match z with
|.bl b=>Z' (.bl (!b))
|_=>Y'
noncomputable def F8(t u:Yb->R Bool):Yb->R Bool:=fun ρ=>t ρ>>=λc=>if c=Y2 then u ρ else .ok Y1
noncomputable def orB(t u:Yb->R Bool):Yb->R Bool:=fun ρ=>t ρ>>=λc=>if c=Y2 then .ok Y2 else u ρ
noncomputable def u5(t:Yb->R Bool):Yb->R Bool:=fun ρ=>t ρ>>=λc=>.ok (!c)
noncomputable def yD(fa fb:Yb->R PV):Yb->R PV:=fun ρ=>fa ρ>>=λp=>match p with
|.bl Y2=>fb ρ
|.bl Y1=>.ok @B
|_=>.no
noncomputable def orV(fa fb:Yb->R PV):Yb->R PV:=fun ρ=>fa ρ>>=λp=>match p with
|.bl Y2=>.ok @L
|.bl Y1=>fb ρ
|_=>.no
noncomputable def ifV(t:Yb->R Bool)(fa fb:Yb->R PV):Yb->R PV:=fun ρ=>t ρ>>=λc=>if c=Y2 then fa ρ else fb ρ
noncomputable def YG(f:Yb->R PV)(g:PV->Option PV):Yb->R PV:=fun ρ=>f ρ>>=λp=>R.Yn (g p)
noncomputable def jT:PV->Option PV
|.lst ps=>Z' @hn
|.tup ps=>Z' @hn
|.str x=>if x.length<=16777216 then Z' (.int x.length)else Y'
|.dct ks _=>Z' (.int ks.length)
|_=>Y'
noncomputable def Lp:PV->Option PV
|.int i=>Z' @I
|.bl b=>Z' (.int (if b then 1 else 0))
|_=>Y'
noncomputable def qt:PV->Option PV
|.lst ps=>Z' @aq
|.tup ps=>Z' @aq
|_=>Y'
noncomputable def Lo:PV->Option PV
|.str x=>if x.length=1 then Z' (.int (x.cps.getD 0 0:Nat))else Y'
|_=>Y'
def wV:Key->PV
|.inl i=>.int i
|.inr x=>.str x
def k9(x:Str):List PV:=x.cps.toList.map λc=>.str ⟨#[c]⟩
noncomputable def iW:PV->Option @e
|.lst ps=>Z' ps
|.tup ps=>Z' ps
|.dct ks _=>Z' @fy
|.str x=>Z' (k9 x)
|_=>Y'
def Z7(f:Yb->R PV):Yb->R @e:=fun ρ=>f ρ>>=λp=>R.Yn (iW p)
noncomputable def gd(lo:Int)(n:Nat):List PV:=(S7 n).map λi=>.int (lo+(i:Nat))
def zx(f:Yb->R PV):Yb->R @e:=fun ρ=>f ρ>>=λp=>match p with
|.int j=>if j.natAbs<1000000000 then .ok (gd 0 j.toNat)else .no
|_=>.no
noncomputable def yC(i:Nat)(f:Yb->R PV):Yb->R Fl:=fun ρ=>match ρ[i]? with
|some (.own (.lst ps))=>f ρ>>=λp=>if ps.length<16777216 then .ok (.next (ρ.set i (.own @gG)))else .no
|_=>.no
noncomputable def A8(ps:List PV):List @e:=(S7 ps.length).zipWith (λ(i:Nat) p=>[.int (i:Int),p]) ps
def DH:PV->Option @e
|.lst ps=>Z' @ru
|.str x=>Z' @p1
|_=>Y'
def yu(f:Yb->R PV):Yb->R @e:=fun ρ=>f ρ>>=λp=>R.Yn (DH p)
noncomputable def o4(ks:List Key)(ps:List PV):List @e:=ks.zipWith (λk p=>[wV k,p]) ps
def uj:PV->Option @e
|.dct ks ps=>if ks.length=ps.length then Z' ((o4 ks ps).map .tup)else Y'
|_=>Y'
def ot(f:Yb->R PV):Yb->R @e:=fun ρ=>f ρ>>=λp=>R.Yn (uj p)
noncomputable def tyN:PV->String
|.Yj=>"NoneType"|.bl _=>"bool"|.int _=>"int"|.str _=>"str"|.tup _=>"tuple"|.lst _=>"list"|.dct _ _=>"dict"|.ZC _ _=>"dict"|.fn _ _=>"function"
def K8 (t c:String):Bool:=t==c ||(t == "bool" && c == "int")
def ES(c:String):PV->Option PV
|.fn _ _=>Y'
|p=>Z' (.bl @hA)
noncomputable def jS:PV->Option PV
|.int i=>if i.natAbs.log2<1920 then Z' (.str (UT i))else Y'
|.str x=>Z' @H
|_=>Y'
def Kh:PV->Option PV
|.int i=>Z' (.int (-i))
|_=>Y'
def uk:PV->Bool
|.str _=>Y2
|_=>Y1
noncomputable def fF(fo fe:Yb->R PV)(g:PV->PV->Option PV):Yb->R PV:=fun ρ=>fo ρ>>=λp=>if uk p=Y2 then fe ρ>>=λq=>R.Yn (g p q)else .no
noncomputable def mz:List PV->Option (List Str)
|[]=>Z' []
|.str x::r=>(mz r).map (x::·)
|_::_=>Y'
def ja:PV->PV->Option PV
|.str x,.lst ps=>(mz ps).bind λys=>if (ys.map (·.length)).sum+ys.length*x.length<=16777216 then Z' (.str @sI)else Y'
|.str x,.tup ps=>(mz ps).bind λys=>if (ys.map (·.length)).sum+ys.length*x.length<=16777216 then Z' (.str @sI)else Y'
|_,_=>Y'
def qy{α:Type}(xs:List α)(lo hi:Option Int):List α:=(xs.drop @gN).take (HT.YB xs.length xs.length hi-HT.YB xs.length 0 lo)
def gSl:PV->Option Int->Option Int->Option PV
|.lst ps,lo,hi=>Z' @lR
|.tup ps,lo,hi=>if HT.YB ps.length 0 lo=0/\HT.YB ps.length ps.length hi=ps.length then Y' else Z' (.tup @gW)
|_,_,_=>Y'
def iw:Yb->R @cI:=λ_=>.ok Y'
noncomputable def gU(f:Yb->R PV):Yb->R @cI:=fun ρ=>f ρ>>=λp=>match p with
|.int i=>.ok (Z' i)
|_=>.no
def eX(f:Yb->R PV)(l h:Yb->R @cI):Yb->R PV:=fun ρ=>f ρ>>=λp=>l ρ>>=λlo=>h ρ>>=λhi=>R.Yn (gSl p lo hi)
noncomputable def Ld(f:Yb->R PV)(h:YT):Yb->R Fl:=fun ρ=>f ρ>>=λp=>R.Yn @fT>>=fun ρ'=>.ok @cO
noncomputable def nQ(ks:List Key)(ps:List PV)(k:Key)(p:PV):List PV:=ks.zipWith (λj q=>if j=k then p else q) ps
def nR(ks:List Key)(ps:List PV)(k:Key)(p:PV):PV:=if @dG=Y2 then .dct ks (nQ ks ps k p)else .dct (ks++[k]) (ps++[p])
noncomputable def YE(i:Nat)(fk fv:Yb->R PV):Yb->R Fl:=fun ρ=>match ρ[i]? with
|some (.own (.dct ks ps))=>fv ρ>>=λp=>fk ρ>>=λkp=>R.Yn (iG kp)>>=λk=>if ks.length<16777216 then .ok (.next (ρ.set i (.own @fc)))else .no
|_=>.no
def newD:Yb->R PV:=λ_=>.ok (.dct [] [])
def PY:Yb->R @hY:=λ_=>.ok []
def EB(kps:List @cK):PV:=kps.foldl (λd kp=>match d with
|.dct ks ps=>nR ks ps kp.1 kp.2
|d=>d) (.dct [] [])
open PySem.Spec PyProof.Rows
def lD:Expr->Bool
|.Starred ..=>Y1
|_=>Y2
theorem bq{e:Expr}{es:List Expr}{env:Uz}(h:lD e=Y2):QU (e::es) env=(Y1,Rj e env)::QU es env:=by
 cases e<;>first|rfl|cases h
theorem bF{e:Expr}{env:Uz}(h:lD e=Y2):QU [e] env=[(Y1,Rj e env)]:=bq h
theorem qI{e e2:Expr}{env:Uz}(h:lD e=Y2)(h2:lD e2=Y2):QU [e,e2] env=[(Y1,Rj e env),(Y1,Rj e2 env)]:=(bq h).trans (congrArg _ (bF h2))
theorem fK{pos:SL}{es:List Expr}{env:Uz}(h:es.all lD=Y2):(SN pos (QU es env)).any @d=Y1:=by
 have:∀es:List Expr,es.all lD=Y2->(QU es env).any @d=Y1:=by
  intro es
  induction es with
  |nil=>intro _;rfl
  |cons e es ih=>
   grind[Tq,bq,Sv]
 grind[SN,QU,Rm,Vd,id,V5]
class TW where
 w:RH
 tabs:List Addr:=[]
 qual:Nat->Nat->Str:=λ_ _=>⟨#[]⟩
variable[TW]
def BI(c:Addr)(q:Str):HO:=.ext λh=>h.CodeRec @fY q
def TOk(H:Hp)(ps:Array Value):Prop:=TriplesOk ps.toList/\∀pos v,codeAmong pos ps.toList=Z' v->∃c,v=.ref c/\H c=Z' (BI c (TW.qual pos.line pos.col))
def su:HO->Bool
|.tbl _=>Y2
|_=>Y1
structure Yc(H H':Hp):Prop where
 at_:∀b o,H b=Z' o->∀(n:su o=Y1:=by rfl),H' b=Z' o
 tb:∀b ps,H b=Z' @fL->∃ps',H' b=Z' (.tbl ps')/\(TOk H ps->TOk H' ps')
instance {H H':Hp}:CoeFun (Yc H H') (λ_=>∀b o,H b=Z' o->∀(n:su o=Y1:=by rfl),H' b=Z' o):=⟨@Yc.at_ _ H H'⟩
theorem TOk.same{H H':Hp}{ps:Array Value}(h:∀b o,H b=Z' o->su o=Y1->H' b=Z' o)(t:TOk H ps):TOk H' ps:=
 ⟨t.1,λpos v e=>let ⟨c,e1,e2⟩:=t.2 pos v e;⟨c,e1,h _ _ e2 rfl⟩⟩
theorem Yc.of{H H':Hp}(h:∀b o,H b=Z' o->H' b=Z' o):Yc H H':=
 ⟨λb o e _=>h b o e,λb ps e=>⟨ps,h b _ e,TOk.same λb o e _=>h b o e⟩⟩
theorem Yc.refl(H:Hp):Yc H H:=.of λ_ _ h=>h
theorem Yc.trans{H H1 H2:Hp}(a:Yc H H1)(b:Yc H1 H2):Yc H H2:=
 ⟨λc o h n=>b.at_ c o (a.at_ c o h n) n,λc ps e=>by
  obtain⟨p1,e1,k1⟩:=a.tb c ps e;obtain⟨p2,e2,k2⟩:=b.tb c p1 e1
  simp_all⟩
theorem Yc.free{H H':Hp}(e:Yc H H'){l:Addr}(h:H' l=Option.none):H l=Option.none:=by
 cases q:H l with
|none=>rfl
|some o=>
  cases ho:su o with
  |false=>rw[e.at_ l o q ho]at h;cases h
  |true=>
   cases o<;>cases ho
   obtain⟨p1,e1,_⟩:=e.tb l _ q;rw[e1]at h;cases h
def sC(H:Hp):Prop:=∀P∈TW.tabs,∃ps,H P=Z' @fL/\TOk H ps
theorem Yc.tabs{H H':Hp}(s:Yc H H')(t:sC H):sC H':=λP hP=>by
 obtain⟨ps,e,k⟩:=t P hP;obtain⟨p1,e1,k1⟩:=s.tb P ps e
 simp_all
def KJ(K:QO)(a:Addr)(xs:List V):Prop:=
 ∃(Xv:List Value) (n:Nat),K.lookup a=Z' {cls:=.type "list",data:=.seq Xv.toArray n}/\xs.length<=sizeLine/\Vals xs Xv
def BD(K:QO)(a:Addr)(kvs:List @t):Prop:=
 kvs.length<=sizeLine/\(a==SI)=Y1/\∃(o:Obj)(es:Array DictEntry)(ep:Nat),K.lookup a=Z' o/\o.ExactDict/\o.data=.dict es ep/\
  ∀P:R8,∃vs,KV kvs vs/\PySem.KeysOf (aF P TW.w) es/\Pairs (aF P TW.w) es.toList vs/\(vs.map @d).Nodup
theorem BD.at{K:QO}{a:Addr}{kvs:List @t}(h:BD K a kvs)(P:R8)(w:RH)(hw:w=TW.w)(hp:Heap)(hk:K.In hp):∃vs,KV kvs vs/\hp.DictOf @af a vs:=by
 subst hw;obtain⟨_,_,o,es,ep,e,x,d,r⟩:=h;obtain⟨vs,r1,r2⟩:=r P;exact⟨vs,r1,o,es,ep,hk _ _ e,x,d,r2⟩
def SqO(K:QO)(H:Hp)(a:Addr)(xs:List V):Prop:=Rd H a @ae\/KJ K a xs
theorem SqO.l{K:QO}{H:Hp}{a:Addr}{xs:List V}(h:SqO K H a xs):Zc K H a xs:=by
 rcases h with h|⟨Xv,n,e,z,r⟩
 .exact .inl h
 .exact .inr ⟨_,Xv.toArray,n,e,rfl,rfl,rfl,by rw[Rb,<-r.length];exact z,by omega⟩
theorem SqO.is{X:Cx}{J':List @c}{σ:L2.St}{H:Hp}{s:QR}{a:Addr}{xs:List V}(I:Inv X J' σ H s)(h:SqO X.K H a xs):
  xs.length<=sizeLine/\∃(Xv:List Value) (n:Nat),Vals xs Xv/\s.heap.get? a=Z' {cls:=.type "list",data:=.seq Xv.toArray n}:=by
 rcases h with h|⟨Xv,n,e,z,r⟩
 .obtain⟨z,Xv,n,r,e⟩:=h.ok I.hok
  simp_all
 .exact⟨z,Xv,n,r,I.Z6 _ _ e⟩
def SqF(K:QO)(H:Hp)(a:Addr)(xs:List V):Prop:=(∃o,H a=Z' (.YL o @ae))\/KJ K a xs
def DkF(K:QO)(H:Hp)(a:Addr)(kvs:List @t):Prop:=(∃o,H a=Z' @lw)\/BD K a kvs
def DkR(K:QO)(H:Hp)(a:Addr)(kvs:List @t):Prop:=Rd H a @ah\/BD K a kvs
theorem SqF.l{K:QO}{H:Hp}{a:Addr}{xs:List V}(h:SqF K H a xs):SqO K H a xs:=by
 rcases h with h|h
 .exact .inl (.inr h)
 .exact .inr h
theorem DkF.r{K:QO}{H:Hp}{a:Addr}{kvs:List @t}(h:DkF K H a kvs):DkR K H a kvs:=by
 rcases h with h|h
 .exact .inl (.inr h)
 .exact .inr h
def FnAt(f:Addr)(o:Obj):HO:=.ext λh=>h.get? f=Z' o
noncomputable def XAt(a:Addr)(cls:Value)(dx:Option Addr):HO:=.ext λh=>∃o vs,h.get? a=Z' o/\o.cls=cls/\o.dict=dx/\o.data=.fields vs
noncomputable def Qu(d:Addr)(fld:Str)(z:Value):HO:=.ext λh=>h.Ns1 d λn=>if n=fld then Z' z else Y'
abbrev MH(L:Lam)(cl:List @aj)(pm:Value×Value)(Y5 ct:Value):FuncData:=
 {name:=L.name,qualname:=L.qual,params:=L.args,body:=L.body,scope:=L.scope,globals:=R5,closure:=cl,defaults:=.none,kwdefaults:=.none,doc:=pm.1,pyModule:=pm.2,annotations:=Y',code:=Y5,closureTuple:=ct,builtins:=VY}
abbrev EF (L:Lam) (cl:List @aj) (pm:Value×Value) (c:Addr) (ct:Value):Obj:={cls:=.type "function",data:=.func (MH L cl pm @fY ct)}
def jV(H:Hp):List @aj->List V->Prop
|[],xs=>xs=[]
|p::cl,xs=>∃x r o u,xs=x::r/\H p.2=Z' (.YL o (.own 0))/\o.data=.cell (Z' u)/\RelV x u/\jV H cl r
def vR(K:QO)(H:Hp)(a:Addr)(xs:List V)(ps:List PV):Prop:=H a=Z' @aO\/(AE ps=Y2/\Zo K H a xs)
mutual
def Rep(K:QO)(H:Hp):PV->V->Prop
|.Yj,v=>v=.Yj
|.bl b,v=>v=.bl b
|.int i,v=>v=.int i
|.str x,v=>v=.str x
|.tup ps,v=>∃a xs,v=.ref a/\vR K H a xs ps/\aV K H ps xs
|.lst ps,v=>∃a xs,v=.ref a/\SqF K H a xs/\aV K H ps xs
|.dct ks ps,v=>∃a kvs,v=.ref a/\DkF K H a kvs/\kvs.map @d=ks/\aV K H ps @ai
|.ZC ks ps,v=>∃a o kvs,v=.ref a/\H a=Z' (.YL o @cq)/\kvs.map @d=ks/\aV K H ps @ai
|.fn L cs,v=>∃f c cl pm ct xs,v=.ref f/\H f=Z' (FnAt f (EF L cl pm c ct))/\H c=Z' (BI c L.qual)/\cl.map @d=L.kept/\(cl.map @s).Nodup/\jV H cl xs/\aV K H cs xs
def aV(K:QO)(H:Hp):List PV->List V->Prop
|[],xs=>xs=[]
|p::ps,xs=>∃x r,xs=x::r/\Rep K H p x/\aV K H ps r
end
def di(K:QO)(H:Hp):PV->V->Prop
|.lst ps,v=>∃a xs,v=.ref a/\SqO K H a xs/\aV K H ps xs
|.dct ks ps,v=>∃a kvs,v=.ref a/\DkR K H a kvs/\kvs.map @d=ks/\aV K H ps @ai
|.ZC ks ps,v=>∃a kvs,v=.ref a/\Rd H a @cq/\kvs.map @d=ks/\aV K H ps @ai
|p,v=>Rep K H p v
def dj(K:QO)(H:Hp)(a:Addr):PV->Prop
|.lst ps=>∃xs,H a=Z' @ae/\aV K H ps xs
|.dct ks ps=>∃kvs,H a=Z' @ah/\kvs.map @d=ks/\aV K H ps @ai
|.ZC ks ps=>∃kvs,H a=Z' @cq/\kvs.map @d=ks/\aV K H ps @ai
|_=>False
def rG:HO->Bool
|.YL _ _=>Y2
|.tup _=>Y2
|.ext _=>Y2
|_=>Y1
def Kp(H H':Hp):Prop:=∀b u,H b=Z' u->rG u=Y2->H' b=Z' u
theorem Yc.kp{H H':Hp}(h:Yc H H'):Kp H H':=λb u e f=>h.at_ b u e (by cases u<;>first|rfl|cases f)
theorem Kp.refl(H:Hp):Kp H H:=λ_ _ e _=>e
theorem Kp.trans{H H1 H2:Hp}(h:Kp H H1)(k:Kp H1 H2):Kp H H2:=λb u e f=>k b u (h b u e f) f
theorem Kp.upd{H:Hp}{a:Addr}{u o:HO}(h:H a=Z' u)(f:rG u=Y1):Kp H @dh:=λb w e g=>by
 grind[ai]
theorem Kp.sqT{K:QO}{H H':Hp}(k:Kp H H'){a:Addr}{xs:List V}(h:Zo K H a xs):Zo K H' a xs:=by
 rcases h with (h|⟨o,h⟩)|h
 .exact .inl (.inl @k3)
 .exact .inl (.inr @jY)
 .exact .inr h
theorem Kp.sqF{K:QO}{H H':Hp}(k:Kp H H'){a:Addr}{xs:List V}(h:SqF K H a xs):SqF K H' a xs:=by
 rcases h with⟨o,h⟩|h
 .exact .inl @jY
 .exact .inr h
theorem Kp.dkF{K:QO}{H H':Hp}(k:Kp H H'){a:Addr}{kvs:List @t}(h:DkF K H a kvs):DkF K H' a kvs:=by
 rcases h with⟨o,h⟩|h
 .exact .inl @jY
 .exact .inr h
theorem TOk.kp{H H':Hp}{ps:Array Value}(k:Kp H H')(t:TOk H ps):TOk H' ps:=
 ⟨t.1,λpos v e=>let ⟨c,e1,e2⟩:=t.2 pos v e;⟨c,e1,k _ _ e2 rfl⟩⟩
theorem Kp.but{H H':Hp}{a:Addr}(na:∀u,H a=Z' u->rG u=Y1)(Z1:∀b,b≠a->H' b=H b):Kp H H':=λb u e f=>by
 grind
theorem Yc.but{B H H':Hp}{a:Addr}(s:Yc B H)(fa:B a=Y')(na:∀u,H a=Z' u->rG u=Y1)(Z1:∀b,b≠a->H' b=H b):Yc B H':=
 ⟨λb o e n=>by rw[Z1 b (cG e fa)];exact s.at_ b o e n,λb ps e=>by
  obtain⟨p1,e1,k1⟩:=s.tb b ps e;exact⟨p1,by grind,λt=>(k1 t).kp (Kp.but na Z1)⟩⟩
theorem sC.but{H H':Hp}{a:Addr}(t:sC H)(na:∀u,H a=Z' u->rG u=Y1/\su u=Y1)(Z1:∀b,b≠a->H' b=H b):sC H':=λP hP=>by
 obtain⟨ps,e,k⟩:=t P hP
 have:P≠a:=λz=>by
  subst z;have:=(na _ e).2;cases this
 exact⟨ps,by simp_all,k.kp (Kp.but (λu h=>(na u h).1) Z1)⟩
theorem vR.kp{K:QO}{H H':Hp}(k:Kp H H'){a:Addr}{xs:List V}{ps:List PV}(h:vR K H a xs ps):vR K H' a xs ps:=h.elim (λh=>.inl @k3) λh=>.inr ⟨h.1,k.sqT h.2⟩
theorem vR.sq{K:QO}{H:Hp}{a:Addr}{xs:List V}{ps:List PV}(h:vR K H a xs ps):Zo K H a xs:=h.elim (λh=>.inl (.inl h)) λh=>h.2
theorem jV.kp{H H':Hp}(k:Kp H H'):∀{cl:List @aj}{xs:List V},jV H cl xs->jV H' cl xs
|[],_,h=>h
|p::cl,_,⟨x,r,o,u,e,h,d,v,t⟩=>⟨x,r,o,u,e,k _ _ h rfl,d,v,jV.kp k t⟩
mutual
theorem Rep.kp{K:QO}{H H':Hp}(k:Kp H H'):∀(p:PV){v:V},Rep K H p v->Rep K H' p v
|.Yj,_,h=>h
|.bl _,_,h=>h
|.int _,_,h=>h
|.str _,_,h=>h
|.tup ps,_,⟨a,xs,e,h,r⟩=>⟨a,xs,e,h.kp k,aV.kp k ps r⟩
|.lst ps,_,⟨a,xs,e,h,r⟩=>⟨a,xs,e,k.sqF h,aV.kp k ps r⟩
|.dct ks ps,_,⟨a,kvs,e,h,ek,r⟩=>⟨a,kvs,e,k.dkF h,ek,aV.kp k ps r⟩
|.ZC ks ps,_,⟨a,o,kvs,e,h,ek,r⟩=>⟨a,o,kvs,e,k _ _ h rfl,ek,aV.kp k ps r⟩
|.fn L cs,_,⟨f,c,cl,pm,ct,xs,e,h1,h2,h3,h5,h4,r⟩=>⟨f,c,cl,pm,ct,xs,e,k _ _ h1 rfl,k _ _ h2 rfl,h3,h5,jV.kp k h4,aV.kp k cs r⟩
theorem aV.kp{K:QO}{H H':Hp}(k:Kp H H'):∀(ps:List PV){xs:List V},aV K H ps xs->aV K H' ps xs
|[],_,h=>h
|p::ps,_,⟨x,r,e,h,t⟩=>⟨x,r,e,Rep.kp k p h,aV.kp k ps t⟩
end
section
variable{K:QO}{H H':Hp}{p:PV}{ps qs:List PV}{v:V}{xs ys:List V}{a:Addr}
theorem Rep.same(h:Rep K H p v)(s:Yc H H'):Rep K H' p v:=Rep.kp @fJ p h
theorem aV.same(h:aV K H ps xs)(s:Yc H H'):aV K H' ps xs:=aV.kp @fJ ps h
theorem di.same(h:di K H p v)(s:Yc H H'):di K H' p v:=by
 cases p with
|lst ps=>
  obtain⟨a,xs,e,q,r⟩:=h;refine⟨a,xs,e,?_,r.same s⟩;rcases q with (q|⟨o,q⟩)|q
  .exact .inl @sh
  .exact .inl (.inr @ky)
  .exact .inr q
|dct ks ps=>
  obtain⟨a,kvs,e,q,ek,r⟩:=h;refine⟨a,kvs,e,?_,ek,r.same s⟩;rcases q with (q|⟨o,q⟩)|q
  .exact .inl @sh
  .exact .inl (.inr @ky)
  .exact .inr q
|ZC ks ps=>
  obtain⟨a,kvs,e,q,ek,r⟩:=h;refine⟨a,kvs,e,?_,ek,r.same s⟩;rcases q with q|⟨o,q⟩
  .exact .inl (s _ _ q)
  .exact .inr @ky
|_=>exact Rep.same h s
theorem dj.same(h:dj K H a p)(s:Yc H H'):dj K H' a p:=by
 cases p with
|lst ps=>
  obtain⟨xs,q,r⟩:=h;exact⟨xs,s _ _ q,r.same s⟩
|dct ks ps=>
  obtain⟨kvs,q,ek,r⟩:=h;exact@ow
|ZC ks ps=>
  obtain⟨kvs,q,ek,r⟩:=h;exact@ow
|_=>exact h
theorem Rep.o(h:Rep K H p v):di K H p v:=by
 cases p with
|lst ps=>
  obtain⟨a,xs,e,q,r⟩:=h;exact⟨a,xs,e,q.l,r⟩
|dct ks ps=>
  obtain⟨a,kvs,e,q,ek,r⟩:=h;exact⟨a,kvs,e,q.r,ek,r⟩
|ZC ks ps=>
  obtain⟨a,o,kvs,e,q,ek,r⟩:=h;exact⟨a,kvs,e,.inr ⟨o,q⟩,ek,r⟩
|_=>exact h
theorem dj.o(h:dj K H a p):di K H p @m:=by
 cases p with
|lst ps=>
  obtain⟨xs,q,r⟩:=h;exact⟨a,xs,rfl,.inl (.inl q),r⟩
|dct ks ps=>
  obtain⟨kvs,q,ek,r⟩:=h;exact⟨a,kvs,rfl,.inl (.inl q),ek,r⟩
|ZC ks ps=>
  obtain⟨kvs,q,ek,r⟩:=h;exact⟨a,kvs,rfl,.inl q,ek,r⟩
|_=>exact QS h
theorem aV.length:∀{ps:List PV}{xs:List V},aV K H ps xs->ps.length=xs.length
|[],_,h=>by cases h;rfl
|p::ps,_,⟨x,r,e,_,t⟩=>by subst e;simp[aV.length t]
theorem aV.nil:aV K H [] []:=rfl
theorem aV.cons(h:Rep K H p v)(t:aV K H ps xs):aV K H (p::ps) (v::xs):=⟨v,xs,rfl,h,t⟩
theorem aV.append:∀{ps qs:List PV}{xs ys:List V},aV K H ps xs->aV K H qs ys->aV K H @ei (xs++ys)
|[],_,_,_,h,k=>by cases h;exact k
|p::ps,_,_,_,⟨x,r,e,h,t⟩,k=>by subst e;exact⟨x,_,rfl,h,aV.append t k⟩
theorem aV.get:∀{ps:List PV}{xs:List V}{i:Nat}{p:PV},aV K H ps xs->ps[i]?=Z' p->∃x,xs[i]?=Z' x/\Rep K H p x
|[],_,_,_,_,e=>by simp at e
|p::ps,_,0,_,⟨x,r,e,h,t⟩,q=>by
  subst e;simp at q;subst q;exact⟨x,rfl,h⟩
|p::ps,_,i+1,q,⟨x,r,e,h,t⟩,z=>by
  subst e;obtain⟨y,h1,h2⟩:=aV.get (i:=i) (p:=q) t (by simpa using z);exact⟨y,by simpa using h1,h2⟩
theorem aV.Y9:∀{ps:List PV}{xs:List V}{i:Nat}{x:V},aV K H ps xs->xs[i]?=Z' x->∃p,ps[i]?=Z' p/\Rep K H p x:=λ{ps xs i x} r e=>by
 have h1:i<xs.length:=(RO.mp e).1;rw[<-r.length]at h1;obtain⟨y,e2,rp⟩:=r.get (i:=i) (p:=ps[i]) (by simp[h1])
 simp_all
theorem aV.take:∀{ps:List PV}{xs:List V}(n:Nat),aV K H ps xs->aV K H (ps.take n) (xs.take n)
|_,_,0,_=>by simp;rfl
|[],_,n+1,h=>by cases h;rfl
|p::ps,_,n+1,⟨x,r,e,h,t⟩=>by subst e;exact⟨x,_,rfl,h,aV.take n t⟩
theorem aV.drop:∀{ps:List PV}{xs:List V}(n:Nat),aV K H ps xs->aV K H (ps.drop n) (xs.drop n)
|_,_,0,h=>by simp_all
|[],_,n+1,h=>by cases h;rfl
|p::ps,_,n+1,⟨x,r,e,h,t⟩=>by subst e;simpa using aV.drop n t
end
theorem _root_.L2.Inv.reH{X:Cx}{J':List @c}{σ:L2.St}{H H':Hp}{s:QR}(I:Inv X J' σ H s){a:Addr}{u u':HO}(hu:H a=Z' u)(h':H'=upd H a u')
  (nf:rG u=Y1) (nt:∀ps,u≠.tbl ps) (no:∀x,u≠.own x) (hok:eM X.prog X.w H' s.heap a u'):Inv X J' σ H' s:=by
 subst h';have ah5:∀b xs,H b=Z' @aO->↑819 b=Z' @aO:=λb xs e=>Kp.upd hu nf b _ e rfl
 have keepO:∀b x,H b=Z' @cT->↑819 b=Z' @cT:=λb x e=>by
  grind[ai]
 have hn:∀b,H b=Y'->↑819 b=Y':=λb e=>by
  grind[ai]
 refine⟨I.ok,I.os,I.bare,⟨I.base.keep,I.base.slot,λb o e n x=>hn b (I.base.free b o e n x),I.base.there,λb xs e=>ah5 b xs @qF,
  λb o w e=>Kp.upd hu nf b _ (I.base.Zj b o w e) rfl,λb ps e=>?_⟩,I.loc,I.cell,hn _ I.free,λx c e=>hn c @hO,λp hp=>?_,λb o e=>?_,I.len⟩
 .obtain⟨more,q⟩:=I.base.ZD b ps e
  grind[ai]
 .obtain⟨h1,h2,h3⟩:=I.pin p hp
  simp_all
 .by_cases hb:b=a
  .grind[aq]
  .rw[ai hb]at e
   exact(I.hok b o e).stay (λc v _ r=>r) (λc r=>keepO c b r) ah5
theorem _root_.L2.Inv.YL{X:Cx}{J':List @c}{σ:L2.St}{H:Hp}{s:QR}{a:Addr}{p:PV}(I:Inv X J' σ H s)(n:dj X.K H a p):
  ∃H',Inv X J' σ H' s/\Rep X.K H' p @m/\∀b,b≠a->H' b=H b:=by
 cases p with
|lst ps=>
  obtain⟨xs,q,r⟩:=n;obtain⟨z,Xv,m,rv,e⟩:=I.hok a _ q;refine⟨upd H a (.YL _ @ae),I.reH q rfl rfl (by intro _ h;cases h) (by intro _ h;cases h) @qQ,⟨a,xs,rfl,.inl @h3,r.kp @dU⟩,λb hb=>ai hb⟩
|dct ks ps=>
  obtain⟨kvs,q,ek,r⟩:=n;obtain⟨z,hs,vs,rv,o,es,ep,e,rest⟩:=I.hok a _ q;refine⟨upd H a @lw,I.reH q rfl rfl (by intro _ h;cases h) (by intro _ h;cases h) @ob,⟨a,kvs,rfl,.inl @h3,ek,r.kp @dU⟩,λb hb=>ai hb⟩
|ZC ks ps=>
  obtain⟨kvs,q,ek,r⟩:=n;obtain⟨z,hs,ys,rv,o,es,ep,e,rest⟩:=I.hok a _ q;refine⟨upd H a (.YL o @cq),I.reH q rfl rfl (by intro _ h;cases h) (by intro _ h;cases h) ⟨e,z,hs,ys,?_,o,es,ep,e,rest⟩,⟨a,o,kvs,rfl,aq,ek,r.kp @dU⟩,λb hb=>ai hb⟩;exact Paired.af4 rv λp1 q1 ⟨h1,h2,h3⟩=>@nc
|_=>exact QS n
theorem dj.nt{K:QO}{H:Hp}{a:Addr}{p:PV}(h:dj K H a p):∀u,H a=Z' u->rG u=Y1/\su u=Y1:=λu e=>by
 cases p with
|lst ps=>obtain⟨_,w,_⟩:=h;rw[w]at e;cases e;exact@aT
|dct ks ps=>obtain⟨_,w,_⟩:=h;rw[w]at e;cases e;exact@aT
|ZC ks ps=>obtain⟨_,w,_⟩:=h;rw[w]at e;cases e;exact@aT
|_=>exact QS h
structure Cn where
 X:Cx
 Ac:PX->Hp->Prop
def bo(K:QO)(H:Hp):List Addr->List YU->List V->Prop
|r,[],xs=>r=[]/\xs=[]
|r,.val p::fs,xs=>∃x ys,xs=x::ys/\Rep K H p x/\bo K H r fs ys
|r,.own p::fs,xs=>∃b r' ys,r=b::r'/\xs=.ref b::ys/\dj K H b p/\bo K H r' fs ys
def aA(K:QO)(H:Hp):Addr->List Addr->Tr->Prop
|a,r,.leaf p=>r=[]/\dj K H a p
|a,r,.node ks fs=>(a::r).Nodup/\∃kvs,H a=Z' @ah/\kvs.map @d=ks/\bo K H r fs @ai
|a,r,.obj c ks fs=>(a::r).Nodup/\∃C dx r' vs,RK K R5 c=Z' @U/\r=dx::r'/\H a=Z' @tA/\H dx=Z' @el/\vs.map @d=ks/\bo K H r' fs (vs.map @s)
|a,r,.two t u=>(a::r).Nodup/\∃b q c l,r=(b::q)++(c::l)/\H a=Z' (.lst [.ref b,.ref c])/\aA K H b q t/\aA K H c l u
theorem bo.same{K:QO}{H H':Hp}(s:Yc H H'):∀{fs:List YU}{r:List Addr}{xs:List V},bo K H r fs xs->bo K H' r fs xs
|[],_,_,h=>h
|.val p::fs,_,_,⟨x,ys,e,h,t⟩=>⟨x,ys,e,h.same s,bo.same s t⟩
|.own p::fs,_,_,⟨b,r',ys,e1,e2,h,t⟩=>⟨b,r',ys,e1,e2,h.same s,bo.same s t⟩
theorem aA.same{K:QO}{H H':Hp}{a:Addr}{r:List Addr}{t:Tr}(s:Yc H H')(h:aA K H a r t):aA K H' a r t:=by
 induction t generalizing a r with
|leaf p=>exact⟨h.1,h.2.same s⟩
|node ks fs=>obtain⟨n,kvs,e,ek,f⟩:=h;exact⟨n,kvs,s _ _ e,ek,f.same s⟩
|obj c ks fs=>obtain⟨n,C,dx,r',vs,hc,er,e,eo,ek,f⟩:=h;exact⟨n,C,dx,r',vs,hc,er,s _ _ e,s _ _ eo,ek,f.same s⟩
|two t u i j=>obtain⟨n,b,q,c,l,er,e,h1,h2⟩:=h;exact⟨n,b,q,c,l,er,s _ _ e,i h1,j h2⟩
def Nf (c:Str):Str:=if c="NoHouse" then "row" else "faults"
def ExP(K:QO)(H:Hp)(C:Addr)(dx:Option Addr)(x:PX):Prop:=RK K R5 x.cls=Z' @U/\match dx,x.args with
|none,[]=>True
|some d,[p]=>∃v z,H d=Z' (Qu d (Nf x.cls) z)/\RelV v z/\Rep K H p v
|_,_=>False
theorem ExP.kp{K:QO}{H H':Hp}{C:Addr}{dx:Option Addr}{x:PX}(k:Kp H H')(h:ExP K H C dx x):ExP K H' C dx x:=by
 obtain⟨c,as⟩:=x;refine⟨h.1,?_⟩;have h2:=h.2;cases dx with
|none=>
  grind
|some d=>
  cases as with
  |nil=>omega
  |cons p r=>
   cases r with
   |nil=>obtain⟨v,z,h3,h4,h5⟩:=h2;exact⟨v,z,k _ _ h3 rfl,h4,h5.kp k⟩
   |cons _ _=>omega
def BA(K:QO)(H:Hp)(x:Option @ed):Sl->Prop
|.no=>True
|.val p=>∃v,x=Z' @aR/\Rep K H p v
|.own p=>∃a,x=Z' @ag/\dj K H a p
|.tree t=>∃a r,x=Z' @ag/\aA K H a r t
|.exc y=>∃a C dx,x=Z' @ag/\H a=Z' @sH/\ExP K H C dx y
theorem BA.exk{K:QO}{H H':Hp}{x:Option @ed}{y:PX}(h:BA K H x (.exc y))(k:Kp H H'):BA K H' x (.exc y):=by
 obtain⟨a,C,dx,e,h1,h2⟩:=h;exact⟨a,C,dx,e,k _ _ h1 rfl,h2.kp k⟩
structure View(K:QO)(H:Hp)(σ:L2.St)(ρ:Yb):Prop where
 at_:∀(i:Nat)(l:Sl),ρ[i]?=Z' l->BA K H σ[i]? l
 tb:sC H
instance {K:QO} {H:Hp} {σ:L2.St} {ρ:Yb}:CoeFun (View K H σ ρ) (λ_=>∀(i:Nat)(l:Sl),ρ[i]?=Z' l->BA K H σ[i]? l):=⟨@View.at_ _ K H σ ρ⟩
theorem BA.same{K:QO}{H H':Hp}{x:Option @ed}{l:Sl}(h:BA K H x l)(s:Yc H H'):BA K H' x l:=by
 cases l with
|no=>exact trivial
|val p=>obtain⟨v,e,r⟩:=h;exact⟨v,e,r.same s⟩
|own p=>obtain⟨a,e,r⟩:=h;exact⟨a,e,r.same s⟩
|tree t=>obtain⟨a,r,e,h⟩:=h;exact⟨a,r,e,h.same s⟩
|exc y=>exact h.exk @fJ
theorem View.same{K:QO}{H H':Hp}{σ:L2.St}{ρ:Yb}(h:View K H σ ρ)(s:Yc H H'):View K H' σ ρ:=⟨λi l e=>(h i l e).same s,s.tabs h.tb⟩
def RQ(C:Cn)(H:Hp){α:Type}(r:R α)(k:α->Prop):Prop:=
 match r with
|.ok a=>k a
|.er x=>∀H',Yc H H'->C.Ac x H'
|.no=>False
section
variable{C:Cn}{H H':Hp}{α β:Type}{r:R α}{k k':α->Prop}
theorem RQ.imp(h:RQ C H r k)(f:∀a,r=.ok a->k a->k' a):RQ C H r k':=by
 cases r with
|ok a=>exact f a rfl h
|er x=>exact h
|no=>exact h
theorem RQ.same(h:RQ C H r k)(s:Yc H H'):RQ C H' r k:=by
 cases r with
|ok a=>exact h
|er x=>exact λH2 s2=>h H2 (s.trans s2)
|no=>exact h
theorem RQ.bind{f:α->R β}{m:β->Prop}(h:RQ C H (r>>=f) m):RQ C H r λa=>RQ C H (f a) m:=by
 cases r<;>exact h
theorem RQ.Yn{o:Option α}(h:RQ C H (R.Yn o) k):∃a,o=Z' a/\k a:=by
 cases o with
|none=>exact QS h
|some a=>exact⟨a,rfl,h⟩
end
noncomputable def tV(C:Cn)(f:Yb->R PV):TE:=fun σ H Q=>∃ρ,View C.X.K H σ ρ/\RQ C H @u λp=>∀v H',Yc H H'->Rep C.X.K H' p v->Q v H'
noncomputable def tO(C:Cn)(f:Yb->R PV):TE:=fun σ H Q=>∃ρ,View C.X.K H σ ρ/\RQ C H @u λp=>∀v H',Yc H H'->di C.X.K H' p v->Q v H'
noncomputable def tN(C:Cn)(f:Yb->R PV):TE:=fun σ H Q=>∃ρ,View C.X.K H σ ρ/\RQ C H @u λp=>∀a H',Yc H H'->H a=Y'->dj C.X.K H' a p->Q @m H'
noncomputable def tAs(C:Cn)(f:Yb->R @e):TA:=fun σ H Q=>∃ρ,View C.X.K H σ ρ/\RQ C H @u λps=>∀vs H',Yc H H'->aV C.X.K H' ps vs->Q vs H'
noncomputable def tBl(C:Cn)(f:Yb->R Bool):TT:=fun σ H Q=>∃ρ,View C.X.K H σ ρ/\RQ C H @u λb=>∀H',Yc H H'->Q b H'
def EV(C:Cn)(e:Expr)(f:Yb->R PV):Prop:=PE C.X e (tV C f)
def EO(C:Cn)(e:Expr)(f:Yb->R PV):Prop:=PE C.X e (tO C f)
def EN(C:Cn)(e:Expr)(f:Yb->R PV):Prop:=PE C.X e (tN C f)
def EA(C:Cn)(es:List Expr)(f:Yb->R @e):Prop:=PA C.X es (tAs C f)
def ET(C:Cn)(e:Expr)(f:Yb->R Bool):Prop:=PT C.X e (tBl C f)
def EW(C:Cn)(e:Expr)(f:Yb->R Bool):Prop:=PW C.X e (tBl C f)
section
variable{C:Cn}{e a b c:Expr}{es:List Expr}{f fa fb fc:Yb->R PV}{fs:Yb->R @e}{pos:SL}
theorem EV.o(h:EV C e f):EO C e f:=λJ' s σ H Q I ⟨ρ,vw,q⟩=>h J' s σ H Q I ⟨ρ,vw,q.imp λ_ _ k v H' sm r=>k v H' sm r.o⟩
theorem EN.o(h:EN C e f):EO C e f:=λJ' s σ H Q I ⟨ρ,vw,q⟩=>h J' s σ H Q I ⟨ρ,vw,q.imp λ_ _ k a H' sm _ r=>k @m H' sm r.o⟩
theorem EN.v(h:EN C e f):EV C e f:=by
 sleep 1;cases hf:f ρ with
|ok p=>
  rw[hf]at q;refine Yl (h J' s σ H (λv H'=>∃a,v=.ref a/\Yc H H'/\H a=Y'/\dj C.X.K H' a p) I ⟨ρ,vw,by rw[hf];exact λa H' sm n w=>⟨a,rfl,sm,n,w⟩⟩) λu s' ⟨v,H',I',rv,a,ev,sm,na,w⟩=>?_;obtain⟨H2,I2,rp,Z1⟩:=I'.YL w;subst ev;exact⟨.ref a,H2,I2,rv,q _ H2 @qX rp⟩
|er x=>
  rw[hf]at q;exact h J' s σ H Q I ⟨ρ,vw,by rw[hf];exact q⟩
|no=>
  rw[hf]at q;exact QS q
theorem Km (i:Nat) {x:Str} (hN:C.X.N[i]?=Z' x) (hv:Z3 C.X.env.scope x) (hd:(x==("__debug__":Str))=Y1:=by decide) (hcd:(x==("__classdict__":Str))=Y1:=by decide):EV C @aE (Y9 i):=by
 sleep 1;unfold Y9 at q;split at q
 .rename_i p e
  obtain⟨v,ev,r⟩:=vw i _ e;exact bR hN hv hd hcd J' s σ H Q I ⟨v,ev,q v H @p r⟩
 .exact QS q
theorem Kq (i:Nat) {x:Str} (hN:C.X.N[i]?=Z' x) (hv:Z3 C.X.env.scope x) (hd:(x==("__debug__":Str))=Y1:=by decide) (hcd:(x==("__classdict__":Str))=Y1:=by decide):EO C @aE (kL i):=by
 sleep 1;unfold kL at q;split at q
 .rename_i p e
  obtain⟨v,ev,r⟩:=vw i _ e;exact bR hN hv hd hcd J' s σ H Q I ⟨v,ev,q v H @p r.o⟩
 .rename_i p e
  obtain⟨v,ev,r⟩:=vw i _ e;exact bR hN hv hd hcd J' s σ H Q I ⟨_,ev,q _ H @p r.o⟩
 .rename_i p e
  obtain⟨a,r,ev,h⟩:=vw i _ e;exact bR hN hv hd hcd J' s σ H Q I ⟨_,ev,q _ H @p h.2.o⟩
 .exact QS q
theorem bz{i j}:EV C @jK (kI i):=λJ' s σ H Q I ⟨_,_,q⟩=>wB J' s σ H Q I @hh
theorem fS{i j}:EV C (.Constant (.bool i) j pos) (kB i):=λJ' s σ H Q I ⟨_,_,q⟩=>Mq J' s σ H Q I @hh
theorem gu{j}:EV C @pK kN:=λJ' s σ H Q I ⟨_,_,q⟩=>Js J' s σ H Q I @hh
theorem b5{x j}:EV C @pZ (kS x):=λJ' s σ H Q I ⟨_,_,q⟩=>nY J' s σ H Q I @hh
theorem Hd {x:Str} {v:V} {u:Value} {p:PV} (hg:Gl C.X x) (hm:C.X.mg x=Z' u) (r:RelV v u) (rp:∀H,Rep C.X.K H p v) (hd:(x==("__debug__":Str))=Y1:=by decide):EV C @aE (kP p):=
 λJ' s σ H Q I ⟨_,_,q⟩=>zX hg hm r hd J' s σ H Q I (q _ H @p (rp H))
theorem ag:EA C [] aE:=λpos J' s σ H Q I ⟨_,_,q⟩=>dZ pos J' s σ H Q I (q [] H @p aV.nil)
theorem a6(ha:EV C e f)(hr:EA C es fs)(hs:QU (e::es) C.X.env=(Y1,Rj e C.X.env)::QU es C.X.env:=by exact bq rfl):EA C (e::es) (a7 f fs):=by
 intro pos J' s σ H Q I ⟨ρ,vw,q⟩;refine bh ha hr hs pos J' s σ H Q I ⟨ρ,vw,q.bind.imp λp _ k v H1 s1 r1=>⟨ρ,vw.same s1,(k.bind.same s1).imp λps _ k2 vs H2 s2 r2=>?_⟩⟩;exact k2 (v::vs) H2 @dB (aV.cons (r1.same s2) r2)
noncomputable def tA1(C:Cn)(f:Yb->R PV):TA:=fun σ H Q=>∃ρ,View C.X.K H σ ρ/\RQ C H @u λp=>∀v H',Yc H H'->di C.X.K H' p v->Q [v] H'
theorem uD(ha:EO C e f)(hs:QU [e] C.X.env=[(Y1,Rj e C.X.env)]:=by exact bF rfl):PA C.X [e] @ma:=by
 intro pos J' s σ H Q I ⟨ρ,vw,q⟩;exact bh ha dZ hs pos J' s σ H Q I ⟨ρ,vw,q⟩
theorem Yc.new{H:Hp}{a:Addr}{o:HO}(h:H a=Y'):Yc H @dh:=.of λb u e=>by
 rw[ai (cG e h)];exact e
theorem iY{C:Cn}{H:Hp}{ps:List PV}{β:Type}{g:List PV->R β}{k:β->Prop}(h:RQ C H (mj ps>>=g) k):ps.length<=sizeLine/\RQ C H (g ps) k:=by
 unfold mj at h
 by_cases hz:ps.length<=16777216
 .simp_all[Rt]
 .rw[if_neg hz]at h
  exact QS h
theorem cw{k}(h:EA C es fs):EV C @e3 (i8 fs):=by
 sleep 1;refine Jp h J' s σ H Q I ⟨ρ,vw,q.bind.imp λps _ k vs H1 s1 r1=>?_⟩;obtain⟨z,k⟩:=iY k;refine⟨by rw[<-r1.length];exact z,λp hp=>?_⟩;exact k _ _ @sv ⟨p,vs,rfl,.inl aq,r1.same @fm⟩
theorem bJ(h:EA C es fs):EN C @tC (hU fs):=by
 sleep 1;refine Er h J' s σ H Q I ⟨ρ,vw,q.bind.imp λps _ k vs H1 s1 r1=>?_⟩;obtain⟨z,k⟩:=iY k;refine⟨by rw[<-r1.length];exact z,λp hp=>?_⟩;exact k p _ @sv (s1.free hp) ⟨vs,aq,r1.same @fm⟩
noncomputable def rP(K:QO)(g:PV->PV->Option PV):R2:=λv u H Q=>∃p q z,di K H p v/\di K H q u/\g p q=Z' z/\∀w H',Yc H H'->Rep K H' z w->Q w H'
theorem t2{σ:L2.St}{H:Hp}{Q:VK}{ρ:Yb}{g:PV->PV->Option PV}{r:R2}(vw:View C.X.K H σ ρ)(q:RQ C H (a9 fa fb g ρ) λp=>∀v H',Yc H H'->Rep C.X.K H' p v->Q v H')
  (hr:∀v u H' Q',rP C.X.K g v u H' Q'->r v u H' Q'):tOp r (tO C fa) (tO C fb) σ H Q:=by
 refine⟨ρ,vw,q.bind.imp λp _ k v H1 s1 r1=>⟨ρ,vw.same s1,(k.bind.same s1).imp λp2 _ k2 u H2 s2 r2=>?_⟩⟩;obtain⟨z,ez,k3⟩:=k2.Yn;exact hr _ _ _ _ ⟨p,p2,z,r1.same s2,r2,ez,λw H3 s3 r3=>k3 w H3 @jD r3⟩
theorem aj{op:Operator}{g:PV->PV->Option PV}(ho:YH C.X (TV op) @cH)(ha:EO C a fa)(hb:EO C b fb):EV C @rb @hM:=by
 sleep 1;exact Jq ho ha hb J' s σ H Q I @jp
theorem dW{op:WM}{g:PV->PV->Option PV}(ho:YH C.X @b5 @cH)(ha:EO C a fa)(hb:EO C b fb)(hm:TZ op b=Y1:=by first|exact wK _|with_unfolding_all rfl):EV C @dH @hM:=by
 sleep 1;exact zZ ho ha hb hm J' s σ H Q I @jp
theorem aw{g:PV->PV->Option PV}(ho:IxR C.X @cH)(ha:EO C a fa)(hb:EO C b fb)(hs:BC b:=by exact λ_ _=>rfl):EV C @qJ @hM:=by
 sleep 1;exact Jt ho ha hb hs J' s σ H Q I @jp
end
section
variable{X:Cx}{J':List @c}{σ:L2.St}{H:Hp}{s:QR}
theorem DkR.at{a:Addr}{kvs:List @t}(hw:X.w=TW.w)(I:Inv X J' σ H s)(h:DkR X.K H a kvs):
  kvs.length<=sizeLine/\(a==SI)=Y1/\∃vs,KV kvs vs/\s.heap.DictOf @kF a vs:=by
 rcases h with h|h
 .exact DP I.hok h
 .exact⟨h.1,h.2.1,h.at _ _ hw _ I.Z6⟩
theorem o7{ys:List V}{Xv:List Value}{ps:List PV}(I:Inv X J' σ H s)(hv:Vals ys Xv)(hz:ys.length<=sizeLine)(hr:aV X.K H ps ys)(t':Nat):
  ∃H',Inv X J' σ H' {s with heap:=s.heap.push {cls:=.type "list",data:=.seq Xv.toArray},toks:=t'}/\Yc H H'/\Rep X.K H' @X @b9:=by
 have I1:=I.lnew (t':=t') hv hz;have nf:H s.heap.objs.size=Y':=I.fresh;obtain⟨H',I2,rp,Z1⟩:=L2.Inv.YL (a:=s.heap.objs.size) (p:=.lst ps) I1 ⟨ys,aq,hr.same @di⟩;refine⟨H',I2,.of λb o e=>?_,rp⟩;have hb:=cG e nf;rw[Z1 b hb,ai hb];exact e
theorem di.lst_inv{K:QO}{H:Hp}{ps:List PV}{v:V}(h:di K H @X v):∃a xs,v=.ref a/\SqO K H a xs/\aV K H ps xs:=h
theorem di.Yq{K:QO}{H:Hp}{ps:List PV}{v:V}(h:di K H @aq v):∃a xs,v=.ref a/\Zo K H a xs/\aV K H ps xs:=by
 obtain⟨a,xs,e,q,r⟩:=(show ∃a xs,v=.ref a/\vR K H a xs ps/\aV K H ps xs from h);exact⟨a,xs,e,q.sq,r⟩
end
theorem DV{prog:R8}{w:RH}{A:RV}{E:Value->QR->Prop}{s:QR}{t b:Addr}{vs ws:List Value}{Q:Value->QR->Prop}(ht:IsTup s.heap t vs.toArray)(hb:IsTup s.heap b ws.toArray)
  (h0:vs=[]->Q @bZ s) (h1:ws=[]->Q @fN s) (h2:Q @b9 {s with heap:=s.heap.push {cls:=.type "tuple",data:=.seq (vs++ws).toArray} })
  (hsz:vs.length+ws.length<=sizeLine):QZ @r A (TV .Add @fN @bZ) Q E s:=by
 obtain⟨⟨cls,dd,data,sl⟩,ho,hc,n,hd⟩:=id ht;obtain⟨⟨cls2,dd2,data2,sl2⟩,ho2,hc2,n2,hd2⟩:=id hb;simp only at hc hd hc2 hd2;subst hc hd hc2 hd2;have e:vs.toArray++ws.toArray=(vs++ws).toArray:=by simp
 by_cases hv:vs=[]
 .exact Xl @kL @kz WY XJ Uv Uk (Ue _ _)
   (tuple_addW0 t b vs.toArray ws.toArray n n2 dd dd2 sl sl2 (by simp[hv])) ⟨ho,ho2,h0 hv⟩
 .by_cases hw:ws=[]
  .exact Xl @kL @kz WY XJ Uv Uk (Ue _ _)
    (tuple_addW1 t b vs.toArray ws.toArray n n2 dd dd2 sl sl2 (by simpa using hv) (by simp[hw])) ⟨ho,ho2,h1 hw⟩
  .refine Xl @kL @kz WY XJ Uv Uk (Ue _ _)
    (tuple_addW2 t b vs.toArray ws.toArray n n2 dd dd2 sl sl2 (by simpa using hv) (by simpa using hw) (by rw[Rb,Rb];exact hsz)) ⟨ho,ho2,?_⟩
   rw[e];exact h2
section
variable{X:Cx}
theorem wu{f:Value->Value->Sem Value}{g:PV->PV->Option PV}{r:R2}(h:YH X f r)
  (hg:∀(p q z:PV),g p q=Z' z->∃i j,p=.int i/\q=.int j/\∃w:V,(∀K H,Rep K H z w)/\∀H Q,Q w H->r @I (.int j) H Q):YH X f (rP X.K g):=by
 sleep 9;obtain⟨i,j,rfl,rfl,w,hw,hr⟩:=hg p q z e;cases (show x=.int i from hp);cases (show y=.int j from hq);exact h J' s σ H _ _ v u Q I rx ry (hr H Q (k w H @p (hw _ _)))
theorem Gj:YH X (TV .Mult) (rP X.K BP):=wu Jx λp q z e=>by
 unfold BP at e;split at e
 .rename_i i j
  split at e
  .rename_i hc
   cases e;exact⟨i,j,rfl,rfl,_,λ_ _=>rfl,λH Q q=>⟨i,j,rfl,rfl,hc.imp (λh=>⟨by omega,by omega⟩) (λh=>⟨by omega,by omega⟩),q⟩⟩
  .cases e
 .cases e
theorem jr:YH X @tn (rP X.K lg):=wu Gi λp q z e=>by
 unfold lg at e;split at e
 .rename_i i j
  split at e
  .rename_i hc
   cases e;exact@m0
  .cases e
 .cases e
theorem fD:YH X (TV .Mod) (rP X.K i5):=wu Jy λp q z e=>by
 unfold i5 at e;split at e
 .rename_i i j
  split at e
  .rename_i hc
   cases e;exact@m0
  .cases e
 .cases e
theorem bj:YH X @il (rP X.K bt):=by
 sleep 9;have hs:=Rt;unfold bt at e;split at e
 .rename_i i j
  cases e;cases (show x=.int i from hp);cases (show y=.int j from hq);exact JA J' s σ H _ _ v u Q I rx ry @dF
 .rename_i i j
  split at e
  .rename_i hc
   cases e;cases (show x=.str i from hp);cases (show y=.str j from hq);exact yb J' s σ H _ _ v u Q I rx ry ⟨i,j,rfl,rfl,by trivial,k _ H @p rfl⟩
  .cases e
 .rename_i ps qs
  split at e
  .rename_i hc
   cases e;obtain⟨a,xs,rfl,hx,r1⟩:=hp;obtain⟨b,ys,rfl,hy,r2⟩:=hq;cases rx;cases ry;obtain⟨hz,Xv,n,rv,e1⟩:=hx.is I;obtain⟨hz2,its2,n2,rv2,e2⟩:=hy.is I;have l1:=r1.length;have l2:=r2.length;have l3:=rv.length;have l4:=rv2.length;have ea:Xv.toArray++its2.toArray=(Xv++its2).toArray:=by simp
   refine XR e1 e2 ?_ (by simp only[Rb];simp_all);rw[ea];obtain⟨H',I',sm,rp⟩:=o7 I @sw (by rw[RF];simp_all) (r1.append r2) s.toks;exact⟨.ref _,H',I',rfl,k _ H' sm rp⟩
  .cases e
 .rename_i ps qs
  split at e
  .rename_i hc
   cases e;obtain⟨a,xs,rfl,hx,r1⟩:=di.Yq hp;obtain⟨b,ys,rfl,hy,r2⟩:=di.Yq hq;cases rx;cases ry;obtain⟨Xv,rv,pl,hz⟩:=I.tuple hx;obtain⟨its2,rv2,pl2,hz2⟩:=I.tuple hy;have l1:=r1.length;have l2:=r2.length;have l3:=rv.length;have l4:=rv2.length;refine DV pl pl2 (λz=>?_) (λz=>?_) ?_ @i
   .subst z
    have:ps=[]:=T8 (by rw[l1,l3];rfl);subst this;exact⟨.ref b,H,I,rfl,k _ H @p hq⟩
   .subst z
    have:qs=[]:=T8 (by rw[l2,l4];rfl);subst this;rw[Rh]at k;exact⟨.ref a,H,I,rfl,k _ H @p hp⟩
   .have nf:H s.heap.objs.size=Y':=I.fresh
    refine⟨.ref s.heap.objs.size,_,I.laid (t':=s.toks) (o:=.tup (xs++ys)) @gS @C ?_,rfl,k _ _ @di ⟨_,xs++ys,rfl,.inl aq,(r1.append r2).same @di⟩⟩;exact⟨by rw[RF];simp_all,_,rv.append rv2,E6.new _ _⟩
  .cases e
 .cases e
end
structure Bs where
 fst:Hp
 snd:Hp
 thd:Nat->Option @he
structure Yr(K:QO)(B:Bs)(H:Hp)(σ:L2.St)(ρ:Yb):Prop where
 len:ρ.length=σ.length
 same:Yc B.1 H
 kp:Kp B.2 H
 vw:View K H σ ρ
 fresh:∀(i:Nat)(p:PV)(a:Addr),ρ[i]?=Z' @aX->σ[i]?=Z' @ag->B.1 a=Y'
 apart:∀(i j:Nat)(p q:PV)(a:Addr),ρ[i]?=Z' @aX->ρ[j]?=Z' @ek->σ[i]?=Z' @ag->σ[j]?=Z' @ag->i=j
 Yy:∀(i:Nat)(t:Tr),ρ[i]?=Z' @aW->∃a r,B.3 i=Z' (a,r)/\σ[i]?=Z' @ag/\aA K B.1 a r t
section
variable{K:QO}{B:Bs}{H H':Hp}{σ:L2.St}{ρ:Yb}{i:Nat}{p q:PV}{v:V}{a:Addr}
theorem Yr.grow(S:Yr K B H σ ρ)(s:Yc H H'):Yr K B H' σ ρ:=⟨S.len,S.same.trans s,S.kp.trans @fJ,S.vw.same s,S.fresh,S.apart,S.Yy⟩
theorem bp{α:Type}{l:List α}{i j:Nat}{x y:α}(h:(l.set i x)[j]?=Z' y):(j=i/\y=x/\i<l.length)\/(j≠i/\l[j]?=Z' y):=by
 rw[Vr]at h
 by_cases e:i=j
 .subst e
  rw[if_pos rfl]at h;split at h
  .rename_i hl
   cases h;exact .inl ⟨rfl,rfl,hl⟩
  .cases h
 .rw[if_neg e]at h
  exact .inr ⟨λz=>e z.symm,h⟩
theorem aR{α:Type}{l:List α}{i j:Nat}{x:α}(h:j≠i):(l.set i x)[j]?=l[j]?:=by
 rw[Vr,if_neg λz=>h z.symm]
theorem d6{α:Type}{l:List α}{i:Nat}{x:α}(h:i<l.length):(l.set i x)[i]?=Z' x:=by
 rw[Vr,if_pos rfl,if_pos h]
theorem Yr.af2(S:Yr K B H σ ρ)(r:Rep K H p v):Yr K B H @e2 @bN:=by
 refine⟨by simp[S.len],S.same,S.kp,⟨λj l e=>?_,S.vw.tb⟩,λj q b e f=>?_,λj k q q' b e1 e2 f1 f2=>?_,λj t e=>?_⟩
 .rcases bp e with⟨rfl,rfl,hl⟩|⟨hj,e⟩
  .exact⟨v,d6 (by rw[<-S.len];exact hl),r⟩
  .rw[aR hj]
   exact S.vw j l e
 .rcases bp e with⟨_,z,_⟩|⟨hj,e⟩
  .cases z
  .rw[aR hj]at f
   exact S.fresh j q b e f
 .rcases bp e1 with⟨_,z,_⟩|⟨hj,e1⟩
  .cases z
  .rcases bp e2 with⟨_,z,_⟩|⟨hk,e2⟩
   .cases z
   .rw[aR hj]at f1
    rw[aR hk]at f2;exact S.apart j k q q' b e1 e2 f1 f2
 .rcases bp e with⟨_,z,_⟩|⟨hj,e⟩
  .cases z
  .obtain⟨a',r',h1,h2,h3⟩:=S.Yy j t e
   exact⟨a',r',h1,by rw[aR hj];exact h2,h3⟩
theorem Yr.setN(S:Yr K B H σ ρ)(s:Yc H H')(n:H a=Y')(r:dj K H' a p):Yr K B H' @hq @e8:=by
 have other:∀(j:Nat)(q:PV),ρ[j]?=Z' @ek->σ[j]?≠Z' @ag:=λj q e f=>by
  obtain⟨b,e2,w⟩:=S.vw j _ e;rw[f]at e2;cases e2;cases q with
  |lst ps=>obtain⟨_,w,_⟩:=w;rw[n]at w;cases w
  |dct ks ps=>obtain⟨_,w,_⟩:=w;rw[n]at w;cases w
  |ZC ks ps=>obtain⟨_,w,_⟩:=w;rw[n]at w;cases w
  |_=>exact w
 refine⟨by simp[S.len],S.same.trans s,S.kp.trans @fJ,⟨λj l e=>?_,s.tabs S.vw.tb⟩,λj q b e f=>?_,λj k q q' b e1 e2 f1 f2=>?_,λj t e=>?_⟩
 .rcases bp e with⟨rfl,rfl,hl⟩|⟨hj,e⟩
  .exact⟨a,d6 (by rw[<-S.len];exact hl),r⟩
  .rw[aR hj]
   exact(S.vw j l e).same s
 .rcases bp e with⟨rfl,_,hl⟩|⟨hj,e⟩
  .rw[d6 (by rw[<-S.len];exact hl)]at f
   cases f;exact S.same.free n
  .rw[aR hj]at f
   exact S.fresh j q b e f
 .rcases bp e1 with⟨h1,_,hl⟩|⟨hj,d1⟩
  .rcases bp e2 with⟨h2,_,_⟩|⟨hk,d2⟩
   .rw[h1,h2]
   .subst h1
    rw[d6 (by rw[<-S.len];exact hl)]at f1;cases f1;rw[aR hk]at f2;exact absurd f2 (other k q' d2)
  .rcases bp e2 with⟨h2,_,hl⟩|⟨hk,d2⟩
   .subst h2
    rw[d6 (by rw[<-S.len];exact hl)]at f2;cases f2;rw[aR hj]at f1;exact absurd f1 (other j q d1)
   .rw[aR hj]at f1
    rw[aR hk]at f2;exact S.apart j k q q' b d1 d2 f1 f2
 .rcases bp e with⟨_,z,_⟩|⟨hj,e⟩
  .cases z
  .obtain⟨a',r',h1,h2,h3⟩:=S.Yy j t e
   exact⟨a',r',h1,by rw[aR hj];exact h2,h3⟩
theorem dj.obj(h:dj K H a p):∃u,H a=Z' u/\rG u=Y1:=by
 cases p with
|lst ps=>obtain⟨_,w,_⟩:=h;exact@kY
|dct ks ps=>obtain⟨_,w,_⟩:=h;exact@kY
|ZC ks ps=>obtain⟨_,w,_⟩:=h;exact@kY
|_=>exact QS h
theorem dj.kp(k:Kp H H')(e:H' a=H a)(h:dj K H a p):dj K H' a p:=by
 cases p with
|lst ps=>obtain⟨xs,w,r⟩:=h;exact⟨xs,by simp_all,r.kp k⟩
|dct ks ps=>obtain⟨xs,w,z,r⟩:=h;exact⟨xs,by simp_all,z,r.kp k⟩
|ZC ks ps=>obtain⟨xs,w,z,r⟩:=h;exact⟨xs,by simp_all,z,r.kp k⟩
|_=>exact h
theorem Yr.turn{l':Sl}(S:Yr K B H σ ρ)(e:ρ[i]?=Z' @aX)(f:σ[i]?=Z' @ag)(Z1:∀b,b≠a->H' b=H b)(hl:BA K H' (Z' @ag) l')(hn:∀t,l'≠.tree t:=by intro _ h;cases h):Yr K B H' σ (ρ.set i l'):=by
 obtain⟨b,f2,w⟩:=S.vw i _ e;rw[f]at f2;cases f2;obtain⟨u,hu,nf⟩:=w.obj;have fa:=S.fresh i p a e f
 have k:Kp H H':=λb u' eb fb=>by
  have:b≠a:=λz=>by
   subst z;rw[hu]at eb;cases eb;rw[nf]at fb;cases fb
  rw[Z1 b this];exact eb
 have ne:∀(j:Nat)(q:PV)(b:Addr),j≠i->ρ[j]?=Z' @ek->σ[j]?=Z' @mj->b≠a:=λj q b hj e2 f2 z=>by
  subst z;exact hj (S.apart j i q p b e2 e f2 f)
 refine⟨by simp[S.len],S.same.but fa @je Z1,S.kp.trans k,⟨λj l ej=>?_,S.vw.tb.but w.nt Z1⟩,λj q b ej fj=>?_,λj m q q' b e1 e2 f1 f2=>?_,λj t e=>?_⟩
 .rcases bp ej with⟨rfl,rfl,hl2⟩|⟨hj,ej⟩
  .rw[f]
   exact hl
  .have:=S.vw j l ej
   cases l with
   |no=>exact trivial
   |val q=>obtain⟨v,e1,r⟩:=this;exact⟨v,e1,r.kp k⟩
   |own q=>
    obtain⟨b,e1,r⟩:=this;exact⟨b,e1,r.kp k (Z1 b (ne j q b hj ej e1))⟩
   |tree t=>
    obtain⟨a',r',_,h2,h3⟩:=S.Yy j t ej;exact⟨a',r',h2,h3.same (S.same.but fa @je Z1)⟩
   |exc y=>exact this.exk k
 .rcases bp ej with⟨rfl,_,_⟩|⟨hj,ej⟩
  .rw[f]at fj
   cases fj;exact fa
  .exact S.fresh j q b ej fj
 .have fix:∀(j:Nat)(q:PV),(ρ.set i l')[j]?=Z' @ek->∃q',ρ[j]?=Z' (.own q'):=λj q ej=>by
   rcases bp ej with⟨rfl,_,_⟩|⟨hj,ej⟩
   .exact⟨p,e⟩
   .exact⟨q,ej⟩
  obtain⟨q1,g1⟩:=fix j q e1;obtain⟨q2,g2⟩:=fix m q' e2;exact S.apart j m q1 q2 b g1 g2 f1 f2
 .rcases bp e with⟨_,z,_⟩|⟨hj,e⟩
  .exact absurd z.symm (hn t)
  .exact S.Yy j t e
theorem Yr.rebase{B':Hp}(S:Yr K B H σ ρ)(k:Kp B' H):Yr K ⟨B.1,B',B.3⟩ H σ ρ:=⟨S.len,S.same,k,S.vw,S.fresh,S.apart,S.Yy⟩
end
def RS(C:Cn)(B:Bs)(D:Ends):R Fl->Prop
|.ok (.next ρ)=>∀σ H,Yr C.X.K B H σ ρ->D.nx σ H
|.ok (.brk ρ)=>∀σ H,Yr C.X.K B H σ ρ->D.bk σ H
|.ok (.cont ρ)=>∀σ H,Yr C.X.K B H σ ρ->D.ct σ H
|.ok (.ret p)=>∀v H,Yc B.1 H->Rep C.X.K H p v->D.rt v H
|.er x=>∀H,Yc B.1 H->C.Ac x H
|.no=>False
noncomputable def tS(C:Cn)(g:Yb->R Fl):TS:=λD σ H=>∃ρ B,Yr C.X.K B H σ ρ/\RS C B D @er
def SV(C:Cn)(st:Stmt)(g:Yb->R Fl):Prop:=PS C.X st (tS C g)
def SVs(C:Cn)(st:List Stmt)(g:Yb->R Fl):Prop:=PSs C.X st (tS C g)
section
variable{C:Cn}{B:Bs}{D:Ends}{H:Hp}{α:Type}
theorem RS.bind{r:R α}{g:α->R Fl}(h:RS C B D (r>>=g))(s:Yc B.1 H):RQ C H r λa=>RS C B D (g a):=by
 cases r with
|ok a=>exact h
|er x=>exact λH' s'=>h H' (s.trans s')
|no=>exact h
theorem RS.Yn{o:Option α}{g:α->R Fl}(h:RS C B D (R.Yn o>>=g)):∃a,o=Z' a/\RS C B D (g a):=by
 cases o with
|none=>exact QS h
|some a=>simp_all
end
section
variable{C:Cn}{st:Stmt}{sts a b body:List Stmt}{e tg iter c:Expr}{f fk:Yb->R PV}{g g':Yb->R Fl}{pos:SL}{t:Yb->R Bool}
theorem aC:SVs C [] br:=λJ' s σ H D I ⟨ρ,B,S,h⟩=>zH J' s σ H D I (h σ H S)
theorem ae(h1:SV C st g)(h2:SVs C sts g'):SVs C (st::sts) (bL g g'):=by
 sleep 16;refine mV h1 h2 J' s σ H D I ⟨ρ,B,S,?_⟩;unfold bL at h;cases hg:g ρ with
|ok fl=>
  rw[hg]at h;cases fl with
  |next ρ'=>exact fun σ' H' S'=>⟨ρ',B,S',h⟩
  |brk ρ'=>exact h
  |cont ρ'=>exact h
  |ret p=>exact h
|er x=>rw[hg]at h;exact h
|no=>rw[hg]at h;exact h
theorem af(h1:SV C st g):SVs C [st] g:=by
 sleep 16;exact vb h1 J' s σ H D I ⟨ρ,B,S,h⟩
theorem ao(he:EV C e f):SV C @jW (bu f):=by
 sleep 16;exact wy he J' s σ H D I ⟨ρ,S.vw,(h.bind S.same).imp λp _ k v H' s' r=>k v H' (S.same.trans s') r⟩
theorem bC(hc:ET C c t)(ha:SVs C a g)(hb:SVs C b g'):SV C @kI (YF t g g'):=by
 sleep 16;refine Jj hc ha hb J' s σ H D I ⟨ρ,S.vw,(h.bind S.same).imp λk _ q H' s'=>?_⟩;cases k with
|true=>exact Dm @pP
|false=>exact Dn @pP
theorem aQ(i:Nat){x:Str}{pos':SL}(hN:C.X.N.Nodup)(he:EV C e f)(hs:SR e @eX pos.line C.X.env=pure Y1:=by rfl)
  (hf:C.X.fn x=Y2\/C.X.env.scope.names.lookup x=Z' .local:=by first|exact .inl rfl|exact .inr rfl|assumption) (hi:C.X.N[i]?=Z' x:=by rfl) (hx:Loc C.X.env.scope x:=by first|exact .inl rfl|exact .inr rfl):
  SV C @eO (bN i f):=by
 sleep 16;exact wx hN hi hx he hs hf J' s σ H D I ⟨ρ,S.vw,(h.bind S.same).imp λp _ k v H' s' r=>k _ H' ((S.grow s').af2 r)⟩
theorem iJ(i:Nat){x:Str}{pos':SL}(hN:C.X.N.Nodup)(he:EN C e f)(hs:SR e @eX pos.line C.X.env=pure Y1:=by rfl)
  (hf:C.X.fn x=Y2\/C.X.env.scope.names.lookup x=Z' .local:=by first|exact .inl rfl|exact .inr rfl|assumption) (hi:C.X.N[i]?=Z' x:=by rfl) (hx:Loc C.X.env.scope x:=by first|exact .inl rfl|exact .inr rfl):
  SV C @eO (vo i f):=by
 sleep 16;exact wx hN hi hx he hs hf J' s σ H D I ⟨ρ,S.vw,(h.bind S.same).imp λp _ k a H' s' n r=>k _ H' (S.setN s' n r)⟩
theorem Kk{J':List @c}{s:QR}{σ:L2.St}{H:Hp}{B:Bs}{ρ:Yb}(i:Nat)(I:Inv C.X J' σ H s)(S:Yr C.X.K B H σ ρ):∃H',Inv C.X J' σ H' s/\Yr C.X.K B H' σ @ms:=by
 unfold AR
 split
 .rename_i p e
  obtain⟨a,f,w⟩:=S.vw i _ e;obtain⟨H',I',rp,Z1⟩:=L2.Inv.YL I w;exact⟨H',I',S.turn e f Z1 @sU⟩
 grind
theorem SV.YL(i:Nat)(h:SV C st g):SV C st (EX i g):=by
 sleep 12;obtain⟨H',I',S'⟩:=Kk i I S;exact h J' s σ H' D I' ⟨_,B,S',q⟩
theorem gx:SV C st noF:=λ_ _ _ _ _ _ ⟨_,_,_,h⟩=>QS h
noncomputable def tTg(C:Cn)(h:PV->Yb->Option Yb):TG:=λv σ H Q=>∃ρ B p ρ',Yr C.X.K B H σ ρ/\Rep C.X.K H p v/\h p ρ=Z' ρ'/\∀σ',Yr C.X.K B H σ' ρ'->Q σ' H
def TGt(C:Cn)(tg:Expr)(h:PV->Yb->Option Yb):Prop:=PG C.X tg (tTg C h)
noncomputable def Pa(C:Cn)(h:List PV->Yb->Option Yb):TGs:=λvs σ H Q=>∃ρ B ps ρ',Yr C.X.K B H σ ρ/\aV C.X.K H ps vs/\h ps ρ=Z' ρ'/\∀σ',Yr C.X.K B H σ' ρ'->Q σ' H
def Ia(C:Cn)(ts:List Expr)(h:List PV->Yb->Option Yb):Prop:=PGs C.X ts (Pa C h)
theorem aU(i:Nat){x:Str}(hN:C.X.N.Nodup)(hf:C.X.fn x=Y2\/C.X.env.scope.names.lookup x=Z' .local:=by first|exact .inl rfl|exact .inr rfl|assumption)(hi:C.X.N[i]?=Z' x:=by rfl)(hx:Loc C.X.env.scope x:=by first|exact .inl rfl|exact .inr rfl):
  TGt C @aE (ar i):=by
 intro J' s σ H v u Q I r ⟨ρ,B,p,ρ',S,rp,e,k⟩;cases e;exact vd hN hi hx hf J' s σ H v u Q I r (k _ (S.af2 rp))
theorem fC:Ia C [] fN:=by
 intro J' s σ H vs us Q I r ⟨ρ,B,ps,ρ',S,rp,e,k⟩;cases ps with
|nil=>cases e;cases rp;exact zP J' s σ H _ us Q I r ⟨rfl,k _ S⟩
|cons _ _=>cases e
theorem aZ{es:List Expr}{h:PV->Yb->Option Yb}{h':List PV->Yb->Option Yb}(h1:TGt C e h)(h2:Ia C es h')(hs:(SJ (e::es) C.X.env).map @s=W8 e C.X.env::(SJ es C.X.env).map @s:=by rfl):Ia C (e::es) @mh:=by
 intro J' s σ H vs us Q I r ⟨ρ,B,ps,ρ',S,rp,ee,k⟩;cases ps with
|nil=>cases ee
|cons p qs=>
  obtain⟨x,xs,rfl,rp1,rp2⟩:=rp;have ee:(h p ρ).bind (fun ρ1=>h' qs ρ1)=Z' ρ':=ee;obtain⟨ρ1,e1,e2⟩:=Re.mp ee;exact wA h1 h2 hs J' s σ H _ us Q I r ⟨x,xs,rfl,ρ,B,p,ρ1,S,rp1,e1,fun σ1 S1=>⟨ρ1,B,qs,ρ',S1,rp2,e2,k⟩⟩
end
section
variable{C:Cn}{st:Stmt}{sts a b body:List Stmt}{e tg iter c:Expr}{f fk:Yb->R PV}{g g':Yb->R Fl}{pos:SL}{t:Yb->R Bool}
theorem iH{es:List Expr}{k n:Nat}{h:List PV->Yb->Option Yb}(hc:C.X.calm=Y2)(hh:Ia C es h)
  (hn:(SJ es C.X.env).length=n:=by rfl) (hst:(SJ es C.X.env).findIdx? @d=Y':=by rfl):TGt C @e3 (fV n h):=by
 intro J' s σ H v u Q I r ⟨ρ,B,p,ρ',S,rp,e,k⟩;cases p with
|tup ps=>
  have e:(if ps.length=n then h ps ρ else Y')=Z' ρ':=e
  by_cases hl:ps.length=n
  .rw[if_pos hl]at e
   obtain⟨a,xs,rfl,hq,r1⟩:=rp;exact Ep hc hh hn hst J' s σ H _ u Q I r ⟨a,xs,rfl,hq.sq,by rw[<-r1.length];exact hl,ρ,B,ps,ρ',S,r1,e,k⟩
  .rw[if_neg hl]at e
   cases e
|_=>cases e
def ItP(K:QO)(J:It)(H₁:Hp)(ps:List PV):Prop:=
 ∀(i:Nat)(H:Hp),Kp H₁ H->(i=ps.length->J.stop i H)/\∀p,ps[i]?=Z' p->J.go i H/\∀x H',J.yld i H x H'->Yc H H'/\Rep K H' p x
noncomputable def tI(C:Cn)(f:Yb->R @e):TI:=fun σ H Q=>∃ρ,View C.X.K H σ ρ/\RQ C H @u λps=>∀J H',Yc H H'->ItP C.X.K J H' ps->Q J H'
def EI(C:Cn)(tg iter:Expr)(f:Yb->R @e):Prop:=PI C.X tg iter (tI C f)
theorem sd{α:Type}{l:List α}{i:Nat}{x:α}(h:l[i]?=Z' x):l.drop i=x::l.drop (i+1):=by
 obtain⟨hl,e⟩:=RO.mp h;rw[Wi hl,e]
theorem gy{fi:Yb->R @e}{h:PV->Yb->Option Yb}(hi:EI C tg iter fi)(hg:TGt C tg h)(hb:SVs C body g)
  (hs:∀x,Sx iter C.X.env x=pure x:=by intro _;rfl) (hp:Vo @an C.X.A C.X.env C.X.xe:=by exact Vl) (hc:C.X.calm=Y2:=by rfl):SV C (.For tg iter body [] pos) (sA fi h g):=by
 sleep 12;refine En hp hc hi hg hb hs J' s σ H D I ⟨ρ,S.vw,(q.bind S.same).imp λps _ k J H1 s1 it=>?_⟩;refine⟨λi m σ' H'=>∃ρ',m=ps.length-i/\i<=ps.length/\Yr C.X.K @e4 H' σ' ρ'/\RS C B D (rS h g @lC ρ'),⟨ps.length,ρ,rfl,UL _,(S.grow s1).rebase @ls,by simpa using k⟩,?_⟩;rintro i m σ' H' ⟨ρ',rfl,hi',S',q'⟩;have back:∀{σ2:L2.St}{H2:Hp}{ρ2:Yb},Yr C.X.K @e4 H2 σ2 ρ2->Yr C.X.K B H2 σ2 ρ2:=λ{σ2 H2 ρ2} S2=>⟨S2.len,S2.same,(S.kp.trans (Yc.kp s1)).trans S2.kp,S2.vw,S2.fresh,S2.apart,S2.Yy⟩;obtain⟨stp,aa6⟩:=it i H' S'.kp
 by_cases hlt:i<ps.length
 .have ei:ps[i]?=Z' ps[i]:=by simp[hlt]
  obtain⟨go,yl⟩:=aa6 _ ei;rw[sd ei]at q';obtain⟨ρ1,e1,q1⟩:=RS.Yn q';refine .inr ⟨go,fun σ2 H2=>∃ρ2,Yr C.X.K @e4 H2 σ2 ρ2/\RS C B D (rS h g (ps.drop (i+1)) ρ2),fun σ2 H2 ⟨ρ2,S2,r2⟩=>⟨ps.length-(i+1),by omega,ρ2,rfl,hlt,S2,r2⟩,λx H2 y=>?_⟩;obtain⟨s2,rp⟩:=yl x H2 y;refine⟨ρ',@e4,ps[i],ρ1,S'.grow s2,rp,e1,fun σ3 S3=>⟨ρ1,@e4,S3,?_⟩⟩;cases hgr:g ρ1 with
  |ok fl=>
   rw[hgr]at q1;cases fl with
   |next ρ2=>exact fun σ4 H4 S4=>@hp
   |cont ρ2=>exact fun σ4 H4 S4=>@hp
   |brk ρ2=>exact fun σ4 H4 S4=>q1 σ4 H4 (back S4)
   |ret p=>exact q1
  |er x=>rw[hgr]at q1;exact q1
  |no=>rw[hgr]at q1;exact q1
 .have e:i=ps.length:=by grind
  subst e;rw[W6]at q';exact .inl ⟨stp rfl,q' σ' H' (back S')⟩
end
noncomputable def spP(K:QO)(n:Nat)(F:List PV->Option PV):Sp:=λvs H Q _=>vs.length=n/\sC H/\∃ps p,aV K H ps vs/\F ps=Z' p/\∀v H',Yc H H'->Rep K H' p v->Q v H'
structure PF(P:R8)(w:RH)(K:QO)(mg:Str->Option Value)(base:Heap)(k:Nat)(x:Str)(F:List PV->Option PV):Prop where
 ex:∃(f:Addr)(fd:FuncData)(ps:List Str),YO P w K mg base CX0 k f fd ps (spP K ps.length F)/\mg x=Z' @x/\Rl K @x=Y2/\Binds K fd ps []/\∀qs p,F qs=Z' p->qs.length=ps.length
section
variable{C:Cn}{e:Expr}{es:List Expr}{fs:Yb->R @e}{x:Str}{k:Nat}{F:List PV->Option PV}{p pos:SL}
theorem ax(G:PF C.X.prog C.X.w C.X.K C.X.mg C.X.base k x F){kr:Nat}(hr:Yg kr C.X.A)(ha:EA C (e::es) fs)
  (hdb:(x==("__debug__":Str))=Y1:=by decide) (he:QU (e::es) C.X.env=(Y1,Rj e C.X.env)::QU es C.X.env:=by exact bq rfl) (hpl:(SN pos @dP).any @d=Y1:=by exact fK rfl) (hk:k<=kr:=by decide) (hg:Gl C.X x:=by exact rfl):
  EV C (.Call @bl (e::es) [] pos) (aN fs F):=by
 replace hr:=hr.mono hk;obtain⟨f,fd,ps,a,b,c,d,l⟩:=G.ex;sleep 1;sleep 24;obtain⟨z,ez,k⟩:=k.Yn;rw[Rh];exact⟨by rw[<-r1.length];exact l qs z ez,s1.tabs vw.tb,qs,z,r1,ez,λv H' s' r'=>k v H' @hF r'⟩
end
section
variable{P:R8}{w:RH}{K:QO}{mg:Str->Option Value}{base:Heap}
abbrev DU(P:R8)(w:RH)(K:QO)(mg:Str->Option Value)(base:Heap)(N:List Str)(qual:Str)(sc:Scope)(f:Addr)(Y5:Value)(A:RV)(outer:List Uz)(s:QR)(H:Hp)(E:XK):Cn:=
 ⟨(DQ CX0 P w K mg base N qual sc f Y5 A outer s H E).nox,λ_ _=>False⟩
theorem Ew{ps:List PV}{n i:Nat}{p:PV}(e:(start n ps)[i]?=Z' @aX):False:=by
 unfold start at e
 by_cases hi:i<ps.length
 .rw[Rc @aC,RC]at e
  cases h:ps[i]? with
  |none=>rw[h]at e;cases e
  |some p=>rw[h]at e;cases e
 .rw[Ro @aC,S9]at e
  split at e<;>cases e
theorem Ab{n i:Nat}{ps:List PV}{t:Tr}(e:(start n ps)[i]?=Z' @aW):False:=by
 unfold start at e
 by_cases hi:i<ps.length
 .rw[Rc @aC,RC]at e
  cases h:ps[i]? with
  |none=>rw[h]at e;cases e
  |some p=>rw[h]at e;cases e
 .rw[Ro @aC,S9]at e
  split at e<;>cases e
theorem mR{K:QO}{H:Hp}{N:List Str}{ps:List PV}{vs:List V}(tb:sC H)(r:aV K H ps vs):Yr K @eV H @hr @qW:=by
 have hl:=r.length;refine⟨by simp[start,L2.start,hl],Yc.refl H,Kp.refl H,⟨λi l e=>?_,tb⟩,λi p a e f=>?_,λi j p q a e1 e2 f1 f2=>?_,λi t e=>?_⟩
 .unfold start at e
  by_cases hi:i<ps.length
  .rw[Rc @aC,RC]at e
   cases h:ps[i]? with
   |none=>rw[h]at e;cases e
   |some p=>
    rw[h]at e;cases e;obtain⟨v,ev,rp⟩:=r.get h;refine⟨v,?_,rp⟩;unfold L2.start;rw[Rc (by rw[RB,<-hl];exact hi),RC,ev];rfl
  .rw[Ro @aC,S9]at e
   split at e
   .cases e
    exact trivial
   .cases e
 all_goals exfalso
 .exact Ew e
 .exact Ew e1
 .exact Ab e
theorem Mm{x qual:Str}{st:Stmt}{f:Addr}{fd:FuncData}{N ps:List Str}{k:Nat}{g:Yb->R Fl}(F:Fun K x qual st f fd)(S:Ye N ps @A)(hm:mg x=Z' @x)(hb:Binds K fd ps [])
  (Y3:∀(Y5:Value)(A:RV)(outer:List Uz)(s:QR)(H:Hp)(E:XK),Yg k @bK->SVs @gf @R g):
  PF P w K mg base (k+1) x @ju:=by
 refine⟨f,fd,ps,F.ok S @ca (λY5 A outer s H vs Q E hr h=>?_),hm,F.kp,hb,λqs p h=>?_⟩
 .obtain⟨hl,tb,qs,p,r,e,k⟩:=h
  refine⟨_,Y3 Y5 A outer s H E hr,start N.length qs,@eV,mR tb r,?_⟩;unfold f9 at e;rw[if_pos (by rw[r.length];exact hl)]at e;cases hg:g (start N.length qs)with
  |ok fl=>
   rw[hg]at e;cases fl with
   |next ρ=>cases e;exact fun σ H' S'=>k .Yj H' S'.same rfl
   |ret q=>cases e;exact λv H' s' r'=>k v H' s' r'
   |brk ρ=>cases e
   |cont ρ=>cases e
  |er x=>rw[hg]at e;cases e
  |no=>rw[hg]at e;cases e
 .unfold f9 at h
  split at h
  .rename_i hl;exact hl
  .cases h
end
noncomputable def gG(X:Cx)(N':List Str)(scope:Scope)(cl:List @aj)(L:Addr)(s₂:QR)(H₂:Hp)(fp:List Addr):Cx where
 prog:=X.prog
 w:=X.w
 K:=X.K
 mg:=X.mg
 base:=X.base
 A:=X.A
 N:=N'
 s₀:=s₂
 H₀:=H₂
 env:=compEnvC scope cl L X.env
 outer:=X.stack
 stack:=X.stack
 ex:=fp
 fn:=λ_=>Y1
 calm:=Y2
 pn:=[]
 xe:=λ_ _=>False
abbrev cF(C:Cn)(N':List Str)(scope:Scope)(cl:List @aj)(L:Addr)(s₂:QR)(H₂:Hp)(fp:List Addr):Cn:=⟨gG C.X N' scope cl L s₂ H₂ fp,λ_ _=>False⟩
noncomputable def tTc(C:Cn)(h:YT):TG:=λv σ H Q=>∃ρ p ρ',ρ.length=σ.length/\View C.X.K H σ ρ/\Rep C.X.K H p v/\h p ρ=Z' ρ'/\∀σ',ρ'.length=σ'.length->View C.X.K H σ' ρ'->Q σ' H
def TCt(C:Cn)(tg:Expr)(h:YT):Prop:=PG C.X tg (tTc C h)
noncomputable def Pb(C:Cn)(h:vS):TGs:=λvs σ H Q=>∃ρ ps ρ',ρ.length=σ.length/\View C.X.K H σ ρ/\aV C.X.K H ps vs/\h ps ρ=Z' ρ'/\∀σ',ρ'.length=σ'.length->View C.X.K H σ' ρ'->Q σ' H
def KH(C:Cn)(ts:List Expr)(h:vS):Prop:=PGs C.X ts (Pb C h)
theorem View.af2{K:QO}{H:Hp}{σ:L2.St}{ρ:Yb}{i:Nat}{p:PV}{v:V}(vw:View K H σ ρ)(hl:ρ.length=σ.length)(r:Rep K H p v):View K H @e2 @bN:=by
 refine⟨λj l e=>?_,vw.tb⟩;rcases bp e with⟨rfl,rfl,hl2⟩|⟨hj,e⟩
 .exact⟨v,d6 @i,r⟩
 .rw[aR hj]
  exact vw j l e
section
variable{C:Cn}{e:Expr}{pos:SL}
theorem FH(i:Nat){x:Str}(hN:C.X.N.Nodup)(hi:C.X.N[i]?=Z' x)(hx:Loc C.X.env.scope x)(hf:C.X.fn x=Y2\/C.X.env.scope.names.lookup x=Z' .local:=by first|exact .inl rfl|exact .inr rfl|assumption):
  TCt C @aE (ar i):=by
 intro J' s σ H v u Q I r ⟨ρ,p,ρ',hl,vw,rp,e,k⟩;cases e;exact vd hN hi hx hf J' s σ H v u Q I r (k _ (by simp[hl]) (vw.af2 hl rp))
theorem iI:KH C [] fN:=by
 intro J' s σ H vs us Q I r ⟨ρ,ps,ρ',hl,vw,rp,e,k⟩;cases ps with
|nil=>cases e;cases rp;exact zP J' s σ H _ us Q I r ⟨rfl,k _ hl vw⟩
|cons _ _=>cases e
theorem bW{es:List Expr}{h:YT}{h':vS}(h1:TCt C e h)(h2:KH C es h')(hs:(SJ (e::es) C.X.env).map @s=W8 e C.X.env::(SJ es C.X.env).map @s:=by rfl):KH C (e::es) @mh:=by
 intro J' s σ H vs us Q I r ⟨ρ,ps,ρ',hl,vw,rp,ee,k⟩;cases ps with
|nil=>cases ee
|cons p qs=>
  obtain⟨x,xs,rfl,rp1,rp2⟩:=rp;have ee:(h p ρ).bind (fun ρ1=>h' qs ρ1)=Z' ρ':=ee;obtain⟨ρ1,e1,e2⟩:=Re.mp ee;exact wA h1 h2 hs J' s σ H _ us Q I r ⟨x,xs,rfl,ρ,p,ρ1,hl,vw,rp1,e1,fun σ1 hl1 vw1=>⟨ρ1,qs,ρ',hl1,vw1,rp2,e2,k⟩⟩
theorem lT{es:List Expr}{k n:Nat}{h:vS}(hc:C.X.calm=Y2)(hh:KH C es h)
  (hn:(SJ es C.X.env).length=n:=by rfl) (hst:(SJ es C.X.env).findIdx? @d=Y':=by rfl):TCt C @e3 (fV n h):=by
 intro J' s σ H v u Q I r ⟨ρ,p,ρ',hl,vw,rp,e,k⟩;cases p with
|tup ps=>
  have e:(if ps.length=n then h ps ρ else Y')=Z' ρ':=e
  by_cases hl2:ps.length=n
  .rw[if_pos hl2]at e
   obtain⟨a,xs,rfl,hq,r1⟩:=rp;exact Ep hc hh hn hst J' s σ H _ u Q I r ⟨a,xs,rfl,hq.sq,by rw[<-r1.length];exact hl2,ρ,ps,ρ',hl,vw,r1,e,k⟩
  .rw[if_neg hl2]at e
   cases e
|_=>cases e
end
def BV(n:Nat)(h:YT):Prop:=∀p ρ ρ1,h p ρ=Z' ρ1->ρ1.length=ρ.length/\∀i,n<=i->ρ1[i]?=ρ[i]?
def E5(n:Nat)(h:vS):Prop:=∀p ρ ρ1,h p ρ=Z' ρ1->ρ1.length=ρ.length/\∀i,n<=i->ρ1[i]?=ρ[i]?
theorem mW{n i:Nat}(h:i<n):BV n (ar i):=λp ρ ρ1 e=>by
 cases e;exact⟨by simp,λj hj=>aR @b⟩
theorem rA{n:Nat}:E5 n fN:=λps ρ ρ1 e=>by
 cases ps with
|nil=>cases e;simp_all
|cons _ _=>cases e
theorem mX{n:Nat}{h:YT}{h':vS}(a:BV n h)(b:E5 n h'):E5 n @mh:=λps ρ ρ2 e=>by
 cases ps with
|nil=>cases e
|cons p qs=>
  have e:(h p ρ).bind (fun ρ1=>h' qs ρ1)=Z' ρ2:=e;obtain⟨ρ1,e1,e2⟩:=Re.mp e;obtain⟨l1,g1⟩:=a p ρ ρ1 e1;obtain⟨l2,g2⟩:=b qs ρ1 ρ2 e2
  simp_all
theorem rm{n m:Nat}{h:vS}(a:E5 n h):BV n (fV m h):=λp ρ ρ1 e=>by
 cases p with
|tup ps=>
  have e:(if ps.length=m then h ps ρ else Y')=Z' ρ1:=e;split at e
  .exact a ps ρ ρ1 e
  .cases e
|_=>cases e
def ETs(C:Cn)(ifs:List Expr)(t:Yb->R Bool):Prop:=(ifs=[]/\t=iF)\/∃c,ifs=[c]/\ET C c t
theorem s8{C:Cn}:ETs C [] iF:=.inl @aT
theorem oP{C:Cn}{c:Expr}{t:Yb->R Bool}(h:ET C c t):ETs C [c] t:=.inr ⟨c,rfl,h⟩
noncomputable def iz(cells:List @aj):List @cP->List @aj->List @aj
|[],Xx=>Xx
|(n,k)::r,Xx=>if (k==.free)=Y2 then (match cells.lookup n with
  |some c=>iz cells r ((n,c)::Xx)
  |none=>iz cells r Xx)else iz cells r Xx
theorem gv{scope:Scope}{env:Uz}(h:∀y∈scope.names,y.2=.free->∃c,env.cells.lookup y.1=Z' c):closureFor scope env=pure (iz env.cells scope.names []):=by
 have gen:∀(l:List @cP)(Xx:List @aj),(∀y∈l,y.2=.free->∃c,env.cells.lookup y.1=Z' c)->
   (forIn l Xx λx r=>(match x with|(name,kind)=>if (kind==U7)=Y2 then do let a<- cellOf env name;pure (Td ((name,a)::r))else pure (Td r):Sem (ForInStep (List @aj))))=pure (iz env.cells l Xx):=by
  intro l
  induction l with
  |nil=>intro Xx _;rfl
  |cons y r ih=>
   grind[VD,R6,RZ,cellOf,pure,iz]
 grind[closureFor,forIn,cellOf,pure]
theorem eK{cells:List @aj}{x:Str}{c:Addr}:∀{l:List @cP}{Xx:List @aj},(iz cells l Xx).lookup x=Z' c->cells.lookup x=Z' c\/Xx.lookup x=Z' c
|[],Xx,h=>.inr h
|(n,k)::r,Xx,h=>by
  unfold iz at h;split at h
  .split at h
   .rename_i d hd
    rcases eK h with z|z
    .exact .inl z
    grind
   .exact eK h
  .exact eK h
theorem l5{cells:List @aj}{x:Str}:∀{l:List @cP}{Xx:List @aj},(Xx.lookup x).isSome=Y2->((iz cells l Xx).lookup x).isSome=Y2
|[],Xx,h=>h
|(n,k)::r,Xx,h=>by
  unfold iz
  split
  .split
   .refine l5 ?_
    simp_all
   .exact l5 h
  .exact l5 h
theorem xu{cells:List @aj}{x:Str}{c:Addr}(hc:cells.lookup x=Z' c):∀{l:List @cP}{Xx:List @aj},(x,U7)∈l->(iz cells l Xx).lookup x=Z' c:=by
 have fin:∀{l:List @cP}{Xx:List @aj},(∀d,Xx.lookup x=Z' d->d=c)->((iz cells l Xx).lookup x).isSome=Y2->(iz cells l Xx).lookup x=Z' c:=λ{l Xx} ha h=>by
  obtain⟨d,hd⟩:=Ui.mp h
  grind[eK]
 intro l
 induction l with
|nil=>simp_all
|cons y r ih=>
  grind[rest,iz,lookup,List.lookup_cons,l5]
theorem jC{env:Uz}{x:Str}:∀{names:List @cP},names.lookup x=Z' .free->
  (names.map λ(n,k)=>if (k==U7&&env.scope.kind==.function&&env.kindOf n==Z' .cell)then (n,VM)else (n,k)).lookup x=Z' .cell ∨
  (names.map λ(n,k)=>if (k==U7&&env.scope.kind==.function&&env.kindOf n==Z' .cell)then (n,VM)else (n,k)).lookup x=Z' .free
|[],h=>by simp at h
|(n,k)::r,h=>by
  have ih:=@jC env x r
  grind
theorem uH{prog:R8}{w:RH}{A:RV}{R:Xo->QR->Prop}{s:QR}{elt target iter:Expr}{ifs:List Expr}{scope:Scope}{pos:SL}{it Xx:Value}{env:Uz}(I:Nat->QR->Prop)
  (turn:∀n s,I n s->QZ @r A (pyNext it) (λr s₁=>match r with
   |none=>R @h2 s₁
   | Z' v=>QZ @r A (VZ target it v) (λ_ s₁=>QZ @r A (W8 target env v) (λ_ s₂=>
     QZ @r A (forIn ifs Y2 λc r=>if r=Y2 then do let ok<- isTrue c env (Rj c env);pure (Td ok)else pure (Td r)) (λok s₃=>
      if ok=Y2 then QZ @r A (Rj elt env) (λx s₄=>
       QZ @r A (call (.builtin "list.append") [Xx,x]) (λ_ s₅=>∃m,m<n/\I m s₅) @bw s₄) @bw s₃
      else ∃m,m<n/\I m s₃) @bw s₂) @bw s₁) @bw s₁) @bw s)
  (n:Nat) (h:I n s):
  Uj @r A (.compLoop @nj 0 it Xx env) R s:=by
 refine codeAny_loop rfl I (λn s hI=>?_) n h;show QZ _ A ((compTurn @nj 0 it Xx env).onRaise (λx=>do VG x env;theTreesLotGoes x)) _ _ s;refine wpAny_noted ?_;rw[compTurn_list];refine QQ (Tx (QQ (Rz (turn n s hI) (λr s₁ h₁=>?_) λ_ _ h'=>h'.elim)));cases r with
|none=>exact QW h₁
|some v=>
  refine QQ (Rz h₁ (λ_ s₁ h₁=>?_) λ_ _ h'=>h'.elim);refine QQ (Rz h₁ (λ_ s₂ h₂=>QQ (Rz h₂ (λok s₃ h₃=>?_) λ_ _ h'=>h'.elim)) λ_ _ h'=>h'.elim);cases ok with
  |false=>exact QW ⟨rfl,h₃⟩
  |true=>
   exact QQ (QQ (Rz h₃ (λx s₄ h₄=>QQ (Rz h₄ (λ_ s₅ h₅=>QW (QW ⟨rfl,h₅⟩)) λ_ _ h'=>h'.elim)) λ_ _ h'=>h'.elim))
structure YK(NX:List Str)(scX:Scope)(scope:Scope)(N':List Str)(nt:Nat)(Xw:List Nat):Prop where
 kind:scope.kind=.function
 cell:∀y∈scope.names,y.2≠.cell
 names:∀y∈scope.names,y.2=.local->scope.names.lookup y.1=Z' .local
 free:∀y∈scope.names,y.2=.free->scX.names.lookup y.1=Z' .cell\/scX.names.lookup y.1=Z' .free
 len:N'.length=nt+Xw.length
 ix:(Xw.zip @lq).all (λp=>decide (NX[p.1]?=Z' p.2)&&decide @oe)=Y2
theorem YK.at{NX:List Str}{scX:Scope}{scope:Scope}{N':List Str}{nt:Nat}{Xw:List Nat}(O:YK NX scX scope N' nt Xw){k:Nat}{x:Str}(h:N'[nt+k]?=Z' x):
  ∃i,Xw[k]?=Z' i/\NX[i]?=Z' x/\scope.names.lookup x=Z' .free:=by
 have hk:k<Xw.length:=by
  have:=(RO.mp h).1;have:=O.len
  simp_all
 have e1:Xw[k]?=Z' Xw[k]:=by simp[hk]
 have e2:(N'.drop nt)[k]?=Z' x:=by rw[List.getElem?_drop];exact h
 have e3:(Xw.zip @lq)[k]?=Z' (Xw[k],x):=by
  rw[List.getElem?_zip_eq_some];exact⟨e1,e2⟩
 have:=T4.mp O.ix _ (VS e3);simp only[S5,decide_eq_true_eq]at this;exact⟨_,e1,this.1,this.2⟩
section
variable{C:Cn}{elt tg iter:Expr}{ifs:List Expr}{scope:Scope}{pos:SL}{N':List Str}{nt:Nat}{Xw:List Nat}{h:YT}{t:Yb->R Bool}{fe:Yb->R PV}
theorem yw{J':List @c}{σ:L2.St}{H₂:Hp}{s₂:QR}{J:It}{fp:List Addr}{it:Addr}{tn:Nat->Heap->Prop}{ρ:Yb}(O:YK C.X.N C.X.env.scope scope N' nt Xw)(hc:C.X.calm=Y2)
  (I:Inv C.X J' σ H₂ s₂) (T:Turn C.X.prog C.X.w C.X.K tg J fp it tn) (st:tn 0 s₂.heap) (hf:∀b∈fp,uO C.X J' H₂ b) (vw:View C.X.K H₂ σ ρ)
  {L D:Addr} {h₁:Heap} {tk:Nat} (hD:D=s₂.heap.objs.size) (hL:s₂.heap.objs.size<=L) (hDL:D≠L) (ns:h₁.Ns L @lI) (keep:∀b o,s₂.heap.get? b=Z' o->h₁.get? b=Z' o)
  (Xx:h₁.get? D=Z' {cls:=.type "list",data:=.seq ([]:List Value).toArray}):
  ∃σ',Inv (gG C.X N' scope (iz C.X.env.cells scope.names []) L s₂ H₂ fp) [] σ' (upd H₂ D (.lst [])) {s₂ with heap:=h₁,toks:=tk}/\View C.X.K (upd H₂ D (.lst [])) σ' @a3/\(fI nt Xw ρ).length=σ'.length/\
   ∀b∈fp,b<s₂.heap.objs.size:=by
 have fl:∀b∈fp,b<s₂.heap.objs.size:=λb hb=>by
  obtain⟨o,e,_⟩:=T.obj 0 _ st b hb;exact QY e
 have nD:H₂ D=Y':=by rw[hD];exact I.fresh
 have frC:∀y∈scope.names,y.2=.free->∃c,C.X.env.cells.lookup y.1=Z' c:=λy hy hk=>I.ok.has y.1 @se
 have clS:∀x c,(iz C.X.env.cells scope.names []).lookup x=Z' c->C.X.env.cells.lookup x=Z' c:=λx c e=>by
  rcases eK e with z|z
  .exact z
  .cases z
 have cne:∀x c,(iz C.X.env.cells scope.names []).lookup x=Z' c->c<s₂.heap.objs.size:=λx c e=>by
  obtain⟨v,q⟩:=I.cell x c @hV;exact q.lt
 refine⟨Sh nt Y'++Xw.map (λi=>(σ[i]?).getD Y'),⟨⟨I.ok.mod,O.kind,I.ok.glob,I.ok.blt,hL,λx y c e1 e2=>I.ok.inj x y c (clS x c e1) (clS y c e2),λx hx=>?_,(λx c z=>absurd (show Y1=Y2 from z) RA),λ_=>I.ok.hd hc,I.ok.frames,.inl rfl,
  λb hb=>⟨RY (QX @md hL),λx c e=>(hf b hb).2.2.2.2.1 x c @hV⟩,I.bs,Rg I.ok.bsz I.sz,λb o e hb=>?_,λb hb z=>?_,I.stack,I.ZR⟩,
  rfl,I.bare,Un.laid keep (U8 hD.symm) nD,⟨_,ns,λi x v hN hσ hv=>?_⟩,λx c e=>?_,?_,λx c e=>?_,λp hp=>absurd (show p∈([]:List @c)from hp) @a,?_,?_⟩,?_,?_,fl⟩
 ·-- has
  have hx:(Xj scope C.X.env).names.lookup x=Z' .cell\/(Xj scope C.X.env).names.lookup x=Z' .free:=hx
  have:scope.names.lookup x=Z' .free:=by
   have gen:∀(l:List @cP),(∀y∈l,y.2≠.cell)->((l.map λ(n,k)=>if (k==U7&&C.X.env.scope.kind==.function&&C.X.env.kindOf n==Z' .cell)then (n,VM)else (n,k)).lookup x=Z' .cell ∨
     (l.map λ(n,k)=>if (k == U7 && C.X.env.scope.kind == .function && C.X.env.kindOf n == Z' .cell) then (n,VM) else (n,k)).lookup x=Z' .free)->l.lookup x=Z' .free:=by
    intro l
    induction l with
    |nil=>simp_all
    |cons y r ih=>
     grind
   exact gen scope.names O.cell hx
  obtain⟨c,e⟩:=frC (x,.free) (SF this) rfl;exact⟨c,xu e (SF this)⟩
 ·-- ab7
  obtain⟨e1,e2⟩:=I.bs b o e;obtain⟨g1,g2,g3,g4,_⟩:=hf b hb;rcases g4 with z|z
  .exact I.ok.ab7 b o e z
  .exact absurd (QY (I.ok.bs b o e).1) (VB.mpr z)
 ·-- ae9
  obtain⟨g1,g2,g3,_⟩:=hf b hb;exact(R7.mp @l1).elim g2 g3
 ·-- loc
  by_cases hi:i<nt
  .grind
  .obtain⟨k,rfl⟩:∃k,i=nt+k:=⟨i-nt,by simp_all⟩
   have hN:N'[nt+k]?=Z' x:=hN;obtain⟨j,ej,ex,el⟩:=O.at hN;rw[Ro @a,UB,V1,RC,ej]at hσ;have hσ:Z' ((σ[j]?).getD Y')=Z' @aR:=hσ;have hσ:σ[j]?=Z' @aR:=by grind
   obtain⟨m,hn,hl⟩:=I.loc;have hfr:=O.free (x,.free) (SF el) rfl;obtain⟨u,ru,lk⟩:=hl j x v ex hσ (by rcases hfr with z|z;exact .inr (.inl z);exact .inr (.inr z));refine⟨u,ru,.inr ?_⟩;rcases lk with⟨z,_⟩|⟨_,c,ec,hcell⟩
   .exfalso
    have z:C.X.env.scope.names.lookup x=Z' .local:=z;rcases hfr with q|q<;>(simp_all)
   .refine⟨jC (env:=C.X.env) el,c,xu ec (SF el),?_⟩
    obtain⟨o,ho,hd⟩:=hcell;exact⟨o,keep c o ho,hd⟩
 .obtain⟨v,o,ho,hd⟩:=I.cell x c @hV
  exact⟨v,o,keep c o ho,hd⟩
 ·-- free
  show upd H₂ D _ L=Y';rw[ai (Rv hDL)];exact I.hok.fresh hL
 .show upd H₂ D _ c=Y'
  rw[ai (by rw[hD];exact RY (cne x c e))];exact I.YJ x c @hV
 .exact I.hok.laid keep (U8 hD.symm) ⟨by simp,[],0,.nil,Xx⟩
 .show _=N'.length
  rw[O.len];simp
 .refine⟨λi l e=>?_,(Yc.new (o:=.lst []) nD).tabs vw.tb⟩
  unfold fI at e
  by_cases hi:i<nt
  .rw[Rc @i,S9,if_pos hi]at e
   cases e;exact trivial
  .obtain⟨k,rfl⟩:∃k,i=nt+k:=⟨i-nt,by simp_all⟩
   rw[Ro @a,UB,V1,RC]at e ⊢;cases ej:Xw[k]? with
   |none=>simp_all
   |some j=>
    rw[ej]at e;have e:Z' (roS ρ[j]?)=Z' l:=e;cases e;cases q:ρ[j]? with
    |none=>exact trivial
    |some l'=>
     have:=(vw j l' q).same (Yc.new (o:=.lst []) nD);cases l' with
     |no=>exact trivial
     |val p=>
      obtain⟨v,ev,r⟩:=this;exact⟨v,by simp_all,r⟩
     |own p=>exact trivial
     |tree t=>exact trivial
     |exc y=>exact trivial
 .simp[fI]
theorem yy{ρ:Yb}{p:PV}{ps rest:List PV}(e:cm h t fe ρ (p::ps)=.ok rest):∃ρ1 b,h p ρ=Z' ρ1/\t ρ1=.ok b/\
  ((b=Y2/\∃q r,fe ρ1=.ok q/\cm h t fe ρ ps=.ok r/\rest=q::r)\/(b=Y1/\cm h t fe ρ ps=.ok rest)):=by
 unfold cm at e;cases h1:h p ρ with
|none=>simp_all
|some ρ1=>
  rw[h1]at e;simp only[R.YR,R.Ym]at e;cases h2:t ρ1 with
  |ok b=>
   rw[h2]at e;simp only[R.Ym]at e;refine⟨ρ1,b,rfl,h2,?_⟩;cases b with
   |true=>
    rw[if_pos rfl]at e;cases h3:fe ρ1 with
    |ok q=>
     rw[h3]at e;simp only[R.Ym]at e;cases h4:cm h t fe ρ ps with
     |ok r=>
      simp_all
     |er x=>simp_all
     |no=>simp_all
    |er x=>simp_all
    |no=>simp_all
   |false=>
    simp_all
  |er x=>simp_all
  |no=>simp_all
theorem View.weak{K:QO}{H:Hp}{σ:L2.St}{ρ ρ1:Yb}{n:Nat}(vw:View K H σ ρ1)(low:∀i,n<=i->ρ1[i]?=ρ[i]?)(no:∀i l,i<n->ρ[i]?=Z' l->l=.no):View K H σ ρ:=by
 refine⟨λi l e=>?_,vw.tb⟩
 by_cases hi:i<n
 .rw[no i l hi e];exact trivial
 .exact vw i l @i
theorem Bo{Xw:List Nat}{nt:Nat}{ρ:Yb}{i:Nat}{l:Sl}(hi:i<nt)(e:(fI nt Xw ρ)[i]?=Z' l):l=.no:=by
 unfold fI at e;rw[Rc @aC,S9,if_pos hi]at e;cases e;rfl
theorem Bm{Xw:List Nat}{nt:Nat}{ρ:Yb}{i:Nat}{p:PV}(e:(fI nt Xw ρ)[i]?=Z' @aX):False:=by
 unfold fI at e
 by_cases hi:i<nt
 .rw[Rc @aC,S9,if_pos hi]at e
  cases e
 .rw[Ro @aC,RC]at e
  cases q:Xw[i-(Sh nt Sl.no).length]? with
  |none=>rw[q]at e;cases e
  |some j=>
   rw[q]at e;have e:Z' (roS ρ[j]?)=Z' (Sl.own p):=e;unfold roS at e;split at e<;>cases e
theorem yz{Xw:List Nat}{nt:Nat}{ρ:Yb}{i:Nat}{t:Tr}(e:(fI nt Xw ρ)[i]?=Z' @aW):False:=by
 unfold fI at e
 by_cases hi:i<nt
 .rw[Rc @aC,S9,if_pos hi]at e
  cases e
 .rw[Ro @aC,RC]at e
  cases q:Xw[i-(Sh nt Sl.no).length]? with
  |none=>rw[q]at e;cases e
  |some j=>
   rw[q]at e;have e:Z' (roS ρ[j]?)=Z' (Sl.tree t):=e;unfold roS at e;split at e<;>cases e
theorem View.noOwn{K:QO}{H H':Hp}{σ:L2.St}{ρ:Yb}(vw:View K H σ ρ)(no:∀(i:Nat)(p:PV),ρ[i]?≠Z' (Sl.own p))(k:Kp H H')(tb:sC H')(np:∀(i:Nat)(t:Tr),ρ[i]?≠Z' (Sl.tree t):=by exact λ_ _ e=>yz e):View K H' σ ρ:=by
 refine⟨λi l e=>?_,tb⟩;have:=vw i l e;cases l with
|no=>exact trivial
|val p=>obtain⟨v,ev,r⟩:=this;exact⟨v,ev,r.kp k⟩
|own p=>simp_all
|tree t=>simp_all
|exc y=>exact this.exk k
def ItS(K:QO)(J:It)(H₁:Hp)(ps:List PV):Prop:=
 ∀(i:Nat)(H:Hp),Yc H₁ H->(i=ps.length->J.stop i H)/\∀p,ps[i]?=Z' p->J.go i H/\∀x H',J.yld i H x H'->Yc H H'/\Rep K H' p x
def Pl(K:QO)(Ac:Addr->Hp->List PV->List V->Prop)(H₂:Hp)(fe:Yb->R PV):TE:=fun σ H Q=>∃ρ D xs dn q,View K H σ ρ/\fe ρ=.ok q/\Ac D H dn xs/\H₂ D=Y'/\Yc H₂ H/\H D=Z' @ae/\
 ∀v H',Yc H H'->Ac D (upd H' D @gF) (dn++[q]) @h9->Q v H'
theorem yx{J':List @c}{σ:L2.St}{H₂:Hp}{s₂:QR}{J:It}{fp:List Addr}{it:Addr}{tn:Nat->Heap->Prop}{ρ:Yb}{ps qs:List PV}{RR:Value->Addr->Xo->QR->Prop}{E:Value->QR->Prop}{Ac:Addr->Hp->List PV->List V->Prop}
  (ac0:∀D H,Ac D H [] []) (acs:∀D H H' dn xs,Ac D H dn xs->Yc H H'->Ac D H' dn xs) (acl:∀D H dn xs,Ac D H dn xs->dn.length=xs.length)
  (O:YK C.X.N C.X.env.scope scope N' nt Xw) (hc:C.X.calm=Y2)
  (hg:∀cl L s H fp,TCt @ab tg h) (hlow:BV nt h) (ht:∀cl L s H fp,ETs @ab ifs t) (he:∀cl L s H fp,PE (cF C N' scope cl L s H fp).X elt (Pl C.X.K Ac H₂ fe))
  (I:Inv C.X J' σ H₂ s₂) (T:Turn C.X.prog C.X.w C.X.K tg J fp it tn) (st:tn 0 s₂.heap) (hf:∀b∈fp,uO C.X J' H₂ b) (vw:View C.X.K H₂ σ ρ) (ip:ItS C.X.K J H₂ ps)
  (hq:cm h t fe @a3 ps=.ok qs) (hz:qs.length<=sizeLine)
  (hRR:∀D L σ' H' s' xs,Inv (gG C.X N' scope (iz C.X.env.cells scope.names []) L s₂ H₂ fp) [] σ' H' s'->Yc H₂ H'->H₂ D=Y'->H' D=Z' @ae->Ac D H' qs xs->s₂.heap.objs.size<=L->RR @aY L @h2 s'):
  QZ @an C.X.A (newList []) (λXx s₃=>QZ @an C.X.A (X4 scope C.X.env.globals (iz C.X.env.cells scope.names []) [] C.X.env.qual Y' .none @ln) (λcenv s₄=>
   Uj @an C.X.A (.compStart @bJ 0 @ap Xx {cenv with scope:=Xj scope C.X.env}) @j8 s₄) E s₃) E s₂:=by
 refine Sn (wpAny_newFunctionEnv O.cell (by intro y hy;simp at hy) (λh₁ ah' ag7=>?_) O.kind);dsimp only at ah' ag7 ⊢;generalize hG:s₂.heap.push {cls:=.type "list",dict:=Y',data:=.seq ([]:List Value).toArray}=G at ah' ag7 ⊢;have hC:G.objs.size=s₂.heap.objs.size+1:=by rw[<-hG,SA]
 have hDL:s₂.heap.objs.size≠G.objs.size:=by rw[hC];exact RY (V0 _)
 have keep:∀b o,s₂.heap.get? b=Z' o->h₁.get? b=Z' o:=λb o e=>
  ag7.extBut b o (by rw[hC];exact RY (Vy @bI)) (QT _ (hG▸QT _ e))
 have Xx:h₁.get? s₂.heap.objs.size=Z' {cls:=.type "list",data:=.seq ([]:List Value).toArray}:=ag7.extBut _ _ hDL (QT _ (hG▸RD _ rfl));have nD:H₂ s₂.heap.objs.size=Y':=I.fresh;have hGe:s₂.heap.objs.size<=G.objs.size:=by rw[hC];exact UM _
 obtain⟨σ0,I0,vw0,hl0,fl⟩:=yw O hc I T st hf vw (L:=G.objs.size) (tk:=s₂.toks+([]:List @bW).length) rfl hGe hDL (by simpa using ah') keep Xx
 have fpk:∀{H':Hp}{Zu:List @c},(∀b∈fp,H' b=Y')->(∀p∈Zu,p.1∉fp)->∀b∈fp,uO (gG C.X N' scope (iz C.X.env.cells scope.names []) G.objs.size s₂ H₂ fp) Zu H' b:=λ{H' Zu} hn hp b hb=>by
  obtain⟨g1,g2,g3,g4,g5,g6⟩:=hf b hb;refine⟨hn b hb,RY (QX @md hGe),λz=>?_,.inl hb,λx c e=>?_,λp Ys z=>?_⟩
  .exact(R7.mp @l1).elim g2 g3
  .rcases eK e with z|z
   .exact g5 x c z
   .cases z
  .subst z
   exact hp p ((show p∈([]:List @c)++Zu from Ys)) hb
 have loop:Uj @an C.X.A (.compLoop @bJ 0 @ap @gz (compEnvC scope (iz C.X.env.cells scope.names []) G.objs.size C.X.env))
   (RR @gz G.objs.size) {s₂ with heap:=h₁,toks:=s₂.toks+([]:List (Str×Value)).length}:=by
  refine uH (λn s=>∃i σ' H' xs dn rest,n=ps.length-i/\i<=ps.length/\Inv (gG C.X N' scope (iz C.X.env.cells scope.names []) G.objs.size s₂ H₂ fp) [] σ' H' s/\tn i s.heap/\(∀b∈fp,H' b=Y')/\Yc H₂ H'/\
   H' s₂.heap.objs.size=Z' @ae/\Ac s₂.heap.objs.size H' dn xs/\View C.X.K H' σ' @a3/\(fI nt Xw ρ).length=σ'.length/\cm h t fe @a3 @lC=.ok rest/\dn++rest=qs) ?_ ps.length
   ⟨0,σ0,_,[],[],qs,rfl,UL _,I0,T.keep _ _ _ st λb _ o e=>keep b o e,λb hb=>?_,Yc.new nD,aq,ac0 _ _,vw0,hl0,by simpa using hq,rfl⟩
  .rintro n s ⟨i,σ',H',xs,dn,rest,rfl,hi,I',st',fr',sm',hD',rp',vw',hl',e',ea⟩
   obtain⟨stp,aa6⟩:=ip i H' sm'
   by_cases hlt:i<ps.length
   .have ei:ps[i]?=Z' ps[i]:=by simp[hlt]
    obtain⟨go,yl⟩:=aa6 _ ei;rw[sd ei]at e';obtain⟨ρ1,b,e1,e2,e3⟩:=yy e';obtain⟨l1,low1⟩:=hlow _ _ _ e1;refine Yl (T.item (gG C.X N' scope (iz C.X.env.cells scope.names []) G.objs.size s₂ H₂ fp) rfl rfl rfl rfl i [] s σ' H' _ I' @s9 st' go) λr s1 ⟨u,hr,h4⟩=>?_;subst hr;refine Yl h4 λ_ s2 ⟨x,H3,I3,r3,y3,st3,fr3⟩=>?_;obtain⟨sm3,rp3⟩:=yl x H3 y3;have I3':=I3.pinned (fpk fr3 @a) (T.obj _ _ st3);refine Yl (hg _ _ _ _ _ _ s2 σ' H3 x u (fun σ4 H4=>H4=H3/\ρ1.length=σ4.length/\View C.X.K H4 σ4 ρ1) I3' r3 ⟨_,_,ρ1,hl',vw'.same sm3,rp3,e1,fun σ4 hl4 vw4=>⟨rfl,hl4,vw4⟩⟩) λ_ s4 ⟨σ4,H4,I4,q4⟩=>?_;obtain⟨rfl,hl4,vw4⟩:=q4
    have tests:QZ @an C.X.A (forIn ifs Y2 λc r=>if r=Y2 then do let ok<- isTrue c (compEnvC scope (iz C.X.env.cells scope.names []) G.objs.size C.X.env) (Rj c (compEnvC scope (iz C.X.env.cells scope.names []) G.objs.size C.X.env));pure (Td ok)else pure (Td r))
      (TP (gG C.X N' scope (iz C.X.env.cells scope.names []) G.objs.size s₂ H₂ fp) ([]++q8 fp s2.heap) σ4 (λb' H5=>b'=b/\Yc H4 H5)) @bw s4:=by
     rcases ht (iz C.X.env.cells scope.names []) G.objs.size s₂ H₂ fp with⟨ez,et⟩|⟨c,ez,et⟩
     .subst ez
      subst et;cases e2;exact wpAny_tests_nil ⟨H4,I4,rfl,Yc.refl _⟩
     .subst ez
      exact wpAny_tests_one (et _ s4 σ4 H4 _ I4 ⟨ρ1,vw4,by rw[e2];exact λH' s'=>⟨rfl,s'⟩⟩)
    refine Yl tests λb' s5 ⟨H5,I5,eb,sm5⟩=>?_;subst eb
    have fin:∀{H7:Hp}{s7:QR},Inv (gG C.X N' scope (iz C.X.env.cells scope.names []) G.objs.size s₂ H₂ fp) ([]++q8 fp s2.heap) σ4 H7 s7->Inv (gG C.X N' scope (iz C.X.env.cells scope.names []) G.objs.size s₂ H₂ fp) [] σ4 H7 s7/\tn (i+1) s7.heap/\∀b∈fp,H7 b=Y':=λ{H7 s7} I7=>by
     refine⟨I7.YY,T.keep _ _ _ st3 λb hb o e=>(I7.pin (b,o) @gI).1,λb hb=>?_⟩;obtain⟨o,e,_⟩:=T.obj _ _ st3 b hb;exact(I7.pin (b,o) @gI).2.1
    have ah8:Yc H₂ H5:=(sm'.trans sm3).trans sm5;have smd:Yc H' H5:=sm3.trans sm5;have vw5:View C.X.K H5 σ4 @a3:=View.weak (vw4.same sm5) low1 λi l hi e=>Bo hi e;have hl5:(fI nt Xw ρ).length=σ4.length:=by rw[<-l1];exact hl4
    rcases e3 with⟨rfl,q,r,e4,e5,rfl⟩|⟨rfl,e4⟩
    .rw[if_pos rfl]
     refine Yl (he _ _ _ _ _ _ s5 σ4 H5 (λv H6=>Yc H5 H6/\Ac s₂.heap.objs.size @od (dn++[q]) @h9) I5 ⟨ρ1,_,xs,dn,q,vw4.same sm5,e4,acs _ _ _ _ _ rp' smd,nD,ah8,smd _ _ hD',λv H' s' r=>⟨s',r⟩⟩) λu6 s6 ⟨v,H6,I6,r6,sm6,rp6⟩=>?_;have hD6:H6 s₂.heap.objs.size=Z' @ae:=sm6 _ _ (smd _ _ hD')
     have hx:xs.length<sizeLine:=by
      have a1:=acl _ _ _ _ rp';have a2:qs.length=dn.length+(r.length+1):=by rw[<-ea];simp
      grind
     refine Yl (kC (X:=gG C.X N' scope (iz C.X.env.cells scope.names []) G.objs.size s₂ H₂ fp) _ s6 σ4 H6 @gz [v] @gz [u6] (λ_ H7=>H7=upd H6 s₂.heap.objs.size @gF) I6 rfl (.cons r6 .nil) ⟨_,xs,v,rfl,rfl,hD6,hx,rfl⟩) λ_ s7 ⟨_,H7,I7,_,e7⟩=>?_;subst e7;obtain⟨J7,st7,fr7⟩:=fin I7;have kp7:Kp H6 @od:=Kp.upd hD6 rfl;refine⟨ps.length-(i+1),by grind,i+1,σ4,_,xs++[v],dn++[q],r,rfl,hlt,J7,st7,fr7,(ah8.trans sm6).but nD (λu h=>by rw[hD6]at h;cases h;rfl) @g9,aq,?_,?_,hl5,e5,by rw[<-ea];simp⟩
     .exact rp6
     .exact(vw5.same sm6).noOwn (λi p e=>Bm e) kp7 ((vw5.same sm6).tb.but (λu h=>by rw[hD6]at h;cases h;exact@aT) @g9)
    .rw[if_neg RA]
     obtain⟨J7,st7,fr7⟩:=fin I5;exact⟨ps.length-(i+1),by grind,i+1,σ4,H5,xs,dn,rest,rfl,hlt,J7,st7,fr7,ah8,smd _ _ hD',acs _ _ _ _ _ rp' smd,vw5,hl5,e4,ea⟩
   .have e:i=ps.length:=by grind
    subst e;rw[W6]at e';cases e';rw[Rh]at ea;subst ea;refine Yl (T.done (gG C.X N' scope (iz C.X.env.cells scope.names []) G.objs.size s₂ H₂ fp) rfl rfl rfl rfl ps.length [] s σ' H' _ I' @s9 st' (stp rfl)) λr s1 ⟨hr,I1⟩=>?_;subst hr;exact hRR _ _ σ' H' s1 xs I1 sm' nD hD' rp' hGe
  .show upd H₂ _ _ b=Y'
   rw[ai (RY @md)];exact(hf b hb).1
 exact codeAny_compStart_list loop (T.self _ 0 _ _ _ (T.keep _ _ _ st λb _ o e=>keep b o e) loop)
theorem qz{J':List @c}{σ:L2.St}{H₂:Hp}{s₂:QR}{J:It}{fp:List Addr}{it:Addr}{tn:Nat->Heap->Prop}{ρ:Yb}{ps qs:List PV}{RR:Value->Addr->Xo->QR->Prop}{E:Value->QR->Prop}
  (O:YK C.X.N C.X.env.scope scope N' nt Xw) (hc:C.X.calm=Y2)
  (hg:∀cl L s H fp,TCt @ab tg h) (hlow:BV nt h) (ht:∀cl L s H fp,ETs @ab ifs t) (he:∀cl L s H fp,EV @ab elt fe)
  (I:Inv C.X J' σ H₂ s₂) (T:Turn C.X.prog C.X.w C.X.K tg J fp it tn) (st:tn 0 s₂.heap) (hf:∀b∈fp,uO C.X J' H₂ b) (vw:View C.X.K H₂ σ ρ) (ip:ItS C.X.K J H₂ ps)
  (hq:cm h t fe @a3 ps=.ok qs) (hz:qs.length<=sizeLine)
  (hRR:∀D L σ' H' s' xs,Inv (gG C.X N' scope (iz C.X.env.cells scope.names []) L s₂ H₂ fp) [] σ' H' s'->Yc H₂ H'->H₂ D=Y'->H' D=Z' @ae->aV C.X.K H' qs xs->s₂.heap.objs.size<=L->RR @aY L @h2 s'):
  QZ @an C.X.A (newList []) (λXx s₃=>QZ @an C.X.A (X4 scope C.X.env.globals (iz C.X.env.cells scope.names []) [] C.X.env.qual Y' .none @ln) (λcenv s₄=>
   Uj @an C.X.A (.compStart @bJ 0 @ap Xx {cenv with scope:=Xj scope C.X.env}) @j8 s₄) E s₃) E s₂:=
 yx (Ac:=λ_ H dn xs=>aV C.X.K H dn xs) (λ_ _=>aV.nil) (λ_ _ _ _ _ r s=>r.same s) (λ_ _ _ _ r=>r.length) O hc hg hlow ht (λcl L s H fp J' s σ H Q I ⟨ρ,D,xs,dn,q,vw,e,ac,_,_,hD,k⟩=>he cl L _ _ _ J' s σ H Q I ⟨ρ,vw,by
  rw[e];exact λv H' s' r=>k v H' s' (aV.append (aV.kp @pt _ (ac.same s')) (aV.cons (Rep.kp @pt _ r) aV.nil))⟩) I T st hf vw ip hq hz hRR
theorem uG{J':List @c}{σ:L2.St}{H₂:Hp}{s₂:QR}{J:It}{fp:List Addr}{it:Addr}{tn:Nat->Heap->Prop}{ρ:Yb}{ps qs:List PV}{RR:Value->Addr->Xo->QR->Prop}{E:Value->QR->Prop}
  (O:YK C.X.N C.X.env.scope scope N' nt Xw) (hc:C.X.calm=Y2)
  (hg:∀cl L s H fp,TCt @ab tg h) (hlow:BV nt h) (ht:∀cl L s H fp,ETs @ab ifs t) (he:∀cl L s H fp,EV @ab elt fe)
  (I:Inv C.X J' σ H₂ s₂) (T:Turn C.X.prog C.X.w C.X.K tg J fp it tn) (st:tn 0 s₂.heap) (hf:∀b∈fp,uO C.X J' H₂ b) (vw:View C.X.K H₂ σ ρ) (ip:ItP C.X.K J H₂ ps)
  (hq:cm h t fe @a3 ps=.ok qs) (hz:qs.length<=sizeLine)
  (hRR:∀D L σ' H' s' xs,Inv (gG C.X N' scope (iz C.X.env.cells scope.names []) L s₂ H₂ fp) [] σ' H' s'->Yc H₂ H'->H₂ D=Y'->H' D=Z' @ae->aV C.X.K H' qs xs->s₂.heap.objs.size<=L->RR @aY L @h2 s'):
  QZ @an C.X.A (newList []) (λXx s₃=>QZ @an C.X.A (X4 scope C.X.env.globals (iz C.X.env.cells scope.names []) [] C.X.env.qual Y' .none @ln) (λcenv s₄=>
   Uj @an C.X.A (.compStart @bJ 0 @ap Xx {cenv with scope:=Xj scope C.X.env}) @j8 s₄) E s₃) E s₂:=
 qz O hc hg hlow ht he I T st hf vw (λi H k=>ip i H (Yc.kp k)) hq hz hRR
end
section
variable{C:Cn}{elt tg iter:Expr}{ifs:List Expr}{scope:Scope}{pos:SL}{N':List Str}{nt:Nat}{Xw:List Nat}{fi:Yb->R @e}{h:YT}{t:Yb->R Bool}{fe:Yb->R PV}
theorem oV{J':List @c}{σ σ':L2.St}{H₂ H':Hp}{s₂ s':QR}{fp:List Addr}{cl:List @aj}{L:Addr}(I:Inv C.X J' σ H₂ s₂)(hf:∀b∈fp,uO C.X J' H₂ b)
  (I':Inv (gG C.X N' scope cl L s₂ H₂ fp) [] σ' H' s'):Inv C.X J' σ H' s':=
 I.ag2 (ch:=fp) I'.os I'.base I'.hok I'.bare λb hb=>by
  obtain⟨g1,g2,g3,g4,g5,g6⟩:=hf b hb
  grind
theorem vp{α:Type}{H:Hp}{r:R α}{k:α->Prop}(q:RQ C H (Ex r) k):∃a,r=.ok a/\k a:=by
 cases r with
|ok a=>exact⟨a,rfl,q⟩
|er x=>exact QS q
|no=>exact QS q
theorem oU{J':List @c}{σ:L2.St}{H:Hp}{s:QR}{L:Addr}{h':Heap}(I:Inv C.X J' σ H s)(hn:H L=Y')(hL:L≠C.X.env.locals)(h1:C.X.s₀.heap.objs.size<=L)(h2:∀x c,C.X.env.cells.lookup x=Z' c->c≠L)
  (h3:∀p∈C.X.pn++J',p.1≠L) (sb:T9 L s.heap h'):Inv C.X J' σ H {s with heap:=h'}:=
 I.turned (t':=s.toks) @gj hn hL (.inr h1) h2 h3
theorem dG(O:YK C.X.N C.X.env.scope scope N' nt Xw)(hi:EI C tg iter fi)
  (hg:∀cl L s H fp,TCt @ab tg h) (he:∀cl L s H fp,EV @ab elt fe)
  (hs:∀x,Sx iter C.X.env x=pure x:=by intro _;rfl) (hc:C.X.calm=Y2:=by rfl) (hlow:BV nt h:=by repeat' (first|exact rA|exact mW (by decide)|apply rm|apply mX)) (ht:∀cl L s H fp,ETs @ab ifs t:=by exact λ_ _ _ _ _=>s8):EN C @bJ @jS:=by
 sleep 1;rw[eval_ListComp];refine V8 (use:=Y') rfl hs @iZ O.kind O.names ?_
 refine Yl (hi J' s σ H (λJ H'=>∃ps qs,Yc H H'/\ItP C.X.K J H' ps/\cm h t fe @a3 ps=.ok qs/\qs.length<=sizeLine/\∀a H'',Yc H H''->H a=Y'->dj C.X.K H'' a @cp->Q @m H'') I
  ⟨ρ,vw,q.bind.imp λps _ k J H' s' ip=>?_⟩) λv s1 h1=>Yl h1 λitv s2 h2=>?_
 .obtain⟨qs,e1,k⟩:=vp k.bind
  obtain⟨z,k⟩:=iY k;exact@jy
 .obtain⟨it,fp,tn,J,H2,e,I2,T,st2,f2,ps,qs,sm,ip,e1,hz,k⟩:=h2
  subst e;refine uG O hc hg hlow ht he I2 T st2 f2 @lf ip e1 hz λD L σ' H' s' xs I' sm' nD hD rp hL=>?_;obtain⟨m,hn,_⟩:=id I'.loc;have IB:=oV I2 f2 I';refine⟨m,hn,λh' sb=>⟨.ref D,H',oU IB I'.free ?_ @k6 ?_ ?_ sb,rfl,k D H' @kN @lg @kJ⟩⟩
  .exact Tf @k7
  .intro x c ec z
   obtain⟨v,qc⟩:=I2.cell x c ec;have z:c=L:=z;exact Ru _ (QX (z▸qc.lt) hL)
  .intro p hp z
   have z:p.1=L:=z;exact Ru _ (QX (z▸QY (I2.pin p hp).1) hL)
theorem CH(i:Nat){x:Str}{px:SL}{spos:SL}(hN:C.X.N.Nodup)(O:YK C.X.N C.X.env.scope scope N' nt Xw)(hi:EI C tg iter fi)
  (hg:∀cl L s H fp,TCt @ab tg h) (he:∀cl L s H fp,EV @ab elt fe)
  (hsw:SR @bJ (Z' @kw) spos.line C.X.env=pure Y2:=by rfl)
  (hs:∀x,Sx iter C.X.env x=pure x:=by intro _;rfl)
  (hf:C.X.fn x=Y2\/C.X.env.scope.names.lookup x=Z' .local:=by first|exact .inl rfl|exact .inr rfl|assumption) (hc:C.X.calm=Y2:=by rfl) (hlow:BV nt h:=by repeat' (first|exact rA|exact mW (by decide)|apply rm|apply mX)) (ht:∀cl L s H fp,ETs @ab ifs t:=by exact λ_ _ _ _ _=>s8) (hi':C.X.N[i]?=Z' x:=by rfl) (hx:Loc C.X.env.scope x:=by first|exact .inl rfl|exact .inr rfl):
  PS C.X @ok (λD σ H=>∃ρ,View C.X.K H σ ρ/\RQ C H (dY fi h t fe nt Xw ρ) λp=>∀a H',Yc H H'->H a=Y'->dj C.X.K H' a p->D.nx @hq H'):=by
 intro J' s σ H D I ⟨ρ,vw,q⟩;rw[exec_Assign_Name_used _ _ _ _ hsw];refine QQ (Tx (QQ ?_));show QZ _ C.X.A (do let _<- comprehension @bJ scope C.X.env _ (newList []) Y1 (Rj iter C.X.env) (Z' @rU)) _ _ s
 refine QQ (Rz (V8 (use:=Z' @rU) (Q:=λ_ s'=>SP C.X J' D .next s') rfl hs @iZ O.kind O.names ?_)
  (λ_ s' hq=>QW (QW hq)) λ_ _ e=>e)
 refine Yl (hi J' s σ H (λJ H'=>∃ps qs,Yc H H'/\ItP C.X.K J H' ps/\cm h t fe @a3 ps=.ok qs/\qs.length<=sizeLine/\∀a H'',Yc H H''->H a=Y'->dj C.X.K H'' a @cp->D.nx @hq H'') I
  ⟨ρ,vw,q.bind.imp λps _ k J H' s' ip=>?_⟩) λv s1 h1=>Yl h1 λitv s2 h2=>?_
 .obtain⟨qs,e1,k⟩:=vp k.bind
  obtain⟨z,k⟩:=iY k;exact@jy
 .obtain⟨it,fp,tn,J,H2,e,I2,T,st2,f2,ps,qs,sm,ip,e1,hz,k⟩:=h2
  subst e;refine uG O hc hg hlow ht he I2 T st2 f2 @lf ip e1 hz λDa L σ' H' s' xs I' sm' nD hD rp hL=>?_;obtain⟨m,⟨o,es,ep,ho,hrest⟩,_⟩:=id I'.loc;have IB:=oV I2 f2 I';have nL:L≠C.X.env.locals:=Tf @k7
  have nC:∀x c,C.X.env.cells.lookup x=Z' c->c≠L:=λx c ec z=>by
   obtain⟨v,qc⟩:=I2.cell x c ec;have z:c=L:=z;exact Ru _ (QX (z▸qc.lt) hL)
  have nP:∀p∈C.X.pn++J',p.1≠L:=λp hp z=>by
   have z:p.1=L:=z;exact Ru _ (QX (z▸QY (I2.pin p hp).1) hL)
  have IP:Inv C.X (J'++[(L,o)]) σ H' s':=IB.Z9 λp hp=>by
   rcases Ra.mp hp with z|z
   .exact IB.pin p @iz
   .have:p=(L,o):=by simpa using z
    subst this;exact⟨ho,I'.free,nL,I2.nofs hL,λv z=>by rw[hrest.1]at z;cases z⟩
  refine Yl (vd hN hi' hx hf (J'++[(L,o)]) s' σ H' @mu @mu (fun σ4 H4=>σ4=σ.set i (Z' @mu)/\H4=H') IP rfl @aT) λ_ s4 ⟨σ4,H4,I4,e4,e5⟩=>?_;have hp:=I4.pin (L,o) @a;have IU:Inv C.X J' σ4 H4 s4:=I4.YY;refine⟨m,⟨o,es,ep,hp.1,hrest⟩,λh' sb=>⟨σ4,H4,oU IU hp.2.1 nL @k6 nC nP sb,?_⟩⟩;subst e4 e5;exact k Da _ @kN @lg @kJ
theorem uX(own:Bool)(i:Nat){x:Str}{px:SL}{spos:SL}(hN:C.X.N.Nodup)(O:YK C.X.N C.X.env.scope scope N' nt Xw)(hi:EI C tg iter fi)
  (hg:∀cl L s H fp,TCt @ab tg h) (he:∀cl L s H fp,EV @ab elt fe)
  (hsw:SR @bJ (Z' @kw) spos.line C.X.env=pure Y2:=by rfl)
  (hs:∀x,Sx iter C.X.env x=pure x:=by intro _;rfl)
  (hf:C.X.fn x=Y2\/C.X.env.scope.names.lookup x=Z' .local:=by first|exact .inl rfl|exact .inr rfl|assumption) (hc:C.X.calm=Y2:=by rfl) (hlow:BV nt h:=by repeat' (first|exact rA|exact mW (by decide)|apply rm|apply mX)) (ht:∀cl L s H fp,ETs @ab ifs t:=by exact λ_ _ _ _ _=>s8) (hi':C.X.N[i]?=Z' x:=by rfl) (hx:Loc C.X.env.scope x:=by first|exact .inl rfl|exact .inr rfl):
  SV C @ok ((if own=Y2 then vo else bN) i @jS):=by
 have pc:=CH i (px:=px) (spos:=spos) (pos:=pos) hN O hi hg he hsw hs hf hc hlow ht hi' hx;sleep 12;cases own with
|true=>exact pc J' s σ H D I ⟨ρ,S.vw,(RS.bind (g:=λp=>.ok (.next @e8)) q S.same).imp λp _ k a H' sm na w=>k _ _ (S.setN sm na w)⟩
|false=>
  refine Yl (pc J' s σ H ⟨fun σ1 H1=>∃a p,σ1=σ.set i @ag/\Yc H H1/\H a=Y'/\dj C.X.K H1 a p/\∀H2,Yr C.X.K B H2 σ1 @bN->D.nx σ1 H2,λ_ _=>False,λ_ _=>False,λ_ _=>False⟩ I ⟨ρ,S.vw,(RS.bind (g:=λp=>.ok (.next @bN)) q S.same).imp λp _ k a H' sm na w=>⟨a,p,rfl,sm,na,w,λH2 h=>k _ _ h⟩⟩) λfl s1 h1=>?_;cases fl with
  |next=>
   obtain⟨σ1,H1,I1,a,p,e1,sm,na,w,k⟩:=h1;obtain⟨H3,I3,rp3,Z1⟩:=L2.Inv.YL I1 w;subst e1;exact⟨_,H3,I3,k H3 ((S.grow @qX).af2 rp3)⟩
  |brk=>obtain⟨_,_,_,h⟩:=h1;simp_all
  |cont=>obtain⟨_,_,_,h⟩:=h1;simp_all
  |ret u=>obtain⟨_,_,_,_,_,h⟩:=h1;simp_all
end
open PySem.SeqAt PySem.Calls PyProof.V
section
variable{X:Cx}{J':List @c}{σ:L2.St}{H:Hp}{s:QR}
theorem kH{K:QO}{H:Hp}{k:Key}:∀{ks:List Key}{ps:List PV}{kvs:List @t}{p:PV},kvs.map @d=ks->aV K H ps @ai->bT ks ps k=Z' p->∃v,pj kvs k=Z' v/\Rep K H p v
|_,_,[],_,h1,h2,e=>by
  subst h1;simp only[Vq,bT]at e;cases e
|_,[],kv::kvs,_,h1,h2,e=>by
  cases h2
|_,q::ps,kv::kvs,p,h1,h2,e=>by
  subst h1;obtain⟨x,r,ex,hx,ht⟩:=h2;simp only[RG,Uq]at ex;obtain⟨rfl,rfl⟩:=ex;simp only[RG,bT]at e
  by_cases hk:kv.1=k
  .rw[if_pos hk]at e
   cases e;exact⟨kv.2,i7 hk,hx⟩
  .rw[if_neg hk]at e
   rw[eN hk];exact kH rfl ht e
end
end PU
namespace PU
open PySem PySem.Spec PyProof.Rows L2 PySem.SeqAt
variable[TW]
theorem d5{K:QO}{H:Hp}{p:PV}{v:V}(h:lJ p=Y2)(r:di K H p v):v=Z8 p:=by
 cases p with
|Yj=>exact r
|bl b=>exact r
|int i=>exact r
|str x=>exact r
|_=>cases h
theorem p6{K:QO}{H:Hp}:∀{qs:List PV}{xs:List V},qs.all lJ=Y2->aV K H qs xs->xs=qs.map Z8/\xs.all mK=Y2
|[],_,_,r=>by cases r;exact@aT
|q::qs,_,h,⟨x,t,e,h1,h2⟩=>by
  subst e;simp only[Tq,S5]at h;obtain⟨e1,e2⟩:=p6 h.2 h2;have hx:=d5 h.1 h1.o;refine⟨by rw[RG,hx,e1],?_⟩;rw[Tq,e2,Bool.and_true,hx];cases q<;>first|rfl|cases h.1
theorem uT:∀{xs:List V}{us:List Value},Vals xs us->xs.all mK=Y2->∀j (h:j<us.length),RelV @st us[j]/\mK @st=Y2
|_,_,.nil,_,_,h=>absurd h (WQ _)
|_,_,.cons r t,f,j,h=>by
  simp only[Tq,S5]at f;cases j with
  |zero=>exact⟨r,f.1⟩
  |succ j=>exact uT t f.2 j (Nat.lt_of_succ_lt_succ h)
section
variable{X:Cx}
theorem Ec{J':List @c}{σ:L2.St}{H:Hp}{s:QR}{ps qs:List PV}{v u:V}{v' u':Value}(hu:X.A.units+64<cLine)(I:Inv X J' σ H s)(f1:ps.all lJ=Y2)(f2:qs.all lJ=Y2)
  (h1:di X.K H @aq v) (h2:di X.K H (.tup qs) u) (e1:RelV v v') (e2:RelV u u'):RcAt X.A s v' u' (tEq ps qs)/\RcNeAt X.A s v' u' (!tEq ps qs):=by
 have hu0:X.A.units<cLine:=by grind
 obtain⟨a,xs,rfl,g1,r1⟩:=di.Yq h1;obtain⟨a2,ys,rfl,g2,r2⟩:=di.Yq h2;cases e1;cases e2;obtain⟨Xv,rv,pl,_⟩:=I.tuple g1;obtain⟨its2,rv2,pl2,_⟩:=I.tuple g2;obtain⟨x1,x2⟩:=p6 f1 r1;obtain⟨y1,y2⟩:=p6 f2 r2;have l1:=r1.length.trans rv.length;have l2:=r2.length.trans rv2.length;subst x1 y1
 have each:∀j (j1:j<Xv.toArray.size) (j2:j<its2.toArray.size),EqAt X.A.in1 s Xv.toArray[j] its2.toArray[j] (eqV @px @pw):=λj j1 j2=>by
  have p1:=uT rv x2 j (by simpa using j1);have p2:=uT rv2 y2 j (by simpa using j2);simpa using F1 p1.1 p2.1 p1.2 p2.2
 unfold tEq;rw[show ps.length=Xv.toArray.size by simpa using l1,show qs.length=its2.toArray.size by simpa using l2];exact⟨RcAt.tuples pl pl2 hu0 each,RcNeAt.tuples pl pl2 hu0 each⟩
theorem fE(hu:X.A.units+64<cLine)(hw:X.w=TW.w:=by rfl):YH X (Ri .Eq) (rP X.K Yp):=by
 sleep 9;unfold Yp at e;split at e
 .split at e
  .rename_i hd
   cases e;exact(Ec hu I hd.1 hd.2 hp hq rx ry).1 _ _ _ _ @gk
  .cases e
 .split at e
  .rename_i hc
   obtain⟨h1,h2,h3⟩:=hc;cases e;rw[d5 h1 hp]at rx;rw[d5 h2 hq]at ry;exact Mv J' s σ H _ _ v u Q I rx ry @pz
  .cases e
theorem yc(hu:X.A.units+64<cLine):YH X (Ri .NotEq) (rP X.K Zh):=by
 sleep 9;unfold Zh at e;split at e
 .split at e
  .rename_i hd
   cases e;exact(Ec hu I hd.1 hd.2 hp hq rx ry).2 _ _ _ _ @gk
  .cases e
 .split at e
  .rename_i hc
   obtain⟨h1,h2,h3⟩:=hc;cases e;rw[d5 h1 hp]at rx;rw[d5 h2 hq]at ry;exact Mr J' s σ H _ _ v u Q I rx ry @pz
  .cases e
theorem Es:YH X (Ri .Lt) (rP X.K ZJ):=by
 sleep 9;unfold ZJ at e;split at e
 .rename_i i j
  cases e;cases (show x=.int i from hp);cases (show y=.int j from hq);exact Ms J' s σ H _ _ v u Q I rx ry @dF
 .rename_i i j
  cases e;cases (show x=.str i from hp);cases (show y=.str j from hq);exact A4 J' s σ H _ _ v u Q I rx ry @dF
 .cases e
theorem Lg:YH X (Ri .Gt) (rP X.K gGt):=wu Mu λp q z e=>by
 unfold gGt at e;split at e
 .rename_i i j
  cases e;exact⟨i,j,rfl,rfl,_,λ_ _=>rfl,λH Q q=>⟨i,j,rfl,rfl,q⟩⟩
 .cases e
theorem CT:YH X (Ri .LtE) (rP X.K gLe):=by
 sleep 9;unfold gLe at e;split at e
 .rename_i i j
  cases e;cases (show x=.int i from hp);cases (show y=.int j from hq);exact Mt J' s σ H _ _ v u Q I rx ry @dF
 .rename_i i j
  cases e;cases (show x=.str i from hp);cases (show y=.str j from hq);sleep 3;sleep 7;exact PySem.P.le_str @gk
 .cases e
theorem zy{K:QO}{H:Hp}{p:PV}{v:V}(r:di K H p v):decide (v=.Yj)=mI p:=by
 cases p with
|Yj=>cases (show v=.Yj from r);rfl
|bl b=>cases (show v=.bl b from r);rfl
|int b=>cases (show v=.int b from r);rfl
|str b=>cases (show v=.str b from r);rfl
|tup ps=>obtain⟨a,xs,rfl,_⟩:=di.Yq r;rfl
|lst ps=>obtain⟨a,xs,rfl,_⟩:=di.lst_inv r;rfl
|dct ks ps=>obtain⟨a,kvs,rfl,_⟩:=r;rfl
|ZC ks ps=>obtain⟨a,kvs,rfl,_⟩:=r;rfl
|fn L cs=>obtain⟨f,_,_,_,_,_,rfl,_⟩:=(show Rep K H (.fn L cs) v from r);rfl
theorem Gk:YH X (Ri .Is) (rP X.K BQ):=by
 sleep 9;unfold BQ at e;split at e
 .cases e
  cases (show y=.Yj from hq);refine Jz J' s σ H _ _ v u Q I rx ry ⟨rfl,?_⟩;rw[zy hp];exact k _ H @p rfl
 .cases e
theorem JB:YH X (Ri .IsNot) (rP X.K yq):=by
 sleep 9;unfold yq at e;split at e
 .cases e
  cases (show y=.Yj from hq);refine Gh J' s σ H _ _ v u Q I rx ry ⟨rfl,?_⟩;rw[zy hp];exact k _ H @p rfl
 .cases e
end
theorem fX{K:QO}{H:Hp}{p:PV}{v:V}{k:Key}(e:iG p=Z' k)(r:di K H p v):v=kV k:=by
 cases p with
|int i=>cases e;exact r
|str i=>cases e;exact r
|_=>cases e
theorem wt{K:QO}{H:Hp}{ps:List PV}{xs:List V}{i:Int}{p:PV}(r:aV K H ps xs)(e:Yu ps i=Z' p):∃v,Yu xs i=Z' v/\Rep K H p v:=by
 unfold Yu at e ⊢;rw[<-r.length];obtain⟨j,ej,e2⟩:=Re.mp e;obtain⟨v,ev,rp⟩:=r.get e2
 simp_all
section
variable{X:Cx}
theorem Yk(hu:X.A.units+64<cLine)(hw:X.w=TW.w:=by rfl):IxR X (rP X.K Yh):=by
 intro value slice J' s σ H x y v u Q I rx ry ⟨p,q,z,hp,hq,e,k⟩ hs;have h16:=Rt;unfold Yh at e;split at e
 .rename_i ps i
  obtain⟨a,xs,rfl,g,r⟩:=di.lst_inv hp;cases (show y=.int i from hq);obtain⟨w,ew,rp⟩:=wt r e;exact Ax value slice J' s σ H _ _ v u Q I rx ry ⟨a,xs,i,w,rfl,rfl,g.l,ew,k w H @p rp⟩ hs
 .rename_i ps i
  obtain⟨a,xs,rfl,g,r⟩:=di.Yq hp;cases (show y=.int i from hq);obtain⟨w,ew,rp⟩:=wt r e;exact K3 value slice J' s σ H _ _ v u Q I rx ry ⟨a,xs,i,w,rfl,rfl,g,ew,k w H @p rp⟩ hs
 .rename_i t i
  split at e
  .rename_i hl
   obtain⟨c,ec,ez⟩:=RJ.mp e;subst ez;cases (show x=.str t from hp);cases (show y=.int i from hq);exact K4 value slice J' s σ H _ _ v u Q I rx ry ⟨t,i,c,rfl,rfl,by trivial,ec,k _ H @p rfl⟩ hs
  .cases e
 .rename_i ks ps
  obtain⟨kk,ek,e⟩:=Re.mp e;obtain⟨a,kvs,rfl,g,e1,r⟩:=hp;cases rx;have hy:=fX ek hq;subst hy;obtain⟨w,ew,rp⟩:=kH e1 r e;obtain⟨zz,hd,vs,rel,dd⟩:=DkR.at hw I g;obtain⟨w',hw,rw'⟩:=pf.some_of (v:=w) (o:=UF vs kk) (by rw[<-ew];exact rel.val kk);exact tail_any dd.typeIs WC.lookup (wpAny_getItem_of (oq ry) dd.mapOf hw ⟨w,H,I.tok _,rw',k w H @p rp⟩) hs
 .cases e
theorem qN{p:PV}(h:lJ p=Y2):mK (Z8 p)=Y2:=by
 cases p<;>rfl
theorem wG(hu:X.A.units+64<cLine)(hw:X.w=TW.w:=by rfl):YH X (Ri .In) (rP X.K YQ):=by
 sleep 9;unfold YQ at e;split at e
 .rename_i i j
  cases e;cases (show x=.str i from hp);cases (show y=.str j from hq);exact A5 J' s σ H _ _ v u Q I rx ry @dF
 .rename_i qs _
  split at e
  .rename_i hc
   cases e;obtain⟨a,xs,rfl,g,r⟩:=di.lst_inv hq;obtain⟨e1,e2⟩:=p6 hc.2 r;refine u0 J' s σ H _ _ v u Q I rx ry ⟨a,xs,rfl,.inl g.l,by rw[d5 hc.1 hp];exact qN hc.1,e2,?_⟩;rw[d5 hc.1 hp,e1];exact k _ H @p rfl
  .cases e
 .rename_i qs _
  split at e
  .rename_i hc
   cases e;obtain⟨a,xs,rfl,g,r⟩:=di.Yq hq;obtain⟨e1,e2⟩:=p6 hc.2 r;refine u0 J' s σ H _ _ v u Q I rx ry ⟨a,xs,rfl,.inr g,by rw[d5 hc.1 hp];exact qN hc.1,e2,?_⟩;rw[d5 hc.1 hp,e1];exact k _ H @p rfl
  .cases e
 .rename_i ks ps _
  obtain⟨kk,ek,ez⟩:=RJ.mp e;subst ez;obtain⟨a,kvs,rfl,g,e1,r⟩:=hq;cases ry;have hx:=fX ek hp;subst hx;obtain⟨zz,hd,vs,rel,dd⟩:=DkR.at hw I g;refine wpAny_in_of (oq rx) hd dd.mapOf ?_;rw[<-(rel.val kk).Zg,<-jl];refine⟨.bl _,H,I.tok _,rfl,k _ H @p ?_⟩;subst e1;rw[V5];rfl
 .cases e
theorem iT(hu:X.A.units+64<cLine)(hw:X.w=TW.w:=by rfl):YH X @lL (rP X.K cO):=by
 sleep 9;have e:=e;obtain⟨z0,e1,ez⟩:=Re.mp e;clear e;have e:=e1;clear e1;unfold YQ at e;split at e
 .rename_i i j _
  cases e;cases ez;cases (show x=.str i from hp);cases (show y=.str j from hq);exact tZ J' s σ H _ _ v u Q I rx ry @dF
 .rename_i qs _
  split at e
  .rename_i hc
   cases e;cases ez;obtain⟨a,xs,rfl,g,r⟩:=di.lst_inv hq;obtain⟨e1,e2⟩:=p6 hc.2 r;refine mf J' s σ H _ _ v u Q I rx ry ⟨a,xs,rfl,.inl g.l,by rw[d5 hc.1 hp];exact qN hc.1,e2,?_⟩;rw[d5 hc.1 hp,e1];exact k _ H @p rfl
  .cases e
 .rename_i qs _
  split at e
  .rename_i hc
   cases e;cases ez;obtain⟨a,xs,rfl,g,r⟩:=di.Yq hq;obtain⟨e1,e2⟩:=p6 hc.2 r;refine mf J' s σ H _ _ v u Q I rx ry ⟨a,xs,rfl,.inr g,by rw[d5 hc.1 hp];exact qN hc.1,e2,?_⟩;rw[d5 hc.1 hp,e1];exact k _ H @p rfl
  .cases e
 .rename_i ks ps _
  obtain⟨kk,ek,ez'⟩:=RJ.mp e;subst ez';cases ez;obtain⟨a,kvs,rfl,g,e1,r⟩:=hq;cases ry;have hx:=fX ek hp;subst hx;obtain⟨zz,hd,vs,rel,dd⟩:=DkR.at hw I g;refine wpAny_notIn_of (oq rx) hd dd.mapOf ?_;rw[<-(rel.val kk).Zg,<-jl];refine⟨.bl _,H,I.tok _,rfl,k _ H @p ?_⟩;subst e1;rw[V5];rfl
 .cases e
theorem FF(hw:X.w=TW.w):OU X (λv H Q=>∃p b,di X.K H p v/\pk p=Z' b/\Q b H):=by
 intro J' s σ H x v Q I rx ⟨p,b,rp,e,q⟩;have h16:=Rt;cases p with
|Yj=>
  cases (show x=.Yj from rp);cases e;exact pM J' s σ H _ v Q I rx @kZ
|bl i=>
  cases (show x=.bl i from rp);cases e;exact pM J' s σ H _ v Q I rx @kZ
|int i=>
  cases (show x=.int i from rp);cases e;exact pM J' s σ H _ v Q I rx @kZ
|str i=>
  cases (show x=.str i from rp);simp only[pk]at e;split at e
  .cases e
   exact pM J' s σ H _ v Q I rx ⟨_,⟨by trivial,rfl⟩,q⟩
  .cases e
|tup ps=>
  obtain⟨a,xs,rfl,g,r⟩:=di.Yq rp;cases e;have:ps.isEmpty=xs.isEmpty:=by have:=r.length;cases ps<;>cases xs<;>simp_all
  exact pM J' s σ H _ v Q I rx ⟨_,.inr (.inl ⟨xs,g,by rw[this]⟩),q⟩
|lst ps=>
  obtain⟨a,xs,rfl,g,r⟩:=di.lst_inv rp;cases e;have:ps.isEmpty=xs.isEmpty:=by have:=r.length;cases ps<;>cases xs<;>simp_all
  exact pM J' s σ H _ v Q I rx ⟨_,.inl ⟨xs,g.l,by rw[this]⟩,q⟩
|dct ks ps=>
  obtain⟨a,kvs,rfl,g,e1,r⟩:=rp;cases rx;cases e;obtain⟨hz,hS,vs,rel,m⟩:=DkR.at hw I g;have Xy:kvs.length=vs.length:=SH rel;refine wpAny_truthy_dict hS m @b ⟨H,I.tok _,?_⟩;rw[qo rel];subst e1;have:(kvs.map @d).isEmpty=kvs.isEmpty:=by cases kvs<;>rfl
  rw[this]at q;exact q
|ZC ks ps=>cases e
|fn L cs=>cases e
end
section
variable{C:Cn}{a b c e:Expr}{f fa fb fc:Yb->R PV}{t u:Yb->R Bool}{rest:List Expr}{pos:SL}
theorem bH(ha:EO C a f)(he:∀whole,isTrue a C.X.env whole=(do let v<- whole;US a.pos;V2 [v] @h4):=by intro _;rfl)(hw:C.X.w=TW.w:=by rfl):ET C a (aW f):=by
 sleep 1;refine isTrue_plain (Yl (ha J' s σ H (λv H'=>∃p b,di C.X.K H' p v/\pk p=Z' b/\Q b H') I ⟨ρ,vw,q.bind.imp λp _ k v H' s' r=>?_⟩) λv s1 ⟨x,H1,I1,r1,q1⟩=>FF hw J' s1 σ H1 x v Q I1 r1 q1) (he _);obtain⟨b,eb,k⟩:=k.Yn;exact⟨p,b,r,eb,k H' s'⟩
def wY(g:PV->PV->Option PV):Prop:=∀p q z,g p q=Z' z->∃b,z=.bl b
theorem az{op:WM}{g:PV->PV->Option PV}(ho:YH C.X @b5 @cH)(hg:wY g)(ha:EO C a fa)(hb:EO C b fb)(hm:TZ op b=Y1:=by first|exact wK _|with_unfolding_all rfl):ET C @dH (aW @hM):=by
 sleep 1;refine zG ho ha hb hm J' s σ H Q I ?_;refine t2 vw (g:=g) (q.bind.imp λp e k v H' s' r=>?_) λ_ _ _ _ h=>h
 have:∃b,p=.bl b:=by
  unfold a9 at e;cases h1:fa ρ with
  |ok x=>
   rw[h1]at e;cases h2:fb ρ with
   |ok y=>
    rw[h2]at e;cases h3:g x y with
    |some z=>
     simp only[R.Ym,h3,R.YR]at e;cases e;exact hg x y _ h3
    |none=>simp_all
   |er x=>simp_all
   |no=>simp_all
  |er x=>simp_all
  |no=>simp_all
 obtain⟨b,rfl⟩:=this;cases (show v=.bl b from r);exact⟨b,rfl,k H' s'⟩
theorem EW.et(h:EW C e t):ET C e t:=PW.pt h
theorem oN(ha:ET C a t):EW C @p0 t:=G1 ha
theorem mn(ha:ET C a t):EW C @qh t:=Jg ha
theorem uC(ha:ET C a t)(hb:EW C (.BoolOp .And (b::rest) pos) u):EW C (.BoolOp .And (a::b::rest) pos) (F8 t u):=by
 intro wh J' s σ H Q I ⟨ρ,vw,q⟩;refine Jh ha hb wh J' s σ H Q I ⟨ρ,vw,q.bind.imp λc _ k H' s'=>?_⟩;cases c with
|true=>exact Dm @mR
|false=>exact Dn (k H' s')
theorem rY(ha:ET C a t)(hb:EW C (.BoolOp .Or (b::rest) pos) u):EW C (.BoolOp .Or (a::b::rest) pos) (orB t u):=by
 intro wh J' s σ H Q I ⟨ρ,vw,q⟩;refine Mf ha hb wh J' s σ H Q I ⟨ρ,vw,q.bind.imp λc _ k H' s'=>?_⟩;cases c with
|true=>exact Dm (k H' s')
|false=>exact Dn @mR
theorem jh(ha:ET C a t):ET C @qf (u5 t):=by
 sleep 1;exact Em ha J' s σ H Q I ⟨ρ,vw,q.bind.imp λc _ k H' s'=>k H' s'⟩
theorem kZ{op}(h:EV C a f):EV C @qL f:=Jr h
theorem mq(ha:EV C a fa)(hb:EV C (.BoolOp .And (b::rest) pos) fb):EV C (.BoolOp .And (a::b::rest) pos) (yD fa fb):=by
 sleep 1;refine Ju ha hb J' s σ H Q I ⟨ρ,vw,q.bind.imp λp _ k v H' s' r=>?_⟩;cases p with
|bl c=>
  cases (show v=.bl c from r);refine⟨c,rfl,?_⟩;cases c with
  |true=>exact Dm @f8
  |false=>exact Dn @sA
|_=>exact QS k
theorem Kn(ha:EV C a fa)(hb:EV C (.BoolOp .Or (b::rest) pos) fb):EV C (.BoolOp .Or (a::b::rest) pos) (orV fa fb):=by
 sleep 1;refine Mp ha hb J' s σ H Q I ⟨ρ,vw,q.bind.imp λp _ k v H' s' r=>?_⟩;cases p with
|bl c=>
  cases (show v=.bl c from r);refine⟨c,rfl,?_⟩;cases c with
  |true=>exact Dm @sA
  |false=>exact Dn @f8
|_=>exact QS k
theorem vH(hc:ET C c t)(ha:EV C a fa)(hb:EV C b fb):EV C @rt (ifV t fa fb):=by
 sleep 1;refine CP hc ha hb J' s σ H Q I ⟨ρ,vw,q.bind.imp λc _ k H' s'=>?_⟩;cases c with
|true=>exact Dm @f8
|false=>exact Dn @f8
end
theorem aM:wY Yp:=λp q z e=>by
 unfold Yp at e;split at e<;>grind
theorem ic:wY Zh:=λp q z e=>by
 unfold Zh at e;split at e<;>grind
theorem oy:wY ZJ:=λp q z e=>by unfold ZJ at e;split at e<;>cases e<;>exact@O
theorem lK:wY gLe:=λp q z e=>by unfold gLe at e;split at e<;>cases e<;>exact@O
theorem vA:wY gGt:=λp q z e=>by unfold gGt at e;split at e<;>cases e<;>simp_all
theorem rJ:wY BQ:=λp q z e=>by grind[BQ]
theorem AF:wY yq:=λp q z e=>by grind[yq]
theorem gJ:wY YQ:=λp q z e=>by
 unfold YQ at e;split at e
 .grind
 .grind
 .grind
 .obtain⟨b,_,ez⟩:=RJ.mp e;grind
 .cases e
theorem eE:wY cO:=λp q z e=>by
 obtain⟨z0,e,ez⟩:=Re.mp e
 grind
def r1(K:QO)(g:PV->Option PV):List V->Hp->VK->Prop:=λvs H Q=>∃v p z,vs=[v]/\di K H p v/\g p=Z' z/\∀w H',Yc H H'->Rep K H' z w->Q w H'
def rn1(K:QO)(g:PV->Option PV):List V->Hp->VK->Prop:=λvs H Q=>∃v p z,vs=[v]/\di K H p v/\g p=Z' z/\∀a H',Yc H H'->H a=Y'->dj K H' a z->Q @m H'
section
variable{C:Cn}{e:Expr}{f:Yb->R PV}{g:PV->Option PV}{x:Str}{p pos:SL}{id T:String}
theorem t1{σ:L2.St}{H:Hp}{Q:VK}{ρ:Yb}(vw:View C.X.K H σ ρ)(q:RQ C H (YG f g ρ) λp=>∀v H',Yc H H'->Rep C.X.K H' p v->Q v H'):tCB @lh @ma σ H Q:=by
 refine⟨ρ,vw,q.bind.imp λp _ k v H1 s1 r1=>?_⟩;obtain⟨z,ez,k⟩:=k.Yn;exact⟨v,p,z,rfl,r1,ez,λw H' s' r'=>k w H' @hF r'⟩
theorem tn1{σ:L2.St}{H:Hp}{Q:VK}{ρ:Yb}(vw:View C.X.K H σ ρ)(q:RQ C H (YG f g ρ) λp=>∀a H',Yc H H'->H a=Y'->dj C.X.K H' a p->Q @m H'):tCB (rn1 C.X.K g) @ma σ H Q:=by
 refine⟨ρ,vw,q.bind.imp λp _ k v H1 s1 r1=>?_⟩;obtain⟨z,ez,k⟩:=k.Yn;exact⟨v,p,z,rfl,r1,ez,λa H' s' n' r'=>k a H' @hF (s1.free n') r'⟩
theorem gM (hc:gw C.X @bV @lh) (hg:Gl C.X x) (hm:C.X.mg x=Y') (hv:Sj x=Z' @bV) (ha:EO C e f) (hn:x≠"__name__":=by decide) (hdb:(x==("__debug__":Str))=Y1:=by decide)
  (hs:QU [e] C.X.env=[(Y1,Rj e C.X.env)]:=by exact bF rfl):EV C (.Call @bl [e] [] pos) (YG f g):=by
 sleep 1;exact rg hc hg hm hv @lT hn hdb hs @D J' s σ H Q I (t1 vw q)
theorem pI (hc:gw C.X @aG @lh) (hg:Gl C.X x) (hm:C.X.mg x=Y') (hv:Sj x=Z' @aG) (ha:EO C e f) (hn:x≠"__name__":=by decide) (hdb:(x==("__debug__":Str))=Y1:=by decide)
  (hs:QU [e] C.X.env=[(Y1,Rj e C.X.env)]:=by exact bF rfl):EV C (.Call @bl [e] [] pos) (YG f g):=by
 sleep 1;exact tY hc hg hm hv @lT hn hdb hs @D J' s σ H Q I (t1 vw q)
theorem Kr (hc:gw C.X @aG (rn1 C.X.K g)) (hg:Gl C.X x) (hm:C.X.mg x=Y') (hv:Sj x=Z' @aG) (ha:EO C e f) (hn:x≠"__name__":=by decide) (hdb:(x==("__debug__":Str))=Y1:=by decide)
  (hs:QU [e] C.X.env=[(Y1,Rj e C.X.env)]:=by exact bF rfl):EN C (.Call @bl [e] [] pos) (YG f g):=by
 sleep 1;exact tY hc hg hm hv @lT hn hdb hs @D J' s σ H Q I (tn1 vw q)
end
section
variable{X:Cx}
theorem vM (hw:X.w=TW.w:=by rfl):gw X @sj (r1 X.K jT):=by
 sleep 11;have h16:=Rt;subst e1;cases p with
|lst ps=>
  obtain⟨a,xs,rfl,g,rr⟩:=di.lst_inv rp;cases ez;exact si J' s σ H _ us Q I r ⟨_,_,rfl,.inl ⟨xs,g.l,rfl⟩,by rw[<-rr.length];exact k _ H @p rfl⟩
|tup ps=>
  obtain⟨a,xs,rfl,g,rr⟩:=di.Yq rp;cases ez;exact si J' s σ H _ us Q I r ⟨_,_,rfl,.inr ⟨xs,g,rfl⟩,by rw[<-rr.length];exact k _ H @p rfl⟩
|str x=>
  simp only[jT]at ez;split at ez
  .cases ez
   cases (show v=.str x from rp);exact si J' s σ H _ us Q I r ⟨_,_,rfl,⟨by trivial,rfl⟩,k _ H @p rfl⟩
  .cases ez
|dct ks ps=>
  obtain⟨a,kvs,rfl,g,e1,rr⟩:=rp;cases ez;obtain⟨u,rfl,ru⟩:=vals1 r;cases ru;obtain⟨hz,hS,vs,rel,m⟩:=DkR.at hw I g;have Xy:kvs.length=vs.length:=SH rel;subst e1;rw[RB,Xy]at k;exact call_len_dict hS m @b ⟨.int vs.length,H,I.tok _,@O,k _ H @p rfl⟩
|_=>cases ez
theorem cInt:gw X @k8 (r1 X.K Lp):=by
 sleep 11;subst e1;cases p with
|int i=>cases ez;cases (show v=.int i from rp);exact uJ J' s σ H _ us Q I r (.inl @oR)
|bl i=>cases ez;cases (show v=.bl i from rp);exact uJ J' s σ H _ us Q I r (.inr @oR)
|_=>cases ez
theorem Kz:gw X @kG (r1 X.K qt):=by
 sleep 11;subst e1;cases p with
|lst ps=>
  obtain⟨a,xs,rfl,g,rr⟩:=di.lst_inv rp;cases ez;exact l8 J' s σ H _ us Q I r ⟨a,xs,rfl,.inl ⟨g.l,λl hl=>k _ _ @fn ⟨l,xs,rfl,.inl aq,rr.same @fn⟩⟩⟩
|tup ps=>
  obtain⟨a,xs,rfl,g,rr⟩:=di.Yq rp;cases ez;exact l8 J' s σ H _ us Q I r ⟨a,xs,rfl,.inr ⟨g,k _ H @p rp⟩⟩
|_=>cases ez
theorem Qk:gw X @si (r1 X.K Lo):=by
 sleep 11;subst e1;cases p with
|str x=>
  simp only[Lo]at ez;split at ez
  .rename_i hl
   cases ez;cases (show v=.str x from rp);exact DW J' s σ H _ us Q I r ⟨x,rfl,hl,k _ H @p rfl⟩
  .cases ez
|_=>cases ez
end
section
variable{C:Cn}{e tg:Expr}{f:Yb->R PV}{pos:SL}
theorem GJ{K:QO}{H:Hp}{a:Addr}{xs:List V}{ps:List PV}(g:SqF K H a xs)(r:aV K H ps xs):ItP K @mq H ps:=λi H' k=>by
 have g':=(k.sqF g).l.l;have r':=aV.kp k ps r;have hl:=r'.length;refine⟨λh=>⟨xs,g',by simp[*]⟩,λp e=>?_⟩;obtain⟨x,ex,rp⟩:=r'.get e
 exact⟨@kn,λy H2 ⟨eh,hy⟩=>by
  subst eh;have:=hy xs g';rw[ex]at this;cases this;exact@ka⟩
theorem K7{K:QO}{H:Hp}{a:Addr}{xs:List V}{ps:List PV}(g:Zo K H a xs)(r:aV K H ps xs):ItP K (Itt K a) H ps:=λi H' k=>by
 have g':=k.sqT g;have r':=aV.kp k ps r;have hl:=r'.length;refine⟨λh=>⟨xs,g',by simp[*]⟩,λp e=>?_⟩;obtain⟨x,ex,rp⟩:=r'.get e
 exact⟨@kn,λy H2 ⟨eh,hy⟩=>by
  subst eh;have:=hy xs g';rw[ex]at this;cases this;exact@ka⟩
theorem Dp{K:QO}{H:Hp}{lo:Int}{n:Nat}:ItP K (Itr lo n) H (gd lo n):=λi H' k=>by
 refine⟨λh=>?_,λp e=>?_⟩
 .have:n<=i:=by simp[gd]at h;simp[*]
  exact this
 .unfold gd at e
  rw[RC]at e
  have hi:i<n:=by
   by_cases hi:i<n
   .exact hi
   .rw[UD @aC]at e
    cases e
  rw[Th hi]at e;cases e;exact⟨hi,λy H2 ⟨eh,hy⟩=>by subst eh hy;exact@qS⟩
theorem hZ {p:SL} (hg:Gl C.X "range") (hm:C.X.mg "range"=Y') (he:EV C e f) (hs:QU [e] C.X.env=[(Y1,Rj e C.X.env)]:=by exact bF rfl):EI C tg (.Call @r0 [e] [] pos) (zx f):=by
 intro J' s σ H Rk I ⟨ρ,vw,q⟩;refine zN hg hm @dA hs J' s σ H Rk I ⟨ρ,vw,q.bind.imp λp _ k v H1 s1 r1=>?_⟩;cases p with
|int j=>
  cases (show v=.int j from r1)
  by_cases hj:j.natAbs<1000000000
  .have k:RQ C H (if j.natAbs<1000000000 then R.ok (gd 0 j.toNat)else R.no) λps=>∀J H',Yc H H'->ItP C.X.K J H' ps->Rk J H':=k
   rw[if_pos hj]at k;exact⟨j,rfl,by omega,by omega,k _ H1 s1 Dp⟩
  .have k:RQ C H (if j.natAbs<1000000000 then R.ok (gd 0 j.toNat)else R.no) λps=>∀J H',Yc H H'->ItP C.X.K J H' ps->Rk J H':=k
   rw[if_neg hj]at k;exact QS k
|_=>exact QS k
end
section
variable{C:Cn}{e:Expr}{f:Yb->R PV}{pos Y4 Y0:SL}
theorem fY(i:Nat){x:Str}{np:SL}(he:EV C e f)(hs:QU [e] C.X.env=[(Y1,Rj e C.X.env)]:=by exact bF rfl)
  (hb:S8 @ao "append" C.X.env @hc=Rj @ao C.X.env:=by rfl) (Y6:(Y4.endLine==Y0.line)=Y2:=by rfl)
  (hd:(x==("__debug__":Str))=Y1:=by decide) (hcd:(x==("__classdict__":Str))=Y1:=by decide) (hN:C.X.N[i]?=Z' x:=by rfl) (hv:Z3 C.X.env.scope x:=by first|exact .inl rfl|exact .inr (.inl rfl)|exact .inr (.inr rfl)):SV C (.Expr (.Call (.Attribute @ao "append" Y4) [e] [] Y0) pos) (yC i f):=by
 sleep 12;unfold yC at q;split at q
 .rename_i ps e1
  obtain⟨a,e2,xs,hx,rr⟩:=S.vw i _ e1;refine nS (vn Tn Tw Ud kC @ax @dA hb (by rw[hs];rfl) Y6 hs @D) @D J' s σ H D I ?_;refine⟨_,e2,.inl @gP,ρ,S.vw,(RS.bind q S.same).imp λp _ q' v H1 s1 r1=>?_⟩
  by_cases hl:ps.length<16777216
  .rw[if_pos hl]at q'
   refine⟨a,xs,v,rfl,rfl,s1 _ _ hx,by rw[Rt,<-rr.length];exact hl,?_⟩;refine q' σ _ ((S.grow s1).turn e1 e2 @g9 ?_);have kp:Kp H1 @su:=Kp.upd (s1 _ _ hx) rfl;exact⟨a,rfl,xs++[v],aq,aV.append @jw @jd⟩
  .rw[if_neg hl]at q'
   exact QS q'
 .exact QS q
end
section
variable{C:Cn}
theorem aL(i:Nat){x:Str}{pos:SL}(hN:C.X.N[i]?=Z' x:=by rfl)(hv:Z3 C.X.env.scope x:=by first|exact XG rfl|exact Wt (XG rfl)|exact Wt (Wt rfl))
  (hd:(x==("__debug__":Str))=Y1:=by decide) (hcd:(x==("__classdict__":Str))=Y1:=by decide):EV C @aE (Y9 i):=Km i hN hv hd hcd
theorem yJ(i:Nat){x:Str}{pos:SL}(hN:C.X.N[i]?=Z' x:=by rfl)(hv:Z3 C.X.env.scope x:=by first|exact XG rfl|exact Wt (XG rfl)|exact Wt (Wt rfl))
  (hd:(x==("__debug__":Str))=Y1:=by decide) (hcd:(x==("__classdict__":Str))=Y1:=by decide):EO C @aE (kL i):=Kq i hN hv hd hcd
variable{a b c:Expr}{fa fb fc:Yb->R PV}{pos:SL}
theorem rZ{op op':WM}{g g':PV->PV->Option PV}(ho:YH C.X @b5 @cH)(ho':YH C.X @iy (rP C.X.K g'))(hg:wY g)(ha:EO C a fa)(hb:EO C b fb)(hc:EO C c fc)
  (hm:Xb @fQ [b,c]=Y1:=by with_unfolding_all rfl):EV C @gq @rg:=by
 sleep 1;refine CQ ho ho' ha hb hc hm J' s σ H Q I ?_;refine⟨ρ,vw,q.bind.imp λp _ k v H1 s1 r1=>⟨ρ,vw.same s1,(k.bind.same s1).imp λp2 _ k2 u H2 s2 r2=>?_⟩⟩;obtain⟨z,ez,k3⟩:=k2.bind.Yn;obtain⟨bb,rfl⟩:=hg _ _ _ ez;refine⟨p,p2,.bl bb,r1.same s2,r2,ez,λw H3 s3 r3=>?_⟩;cases (show w=.bl bb from r3);refine⟨bb,rfl,?_⟩;have s13:=(s1.trans s2).trans s3;cases bb with
|true=>
  refine Dm ⟨ρ,vw.same s13,?_⟩;refine(RQ.same (RQ.bind k3) s13).imp λp3 _ k4 w4 H4 s4 r4=>?_;obtain⟨z2,ez2,k5⟩:=k4.Yn;exact⟨p2,p3,z2,(r2.same s3).same s4,r4,ez2,λw5 H5 s5 r5=>k5 w5 H5 @pj r5⟩
|false=>exact Dn (k3 _ H3 s13 rfl)
end
section
variable{X:Cx}{J':List @c}{σ:L2.St}{H:Hp}{s:QR}
theorem _root_.L2.Inv.Zm{wr:List Addr}{h':Heap}{t':Nat}(I:L2.Inv X J' σ H s)(k:∀b o,b∉wr->s.heap.get? b=Z' o->h'.get? b=Z' o)(hw:∀b∈wr,uO X J' H b):L2.Inv X J' σ H {s with heap:=h',toks:=t'}:=by
 have nw:∀b u,H b=Z' u->b∉wr:=λb u e z=>by rw[(hw b z).1]at e;cases e
 refine I.step (g':=s.gens) (d':=s.drawn) (ch:=wr) (λb hb=>?_) @oh @ns @rl
  (λb o hc e=>@rc) @s8 @r8 (λb ps e=>⟨#[],by rw[e];simp⟩) (λm hm=>?_) (λb u e=>?_) I.bare
 .obtain⟨g1,g2,g3,g4,g5,g6⟩:=hw b hb
  exact@rx
 .obtain⟨o,es,ep,ho,r⟩:=hm
  exact@nk
 .refine(I.hok b u e).stay (λc v hc q=>k c v ?_ q) @d4 λ_ _ q=>q
  rcases hc with z|z
  .rw[z];exact nw b u e
  .exact nw c _ z
theorem _root_.L2.Inv.af1{wr:List Addr}{h':Heap}{t':Nat}{T:Addr}{vals:List Value}{xs:List V}(I:L2.Inv X J' σ H s)(k:∀b o,b∉wr->s.heap.get? b=Z' o->h'.get? b=Z' o)(hw:∀b∈wr,uO X J' H b)(hws:∀b∈wr,b<s.heap.objs.size)
  (hT:s.heap.objs.size<=T) (ht:h'.IsTuple T vals.toArray) (rv:Vals xs vals) (hz:xs.length<=sizeLine) (hnr:¬ ∀v∈vals,∃b,v=RU b):L2.Inv X J' σ @hv {s with heap:=h',toks:=t'}:=by
 have nw:∀b u,H b=Z' u->b∉wr:=λb u e z=>by rw[(hw b z).1]at e;cases e
 have nT:H T=Y':=I.hok.fresh hT;have neT:∀b u,H b=Z' u->b≠T:=λb u e=>cG e nT
 have lo:∀b o,s.heap.get? b=Z' o->b≠T:=λb o e z=>by
  subst z;exact absurd @bI (VB.mpr hT)
 have hlt:X.env.locals≠T:=λz=>absurd I.lt (by rw[z];exact VB.mpr hT)
 refine I.step (g':=s.gens) (d':=s.drawn) (ch:=wr) (λb hb=>?_) @oh @ns (λb o _ e n=>by rw[ai (lo b o e)];exact n)
  (λb o hc e=>@rc) (λb xs e=>by rw[ai @lD];exact e) (λb o u e=>by rw[ai @lD];exact e) (λb ps e=>⟨#[],by rw[ai @lD,e];simp⟩) (λm hm=>?_) (λb u e=>?_) I.bare
 .obtain⟨g1,g2,g3,g4,g5,g6⟩:=hw b hb
  exact@rx
 .obtain⟨o,es,ep,ho,r⟩:=hm
  exact@nk
 .by_cases hb:b=T
  .subst hb
   rw[aq]at e;cases e;obtain⟨o,e1,e2,e3⟩:=ht;exact⟨hz,vals,rv,o,e1,e2,e3,λh=>absurd h hnr⟩
  .rw[ai hb]at e
   refine(I.hok b u e).stay (λc v hc q=>k c v ?_ q) (λc q=>by rw[ai (neT _ _ q)];exact q) λc ys q=>by rw[ai (neT _ _ q)];exact q
   rcases hc with z|z
   .rw[z];exact nw b u e
   .exact nw c _ z
end
theorem vX{P:R8}{w:RH}{K:QO}{elts:List Expr}{kk:Nat}{tp:SL}{it:Addr}{fp wr:List Addr}{n:Nat}{own:Nat->Heap->Prop}{J:It}
  (W:∀(X:Cx)(J':List @c)(σ:L2.St)(H:Hp)(s:QR)(i:Nat),X.prog=P->X.w=w->X.K=K->X.calm=Y2->L2.Inv X J' σ H s->own i s.heap->J.go i H\/J.stop i H->
   ∃(more:List Addr)(Pt:Nat->Array Value->Prop)(St:Nat->Heap->Prop)(Mid:Nat->Addr->Heap->Prop),WalksT P w X.A it more wr n Pt St Mid/\St i s.heap/\(∀j h,St j h->own j h)/\
    ∀vals,Pt i vals->∃xs,Vals xs vals.toList/\xs.length<=sizeLine/\(¬ ∀v∈vals.toList,∃b,v=RU b)/\∀T,H T=Y'->J.yld i H (.ref T) @hv)
  (hI:it∈fp) (hwr:∀b∈wr,b∈fp)
  (obj:∀i h,own i h->∀b∈fp,∃o,h.get? b=Z' o/\∀v,o.data≠.cell v) (keep:∀i h h',own i h->(∀b∈fp,∀o,h.get? b=Z' o->h'.get? b=Z' o)->own i h')
  (hgo:∀i H,J.go i H->i<n) (hstop:∀i H,J.stop i H->i=n)
  (self:∀(A:RV)(i:Nat)(s:QR)(Q:Value->QR->Prop)(E:Value->QR->Prop),own i s.heap->Q @ap s->QZ @bo A @k2 Q E s):
  Turn P w K @bO J fp it own where
 mem:=hI
 obj:=obj
 keep:=keep
 item:=by
  sleep 5;obtain⟨more,Pt,St,Mid,W',st',ofSt,hval⟩:=W X J' σ H s i hP hw hK hc I st (.inl hg);subst hP hw hK;refine W'.item i s _ _ (hgo i H hg) st' λT vals h' tk hPt hT hTup hMid hk=>?_;obtain⟨xs,rv,hz,hnr,hy⟩:=hval vals hPt;have nT:H T=Y':=I.hok.fresh hT;have hfw:∀b∈wr,uO X J' H b:=λb hb=>hf b @h7
  have hws:∀b∈wr,b<s.heap.objs.size:=λb hb=>by
   obtain⟨o,e,_⟩:=obj i _ st b @h7;exact QY e
  have I1:L2.Inv X J' σ @hv {s with heap:=h',toks:=tk}:=I.af1 (vals:=vals.toList) hk hfw hws hT (by simpa using hTup) rv hz hnr;refine⟨_,rfl,W'.go elts kk tp i T _ _ _ hMid λh'' st'' hk''=>?_⟩
  have fne:∀b∈fp,upd H T @aO b=Y':=λb hb=>by
   obtain⟨o,e,_⟩:=obj i _ st b hb;rw[ai (RY (QX @bI hT))];exact(hf b hb).1
  have I2:L2.Inv X J' σ @hv {s with heap:=h'',toks:=tk}:=L2.Inv.Zm (s:={s with heap:=h',toks:=tk}) (wr:=wr) (t':=tk) I1 hk'' λb hb=>⟨fne b @h7,(hfw b hb).2⟩;exact⟨.ref T,_,I2,rfl,hy T nT,ofSt _ _ st'',fne⟩
 done:=by
  sleep 5;obtain⟨more,Pt,St,Mid,W',st',ofSt,hval⟩:=W X J' σ H s i hP hw hK hc I st (.inr hg);subst hP hw hK;have e:=hstop i H hg;subst e;refine W'.done s _ _ st' λh' tk hk=>⟨rfl,?_⟩;exact I.Zm hk λb hb=>hf b @h7
 self:=self
def lS(n:Nat)(Gd:Hp->Prop)(xs:List @ej):It:=
 ⟨λi H=>i<n/\Gd H,λi H x H'=>∃T ys,x=.ref T/\H T=Y'/\xs[i]?=Z' ys/\H'=upd H T @co,λi H=>i=n/\Gd H⟩
theorem ou{K:QO}{H₁:Hp}{n:Nat}{Gd:Hp->Prop}{xs:List @ej}{pss:List @e}(hn:pss.length=n)(hg:∀H,Kp H₁ H->Gd H)(r:∀(i:Nat)(ps:List PV)(ys:List V),pss[i]?=Z' ps->xs[i]?=Z' ys->aV K H₁ ps ys):
  ItP K (lS n Gd xs) H₁ (pss.map PV.tup):=λi H k=>by
 refine⟨λh=>⟨by rw[h,RB,hn],hg H k⟩,λp e=>?_⟩;rw[RC]at e;cases hp:pss[i]? with
|none=>rw[hp]at e;cases e
|some ps=>
  rw[hp]at e;cases e;have hi:i<n:=by rw[<-hn];exact(RO.mp hp).1
  refine⟨⟨hi,hg H k⟩,λx H' ⟨T,ys,ex,nT,ey,eH⟩=>?_⟩;subst ex eH;refine⟨Yc.new nT,T,ys,rfl,@mv,?_⟩;exact(aV.kp k ps (r i ps ys hp ey)).same (Yc.new nT)
theorem jF:Sj "enumerate"=Z' @q9:=by decide +kernel
def sU(x:Str):List V:=x.cps.toList.map λc=>.str ⟨#[c]⟩
theorem xM{K:QO}{H:Hp}(x:Str):aV K H (k9 x) (sU x):=by
 unfold k9 sU
 induction x.cps.toList with
|nil=>rfl
|cons c r ih=>exact@qo
noncomputable def HV(xs:List V):List @ej:=(S7 xs.length).zipWith (λ(i:Nat) x=>[.int (i:Int),x]) xs
theorem o5{α β:Type}(f:Nat->α->β)(l:List α)(i:Nat):((S7 l.length).zipWith f l)[i]?=l[i]?.map (f i):=by
 rw[UC]
 by_cases hi:i<l.length
 .rw[Th hi]
  simp[hi]
 .rw[UD @aC]
  simp[hi]
theorem wH{K:QO}{H:Hp}{ps:List PV}{xs:List V}(r:aV K H ps xs):∀(i:Nat)(qs:List PV)(ys:List V),(A8 ps)[i]?=Z' qs->(HV xs)[i]?=Z' ys->aV K H qs ys:=λi qs ys h1 h2=>by
 unfold A8 at h1;unfold HV at h2;rw[o5]at h1 h2;cases e:ps[i]? with
|none=>rw[e]at h1;cases h1
|some p=>
  rw[e]at h1;obtain⟨x,ex,rp⟩:=r.get e;rw[ex]at h2;cases h1;cases h2;exact@og
theorem wI(ps:List PV):(A8 ps).length=ps.length:=by simp[A8]
section
variable{P:R8}{w:RH}{K:QO}{elts:List Expr}{kk:Nat}{tp:SL}
theorem xJ(a it e:Addr)(xs:List V)(hne:e≠it)(hae:a≠e)(hai:a≠it):
  Turn P w K @bO (lS xs.length @qy (HV xs)) @f5 e (λi h=>(∃old,IsEnum h e it i old)/\h.IsListIter it a i):=by
 sleep 22
 .subst hP hw hK
  have hq:Zc X.K H a xs:=by rcases hg with h|h<;>exact h.2
  obtain⟨Xv,rv,pl,hz⟩:=I.list hq;have hl:=rv.length;have W:=Vh (A:=X.A) (XU (prog:=X.prog) (w:=X.w) (A:=X.A.in1) @aF it a hai Xv.toArray) e hne (by simp[hne,Rv hae]) @a;rw[show Xv.toArray.size=xs.length by simp[hl]]at W;refine⟨_,_,_,_,W,⟨st.1,st.2,pl.isList⟩,λj h st=>⟨st.1,st.2.1⟩,λvals hv=>?_⟩;obtain⟨t,x,hx,rfl⟩:=hv;have hx:Xv[i]?=Z' x:=by simpa using hx
  have hi:i<xs.length:=by rw[hl];exact(RO.mp hx).1
  have e1:xs[i]?=Z' xs[i]:=by simp[hi]
  obtain⟨u,eu,ru⟩:=rv.get e1;rw[hx]at eu;cases eu;refine⟨[.int i,xs[i]],.cons @a5 @kH,by show 2<=sizeLine;decide,λz=>(by obtain⟨b,z⟩:=z _ RZ;cases z),λT hT=>⟨T,_,rfl,hT,?_,rfl⟩⟩;unfold HV;rw[o5,e1];rfl
 .obtain⟨⟨old,he⟩,o,ho,hc,hd⟩:=st
  rcases R7.mp hb with rfl|hb
  .sleep 19
  .have:b=it:=by simpa using hb
   subst this;exact⟨o,ho,λv z=>by rw[hd]at z;cases z⟩
 .obtain⟨⟨old,he⟩,hi⟩:=st
  exact@m9
theorem Be{prog:R8}{w:RH}{A:RV}(hh:A.handled=Y')(it:Addr)(x:Str)(t:XD):
  Ws prog w A it [it] x.cps.size (λi v=>∃c u,x.cps[i]?=Z' c/\v=.str ⟨#[c]⟩ u) @i7:=by
 unfold Ti
 split
 .exact Draws.strAscii hh it x t
 .exact Draws.strWide hh it x t
theorem xI(it e:Addr)(x:Str)(t:XD)(hne:e≠it):
  Turn P w K @bO (lS x.cps.size (λ_=>True) (HV (sU x))) @f5 e (λi h=>(∃old,IsEnum h e it i old)/\h.IsStrIter it (Ti x) x t i):=by
 refine vX (wr:=@f5) (n:=x.cps.size) (λX J' σ H s i hP hw hK hc I st hg=>?_) @a @pr (λi h st b hb=>?_) (λi h h' st k=>?_) @dJ @dJ λA i s Q E st h=>Tb st.1.choose_spec h
 .subst hP hw hK
  refine⟨_,_,_,_,Vh (A:=X.A) (Be (A:=X.A.in1) @aF it x t) e hne (by simp[hne]) @a,@sk,λj h st=>@sk,λvals hv=>?_⟩;obtain⟨t',v,⟨c,u,hc',rfl⟩,rfl⟩:=hv
  have e1:(sU x)[i]?=Z' (.str ⟨#[c]⟩):=by
   unfold sU;rw[RC];simp[hc']
  refine⟨[.int i,.str ⟨#[c]⟩],.cons ⟨t',rfl⟩ (.cons ⟨u,rfl⟩ .nil),by show 2<=sizeLine;decide,λz=>(by obtain⟨b,z⟩:=z _ RZ;cases z),λT hT=>⟨T,_,rfl,hT,?_,rfl⟩⟩;unfold HV;rw[o5,e1];rfl
 .obtain⟨⟨old,he⟩,o,ho,hc,hd⟩:=st
  rcases R7.mp hb with rfl|hb
  .sleep 19
  .have:b=it:=by simpa using hb
   subst this;exact⟨o,ho,λv z=>by rw[hd]at z;cases z⟩
 .obtain⟨⟨old,he⟩,o,ho,r⟩:=st
  exact⟨@py,o,k it @a o ho,r⟩
end
theorem Ba {C:Cn} {e:Expr} {elts:List Expr} {kk:Nat} {tp p pos:SL} {f:Yb->R PV} (hg:Gl C.X "enumerate") (hm:C.X.mg "enumerate"=Y') (he:EV C e f) (hs:QU [e] C.X.env=[(Y1,Rj e C.X.env)]:=by exact bF rfl):
  EI C @bO (.Call @qg [e] [] pos) (yu f):=by
 intro J' s σ H Rk I ⟨ρ,vw,q⟩
 refine Call_ (oj I hg hm jF (T7 (Yl (↑264 pos J' s σ H (λvs H'=>∃v p ps,vs=[v]/\Yc H H'/\Rep C.X.K H' p v/\DH p=Z' ps/\∀J H2,Yc H' H2->ItP C.X.K J H2 ps->Rk J H2) I ⟨ρ,vw,q.bind.imp λp _ k v H' s' r=>?_⟩)
  λus s1 ⟨vs,H1,I1,r1,v,p,ps,ev,sm,rp,ep,k⟩=>?_) hs rfl))
 .obtain⟨ps,ep,k⟩:=k.Yn
  exact@m2
 .subst ev
  obtain⟨u,rfl,ru⟩:=vals1 r1;have hne:s1.heap.objs.size+1≠s1.heap.objs.size:=Nat.succ_ne_self _
  have fp:∀{h':Heap},(∀b o,s1.heap.get? b=Z' o->h'.get? b=Z' o)->L2.Inv C.X J' σ H1 {s1 with heap:=h'}/\∀b∈[s1.heap.objs.size+1,s1.heap.objs.size],uO C.X J' H1 b:=λ{h'} hk=>by
   refine⟨I1.kept (t':=s1.toks) hk,λb hb=>?_⟩
   have hb:s1.heap.objs.size<=b:=by
    simp only[R7,Rx,or_false]at hb;rcases hb with rfl|rfl
    .exact UM _
    .exact R9 _
   exact I1.ZK hb (I1.hok.fresh hb)
  cases p with
  |lst qs=>
   cases ep;obtain⟨a,xs,rfl,g,rr⟩:=rp;cases ru;obtain⟨Xv,rv,pl,hz⟩:=I1.list g.l.l;have ha:a<s1.heap.objs.size:=by obtain⟨o,n,ho,_⟩:=pl;exact QY ho
   refine call_enumerate_list pl.isList λh' he' hi' hsz hk=>Tb he' ?_;obtain⟨I2,hf⟩:=fp hk;refine⟨_,_,_,_,H1,rfl,I2,xJ a s1.heap.objs.size (s1.heap.objs.size+1) xs hne (RY (Vy ha)) (RY ha),@jM,hf,k _ H1 @ck ?_⟩;exact ou (by rw[wI,rr.length]) (λH2 k2=>(k2.sqF g).l.l) (wH rr)
  |str x=>
   cases ep;cases (show v=.str x from rp);obtain⟨t,rfl⟩:=ru;refine call_enumerate_str λh' he' hi' hsz hk=>Tb he' ?_;obtain⟨I2,hf⟩:=fp hk;refine⟨_,_,_,_,H1,rfl,I2,xI s1.heap.objs.size (s1.heap.objs.size+1) x t hne,@jM,hf,k _ H1 @ck ?_⟩;exact ou (by rw[wI];simp[k9]) (λH2 k2=>trivial) (wH (xM x))
  |_=>cases ep
noncomputable def wF(kvs:List @t):List @ej:=kvs.map λkv=>[kV kv.1,kv.2]
theorem wU{K:QO}{H:Hp}(k:Key):Rep K H (wV k) @ep:=by
 cases k<;>rfl
theorem ya{K:QO}{H:Hp}:∀{kvs:List @t}{ps:List PV},aV K H ps @ai->∀(i:Nat)(qs:List PV)(ys:List V),(o4 @ay ps)[i]?=Z' qs->(wF kvs)[i]?=Z' ys->aV K H qs ys:=λ{kvs ps} r i qs ys h1 h2=>by
 unfold o4 at h1;unfold wF at h2;rw[UC,RC]at h1;rw[RC]at h2;cases e:kvs[i]? with
|none=>simp_all
|some kv=>
  rw[e]at h1 h2;cases h2;obtain⟨p,ep,rp⟩:=r.Y9 (i:=i) (x:=kv.2) @i;rw[ep]at h1;cases h1;exact⟨_,_,rfl,wU kv.1,_,_,rfl,rp,rfl⟩
section
variable{P:R8}{w:RH}{K:QO}{elts:List Expr}{kk:Nat}{tp:SL}
theorem qb{kvs:List @t}{vs:List @d6}(rel:KV kvs vs):∀{i:Nat}{a:Key×V}{b:Key×Value},kvs[i]?=Z' a->vs[i]?=Z' b->a.1=b.1/\RelV a.2 b.2:=by
  induction rel with
  |nil=>simp_all
  |cons h t ih=>
   grind
theorem mL:PySem.entryFor PySem.table "dict_itemiterator.__iter__"=Z' Builtin.«dict_keyiterator.__iter__»:=
 PySem.entryFor_alias (id':="dict_keyiterator.__iter__") @aM @D @bf @aM
theorem i6{prog:R8}{w:RH}{A:RV}{E:Value->QR->Prop}{s:QR}{it d:Addr}{i n ep:Nat}{ok ov:Value}{Q:Value->QR->Prop}(he:IsItemIter s.heap it d i n ep ok ov)(h:Q @ap s):QZ @r A @k2 Q E s:=by
  have hT:s.TypeIs @ap "dict_itemiterator":=@sW;refine wpAny_pyIter_slot hT VQ (TC VQ hT mL ?_ (PySem.F.args_dict_itemiterator_iter_1 _));show QZ _ _ (PySem.ret @ap) _ _ s;exact QW ⟨_,rfl,"dict_itemiterator",_,hT,PySem.F.slot_dict_itemiterator_next.lookup,h⟩
def BH(K:QO)(H:Hp)(d:Addr)(o:Obj)(kvs:List @t):Prop:=H d=Z' @lw\/(K.lookup d=Z' o/\BD K d kvs)
theorem BH.at{X:Cx}{J':List @c}{σ:L2.St}{H:Hp}{s:QR}{d:Addr}{o:Obj}{kvs:List @t}{es:Array DictEntry}{ep:Nat}(hw:X.w=TW.w)(I:L2.Inv X J' σ H s)(h:BH X.K H d o kvs)(ho:o.data=.dict es ep):
  ∃vs,KV kvs vs/\s.heap.DictAt @kF d vs ep/\s.heap.get? d=Z' o/\o.ExactDict:=by
 rcases h with hq|⟨hk,_,_,o2,es2,ep2,e,x,d2,r⟩
 .obtain⟨e0,z,_,vs,rel,o',es',ep',e1,x1,d1,rest⟩:=I.hok d _ hq
  rw[e0]at e1;cases e1;rw[ho]at d1;cases d1;exact⟨vs,rel,⟨o,es,e0,x1,ho,rest⟩,e0,x1⟩
 .rw[hk]at e
  cases e;rw[ho]at d2;cases d2;obtain⟨vs,rel,rest⟩:=r X.prog;rw[<-hw]at rest;exact⟨vs,rel,⟨o,es,I.Z6 _ _ hk,x,ho,rest⟩,I.Z6 _ _ hk,x⟩
theorem xH(d it:Addr)(o:Obj)(es:Array DictEntry)(ep:Nat)(ho:o.data=.dict es ep)(kvs:List @t)(hd:(d==SI)=Y1)(hw:w=TW.w):
  Turn P w K @bO (lS kvs.length (λH=>BH K H d o kvs) (wF kvs)) [it] it (λi h=>∃ok ov,IsItemIter h it d i kvs.length ep ok ov) where
 mem:=by simp
 obj:=λi h st b hb=>by
  have:b=it:=by simpa using hb
  subst this;obtain⟨ok,ov,he⟩:=st;sleep 19
 keep:=λi h h' st k=>by
  obtain⟨ok,ov,he⟩:=st;exact⟨ok,ov,k it @a _ he⟩
 item:=by
  sleep 5;subst hP hw hK;obtain⟨hi,hq⟩:=hg;obtain⟨ok,ov,he⟩:=st;obtain⟨vs,rel,dat,_,_⟩:=hq.at hw I ho;have hl:kvs.length=vs.length:=SH rel;have eg:vs[i]?=Z' vs[i]:=by simp[<-hl,hi]
  have egk:kvs[i]?=Z' kvs[i]:=by simp[hi]
  obtain⟨hk1,hk2⟩:kvs[i].1=vs[i].1/\RelV kvs[i].2 vs[i].2:=qb rel egk eg;rw[hl]at he;refine wpAny_pyNext_items_item he dat (k:=vs[i].1) (v:=vs[i].2) eg λkey h' hkey hout hT hsz hkeep=>?_;have nT:H s.heap.objs.size=Y':=I.hok.fresh @C
  have rk:RelV (kV kvs[i].1) key:=by
   rw[hk1];rcases bE hkey with⟨j,t,e1,e2⟩|⟨y,t,e1,e2⟩
   .rw[e1,e2];exact@a5
   .rw[e1,e2];exact@a5
  have hit:it<s.heap.objs.size:=QY he
  have hws:∀b∈[it],b<s.heap.objs.size:=λb hb=>by
   have:b=it:=by simpa using hb
   rw[this];exact hit
  have I1:L2.Inv X J' σ (upd H s.heap.objs.size (.tup [kV kvs[i].1,kvs[i].2])) {s with heap:=h'}:=
   I.af1 (wr:=[it]) (t':=s.toks) (vals:=[key,vs[i].2]) (λb ob hb e=>hkeep b ob (by simpa using hb) e) hf hws @C ⟨_,hT,rfl,_,rfl⟩ (.cons rk (.cons hk2 .nil)) (by show 2<=sizeLine;decide) (λz=>by obtain⟨b,z⟩:=z _ RZ;rcases bE hkey with⟨j,t,e1,e2⟩|⟨y,t,e1,e2⟩<;>rw[e2]at z<;>cases z)
  refine⟨_,rfl,wpAny_letOwnedTupleGo_items hout λh'' he'' hs''=>?_⟩
  have fne:∀b∈[it],upd H s.heap.objs.size (.tup [kV kvs[i].1,kvs[i].2]) b=Y':=λb hb=>by
   have:b=it:=by simpa using hb
   subst this;rw[ai (RY hit)];exact(hf b hb).1
  have I2:L2.Inv X J' σ (upd H s.heap.objs.size (.tup [kV kvs[i].1,kvs[i].2])) {s with heap:=h''}:=L2.Inv.Zm (s:={s with heap:=h'}) (wr:=[it]) (t':=s.toks) I1 (λb ob hb e=>(hs''.2 b (by simpa using hb)).trans e) λb hb=>⟨fne b hb,(hf b hb).2⟩;refine⟨.ref s.heap.objs.size,_,I2,rfl,⟨_,_,rfl,nT,?_,rfl⟩,⟨_,_,by rw[hl];exact he''⟩,fne⟩;unfold wF;rw[RC,egk];rfl
 done:=by
  sleep 5;subst hP hw hK;obtain⟨hi,hq⟩:=hg;obtain⟨ok,ov,he⟩:=st;obtain⟨vs,rel,dat,_,_⟩:=hq.at hw I ho;have hl:kvs.length=vs.length:=SH rel;rw[hl]at he;refine wpAny_pyNext_items_end @aF he dat (by simp[<-hl,hi]) λh' eb=>⟨rfl,?_⟩;exact L2.Inv.Zm (wr:=[it]) (t':=s.toks) I (λb ob hb e=>eb b ob (by simpa using hb) e) hf
 self:=λA i s Q E st h=>by
  obtain⟨ok,ov,he⟩:=st;exact i6 he h
end
theorem n8{C:Cn}{o:Expr}{elts:List Expr}{kk:Nat}{tp Y4 Y0:SL}{f:Yb->R PV}(he:EV C o f)
  (hbase:S8 o "items" C.X.env @de=Rj o C.X.env:=by rfl) (Y6:(Y4.endLine==Y0.line)=Y2:=by rfl) (hw:C.X.w=TW.w:=by rfl):
  EI C @bO (.Call (.Attribute o "items" Y4) [] [] Y0) (ot f):=by
 intro J' s σ H Rk I ⟨ρ,vw,q⟩
 refine wpAny_Call_method0_late hbase Y6 (Yl (he J' s σ H (λv H'=>∃p ps,Yc H H'/\Rep C.X.K H' p v/\uj p=Z' ps/\∀J H2,Yc H' H2->ItP C.X.K J H2 ps->Rk J H2) I ⟨ρ,vw,q.bind.imp λp _ k v H' s' r=>?_⟩)
  λu s1 ⟨v,H1,I1,r1,p,ps,sm,rp,ep,k⟩=>?_)
 .obtain⟨ps,ep,k⟩:=k.Yn
  exact@iQ
 .cases p with
  |dct ks qs=>
   simp only[uj]at ep;split at ep
   .rename_i hl
    cases ep;obtain⟨d,kvs,rfl,g,ek,rr⟩:=rp;cases r1
    have hob:∃o' es ep,o'.data=.dict es ep/\(∀H2,Kp H1 H2->BH C.X.K H2 d o' kvs)/\(d==SI)=Y1:=by
     rcases g with⟨o',g⟩|g
     .obtain⟨e0,z,hd,vs,rel,o2,es,ep,e1,x1,d1,rest⟩:=I1.hok d _ g
      rw[e0]at e1;cases e1;exact⟨o',es,ep,d1,λH2 k2=>.inl (k2 _ _ g rfl),hd⟩
     .obtain⟨_,hd,o2,es2,ep2,e,x,d2,r⟩:=id g
      exact⟨o2,es2,ep2,d2,λH2 _=>.inr ⟨e,g⟩,hd⟩
    obtain⟨o',es,ep,d1,hob,hd⟩:=hob;obtain⟨vs,rel,dat,e0,x1⟩:=(hob H1 @ls).at hw I1 d1;have dd:s1.heap.DictOf @gX d vs:=dat.dictOf;have Xy:kvs.length=vs.length:=SH rel;refine⟨"dict","dict.items",To,WS,PySem.F.type_dict_items,dd.typeIs,λb eb=>?_,U0 rfl (PySem.evalArgs_none ?_)⟩
    .cases eb
     exact⟨o',e0,x1.2.1⟩
    .refine WH WS dd.typeIs PySem.F.entry_dict_items (PySem.F.args_dict_items_1 _) (meets_dict_items @gX d hd) ⟨⟨vs,dd⟩,?_⟩
     have I2:L2.Inv C.X J' σ H1 {s1 with heap:=s1.heap.push {cls:=.type "dict_items",data:=.fields #[.ref d]} }:=I1.kept (t':=s1.toks) λb ob e=>QT _ e;refine wpAny_pyIter_items (knd:=aF C.X.prog C.X.w) (kvs:=vs) (ep:=ep) @cD (dat.push _) ?_;have I3:=I2.kept (t':=s1.toks) (h':=(s1.heap.push {cls:=.type "dict_items",data:=.fields #[.ref d]}).push {cls:=.type "dict_itemiterator",data:=.fields #[.none,.bool Y1,.ref d,.int 0 0,.int vs.length 0,.int ep 0,.none,.none]}) λb ob e=>QT _ e;refine⟨_,_,_,_,H1,rfl,I3,xH d _ o' es ep d1 kvs hd hw,⟨.none,.none,by rw[Xy];exact RD _ rfl⟩,λb hb=>?_,k _ H1 @ck ?_⟩
     .have:b=(s1.heap.push {cls:=.type "dict_items",data:=.fields #[.ref d]}).objs.size:=by simpa using hb
      subst this;exact I2.ZK @C (I2.hok.fresh @C)
     .subst ek
      refine ou ?_ hob (ya rr);have:=rr.length;simp only[RB]at this hl;simp[o4,this]
   .cases ep
  |_=>cases ep
section
variable{P:R8}{w:RH}{K:QO}{tg:Expr}
noncomputable def Fg(K:QO)(d:Addr)(o:Obj)(kvs:List @t):It:=
 ⟨λi H=>i<kvs.length/\BH K H d o kvs,λi H x H'=>H'=H/\∃kv,kvs[i]?=Z' kv/\x=kV kv.1,λi H=>i=kvs.length/\BH K H d o kvs⟩
theorem BH.kp{H H':Hp}{d:Addr}{o:Obj}{kvs:List @t}(k:Kp H H')(h:BH K H d o kvs):BH K H' d o kvs:=by
 rcases h with h|h
 .exact .inl @k3
 .exact .inr h
theorem GK{H:Hp}{d:Addr}{o:Obj}{kvs:List @t}{ks:List Key}(g:BH K H d o kvs)(e:kvs.map @d=ks):ItP K @ts H @fy:=λi H' k=>by
 subst e;refine⟨λh=>⟨by simp_all,g.kp k⟩,λp ep=>?_⟩;rw[RC,RC]at ep;cases hk:kvs[i]? with
|none=>simp_all
|some kv=>
  rw[hk]at ep;cases ep;refine⟨⟨(RO.mp hk).1,g.kp k⟩,λx H2 ⟨eh,kv',e1,e2⟩=>?_⟩
  grind[Yc.refl,wU]
theorem yX(d it:Addr)(o:Obj)(es:Array DictEntry)(ep:Nat)(ho:o.data=.dict es ep)(kvs:List @t)(hw:w=TW.w):Turn P w K tg @ts [it] it (λi h=>h.IsKeyIter it d i kvs.length ep) where
 mem:=by simp
 obj:=λi h st b hb=>by
  have e:b=it:=by simpa using hb
  subst e;obtain⟨o,e,c,dd⟩:=st;exact⟨o,e,λv z=>by rw[dd]at z;cases z⟩
 keep:=λi h h' st k=>st.at λo e=>k it @a o e
 item:=by
  sleep 5;subst hP hw hK;obtain⟨hi,hq⟩:=hg;obtain⟨vs,rel,dat,_,_⟩:=hq.at hw I ho;have hl:kvs.length=vs.length:=SH rel;sleep 10;have eg:vs[i]?=Z' vs[i]:=by simp[<-hl,hi]
  have egk:kvs[i]?=Z' kvs[i]:=by simp[hi]
  obtain⟨hk1,hk2⟩:kvs[i].1=vs[i].1/\RelV kvs[i].2 vs[i].2:=qb rel egk eg;rw[hl]at st;refine wpAny_pyNext_dict_item st dat (k:=vs[i].1) (v:=vs[i].2) eg λkey h' hkey st' sb=>?_;have I1:Inv X J' σ H {s with heap:=h'}:=I.turned (t':=s.toks) @gj f0 f1 f3 f4 f5;obtain⟨oi,e,c,dd⟩:=id st'
  have rk:RelV (kV kvs[i].1) key:=by
   rw[hk1];rcases bE hkey with⟨j,t,e1,e2⟩|⟨y,t,e1,e2⟩
   .rw[e1,e2];exact@a5
   .rw[e1,e2];exact@a5
  exact⟨key,rfl,AN (s:={s with heap:=h'}) e c dd @h ⟨kV kvs[i].1,H,I1,rk,⟨rfl,_,egk,rfl⟩,by rw[hl];exact st',λb hb=>(hf b hb).1⟩⟩
 done:=by
  sleep 5;subst hP hw hK;obtain⟨hi,hq⟩:=hg;obtain⟨vs,rel,dat,_,_⟩:=hq.at hw I ho;have hl:kvs.length=vs.length:=SH rel;sleep 10;rw[hl]at st;exact wpAny_pyNext_dict_end @aF st dat (by simp[<-hl,hi]) λh' eb=>⟨rfl,I.turned (t':=s.toks) @gw f0 f1 f3 f4 f5⟩
 self:=λ_ _ _ _ _ st h=>wpAny_pyIter_keyiter st h
noncomputable def BE(x:Str):It:=⟨λi _=>i<x.cps.size,λi H y H'=>H'=H/\∃c,x.cps[i]?=Z' c/\y=.str ⟨#[c]⟩,λi _=>i=x.cps.size⟩
theorem Do{H:Hp}{x:Str}:ItP K (BE x) H (k9 x):=λi H' k=>by
 refine⟨λh=>show i=x.cps.size by simpa[k9]using h,λp ep=>?_⟩;unfold k9 at ep;rw[RC]at ep;cases hk:x.cps.toList[i]? with
|none=>rw[hk]at ep;cases ep
|some c=>
  rw[hk]at ep;cases ep;refine⟨show i<x.cps.size by simpa using (RO.mp hk).1,λy H2 ⟨eh,c',e1,e2⟩=>?_⟩
  have:c'=c:=by
   rw[Array.getElem?_toList]at hk;rw[hk]at e1;exact(SG e1).symm
  subst this eh e2;exact@qS
theorem sG{A:RV}(hh:A.handled=Y')(it:Addr)(x:Str)(t:XD):Walks P w A it [it] [it] x.cps.size (SignAt x) @i7:=by
 unfold Ti
 split
 .exact Walks.strAscii hh it x t
 .exact Walks.strWide hh it x t
theorem uY (x:Str):["enumerate","zip","dict_itemiterator","dict_reverseitemiterator","odict_iterator","itertools.zip_longest","itertools.pairwise"].contains (Ti x)=Y1:=by
 unfold Ti
 split<;>decide
theorem xF(it:Addr)(x:Str)(t:XD):Turn P w K tg (BE x) [it] it @i7 where
 mem:=by simp
 obj:=λi h st b hb=>by
  have e:b=it:=by simpa using hb
  subst e;obtain⟨o,e,c,dd⟩:=st;exact⟨o,e,λv z=>by rw[dd]at z;cases z⟩
 keep:=λi h h' st k=>by
  obtain⟨o,e,r⟩:=st;exact⟨o,k it @a o e,r⟩
 item:=by
  sleep 5;subst hP hw hK;sleep 10;have W:=sG (P:=X.prog) (w:=X.w) @aF it x t;refine W.item i s _ _ hg st λv h' tk hv st' kk=>?_;obtain⟨c,u,ec,rfl⟩:=hv;have I1:Inv X J' σ H {s with heap:=h',toks:=tk}:=I.turned (λb o hb e=>kk b o (by simpa using hb) e) f0 f1 f3 f4 f5;obtain⟨oi,e,cc,dd⟩:=id st';exact⟨_,rfl,AN (s:={s with heap:=h',toks:=tk}) e cc dd (uY x) ⟨.str ⟨#[c]⟩,H,I1,⟨u,rfl⟩,⟨rfl,c,ec,rfl⟩,st',λb hb=>(hf b hb).1⟩⟩
 done:=by
  sleep 5;subst hP hw hK;sleep 10;have W:=sG (P:=X.prog) (w:=X.w) @aF it x t;have hg:i=x.cps.size:=hg;subst hg;refine W.done s _ _ st λh' tk hk=>⟨rfl,I.turned (λb o hb e=>hk b o (by simpa using hb) e) f0 f1 f3 f4 f5⟩
 self:=λA i s Q E st h=>by
  unfold Ti at st;split at st
  .exact wpAny_pyIter_striter_ascii st h
  .exact wpAny_pyIter_striter_wide st h
end
section
variable{C:Cn}{e tg:Expr}{f:Yb->R PV}
theorem cT(he:EV C e f)(hw:C.X.w=TW.w:=by rfl):EI C tg e (Z7 f):=by
 intro J' s σ H R I ⟨ρ,vw,q⟩;refine Yl (he J' s σ H (λv H'=>∃p ps,Yc H H'/\Rep C.X.K H' p v/\iW p=Z' ps/\∀J H2,Yc H' H2->ItP C.X.K J H2 ps->R J H2) I ⟨ρ,vw,q.bind.imp λp _ k v H' s' r=>?_⟩) λv s1 ⟨x,H1,I1,r1,p,ps,sm,rp,ep,k⟩=>?_
 .obtain⟨ps,ep,k⟩:=k.Yn
  exact@iQ
 .cases p with
  |lst qs=>
   cases ep;obtain⟨a,xs,rfl,g,rr⟩:=rp;cases r1;obtain⟨Xv,rv,pl,hz⟩:=I1.list g.l.l;refine Sm pl.isList ?_;refine⟨s1.heap.objs.size,[s1.heap.objs.size],_,_,H1,rfl,I1.kept (t':=s1.toks) λb o e=>QT _ e,sN a _,@cD,λb hb=>?_,k _ H1 @ck (GJ g rr)⟩;have e:b=s1.heap.objs.size:=by simpa using hb
   subst e;exact I1.ZK @C @c8
  |tup qs=>
   cases ep;obtain⟨a,xs,rfl,g,rr⟩:=rp;cases r1;obtain⟨Xv,rv,pl,hz⟩:=I1.tuple g.sq;refine wpAny_pyIter_tuple (show s1.heap.IsTuple a Xv.toArray from pl) ?_;refine⟨s1.heap.objs.size,[s1.heap.objs.size],_,_,H1,rfl,I1.kept (t':=s1.toks) λb o e=>QT _ e,xE a _,@cD,λb hb=>?_,k _ H1 @ck (K7 g.sq rr)⟩;have e:b=s1.heap.objs.size:=by simpa using hb
   subst e;exact I1.ZK @C @c8
  |dct ks qs=>
   cases ep;obtain⟨a,kvs,rfl,g,ek,rr⟩:=rp;cases r1
   obtain⟨o,es,ep,ho,hq,hs⟩:∃o es ep,o.data=.dict es ep/\BH C.X.K H1 a o kvs/\(a==SI)=Y1:=by
    rcases g with⟨o,g⟩|g
    .obtain⟨e0,z,hs,vs,rel,o',es',ep',e1,x1,d1,rest⟩:=I1.hok a _ g
     rw[e0]at e1;cases e1;exact⟨o,es',ep',d1,.inl g,hs⟩
    .obtain⟨_,hs,o,es,ep,e,x,d,r⟩:=id g
     exact⟨o,es,ep,d,.inr ⟨e,g⟩,hs⟩
   obtain⟨vs,rel,dat,_,_⟩:=hq.at hw I1 ho;have hl:kvs.length=vs.length:=SH rel;refine wpAny_pyIter_dict hs dat ?_;refine⟨s1.heap.objs.size,[s1.heap.objs.size],_,_,H1,rfl,I1.kept (t':=s1.toks) λb o e=>QT _ e,yX a _ o es ep ho kvs hw,⟨_,RD _ rfl,rfl,by rw[hl];rfl⟩,λb hb=>?_,k _ H1 @ck (GK hq ek)⟩;have e:b=s1.heap.objs.size:=by simpa using hb
   subst e;exact I1.ZK @C @c8
  |str y=>
   cases ep;cases (show x=.str y from rp);obtain⟨t,rfl⟩:=r1;refine wpAny_pyIter_strU ?_;refine⟨s1.heap.objs.size,[s1.heap.objs.size],_,_,H1,rfl,I1.kept (t':=s1.toks) λb o e=>QT _ e,xF _ y t,@cD,λb hb=>?_,k _ H1 @ck Do⟩;have e:b=s1.heap.objs.size:=by simpa using hb
   subst e;exact I1.ZK @C @c8
  |_=>cases ep
end
def NC (K:QO) (c:String):Prop:=∀t∈["NoneType","bool","int","str","tuple","list","dict"],VA K (.type t) (.type c)=Z' (K8 t c)
theorem AC {K:QO}:NC K "str":=by intro t ht;simp only[R7,Rx,or_false]at ht;rcases ht with rfl|rfl|rfl|rfl|rfl|rfl|rfl<;>rfl
theorem GS{c:String}{p z:PV}(h:ES c p=Z' z):z=.bl @hA:=by
 cases p<;>cases h<;>rfl
def PD(K:QO)(c:String):List V->Hp->VK->Prop:=λvs H Q=>∃v p,vs=[v,.ty c]/\di K H p v/\(ES c p).isSome=Y2/\Q (.bl @hA) H
theorem Ql {X:Cx} {c:String} (hw:X.w=TW.w) (h:NC X.K c):gw X @pI (PD X.K c):=by
 intro J' s σ H xs us Q I r ⟨v,p,e1,rp,hsm,q⟩;subst e1;obtain⟨u,u2,rfl,ru,ru2⟩:=vals2 r;cases (show u2=WI c from ru2);have fin:∀tk,EP X J' σ Q (.bool @hA) {s with toks:=tk}:=λtk=>⟨.bl _,H,I.tok _,rfl,q⟩;have hk:=λt ht=>h t ht;cases p with
|Yj=>cases (show v=.Yj from rp);cases ru;exact Si PySem.W.kitx_none I.Z6 Sq (hk _ (by simp[tyN])) (λz=>nomatch z) fin
|bl b=>cases (show v=.bl b from rp);cases ru;exact Si PySem.W.kitx_bool I.Z6 Sq (hk _ (by simp[tyN])) (λz=>nomatch z) fin
|int i=>cases (show v=.int i from rp);obtain⟨t,rfl⟩:=ru;exact Si PySem.W.kitx_int I.Z6 Sq (hk _ (by simp[tyN])) (λz=>nomatch z) fin
|str i=>cases (show v=.str i from rp);obtain⟨t,rfl⟩:=ru;exact Si PySem.W.kitx_str I.Z6 Sq (hk _ (by simp[tyN])) (λz=>nomatch z) fin
|tup ps=>
  obtain⟨a,ys,rfl,g,_⟩:=di.Yq rp;cases ru;obtain⟨Xv,_,⟨o,e,c',_⟩,_⟩:=I.tuple g;exact Si PySem.W.kitx_tuple I.Z6 ⟨o,e,c'⟩ (hk _ (by simp[tyN])) (λz=>nomatch z) fin
|lst ps=>
  obtain⟨a,ys,rfl,g,_⟩:=di.lst_inv rp;cases ru;obtain⟨_,Xv,n,_,e⟩:=g.is I;exact Si PySem.W.kitx_list I.Z6 @k0 (hk _ (by simp[tyN])) (λz=>nomatch z) fin
|dct ks ps=>
  obtain⟨a,kvs,rfl,g,_⟩:=rp;cases ru;obtain⟨_,_,vs,_,o,es,ep,e,x,_⟩:=DkR.at hw I g;exact Si XC I.Z6 ⟨o,e,x.1⟩ (hk _ (by simp[tyN])) (λz=>nomatch z) fin
|ZC ks ps=>
  obtain⟨a,kvs,rfl,g,_⟩:=rp;cases ru;obtain⟨_,_,_,_,o,es,ep,e,x,_⟩:=DN I.hok g;exact Si XC I.Z6 ⟨o,e,x.1⟩ (hk _ (by simp[tyN])) (λz=>nomatch z) fin
|fn L cs=>cases hsm
theorem EZ {C:Cn} {e:Expr} {f:Yb->R PV} {c:Str} {cs:String} {p p2 pos:SL} (h:NC C.X.K cs) (hg:Gl C.X "isinstance") (hm:C.X.mg "isinstance"=Y') (hg2:Gl C.X c) (hm2:C.X.mg c=Y') (hb2:Sj c=Z' @l3) (ha:EO C e f)
  (hs:QU @kM C.X.env=[(Y1,Rj e C.X.env),(Y1,Rj (.Name c p2) C.X.env)]:=by exact qI rfl rfl) (hs2:QU [.Name c p2] C.X.env=[(Y1,Rj (.Name c p2) C.X.env)]:=by rfl)
  (hn:c≠"__name__":=by decide) (hd:(c==("__debug__":Str))=Y1:=by decide) (hw:C.X.w=TW.w:=by rfl):EV C (.Call @gO @kM [] pos) (YG f (ES cs)):=by
 sleep 1;have hpa:PA C.X @kM (Cb (tO C f) (Cb (tC (.ty cs)) Lf)):=bh ha (bh (A0 hg2 hm2 hb2 rfl hn hd) dZ hs2) (by rw[hs,hs2]);refine rg (Ql hw h) hg hm @D hpa @h @h (by rw[hs,hs2]) @D J' s σ H Q I ⟨ρ,vw,q.bind.imp λp _ k v H1 s1 r1=>?_⟩;obtain⟨z,ez,k⟩:=RQ.Yn k;have hz:=GS ez;subst hz;exact⟨v,p,rfl,r1,by rw[ez];rfl,k _ H1 s1 rfl⟩
theorem cStr {X:Cx}:gw X (.type "str") (r1 X.K jS):=by
 sleep 11;subst e1;cases p with
|int i=>
  simp only[jS]at ez;split at ez
  .rename_i hl
   cases ez;cases (show v=.int i from rp);exact uI J' s σ H _ us Q I r ⟨i,rfl,hl,k _ H @p rfl⟩
  .cases ez
|str x=>
  cases ez;cases (show v=.str x from rp);obtain⟨u,rfl,t,rfl⟩:=vals1 r;exact PySem.P.str_of_str ⟨.str x,H,I,@a5,k _ H @p rfl⟩
|_=>cases ez
theorem B3{C:Cn}{e:Expr}{f:Yb->R PV}{pos:SL}(h:EV C e f):EV C (.UnaryOp .USub e pos) (YG f Kh):=by
 sleep 1;refine Mo IT h J' s σ H Q I ⟨ρ,vw,q.bind.imp λp _ k v H1 s1 r1=>?_⟩;obtain⟨z,ez,k⟩:=k.Yn;cases p with
|int i=>cases ez;cases (show v=.int i from r1);exact⟨i,rfl,k _ H1 s1 rfl⟩
|_=>cases ez
def rM1(K:QO)(g:PV->PV->Option PV):V->List V->Hp->VK->Prop:=λv vs H Q=>∃p q z u,vs=[u]/\di K H p v/\di K H q u/\g p q=Z' z/\∀w H',Yc H H'->Rep K H' z w->Q w H'
structure ab6(name:Str)(id:String):Prop where
 slot:Slot "str" name id
 ty:typeOf @bV=pure @oO
theorem il{C:Cn}{o e:Expr}{fo fe:Yb->R PV}{g:PV->PV->Option PV}{name:Str}{id:String}{Y4 Y0:SL}(S:ab6 name id)(hm:MtR C.X id (rM1 C.X.K g))(ho:EV C o fo)(he:EO C e fe)
  (hbase:S8 o name C.X.env @de=Rj o C.X.env:=by rfl) (Y6:(Y4.endLine==Y0.line)=Y2:=by rfl) (hs:QU [e] C.X.env=[(Y1,Rj e C.X.env)]:=by exact bF rfl):
  EV C (.Call @jL [e] [] Y0) (fF fo fe g):=by
 sleep 1;refine vn We S.slot S.ty hm ho (uD he hs) hbase (by rw[hs];rfl) Y6 hs @D J' s σ H Q I ⟨ρ,vw,q.bind.imp λp _ k v H1 s1 r1=>?_⟩;cases p with
|str x=>
  cases (show v=.str x from r1);have k:RQ C H (fe ρ>>=λq=>R.Yn (g @H q)) λp=>∀v H',Yc H H'->Rep C.X.K H' p v->Q v H':=k;refine⟨rfl,ρ,vw.same s1,(k.bind.same s1).imp λp2 _ k2 u H2 s2 r2=>?_⟩;obtain⟨z,ez,k3⟩:=k2.Yn;exact⟨.str x,p2,z,u,rfl,rfl,r2,ez,λw H3 s3 r3=>k3 w H3 @jD r3⟩
|_=>exact QS k
theorem lR{K:QO}{H:Hp}:∀{ps:List PV}{xs:List V}{us:List Value}{ys:List Str},mz ps=Z' ys->aV K H ps xs->Vals xs us->StrsAre us ys
|[],_,_,_,e,r,rv=>by cases e;cases r;cases rv;exact .nil
|p::ps,_,_,_,e,⟨x,t,ex,h1,h2⟩,rv=>by
  subst ex;cases p with
  |str y=>
   obtain⟨r,er,ez⟩:=RJ.mp (show (mz ps).map (y::·)=Z' _ from e);subst ez;cases (show x=.str y from h1);cases rv with
   |cons a b=>
    obtain⟨tt,rfl⟩:=a;exact .cons y tt (lR er h2 b)
  |_=>cases e
theorem xT:ab6 "join" "str.join":=⟨PySem.F.slot_str_join,PySem.F.type_str_join⟩
theorem yk {X:Cx}:MtR X "str.join" (rM1 X.K ja):=by
 sleep 13;subst e1;obtain⟨u',rfl,ru⟩:=vals1 rs;unfold ja at ez;split at ez
 .rename_i y ps
  obtain⟨ys,ey,ez⟩:=Re.mp ez;split at ez
  .rename_i hl
   cases ez;cases (show x=.str y from rp);sleep 3;obtain⟨a,zs,rfl,g,rr⟩:=di.lst_inv rq;cases ru;obtain⟨_,Xv,n,rv,e⟩:=g.is I;exact join_list (items:=Xv.toArray) ⟨_,e,rfl,_,rfl⟩ @sy hl λt' k'=>@nz
  .cases ez
 .rename_i y ps
  obtain⟨ys,ey,ez⟩:=Re.mp ez;split at ez
  .rename_i hl
   cases ez;cases (show x=.str y from rp);sleep 3;obtain⟨a,zs,rfl,g,rr⟩:=di.Yq rq;cases ru;obtain⟨Xv,rv,pl,_⟩:=I.tuple g;exact join_tuple (items:=Xv.toArray) pl @sy hl λt' k'=>@nz
  .cases ez
 .cases ez
def Px(K:QO):V->Option Int->Option Int->Hp->VK->Prop:=λv lo hi H Q=>∃p z,di K H p v/\gSl p lo hi=Z' z/\∀w H',Yc H H'->Rep K H' z w->Q w H'
noncomputable def tOI(C:Cn)(f:Yb->R @cI):TO:=fun σ H Q=>∃ρ,View C.X.K H σ ρ/\RQ C H @u λo=>∀H',Yc H H'->Q o H'
def EOI(C:Cn)(e:Option Expr)(f:Yb->R @cI):Prop:=PO C.X e (tOI C f)
theorem xo{K:QO}{H:Hp}{ps:List PV}{xs:List V}(r:aV K H ps xs)(lo hi:Option Int):aV K H @gW @d1:=by
 unfold qy DR;rw[r.length];exact(r.drop _).take _
section
variable{C:Cn}{e:Expr}{f:Yb->R PV}{lo hi:Option Expr}{l h:Yb->R @cI}{pos p2:SL}
theorem qK:EOI C Y' iw:=λJ' s σ H Q I ⟨ρ,vw,q⟩=>G7 J' s σ H Q I (q H @p)
theorem lu(he:EV C e f):EOI C (Z' e) (gU f):=by
 sleep 1;refine G6 he J' s σ H Q I ⟨ρ,vw,q.bind.imp λp _ k v H1 s1 r1=>?_⟩;cases p with
|int i=>cases (show v=.int i from r1);exact⟨i,rfl,k H1 s1⟩
|_=>exact QS k
theorem slP{X:Cx}:SlR X (Px X.K):=by
 intro J' s σ H x v vl vu lo hi sl Q I rx hs pl pu ⟨p,z,rp,ez,k⟩;cases p with
|lst ps=>
  cases ez;obtain⟨a,xs,rfl,g,rr⟩:=di.lst_inv rp;obtain⟨T,id,h1,h2,h3⟩:=FL J' s σ H _ v vl vu lo hi sl (λw H'=>∃b,w=.ref b/\H b=Y'/\H'=upd H b (.lst @d1)) I rx hs pl pu ⟨a,xs,rfl,g.l,λb hb=>⟨b,rfl,hb,rfl⟩⟩;refine⟨T,id,h1,h2,Yl h3 λu s' ⟨w,H',I',rw',b,ew,nb,eH⟩=>?_⟩;subst ew eH;obtain⟨H2,I2,rp2,Z1⟩:=L2.Inv.YL (a:=b) (p:=.lst @gW) I' ⟨_,aq,(xo rr lo hi).same (Yc.new nb)⟩;refine⟨.ref b,H2,I2,rw',k _ H2 (.of λc o ec=>?_) rp2⟩;have hc:=cG ec nb;rw[Z1 c hc,ai hc];exact ec
|tup ps=>
  simp only[gSl]at ez;obtain⟨a,xs,rfl,g,rr⟩:=di.Yq rp
  by_cases hw:HT.YB ps.length 0 lo=0/\HT.YB ps.length ps.length hi=ps.length
  .rw[if_pos hw]at ez
   cases ez
  .rw[if_neg hw]at ez
   cases ez;exact J8 J' s σ H _ v vl vu lo hi sl Q I rx hs pl pu ⟨a,xs,rfl,g,by rw[<-rr.length];exact hw,λb hb=>k _ _ (Yc.new hb) ⟨b,_,rfl,@mv,(xo rr lo hi).same (Yc.new hb)⟩⟩
|_=>cases ez
theorem kY(ha:EO C e f)(hl:EOI C lo l)(hh:EOI C hi h):EV C @nQ (eX f l h):=by
 sleep 1;refine CN slP ha hl hh J' s σ H Q I ⟨ρ,vw,q.bind.imp λp _ k v H1 s1 r1=>⟨ρ,vw.same s1,(k.bind.same s1).imp λo1 _ k2 H2 s2=>⟨ρ,(vw.same s1).same s2,(k2.bind.same @dB).imp λo2 _ k3 H3 s3=>?_⟩⟩⟩;obtain⟨z,ez,k4⟩:=k3.Yn;exact⟨p,z,(r1.same s2).same s3,ez,λw H4 s4 r4=>k4 w H4 @n6 r4⟩
end
theorem z8{C:Cn}{tg e:Expr}{f:Yb->R PV}{h:YT}{pos:SL}(he:EV C e f)(hg:TGt C tg h)(hs:swapsWithSole [tg] e pos.line C.X.env=pure Y1:=by rfl)(hw:swappedStores [tg] e C.X.env=pure Y':=by rfl)
  (h1:(SJ [tg] C.X.env).map @s=[W8 tg C.X.env]:=by rfl):SV C @qO (Ld f h):=by
 sleep 12;refine Jk he hg hs hw h1 J' s σ H D I ⟨ρ,S.vw,(q.bind S.same).imp λp _ k v H1 s1 r1=>?_⟩;obtain⟨ρ',e1,k⟩:=RS.Yn k;exact⟨ρ,B,p,ρ',S.grow s1,r1,e1,fun σ' S'=>k σ' H1 S'⟩
theorem tH{K:QO}{H:Hp}{k:Key}{p:PV}{v:V}(rp:Rep K H p v):∀{kvs:List @t}{ps:List PV},aV K H ps @ai->aV K H (nQ @ay ps k p) ((kvs.map λkv=>if kv.1=k then (kv.1,v)else kv).map @s)
|[],ps,r=>by
  rfl
|kv::kvs,ps,r=>by
  cases ps with
  |nil=>cases r
  |cons q qs=>
   obtain⟨x,t,e,h1,h2⟩:=r;simp only[RG,Uq]at e;obtain⟨rfl,rfl⟩:=e;have ih:=tH (k:=k) rp h2;simp only[RG,nQ,V4]
   by_cases hk:kv.1=k
   .rw[if_pos hk,if_pos hk];exact⟨_,_,rfl,rp,ih⟩
   .rw[if_neg hk,if_neg hk];exact@qR
theorem CB{K:QO}{H:Hp}{kvs:List @t}{ps:List PV}{k:Key}{p:PV}{v:V}(rr:aV K H ps @ai)(rp:Rep K H p v):
  ∃ks' ps',nR @ay ps k p=.dct ks' ps'/\(Xz kvs k v).map @d=ks'/\aV K H ps' ((Xz kvs k v).map @s):=by
 unfold nR;have e:((kvs.map @d).any λj=>decide (j=k))=@eM:=by rw[V5];rfl
 rw[e];unfold Xz
 split
 .refine⟨_,_,rfl,?_,tH rp rr⟩
  rw[Rm];apply Sy;intro kv _;simp only[Function.comp]
  split<;>rfl
 .refine⟨_,_,rfl,by simp,?_⟩
  rw[SX];exact aV.append rr ⟨_,_,rfl,rp,rfl⟩
theorem G3{K:QO}{H:Hp}{a:Addr}{kvs:List @t}{ps:List PV}{k:Key}{p:PV}{v:V}(rr:aV K H ps @ai)(rp:Rep K H p v)(ha:H a=Z' @g2):dj K H a (nR @ay ps k p):=by
 obtain⟨ks',ps',e,e1,e2⟩:=CB (k:=k) rr rp;rw[e];exact⟨_,ha,e1,e2⟩
theorem vJ{C:Cn}{pos:SL}:EN C (.Dict [] [] pos) newD:=λJ' s σ H Q I ⟨ρ,vw,q⟩=>rf J' s σ H Q I λp hp=>q p _ @fm hp ⟨[],aq,rfl,rfl⟩
def HG(K:QO)(H:Hp):List @cK->List @t->Prop
|[],xs=>xs=[]
|kp::r,xs=>∃v t,xs=(kp.1,v)::t/\Rep K H kp.2 v/\HG K H r t
def ED(C:Cn)(pos:SL)(ks:List @ci)(vs:List Expr)(f:Yb->R @hY):Prop:=∃Zp,PPs C.X pos ks vs Zp/\
 ∀σ H Q,(∃ρ,View C.X.K H σ ρ/\RQ C H @u λkps=>∀kvs H',Yc H H'->HG C.X.K H' kps kvs->Q (kvs.map λkv=>(kV kv.1,kv.2)) H')->pN Zp σ H Q
theorem Dz{p q z:PV}(e:GU p q=Z' z):∃ps qs,p=.lst ps/\q=.lst qs/\ps.length+qs.length<=16777216/\z=.lst @ei:=by
 unfold GU at e
 grind
theorem B8{C:Cn}{a b:Expr}{fa fb:Yb->R PV}{pos:SL}(ha:EO C a fa)(hb:EO C b fb):EN C (.BinOp a .Add b pos) (a9 fa fb GU):=by
 sleep 1
 have ho:YH C.X @il (λv u H Q=>∃ps qs,di C.X.K H @X v/\di C.X.K H @cp u/\ps.length+qs.length<=16777216/\∀a H',Yc H H'->H a=Y'->dj C.X.K H' a @fb->Q @m H'):=by
  intro J' s σ H x y v u Q I rx ry ⟨ps,qs,hp,hq,hc,k⟩;have hs:=Rt;obtain⟨a,xs,rfl,hx,r1⟩:=hp;obtain⟨b,ys,rfl,hy,r2⟩:=hq;cases rx;cases ry;obtain⟨hz,Xv,n,rv,e1⟩:=hx.is I;obtain⟨hz2,its2,n2,rv2,e2⟩:=hy.is I;have l1:=r1.length;have l2:=r2.length;have l3:=rv.length;have l4:=rv2.length;have ea:Xv.toArray++its2.toArray=(Xv++its2).toArray:=by simp
  refine XR e1 e2 ?_ @i;rw[ea];have nf:H s.heap.objs.size=Y':=I.fresh;have I1:=I.lnew (t':=s.toks) @sw @i;exact⟨.ref _,_,I1,rfl,k _ _ @di nf ⟨_,aq,(r1.append r2).same @di⟩⟩
 refine Jq ho ha hb J' s σ H Q I ⟨ρ,vw,q.bind.imp λp _ k v H1 s1 r1=>⟨ρ,vw.same s1,(k.bind.same s1).imp λp2 _ k2 u H2 s2 r2=>?_⟩⟩;obtain⟨z,ez,k3⟩:=k2.Yn;obtain⟨ps,qs,rfl,rfl,hc,rfl⟩:=Dz ez;exact⟨ps,qs,r1.same s2,r2,hc,λa H' s' n' w'=>k3 a H' ((s1.trans s2).trans s') ((s1.trans s2).free n') w'⟩
structure ZL(K:QO)(mg:Str->Option Value)(x:Str)(c:PV):Prop where
 ex:∃v u,mg x=Z' u/\RelV v u/\∀H,Rep K H c v
theorem cS {C:Cn} {x:Str} {c:PV} {pos:SL} (hg:Gl C.X x) (h:ZL C.X.K C.X.mg x c) (hd:(x==("__debug__":Str))=Y1:=by decide):EV C @aE (kP c):=by
 obtain⟨v,u,hm,r,rp⟩:=h.ex;exact Hd hg hm r rp hd
noncomputable def F4(p:Params)(e:Str×XD×Value):DictEntry:={hash:=PyData.keyHash p e.1,key:=.str e.1 e.2.1,val:=e.2.2}
omit [TW] in
theorem yn(w:RH)(x:Str):PyData.keyHash w.params x=hashStr w x:=rfl
omit [TW] in
theorem qa{P:R8}{w:RH}:∀(es:List @ks),Pairs @af (es.map @d0) (es.map λe=>((Rp e.1:Key),e.2.2))
|[]=>.nil
|e::es=>.cons (jL P w e.1 e.2.1) rfl (qa es)
omit [TW] in
theorem Ao:∀{xs:List V}{es:List @ks},Vals xs (es.map (·.2.2))->KV ((es.map λe=>(Rp e.1:Key)).zip xs) (es.map λe=>((Rp e.1:Key),e.2.2))
|[],[],_=>.nil
|x::xs,e::es,r=>by
  cases r with
  |cons a b=>exact .cons ⟨rfl,a⟩ (Ao b)
|[],_::_,r=>by cases r
|_::_,[],r=>by cases r
omit [TW] in
theorem con_dct{w:RH}{tabs:List Addr}{qual:Nat->Nat->Str}{K:QO}{h:Heap}{mg:Str->Option Value}{x:Str}{a:Addr}{o:Obj}(es:List @ks){ep:Nat}{ps:List PV}{xs:List V}(X:K.In h)(G:h.Ns R5 mg)
  (n1:RK K R5 x=Z' @ag) (n2:K.lookup a=Z' o) (n3:o={cls:=.type "dict",data:=.dict (es.map @d0).toArray ep}) (hs:(a==SI)=Y1)
  (nd:(es.map @d).Nodup) (hz:es.length<=sizeLine) (vals:Vals xs (es.map (·.2.2))) (reps:∀H,@aV @aK K H ps xs):@ZL @aK K mg x @n9:=by
 letI:TW:=@aK
 have hl:xs.length=es.length:=by rw[vals.length,RB]
 have e1:((es.map λe=>(Rp e.1:Key)).zip xs).map @d=es.map λe=>.inr e.1:=List.map_fst_zip (by rw[RB];simp[*]);have e2:((es.map λe=>(Rp e.1:Key)).zip xs).map @s=xs:=List.map_snd_zip (by rw[RB];simp[*]);refine⟨.ref a,_,Sa X G n1,rfl,λH=>⟨a,(es.map λe=>(Rp e.1:Key)).zip xs,rfl,.inr ⟨?_,hs,o,_,_,n2,?_,by rw[n3],λP=>⟨es.map λe=>((Rp e.1:Key),e.2.2),Ao vals,?_,?_,?_⟩⟩,e1,by rw[e2];exact reps H⟩⟩
 .rw[List.length_zip,RB,hl]
  simp[*]
 .rw[n3]
  exact@g8
 .intro e he
  have he:e∈es.map @d0:=by simpa using he
  obtain⟨z,_,rfl⟩:=SU.mp he;exact⟨.inr z.1,jL P w z.1 z.2.1,yn w z.1⟩
 .have e3:(es.map @d0).toArray.toList=es.map @d0:=by simp
  rw[e3];exact qa (P:=P) (w:=w) es
 .rw[Rm]
  have:(@d∘λe:Str×XD×Value=>((Rp e.1:Key),e.2.2))=Rp∘@d:=rfl;rw[this,<-Rm];exact List.Pairwise.map _ (λa b hab e=>hab (V6 e)) nd
theorem xO{K:QO}{H:Hp}{a:Addr}{ns:List Int}(h:SqF K H a @dR):aV K H [.lst @dX] [.ref a]:=by
 have:∀l:List Int,aV K H (l.map PV.int) (l.map V.int):=by
  intro l
  induction l with
  |nil=>rfl
  |cons x l ih=>exact@qo
 exact⟨_,_,rfl,⟨a,_,rfl,h,this ns⟩,rfl⟩
end PU
namespace PU
noncomputable def whF(t:Yb->R Bool)(g:Yb->R Fl):Nat->Yb->R Fl
| 0,_=>.no
|n+1,ρ=>t ρ>>=λb=>if b=Y2 then g ρ>>=λfl=>(match fl with
  |.next ρ2=>whF t g n ρ2
  |.cont ρ2=>whF t g n ρ2
  |.brk ρ2=>.ok @cN
  |.ret q=>.ok (.ret q))else .ok @fD
def whS(n:Nat)(t:Yb->R Bool)(g:Yb->R Fl):Yb->R Fl:=whF t g n
open PySem PySem.Spec PyProof.Rows L2 PySem.SeqAt
variable[TW]
theorem Cc{C:Cn}{c:Expr}{body:List Stmt}{t:Yb->R Bool}{g:Yb->R Fl}{pos:SL}(n:Nat)(hc:ET C c t)(hb:SVs C body g)(hp:Vo @an C.X.A C.X.env C.X.xe:=by exact Vl):SV C (.While c body [] pos) (whS n t g):=by
 sleep 12;refine CG hp hc hb J' s σ H D I ⟨λm σ' H'=>∃ρ',Yr C.X.K B H' σ' ρ'/\RS C B D (whF t g m ρ'),⟨n,ρ,S,q⟩,?_⟩;rintro m σ' H' ⟨ρ',S',q'⟩;cases m with
|zero=>exact QS q'
|succ m=>
  have q':RS C B D (t ρ'>>=λb=>if b=Y2 then g ρ'>>=λfl=>(match fl with
   |.next ρ2=>whF t g m ρ2
   |.cont ρ2=>whF t g m ρ2
   |.brk ρ2=>.ok @cN
   |.ret q=>.ok (.ret q))else .ok @cO):=q'
  refine⟨ρ',S'.vw,(q'.bind S'.same).imp λb _ k H1 s1=>?_⟩;cases b with
  |false=>
   rw[if_neg RA]at k ⊢;exact k σ' H1 (S'.grow s1)
  |true=>
   rw[if_pos rfl]at k ⊢;refine⟨fun σ2 H2=>∃ρ2,Yr C.X.K B H2 σ2 ρ2/\RS C B D (whF t g m ρ2),fun σ2 H2 z=>⟨m,V0 m,z⟩,ρ',B,S'.grow s1,?_⟩;cases hgr:g ρ' with
   |ok fl=>
    rw[hgr]at k;cases fl with
    |next ρ2=>exact fun σ4 H4 S4=>@sR
    |cont ρ2=>exact fun σ4 H4 S4=>@sR
    |brk ρ2=>exact fun σ4 H4 S4=>k σ4 H4 S4
    |ret p=>exact k
   |er x=>rw[hgr]at k;exact k
   |no=>rw[hgr]at k;exact k
end PU
namespace PU
open PySem
noncomputable def lM:PV->PV->Option PV
|.str x,.str y=>Z' (.bl (Txt.startswith x y))
|_,_=>Y'
noncomputable def uv:PV->PV->Option PV
|.str x,.str y=>Z' (.int (Txt.count x y))
|_,_=>Y'
noncomputable def p8:List PV->Option (List Bool)
|[]=>Z' []
|.bl b::r=>(p8 r).map (b::·)
|_::_=>Y'
def EU:PV->Option PV
|.lst ps=>(p8 ps).bind λbs=>Z' (.bl (bs.all id))
|_=>Y'
def Kj:PV->Option PV
|.lst ps=>(p8 ps).bind λbs=>Z' (.bl (bs.any id))
|_=>Y'
open PySem.Spec PyProof.Rows L2 PySem.SeqAt
variable[TW]
theorem zp:ab6 "startswith" "str.startswith":=⟨PySem.F.slot_str_startswith,PySem.F.type_str_startswith⟩
theorem Jc:ab6 "count" "str.count":=⟨PySem.F.slot_str_count,PySem.F.type_str_count⟩
theorem jZ{K:QO}{H:Hp}{p q z:PV}{x u:V}{v:Value}{us:List Value}{g:PV->PV->Option PV}(hg:∀p q z,g p q=Z' z->∃a b,p=.str a/\q=.str b)(rx:RelV x v)(rs:Vals [u] us)(rp:di K H p x)(rq:di K H q u)(ez:g p q=Z' z):
  ∃a b t t2,p=.str a/\q=.str b/\v=.str a t/\us=[.str b t2]:=by
 obtain⟨a,b,rfl,rfl⟩:=hg p q z ez;obtain⟨u',rfl,ru⟩:=vals1 rs;cases (show x=.str a from rp);cases (show u=.str b from rq);sleep 3;obtain⟨t2,rfl⟩:=ru
 simp_all
theorem Ah {X:Cx}:MtR X "str.startswith" (rM1 X.K lM):=by
 sleep 13;subst e1;obtain⟨a,b,t,t2,rfl,rfl,rfl,rfl⟩:=jZ (g:=lM) (λp q z e=>by unfold lM at e;grind) rx rs rp rq ez;cases ez;exact SC.startswith @gk
theorem JP {X:Cx}:MtR X "str.count" (rM1 X.K uv):=by
 sleep 13;subst e1;obtain⟨a,b,t,t2,rfl,rfl,rfl,rfl⟩:=jZ (g:=uv) (λp q z e=>by unfold uv at e;grind) rx rs rp rq ez;cases ez;exact SC.count @nA
theorem p7{K:QO}{H:Hp}:∀{ps:List PV}{xs:List V}{us:List Value}{bs:List Bool},p8 ps=Z' bs->aV K H ps xs->Vals xs us->us=bs.map WJ
|[],_,_,_,e,r,rv=>by cases e;cases r;cases rv;rfl
|p::ps,_,_,_,e,⟨x,t,ex,h1,h2⟩,rv=>by
  subst ex;cases p with
  |bl y=>
   obtain⟨r,er,ez⟩:=RJ.mp (show (p8 ps).map (y::·)=Z' _ from e);subst ez;cases (show x=.bl y from h1);cases rv with
   |cons a b=>
    cases a;rw[p7 er h2 b];rfl
  |_=>cases e
theorem zC(bs:List Bool):(S7 bs.length).all @p9=bs.all id:=by
 rw[VE];simp only[T4,WT,id]
 grind[XY,Sr,Up,Sz]
theorem zB(bs:List Bool):(S7 bs.length).any @p9=bs.any id:=by
 rw[VE];simp only[W7,WT,id];constructor
 .grind[Sr,Up,Sz]
 .rintro⟨b,hb,e⟩
  obtain⟨i,hi,e2⟩:=XY hb;exact⟨i,hi,by simp_all⟩
theorem Lr {X:Cx} (hc:X.calm=Y2:=by rfl):gw X (.builtin "all") (r1 X.K EU):=by
 sleep 11;subst e1;unfold EU at ez;split at ez
 .rename_i ps
  obtain⟨bs,eb,ez⟩:=Re.mp ez;cases ez;obtain⟨a,zs,rfl,g,rr⟩:=di.lst_inv rp;obtain⟨u,rfl,ru⟩:=vals1 r;cases ru;obtain⟨_,Xv,n,rv,eg⟩:=g.is I;have ei:=p7 eb rr rv;have hl:s.heap.IsList a Xv.toArray:=@qn;have la:=QY eg;have hh:X.A.in1.handled=Y':=I.ok.hd hc;refine call_all_walk (Sm hl ⟨s.heap.objs.size,_,_,_,_,_,λi=>bs.getD i Y1,rfl,Walks.list hh s.heap.objs.size a (RY la) Xv.toArray,⟨?_,?_⟩,?_,λh' tk keep=>?_⟩)
  .exact@cD
  .exact@o3
  .intro i v s' Q' E' hv hQ
   have hv:Xv.toArray[i]?=Z' v:=hv;rw[ei,X9,RC]at hv;obtain⟨b,hb,rfl⟩:=RJ.mp hv;have hQ:Q' @tb s':=hQ;rw[Sr,hb]at hQ;exact SK hQ
  .have e2:Xv.toArray.size=bs.length:=by rw[ei];simp
   rw[e2,zC];exact⟨.bl _,H,I.kept (t':=tk) (λb o e=>keep b o (λz=>by rw[Sd]at z;exact absurd @bI (z▸Ru _)) @iA),rfl,k _ H @p rfl⟩
 .cases ez
theorem Qm {X:Cx} (hc:X.calm=Y2:=by rfl):gw X (.builtin "any") (r1 X.K Kj):=by
 sleep 11;subst e1;unfold Kj at ez;split at ez
 .rename_i ps
  obtain⟨bs,eb,ez⟩:=Re.mp ez;cases ez;obtain⟨a,zs,rfl,g,rr⟩:=di.lst_inv rp;obtain⟨u,rfl,ru⟩:=vals1 r;cases ru;obtain⟨_,Xv,n,rv,eg⟩:=g.is I;have ei:=p7 eb rr rv;have hl:s.heap.IsList a Xv.toArray:=@qn;have la:=QY eg;have hh:X.A.in1.handled=Y':=I.ok.hd hc;refine call_any_walk (Sm hl ⟨s.heap.objs.size,_,_,_,_,_,λi=>bs.getD i Y1,rfl,Walks.list hh s.heap.objs.size a (RY la) Xv.toArray,⟨?_,?_⟩,?_,λh' tk keep=>?_⟩)
  .exact@cD
  .exact@o3
  .intro i v s' Q' E' hv hQ
   have hv:Xv.toArray[i]?=Z' v:=hv;rw[ei,X9,RC]at hv;obtain⟨b,hb,rfl⟩:=RJ.mp hv;have hQ:Q' @tb s':=hQ;rw[Sr,hb]at hQ;exact SK hQ
  .have e2:Xv.toArray.size=bs.length:=by rw[ei];simp
   rw[e2,zB];exact⟨.bl _,H,I.kept (t':=tk) (λb o e=>keep b o (λz=>by rw[Sd]at z;exact absurd @bI (z▸Ru _)) @iA),rfl,k _ H @p rfl⟩
 .cases ez
end PU
namespace PU
def vz:PV->Bool
|.dct _ _=>Y2
|_=>Y1
noncomputable def D9(fo fe:Yb->R PV)(g:PV->PV->Option PV):Yb->R PV:=fun ρ=>fo ρ>>=λp=>if vz p=Y2 then fe ρ>>=λq=>R.Yn (g p q)else .no
def I9:PV->PV->Option PV
|.dct ks ps,q=>(iG q).bind λk=>Z' @pO
|_,_=>Y'
open PySem PySem.Spec PyProof.Rows L2 PySem.SeqAt
variable[TW]
theorem lF{K:QO}{H:Hp}{k:Key}:∀{ks:List Key}{ps:List PV}{kvs:List @t},kvs.map @d=ks->aV K H ps @ai->bT ks ps k=Y'->pj kvs k=Y'
|_,_,[],h1,h2,e=>rfl
|_,[],kv::kvs,h1,h2,e=>by
  cases h2
|_,q::ps,kv::kvs,h1,h2,e=>by
  subst h1;obtain⟨x,r,ex,hx,ht⟩:=h2;simp only[RG,Uq]at ex;obtain⟨rfl,rfl⟩:=ex;simp only[RG,bT]at e
  by_cases hk:kv.1=k
  .rw[if_pos hk]at e
   cases e
  .rw[if_neg hk]at e
   rw[eN hk];exact lF rfl ht e
theorem He{C:Cn}{o e:Expr}{fo fe:Yb->R PV}{Y4 Y0:SL}(ho:EO C o fo)(he:EO C e fe)(hw:C.X.w=TW.w:=by rfl)
  (hbase:S8 o "get" C.X.env @de=Rj o C.X.env:=by rfl) (Y6:(Y4.endLine==Y0.line)=Y2:=by rfl) (hs:QU [e] C.X.env=[(Y1,Rj e C.X.env)]:=by exact bF rfl):
  EV C (.Call @pM [e] [] Y0) (D9 fo fe I9):=by
 sleep 1;refine VX hbase (by rw[hs];rfl) Y6 rfl (Yl (ho J' s σ H (λv H1=>∃p,di C.X.K H1 p v/\Yc H H1/\RQ C H (if vz p=Y2 then fe ρ>>=λq=>R.Yn (I9 p q)else .no) λp=>∀v H',Yc H H'->Rep C.X.K H' p v->Q v H') I @m6) λv s1 ⟨x,H1,I1,r1,p,ro,sm,k⟩=>?_);cases p with
|dct ks ps=>
  have ro':=ro;obtain⟨a,kvs,rfl,g,e1,r⟩:=ro;cases r1;obtain⟨hz,hd,vs,rel,dd⟩:=DkR.at hw I1 g;have k:RQ C H (fe ρ>>=λq=>R.Yn (I9 @aD q)) λp=>∀v H',Yc H H'->Rep C.X.K H' p v->Q v H':=k;refine⟨"dict","dict.get",To,U3,Wp,dd.typeIs,dd.mapOf.noDict,?_⟩
  have hA:=(uD he hs) Y0 J' s1 σ H1 (λxs H2=>∃q z u,xs=[u]/\di C.X.K H2 q u/\I9 @aD q=Z' z/\Yc H1 H2/\∀v H',Yc H H'->Rep C.X.K H' z v->Q v H') I1 ⟨ρ,vw.same sm,(k.bind.same sm).imp λq _ k2 u H2 s2 r2=>by
   obtain⟨z,ez,k3⟩:=k2.Yn;exact⟨q,z,u,rfl,r2,ez,s2,k3⟩⟩
  rw[hs]at hA ⊢;refine U0 rfl (VN ?_);refine Yl hA λus s2 ⟨xs,H2,I2,r2,q,z,u,eu,rq,ez,s2',k3⟩=>?_;subst eu;obtain⟨u',rfl,ru⟩:=vals1 r2;obtain⟨kk,ek,ez⟩:=Re.mp (show (iG q).bind (λk=>Z' @pO)=Z' z from ez);cases ez;have hy:=fX ek rq;subst hy;obtain⟨a2,Lj,ea,g2,e2,rr2⟩:=ro'.same s2';cases ea;obtain⟨_,hd2,vs2,af3,dd2⟩:=DkR.at hw I2 g2;refine WH U3 dd2.typeIs Wf (PySem.F.args_dict_get_2 _ _) (meets_dict_get @gX a (oq ru) hd2) ⟨_,dd2.mapOf,?_⟩;cases el:bT ks ps kk with
  |some p'=>
   obtain⟨w,ew,rp⟩:=kH e2 rr2 el;obtain⟨w',hw',rw'⟩:=pf.some_of (v:=w) (o:=UF vs2 kk) (by rw[<-ew];exact af3.val kk);rw[hw'];rw[el]at k3;exact@nl
  |none=>
   have ew:=lF (k:=kk) e2 rr2 el;have hn:UF vs2 kk=Y':=pf.none_of (by rw[<-ew];exact af3.val kk);rw[hn];rw[el]at k3;exact⟨.Yj,H2,I2.tok _,rfl,k3 .Yj H2 @kO rfl⟩
|_=>exact QS k
end PU
namespace PU
open PySem PySem.Spec PyProof.Rows L2 PySem.SeqAt
section
variable{P:R8}{w:RH}{A:RV}{E:Value->QR->Prop}{s:QR}{d:Addr}{kvs:List @d6}{ep:Nat}
theorem ud{Q:Value->QR->Prop}(hh:A.handled=Y')(hd:(d==SI)=Y1)(m:s.heap.DictAt @af d kvs ep)(hz:kvs.length<=sizeLine)
  (q:∀(h':Heap) (tk:Nat) (Xx:Array Value) (c:Nat),(∀b o,s.heap.get? b=Z' o->h'.get? b=Z' o)->h'.get? s.heap.objs.size=Z' { cls:=.type "list",data:=.seq Xx c }->
   ItemsOf (λi v=>∃k x,kvs[i]?=Z' (k,x)/\(aF P w).is k v=Y2) Xx kvs.length->Q @b9 {s with heap:=h',toks:=tk}):QZ @bo A (call @kV [.ref d]) Q E s:=by
 refine PySem.W.kdl_call (PySem.W.kdl_dict (knd:=aF P w) (kvs:=kvs) (ep:=ep) hd) hh m hz ?_;exact q
end
end PU
namespace PU
noncomputable def ml:PV->Option PV
|.lst ps=>Z' @X
|.tup ps=>Z' @X
|.dct ks _=>Z' (.lst @fy)
|_=>Y'
open PySem PySem.Spec PyProof.Rows L2 PySem.SeqAt
variable[TW]
theorem uf{K:QO}{H:Hp}:∀ks:List Key,aV K H @fy @ea
|[]=>rfl
|k::ks=>by
  refine⟨kV k,ks.map kV,rfl,?_,uf ks⟩;cases k<;>exact rfl
omit [TW] in
theorem GD{P:R8}{w:RH}{k:Key}{v:Value}(h:(aF P w).is k v=Y2):RelV @ep v:=by
 rcases bE (show vx k v=Y2 from h)with⟨i,t,rfl,rfl⟩|⟨x,t,rfl,rfl⟩
 .exact@a5
 .exact@a5
omit [TW] in
theorem yT{P:R8}{w:RH}:∀(kvs:List @d6)(us:List Value),us.length=kvs.length->(∀(i:Nat)(v:Value),us[i]?=Z' v->∃k x,kvs[i]?=Z' (k,x)/\(aF P w).is k v=Y2)->Vals ((kvs.map @d).map kV) us
|[],us,hl,_=>by
  cases us with
  |nil=>exact .nil
  |cons a r=>cases hl
|kv::kvs,us,hl,h=>by
  cases us with
  |nil=>cases hl
  |cons a r=>
   obtain⟨k,x,e,hk⟩:=h 0 a rfl;cases e;exact .cons (GD hk) (yT kvs r (by simpa using hl) λi v e=>h (i+1) v e)
theorem F6 {X:Cx} (hc:X.calm=Y2:=by rfl) (hw:X.w=TW.w:=by rfl):gw X @kV (rn1 X.K ml):=by
 sleep 11;subst e1;cases p with
|lst ps=>
  obtain⟨a,xs,rfl,g,rr⟩:=di.lst_inv rp;cases ez;exact mw J' s σ H _ us Q I r ⟨a,xs,rfl,.inl g.l,λl hl=>k _ _ @fn hl @pk⟩
|tup ps=>
  obtain⟨a,xs,rfl,g,rr⟩:=di.Yq rp;cases ez;exact mw J' s σ H _ us Q I r ⟨a,xs,rfl,.inr g,λl hl=>k _ _ @fn hl @pk⟩
|dct ks ps=>
  obtain⟨a,kvs,rfl,g,e1,rr⟩:=rp;cases ez;obtain⟨u,rfl,ru⟩:=vals1 r;cases ru;obtain⟨hz,hS,vs,rel,o,es,ep,ho,x1,d1,rest⟩:=DkR.at hw I g;have hl:kvs.length=vs.length:=SH rel
  have hk:kvs.map @d=vs.map @d:=by
   clear hl hz e1 rr g rest
   induction rel with
   |nil=>rfl
   |cons a b ih=>rw[RG,RG,ih,a.1]
  refine ud (kvs:=vs) (ep:=ep) @aF hS ⟨o,es,ho,x1,d1,rest⟩ @i λh' tk Xx c keep gA it'=>?_;obtain⟨i1,i2⟩:=it'
  have rv:Vals @ea Xx.toList:=by
   rw[<-e1,hk];exact yT (P:=X.prog) (w:=X.w) vs Xx.toList (by simpa using i1) λi v e=>i2 i v (by simpa using e)
  have hlk:ks.length=kvs.length:=by rw[<-e1,RB]
  have I2:=I.laid (a:=s.heap.objs.size) (o:=.lst @ea) (h':=h') (t':=tk) keep @C ⟨by rw[RB];simp_all,Xx.toList,c,rv,by rw[Array.toArray_toList];exact gA⟩;have nf:H s.heap.objs.size=Y':=I.fresh;exact⟨.ref _,_,I2,rfl,k _ _ @di nf ⟨_,aq,uf ks⟩⟩
|_=>cases ez
end PU
namespace PU
noncomputable def iV(fo fe fd:Yb->R PV)(g:PV->PV->PV->Option PV):Yb->R PV:=fun ρ=>fo ρ>>=λp=>if vz p=Y2 then fe ρ>>=λq=>fd ρ>>=λy=>R.Yn (g p q y)else .no
def mJ:PV->PV->PV->Option PV
|.dct ks ps,q,y=>(iG q).bind λk=>Z' @qj
|_,_,_=>Y'
open PySem PySem.Spec PyProof.Rows L2 PySem.SeqAt
variable[TW]
theorem B4{C:Cn}{o e d:Expr}{fo fe fd:Yb->R PV}{Y4 Y0:SL}(ho:EO C o fo)(he:EV C e fe)(hd:EV C d fd)(hw:C.X.w=TW.w:=by rfl)
  (hbase:S8 o "get" C.X.env @de=Rj o C.X.env:=by rfl) (Y6:(Y4.endLine==Y0.line)=Y2:=by rfl) (hs:QU [e,d] C.X.env=[(Y1,Rj e C.X.env),(Y1,Rj d C.X.env)]:=by rfl) (hs2:QU [d] C.X.env=[(Y1,Rj d C.X.env)]:=by exact bF rfl):
  EV C (.Call @pM [e,d] [] Y0) (iV fo fe fd mJ):=by
 sleep 1;refine VX hbase (by rw[hs];rfl) Y6 rfl (Yl (ho J' s σ H (λv H1=>∃p,di C.X.K H1 p v/\Yc H H1/\RQ C H (if vz p=Y2 then fe ρ>>=λq=>fd ρ>>=λy=>R.Yn (mJ p q y)else .no) λp=>∀v H',Yc H H'->Rep C.X.K H' p v->Q v H') I @m6) λv s1 ⟨x,H1,I1,r1,p,ro,sm,k⟩=>?_);cases p with
|dct ks ps=>
  have ro':=ro;obtain⟨a,kvs,rfl,g,e1,r⟩:=ro;cases r1;obtain⟨hz,hdd,vs,rel,dd⟩:=DkR.at hw I1 g;have k:RQ C H (fe ρ>>=λq=>fd ρ>>=λy=>R.Yn (mJ @aD q y)) λp=>∀v H',Yc H H'->Rep C.X.K H' p v->Q v H':=k;refine⟨"dict","dict.get",To,U3,Wp,dd.typeIs,dd.mapOf.noDict,?_⟩
  have hA:=(bh he (bh hd dZ hs2) (by rw[hs,hs2])) Y0 J' s1 σ H1 (λxs H2=>∃q y z u x,xs=[u,x]/\Rep C.X.K H2 q u/\Rep C.X.K H2 y x/\mJ @aD q y=Z' z/\Yc H1 H2/\∀v H',Yc H H'->Rep C.X.K H' z v->Q v H') I1 ⟨ρ,vw.same sm,(k.bind.same sm).imp λq _ k2 u H2 s2 r2=>⟨ρ,vw.same (sm.trans s2),(k2.bind.same (sm.trans s2)).imp λy _ k4 x H3 s3 r3=>by
   obtain⟨z,ez,k3⟩:=k4.Yn;exact⟨q,y,z,u,x,rfl,r2.same s3,r3,ez,s2.trans s3,k3⟩⟩⟩
  rw[hs]at hA ⊢;refine U0 rfl (VN ?_);refine Yl hA λus s2 ⟨xs,H2,I2,r2,q,y,z,u,x,eu,rq,ry,ez,s2',k3⟩=>?_;subst eu
  obtain⟨u',x',rfl,ru,rx⟩:∃u' x',us=[u',x']/\RelV u u'/\RelV x x':=by
   cases r2 with
   |cons a b=>
    obtain⟨x',e,rx⟩:=vals1 b;subst e;exact⟨_,x',rfl,a,rx⟩
  obtain⟨kk,ek,ez⟩:=Re.mp (show (iG q).bind (λk=>Z' @qj)=Z' z from ez);cases ez;have hy:=fX ek rq.o;subst hy;obtain⟨a2,Lj,ea,g2,e2,rr2⟩:=ro'.same s2';cases ea;obtain⟨_,hd2,vs2,af3,dd2⟩:=DkR.at hw I2 g2;refine WH U3 dd2.typeIs Wf (PySem.F.args_dict_get_3 _ _ _) (meets_dict_get_default @gX a (oq ru) hd2 x') ⟨_,dd2.mapOf,?_⟩;cases el:bT ks ps kk with
  |some p'=>
   obtain⟨w,ew,rp⟩:=kH e2 rr2 el;obtain⟨w',hw',rw'⟩:=pf.some_of (v:=w) (o:=UF vs2 kk) (by rw[<-ew];exact af3.val kk);rw[hw'];rw[el]at k3;exact@nl
  |none=>
   have ew:=lF (k:=kk) e2 rr2 el;have hn:UF vs2 kk=Y':=pf.none_of (by rw[<-ew];exact af3.val kk);rw[hn];rw[el]at k3;exact⟨x,H2,I2.tok _,rx,k3 x H2 @kO ry⟩
|_=>exact QS k
end PU
namespace PU
open PySem
noncomputable def qu:PV->PV->Option PV
|.str x,.str y=>match RI x y 0 x.length 1 with
  |i::_=>Z' @I
  |[]=>Y'
|_,_=>Y'
open PySem.Spec PyProof.Rows L2 PySem.SeqAt
variable[TW]
theorem Eh:ab6 "index" "str.index":=⟨PySem.F.slot_str_index,PySem.F.type_str_index⟩
theorem EC {X:Cx}:MtR X "str.index" (rM1 X.K qu):=by
 sleep 13;subst e1;obtain⟨a,b,t,t2,rfl,rfl,rfl,rfl⟩:=jZ (g:=qu) (λp q z e=>by unfold qu at e;split at e;exact⟨_,_,rfl,rfl⟩;cases e) rx rs rp rq ez
 have ez:(match RI a b 0 a.length 1 with
  |i::_=>Z' (PV.int i)
  |[]=>Y')=Z' z:=ez
 cases ho:RI a b 0 a.length 1 with
|nil=>rw[ho]at ez;cases ez
|cons i r=>
  rw[ho]at ez;cases ez;exact SC.index ho @nA
noncomputable def DG(i:Nat)(f:Yb->R PV):Yb->R Fl:=fun ρ=>match ρ[i]? with
|some (.own (.lst ps))=>f ρ>>=λp=>(match p with
  |.lst qs=>if ps.length+qs.length<=16777216 then .ok (.next (ρ.set i (.own @fb)))else .no
  |_=>.no)
|_=>.no
def Me(K:QO):V->List V->Hp->VK->Prop:=λx vs H Q=>∃l b xs zs,x=.ref l/\vs=[.ref b]/\H l=Z' @ae/\SqO K H b zs/\xs.length+zs.length<=sizeLine/\Q .Yj (upd H l @sO)
theorem Gw {X:Cx}:MtM X "list.extend" (Me X.K):=by
 intro J' s σ H x vs v us Q I rx rv h;obtain⟨l,b,xs,zs,rfl,rfl,hH,hB,hz,q⟩:=h;cases rx;obtain⟨u,rfl,ru⟩:=rv.one;cases ru;obtain⟨z,Xv,n,r,hl,e⟩:=I.lstM hH;obtain⟨z2,its2,n2,r2,e2⟩:=hB.is I;have hl2:=r2.length;have hsz:Xv.toArray.size+its2.toArray.size<=sizeLine:=by rw[Rb,Rb];simp_all
 have hlong:¬ (!Xv.toArray.isEmpty&&UN (Xv.toArray.size+its2.toArray.size))=Y2:=by
  rw[D4 hsz,VW];exact RA
 refine U6 WL @k0 PySem.F.entry_list_extend (PySem.F.args_list_extend_2 _ _)
  (AutoSeq1.list_extend_list_list_0 l Xv.toArray n b its2.toArray n2 hlong (by rw[Rb];simp_all) @b) ⟨e,e2,?_⟩
 refine⟨.Yj,_,I.lset (its':=Xv++its2) hH e @a (r.append r2) ?_,rfl,q⟩;rw[RF];omega
section
variable{C:Cn}{e:Expr}{f:Yb->R PV}{pos Y4 Y0:SL}
theorem iK(i:Nat){x:Str}{np:SL}(he:EV C e f)(hs:QU [e] C.X.env=[(Y1,Rj e C.X.env)]:=by exact bF rfl)
  (hb:S8 @ao "extend" C.X.env @hc=Rj @ao C.X.env:=by rfl) (Y6:(Y4.endLine==Y0.line)=Y2:=by rfl)
  (hd:(x==("__debug__":Str))=Y1:=by decide) (hcd:(x==("__classdict__":Str))=Y1:=by decide) (hN:C.X.N[i]?=Z' x:=by rfl) (hv:Z3 C.X.env.scope x:=by first|exact .inl rfl|exact .inr (.inl rfl)|exact .inr (.inr rfl)):SV C (.Expr (.Call (.Attribute @ao "extend" Y4) [e] [] Y0) pos) (DG i f):=by
 sleep 12;unfold DG at q;split at q
 .rename_i ps e1
  obtain⟨a,e2,xs,hx,rr⟩:=S.vw i _ e1;refine nS (vn Tn WL PySem.F.type_list_extend Gw @ax @dA hb (by rw[hs];rfl) Y6 hs @D) @D J' s σ H D I ?_;refine⟨_,e2,.inl @gP,ρ,S.vw,(RS.bind q S.same).imp λp _ q' v H1 s1 r1=>?_⟩;cases p with
  |lst qs=>
   dsimp only at q'
   by_cases hl:ps.length+qs.length<=16777216
   .rw[if_pos hl]at q'
    obtain⟨b,zs,rfl,g,rz⟩:=di.lst_inv (Rep.o r1);refine⟨a,b,xs,zs,rfl,rfl,s1 _ _ hx,g,by rw[Rt,<-rr.length,<-rz.length];exact hl,?_⟩;refine q' σ _ ((S.grow s1).turn e1 e2 @g9 ?_);have kp:Kp H1 (upd H1 a @sO):=Kp.upd (s1 _ _ hx) rfl;exact⟨a,rfl,xs++zs,aq,aV.append @jw (aV.kp kp _ rz)⟩
   .rw[if_neg hl]at q'
    exact QS q'
  |_=>exact QS q'
 .exact QS q
end
end PU
namespace PU
open PySem PySem.Spec PyProof.Rows L2 PySem.SeqAt
theorem con_int{w:RH}{tabs:List Addr}{qual:Nat->Nat->Str}{K:QO}{h:Heap}{mg:Str->Option Value}{x:Str}{i:Int}{t:XD}(X:K.In h)(G:h.Ns R5 mg)(n1:RK K R5 x=Z' (Z' @fE)):@ZL @aK K mg x @I:=by
 letI:TW:=@aK
 exact⟨.int i,.int i t,Sa X G n1,@a5,λH=>rfl⟩
theorem con_str{w:RH}{tabs:List Addr}{qual:Nat->Nat->Str}{K:QO}{h:Heap}{mg:Str->Option Value}{x:Str}{i:Str}{t:XD}(X:K.In h)(G:h.Ns R5 mg)(n1:RK K R5 x=Z' (Z' (.str i t))):@ZL @aK K mg x (.str i):=by
 letI:TW:=@aK
 exact⟨.str i,.str i t,Sa X G n1,@a5,λH=>rfl⟩
def N5:PV->Option Int->Option Int->Option PV
|.str x,lo,hi=>if x.length<=16777216 then Z' (.str (PySem.Txt.slice x lo hi))else Y'
|.lst ps,lo,hi=>gSl @X lo hi
|.tup ps,lo,hi=>gSl @aq lo hi
|_,_,_=>Y'
variable[TW]
end PU
namespace PU
open PySem PySem.Spec PyProof.Rows L2 PySem.SeqAt
noncomputable def xB(ps qs:List PV):List @e:=ps.zipWith @r7 qs
def iD:PV->Bool
|.Yj|.bl _|.int _|.str _=>Y2
|_=>Y1
variable[TW]
section
variable{P:R8}{w:RH}{K:QO}{elts:List Expr}{kk:Nat}{tp:SL}
noncomputable def KL(xs ys:List V):List @ej:=xs.zipWith @r7 ys
theorem xa{x:V}{u:Value}(r:RelV x u)(h:∀b,x≠.ref b):¬ ∃b,u=RU b:=λ⟨b,e⟩=>by
 subst e;cases x with
|ref a=>exact h a rfl
|Yj=>cases r
|bl b=>cases r
|ty n=>cases r
|int i=>obtain⟨t,r⟩:=r;cases r
|str i=>obtain⟨t,r⟩:=r;cases r
|byt i=>obtain⟨t,r⟩:=r;cases r
|flt i=>obtain⟨t,r⟩:=r;cases r
theorem DC{K:QO}{H:Hp}{p:PV}{x:V}(hf:iD p=Y2)(r:Rep K H p x):∀b,x≠.ref b:=λb e=>by
 subst e;cases p with
|Yj=>cases (show V.ref b=_ from r)
|bl _=>cases (show V.ref b=_ from r)
|int _=>cases (show V.ref b=_ from r)
|str _=>cases (show V.ref b=_ from r)
|_=>cases hf
theorem uz{K:QO}{H:Hp}{ps:List PV}{xs:List V}(hf:ps.all iD=Y2)(r:aV K H ps xs):∀x∈xs,∀b,x≠.ref b:=λx hx=>by
 obtain⟨i,hi⟩:=List.mem_iff_getElem?.mp hx;have hl:=r.length;have hlt:i<ps.length:=by rw[hl];exact(RO.mp hi).1
 have e1:ps[i]?=Z' ps[i]:=by simp[hlt]
 obtain⟨y,ey,ry⟩:=r.get e1;rw[hi]at ey;cases ey;exact DC (T4.mp hf _ (Sz hlt)) ry
end
theorem C2{K:QO}{H:Hp}{ps qs:List PV}{xs ys:List V}(r1:aV K H ps xs)(r2:aV K H qs ys):∀(i:Nat)(zs:List PV)(ws:List V),(xB ps qs)[i]?=Z' zs->(KL xs ys)[i]?=Z' ws->aV K H zs ws:=λi zs ws h1 h2=>by
 unfold xB at h1;unfold KL at h2;rw[UC]at h1 h2;cases e:ps[i]? with
|none=>rw[e]at h1;cases h1
|some p=>
  cases e2:qs[i]? with
  |none=>rw[e,e2]at h1;cases h1
  |some q=>
   rw[e,e2]at h1;obtain⟨x,ex,rp⟩:=r1.get e;obtain⟨y,ey,rq⟩:=r2.get e2;rw[ex,ey]at h2;cases h1;cases h2;exact⟨_,_,rfl,rp,_,_,rfl,rq,rfl⟩
noncomputable def tIS(C:Cn)(f:Yb->R @e):TI:=fun σ H Q=>∃ρ,View C.X.K H σ ρ/\RQ C H @u λps=>∀J H',Yc H H'->ItS C.X.K J H' ps->Q J H'
def EIS(C:Cn)(tg iter:Expr)(f:Yb->R @e):Prop:=PI C.X tg iter (tIS C f)
theorem Yc.sqO{K:QO}{H H':Hp}(k:Yc H H'){a:Addr}{xs:List V}(h:SqO K H a xs):SqO K H' a xs:=by
 rcases h with (h|⟨o,h⟩)|h
 .exact .inl (.inl (k _ _ h))
 .exact .inl (.inr ⟨o,k _ _ h⟩)
 .exact .inr h
theorem Dl{K:QO}{H:Hp}{a:Addr}{xs:List V}{ps:List PV}(g:SqO K H a xs)(r:aV K H ps xs):ItS K @mq H ps:=λi H' k=>by
 have g':=(Yc.sqO k g).l;have r':=aV.kp (Yc.kp k) ps r;have hl:=r'.length;refine⟨λh=>⟨xs,g',by simp[*]⟩,λp e=>?_⟩;obtain⟨x,ex,rp⟩:=r'.get e
 exact⟨@kn,λy H2 ⟨eh,hy⟩=>by
  subst eh;have:=hy xs g';rw[ex]at this;cases this;exact@ka⟩
def AA:PV->Option @e
|.lst ps=>Z' ps
|_=>Y'
noncomputable def itL(f:Yb->R PV):Yb->R @e:=fun ρ=>f ρ>>=λp=>R.Yn (AA p)
theorem Ks{C:Cn}{e tg:Expr}{f:Yb->R PV}(he:EO C e f):EIS C tg e (itL f):=by
 intro J' s σ H R I ⟨ρ,vw,q⟩;refine Yl (he J' s σ H (λv H'=>∃p ps,Yc H H'/\di C.X.K H' p v/\AA p=Z' ps/\∀J H2,Yc H' H2->ItS C.X.K J H2 ps->R J H2) I ⟨ρ,vw,q.bind.imp λp _ k v H' s' r=>?_⟩) λv s1 ⟨x,H1,I1,r1,p,ps,sm,rp,ep,k⟩=>?_
 .obtain⟨ps,ep,k⟩:=k.Yn
  exact@iQ
 .cases p with
  |lst qs=>
   cases ep;obtain⟨a,xs,rfl,g,rr⟩:=rp;cases r1;obtain⟨Xv,rv,pl,hz⟩:=I1.list g.l;refine Sm pl.isList ?_;refine⟨s1.heap.objs.size,[s1.heap.objs.size],_,_,H1,rfl,I1.kept (t':=s1.toks) λb o e=>QT _ e,sN a _,@cD,λb hb=>?_,k _ H1 @ck (Dl g rr)⟩;have e:b=s1.heap.objs.size:=by simpa using hb
   subst e;exact I1.ZK @C @c8
  |_=>cases ep
section
variable{C:Cn}{elt tg iter:Expr}{ifs:List Expr}{scope:Scope}{pos:SL}{N':List Str}{nt:Nat}{Xw:List Nat}{fi:Yb->R @e}{h:YT}{t:Yb->R Bool}{fe:Yb->R PV}
theorem DK(O:YK C.X.N C.X.env.scope scope N' nt Xw)(hi:EIS C tg iter fi)
  (hg:∀cl L s H fp,TCt @ab tg h) (he:∀cl L s H fp,EV @ab elt fe)
  (hs:∀x,Sx iter C.X.env x=pure x:=by intro _;rfl) (hc:C.X.calm=Y2:=by rfl) (hlow:BV nt h:=by repeat' (first|exact rA|exact mW (by decide)|apply rm|apply mX)) (ht:∀cl L s H fp,ETs @ab ifs t:=by exact λ_ _ _ _ _=>s8):EN C @bJ @jS:=by
 sleep 1;rw[eval_ListComp];refine V8 (use:=Y') rfl hs @iZ O.kind O.names ?_
 refine Yl (hi J' s σ H (λJ H'=>∃ps qs,Yc H H'/\ItS C.X.K J H' ps/\cm h t fe @a3 ps=.ok qs/\qs.length<=sizeLine/\∀a H'',Yc H H''->H a=Y'->dj C.X.K H'' a @cp->Q @m H'') I
  ⟨ρ,vw,q.bind.imp λps _ k J H' s' ip=>?_⟩) λv s1 h1=>Yl h1 λitv s2 h2=>?_
 .obtain⟨qs,e1,k⟩:=vp k.bind
  obtain⟨z,k⟩:=iY k;exact@jy
 .obtain⟨it,fp,tn,J,H2,e,I2,T,st2,f2,ps,qs,sm,ip,e1,hz,k⟩:=h2
  subst e;refine qz O hc hg hlow ht he I2 T st2 f2 @lf ip e1 hz λD L σ' H' s' xs I' sm' nD hD rp hL=>?_;obtain⟨m,hn,_⟩:=id I'.loc;have IB:=oV I2 f2 I';refine⟨m,hn,λh' sb=>⟨.ref D,H',oU IB I'.free ?_ @k6 ?_ ?_ sb,rfl,k D H' @kN @lg @kJ⟩⟩
  .exact Tf @k7
  .intro x c ec z
   obtain⟨v,qc⟩:=I2.cell x c ec;have z:c=L:=z;exact Ru _ (QX (z▸qc.lt) hL)
  .intro p hp z
   have z:p.1=L:=z;exact Ru _ (QX (z▸QY (I2.pin p hp).1) hL)
end
end PU
namespace PU
open PySem PySem.Spec PyProof.Rows L2
noncomputable def Mc(i:Nat):Yb->R Fl:=fun ρ=>match ρ[i]? with
|some (.own p)=>.ok @au
|_=>.no
variable[TW]
open PySem.SeqAt
theorem xg{C:Cn}{a b c:Expr}{fa fb fc:Yb->R PV}{pos:SL}{op op':WM}{g g':PV->PV->Option PV}(ho:YH C.X @b5 @cH)(ho':YH C.X @iy (rP C.X.K g'))(hg:wY g)(hg':wY g')(ha:EO C a fa)(hb:EO C b fb)(hc:EO C c fc)
  (hm:Xb @fQ [b,c]=Y1:=by with_unfolding_all rfl):ET C @gq (aW @rg):=by
 sleep 1;refine CF ho ho' ha hb hc hm J' s σ H Q I ?_;have q1:=q.bind;refine⟨ρ,vw,q1.bind.imp λp _ k v H1 s1 r1=>⟨ρ,vw.same s1,(k.bind.same s1).imp λp2 _ k2 u H2 s2 r2=>?_⟩⟩;obtain⟨z,ez,k3⟩:=k2.bind.Yn;obtain⟨bb,rfl⟩:=hg _ _ _ ez;refine⟨p,p2,.bl bb,r1.same s2,r2,ez,λw H3 s3 r3=>?_⟩;cases (show w=.bl bb from r3);refine⟨bb,rfl,?_⟩;have s13:=(s1.trans s2).trans s3;cases bb with
|true=>
  refine Dm ⟨ρ,vw.same s13,?_⟩;refine(RQ.same (RQ.bind k3) s13).imp λp3 _ k4 w4 H4 s4 r4=>?_;obtain⟨z2,ez2,k5⟩:=k4.Yn;obtain⟨b2,rfl⟩:=hg' _ _ _ ez2;refine⟨p2,p3,.bl b2,(r2.same s3).same s4,r4,ez2,λw5 H5 s5 r5=>?_⟩;cases (show w5=.bl b2 from r5);obtain⟨b3,eb,k6⟩:=k5.Yn;cases eb;exact⟨b2,rfl,k6 H5 @pj⟩
|false=>
  have k3:RQ C H (R.Yn (pk @B)) (λb=>∀H',Yc H H'->Q b H'):=k3;obtain⟨b3,eb,k6⟩:=RQ.Yn k3;cases eb;exact Dn ⟨Y1,rfl,k6 H3 s13⟩
end PU
namespace PU
open PySem L2
def Jd(p:PV):R @e:=match p with
|.int j=>if j.natAbs<1000000000 then .ok (gd 0 j.toNat)else .no
|_=>.no
theorem C9{j:Int}(h0:0<=j)(h1:j<1000000000):Jd (.int j)=.ok (gd 0 j.toNat):=by
 unfold Jd;exact if_pos @b
section
noncomputable def HR(g':Yb->R Fl):R Fl->R Fl
|.ok (.next ρ)=>g' ρ
|.ok (.brk ρ)=>.ok @fP
|.ok (.cont ρ)=>.ok @fF
|.ok (.ret p)=>.ok @au
|.er x=>.er x
|.no=>.no
noncomputable def uc{α β:Type}(f:α->β):R α->R β
|.ok a=>.ok (f a)
|.er x=>.er x
|.no=>.no
noncomputable def iA{α β:Type}(f:α->R β):R α->R β
|.ok a=>f a
|.er x=>.er x
|.no=>.no
noncomputable def ifK{α:Type}(g g':Yb->R α)(ρ:Yb):R Bool->R α
|.ok Y2=>g ρ
|.ok Y1=>g' ρ
|.er x=>.er x
|.no=>.no
noncomputable def xD{α β γ:Type}(f:α->β->R γ):R α->R β->R γ
|.ok a,.ok b=>f a b
|.ok _,.er x=>.er x
|.ok _,.no=>.no
|.er x,_=>.er x
|.no,_=>.no
variable{α:Type}{ρ:Yb}{f fa fb fc:Yb->R PV}{g g':Yb->R Fl}{t u:Yb->R Bool}{i:Nat}
@[simp]theorem HX:HR g' (.ok @fD)=g' ρ:=by rfl
@[simp]theorem JX:HR g' (.ok @fP)=.ok @fP:=by rfl
@[simp]theorem HY:HR g' (.ok @fF)=.ok @fF:=by rfl
@[simp]theorem JW(p:PV):HR g' (.ok @au)=.ok @au:=by rfl
@[simp]theorem Lk(x:PX):HR g' (.er x)=.er x:=by rfl
@[simp]theorem Qb{β:Type}(f:α->β)(a:α):uc f @f2=.ok (f a):=by rfl
@[simp]theorem pE{β:Type}(f:α->R β)(a:α):iA f @f2=f a:=by rfl
@[simp]theorem Ll{β:Type}(f:α->β)(x:PX):uc f (.er x)=.er x:=by rfl
@[simp]theorem Lm{β:Type}(f:α->R β)(x:PX):iA f (.er x)=.er x:=by rfl
@[simp]theorem OH(g g':Yb->R α):ifK g g' ρ (.ok Y2)=g ρ:=by rfl
@[simp]theorem OI(g g':Yb->R α):ifK g g' ρ (.ok Y1)=g' ρ:=by rfl
@[simp]theorem GF{β γ:Type}(f:α->β->R γ)(a:α)(b:β):xD f @f2 (.ok b)=f a b:=by rfl
@[simp]theorem E9:bL g g' ρ=HR g' @er:=by
 unfold bL;cases g ρ with
|ok fl=>cases fl<;>rfl
|er x=>rfl
|no=>rfl
@[simp]theorem Lz:br ρ=.ok @fD:=by rfl
def rP1(ρ:Yb)(_:PV):Fl:=.next ρ
@[simp]theorem Q6(p:PV):rP1 ρ p=.next ρ:=by rfl
@[simp]theorem NP:bu f ρ=uc .ret @u:=by unfold bu;cases f ρ<;>rfl
@[simp]theorem P5:YF t g g' ρ=ifK g g' ρ @dx:=by
 unfold YF;cases t ρ with
|ok b=>cases b<;>rfl
|er x=>rfl
|no=>rfl
def Oi(i:Nat)(ρ:Yb)(p:PV):Fl:=.next @bN
def Oj(i:Nat)(ρ:Yb)(p:PV):Fl:=.next @e8
@[simp]theorem Q3(p:PV):Oi i ρ p=.next @bN:=by rfl
@[simp]theorem Q7(p:PV):Oj i ρ p=.next @e8:=by rfl
@[simp]theorem NK:bN i f ρ=uc (Oi i ρ) @u:=by unfold bN;cases f ρ<;>rfl
@[simp]theorem NQ:vo i f ρ=uc (Oj i ρ) @u:=by unfold vo;cases f ρ<;>rfl
@[simp]theorem O8:Qn ρ=.ok @fP:=by rfl
@[simp]theorem LM:Nq ρ=.ok @fF:=by rfl
@[simp]theorem O4:EX i g ρ=g @ms:=by rfl
@[simp]theorem QE(j:Int):kI j ρ=.ok (.int j):=by rfl
@[simp]theorem QF(j:Bool):kB j ρ=.ok (.bl j):=by rfl
@[simp]theorem QD:kN ρ=.ok .Yj:=by rfl
@[simp]theorem QB(j:Str):kS j ρ=.ok (.str j):=by rfl
@[simp]theorem QC(j:PV):kP j ρ=.ok j:=by rfl
@[simp]theorem NU:aE ρ=.ok []:=by rfl
def Kv(p:PV)(ps:List PV):R @e:=.ok (p::ps)
@[simp]theorem OO(p:PV)(ps:List PV):Kv p ps=.ok (p::ps):=by rfl
@[simp]theorem LO{fs:Yb->R @e}:a7 f fs ρ=xD Kv @u @bF:=by unfold a7;cases f ρ<;>cases fs ρ<;>rfl
noncomputable def tupP(ps:List PV):R PV:=if ps.length<=16777216 then .ok (.tup ps)else .no
noncomputable def lstP(ps:List PV):R PV:=if ps.length<=16777216 then .ok (.lst ps)else .no
@[simp]theorem MO(ps:List PV):tupP ps=if ps.length<=16777216 then .ok (.tup ps)else .no:=by rfl
@[simp]theorem JY(ps:List PV):lstP ps=if ps.length<=16777216 then .ok (.lst ps)else .no:=by rfl
@[simp]theorem NI{fs:Yb->R @e}:i8 fs ρ=iA tupP @bF:=by
 unfold i8;cases fs ρ with
|ok ps=>simp only[R.Ym,mj,pE,MO];split<;>rfl
|er x=>rfl
|no=>rfl
@[simp]theorem O0{fs:Yb->R @e}:hU fs ρ=iA lstP @bF:=by
 unfold hU;cases fs ρ with
|ok ps=>simp only[R.Ym,mj,pE,JY];split<;>rfl
|er x=>rfl
|no=>rfl
def opP(g:PV->PV->Option PV)(p q:PV):R PV:=R.Yn @en
def op1(g:PV->Option PV)(p:PV):R PV:=R.Yn (g p)
@[simp]theorem QL(g:PV->PV->Option PV)(p q:PV):opP g p q=R.Yn @en:=by rfl
@[simp]theorem Q8(g:PV->Option PV)(p:PV):op1 g p=R.Yn (g p):=by rfl
@[simp]theorem O9{g:PV->PV->Option PV}:a9 fa fb g ρ=xD (opP g) (fa ρ) (fb ρ):=by unfold a9;cases fa ρ<;>cases fb ρ<;>rfl
@[simp]theorem yP{g:PV->Option PV}:YG f g ρ=iA (op1 g) @u:=by unfold YG;cases f ρ<;>rfl
def Of(p:PV):R Bool:=R.Yn (pk p)
@[simp]theorem Q0(p:PV):Of p=R.Yn (pk p):=by rfl
@[simp]theorem NJ:aW f ρ=iA Of @u:=by unfold aW;cases f ρ<;>rfl
@[simp]theorem Oc:F8 t u ρ=ifK u (λ_=>.ok Y1) ρ @dx:=by
 unfold F8;cases t ρ with
|ok b=>cases b<;>rfl
|er x=>rfl
|no=>rfl
@[simp]theorem P0:orB t u ρ=ifK (λ_=>.ok Y2) u ρ @dx:=by
 unfold orB;cases t ρ with
|ok b=>cases b<;>rfl
|er x=>rfl
|no=>rfl
@[simp]theorem NR:u5 t ρ=uc not @dx:=by unfold u5;cases t ρ<;>rfl
noncomputable def NA(fb:Yb->R PV)(ρ:Yb)(p:PV):R PV:=match p with
|.bl Y2=>fb ρ
|.bl Y1=>.ok @B
|_=>.no
noncomputable def orK(fb:Yb->R PV)(ρ:Yb)(p:PV):R PV:=match p with
|.bl Y2=>.ok @L
|.bl Y1=>fb ρ
|_=>.no
@[simp]theorem MX:NA fb ρ @L=fb ρ:=by rfl
@[simp]theorem MY:NA fb ρ @B=.ok @B:=by rfl
@[simp]theorem OA:orK fb ρ @L=.ok @L:=by rfl
@[simp]theorem OB:orK fb ρ @B=fb ρ:=by rfl
@[simp]theorem Ob:yD fa fb ρ=iA (NA fb ρ) (fa ρ):=by unfold yD;cases fa ρ<;>rfl
@[simp]theorem OZ:orV fa fb ρ=iA (orK fb ρ) (fa ρ):=by unfold orV;cases fa ρ<;>rfl
noncomputable def PQ(p:PV):R PV:=match p with
|.bl b=>.ok (.bl (!b))
|_=>.no
@[simp]theorem Q9(b:Bool):PQ @bG=.ok (.bl (!b)):=by rfl
@[simp]theorem P4:ifV t fa fb ρ=ifK fa fb ρ @dx:=by
 unfold ifV;cases t ρ with
|ok b=>cases b<;>rfl
|er x=>rfl
|no=>rfl
@[simp]theorem Io:iF ρ=.ok Y2:=by rfl
def Ky(F:List PV->Option PV)(ps:List PV):R PV:=R.Yn (F ps)
@[simp]theorem OP(F:List PV->Option PV)(ps:List PV):Ky F ps=R.Yn (F ps):=by rfl
@[simp]theorem LQ{fs:Yb->R @e}{F:List PV->Option PV}:aN fs F ρ=iA (Ky F) @bF:=by unfold aN;cases fs ρ<;>rfl
noncomputable def itQ(F:PV->Option @e)(p:PV):R @e:=R.Yn (F p)
@[simp]theorem QM(F:PV->Option @e)(p:PV):itQ F p=R.Yn (F p):=by rfl
@[simp]theorem P3:Z7 f ρ=iA (itQ iW) @u:=by unfold Z7;cases f ρ<;>rfl
@[simp]theorem KS:ot f ρ=iA (itQ uj) @u:=by unfold ot;cases f ρ<;>rfl
def OT(h:YT)(g:Yb->R Fl)(ρ:Yb)(ps:List PV):R Fl:=rS h g ps ρ
@[simp]theorem Qd(h:YT)(ps:List PV):OT h g ρ ps=rS h g ps ρ:=by rfl
@[simp]theorem O6{fi:Yb->R @e}{h:YT}:sA fi h g ρ=iA (OT h g ρ) (fi ρ):=by unfold sA;cases fi ρ<;>rfl
@[simp]theorem NO:zx f ρ=iA Jd @u:=by unfold zx;cases f ρ<;>rfl
noncomputable def ME(g:PV->PV->Option PV)(p q:PV):R PV:=if uk p=Y2 then R.Yn (g p q)else .no
@[simp]theorem OE(g:PV->PV->Option PV)(p:Str)(q:PV):ME g (.str p) q=R.Yn (g (.str p) q):=by rfl
def Oe(h:YT)(ρ:Yb)(p:PV):R Fl:=uc .next (R.Yn @fT)
@[simp]theorem MN(h:YT)(p:PV):Oe h ρ p=uc .next (R.Yn @fT):=by rfl
@[simp]theorem NG{h:YT}:Ld f h ρ=iA (Oe h ρ) @u:=by
 unfold Ld;cases f ρ with
|ok p=>simp only[R.Ym,pE,MN];cases h p ρ<;>rfl
|er x=>rfl
|no=>rfl
@[simp]theorem KO:iw ρ=.ok Y':=by rfl
noncomputable def aP(p:PV):R @cI:=match p with
|.int i=>.ok (Z' i)
|_=>.no
@[simp]theorem QN(i:Int):aP @I=.ok (Z' i):=by rfl
@[simp]theorem LS:gU f ρ=iA aP @u:=by unfold gU;cases f ρ<;>rfl
def slQ(p:PV)(lh:Option Int×Option Int):R PV:=R.Yn (gSl p lh.1 lh.2)
def Jv(a b:Option Int):R (Option Int×Option Int):=.ok (a,b)
@[simp]theorem QJ(p:PV)(a b:Option Int):slQ p (a,b)=R.Yn (gSl p a b):=by rfl
@[simp]theorem Oz(a b:Option Int):Jv a b=.ok (a,b):=by rfl
@[simp]theorem KN{l h:Yb->R @cI}:eX f l h ρ=xD slQ @u (xD Jv (l ρ) (h ρ)):=by unfold eX;cases f ρ<;>cases l ρ<;>cases h ρ<;>rfl
@[simp]theorem NY:newD ρ=.ok (.dct [] []):=by rfl
@[simp]theorem NT:PY ρ=.ok []:=by rfl
def MJ(p:PV):R Key:=R.Yn (iG p)
@[simp]theorem OG(p:PV):MJ p=R.Yn (iG p):=by rfl
def kvQ(k:Key)(p:PV):R @cK:=.ok (k,p)
@[simp]theorem Qc(k:Key)(p:PV):kvQ k p=.ok (k,p):=by rfl
noncomputable def Nr(a:Key×PV)(r:List @cK):R @hY:=.ok (a::r)
@[simp]theorem MU(a:Key×PV)(r:List @cK):Nr a r=.ok (a::r):=by rfl
def Nn(kps:List @cK):R PV:=if kps.length<=15 then .ok (EB kps)else .no
@[simp]theorem MR(kps:List @cK):Nn kps=if kps.length<=15 then .ok (EB kps)else .no:=by rfl
def Kw(h:YT)(t:Yb->R Bool)(fe:Yb->R PV)(ρ:Yb)(ps:List PV):R PV:=iA lstP (Ex (cm h t fe ρ ps))
@[simp]theorem K0(h:YT)(ps:List PV):Kw h t f ρ ps=iA lstP (Ex (cm h t f ρ ps)):=by rfl
@[simp]theorem LP{fi:Yb->R @e}{h:YT}{nt:Nat}{Xw:List Nat}:dY fi h t f nt Xw ρ=iA (Kw h t f @a3) (fi ρ):=by
 unfold dY;cases fi ρ with
|ok ps=>
  simp only[R.Ym,pE,K0];cases cm h t f @a3 ps with
  |ok qs=>simp only[Ex,R.Ym,pE,JY,mj];split<;>rfl
  |er x=>rfl
  |no=>rfl
|er x=>rfl
|no=>rfl
@[simp]theorem LC(p:PV):ar i p ρ=Z' @bN:=by rfl
@[simp]theorem NS:fN [] ρ=Z' ρ:=by rfl
@[simp]theorem LN{h:YT}{h':vS}(p:PV)(r:List PV):aG h h' (p::r) ρ=(h p ρ).bind fun ρ1=>h' r ρ1:=by rfl
@[simp]theorem NH{n:Nat}{h:vS}(ps:List PV):fV n h @aq ρ=if ps.length=n then h ps ρ else Y':=by rfl
@[simp]theorem KP(a:α):Ex @f2=.ok a:=by rfl
end
section
variable{p:PV}{l:Sl}{ρ:Yb}{i:Nat}
@[simp]theorem yS:Y9 0 (.val p::ρ)=.ok p:=by rfl
@[simp]theorem Fy:Y9 (i+1) (l::ρ)=Y9 i ρ:=by rfl
@[simp]theorem LJ:kL 0 (.val p::ρ)=.ok p:=by rfl
@[simp]theorem KU:kL 0 (.own p::ρ)=.ok p:=by rfl
@[simp]theorem LI:kL (i+1) (l::ρ)=kL i ρ:=by rfl
@[simp]theorem O5:AR 0 (.own p::ρ)=.val p::ρ:=by rfl
@[simp]theorem LK:AR 0 (.val p::ρ)=.val p::ρ:=by rfl
theorem AQ:AR (i+1) (l::ρ)=l::AR i ρ:=by
 unfold AR;simp only[Rf];cases ρ[i]? with
|none=>rfl
|some x=>cases x<;>rfl
@[simp]theorem O3:AR (i+1) (l::ρ)=l::AR i ρ:=AQ
def roA(i:Nat)(ρ:Yb):Sl:=roS ρ[i]?
@[simp]theorem Q5:roA 0 (.val p::ρ)=.val p:=by rfl
@[simp]theorem Os:roA 0 (.own p::ρ)=.no:=by rfl
@[simp]theorem Ot:roA 0 (.no::ρ)=.no:=by rfl
@[simp]theorem Q4:roA (i+1) (l::ρ)=roA i ρ:=by rfl
theorem dE(nt:Nat)(Xw:List Nat):fI nt Xw ρ=Sh nt .no++Xw.map λi=>roA i ρ:=by rfl
noncomputable def HA(i:Nat)(ρ:Yb)(p:PV):R Yb:=match ρ[i]? with
|some (.own (.lst ps))=>if ps.length<16777216 then .ok (ρ.set i (.own @gG))else .no
|_=>.no
noncomputable def Du(i:Nat)(ρ:Yb):Bool:=match ρ[i]? with
|some (.own (.lst _))=>Y2
|_=>Y1
def Hu(l:Sl)(ρ:Yb):Yb:=l::ρ
@[simp]theorem MS:Hu l ρ=l::ρ:=by rfl
@[simp]theorem OR(ps:List PV):HA 0 (.own @X::ρ) p=if ps.length<16777216 then .ok (.own @gG::ρ)else .no:=by rfl
@[simp]theorem OQ:HA (i+1) (l::ρ) p=uc (Hu l) @lN:=by
 unfold HA;rw[Rf];cases ρ[i]? with
|none=>rfl
|some x=>
  cases x with
  |own q=>
   cases q with
   |lst ps=>dsimp only;split<;>rfl
   |_=>rfl
  |_=>rfl
@[simp]theorem OK(ps:List PV):Du 0 (.own @X::ρ)=Y2:=by rfl
@[simp]theorem OJ:Du (i+1) (l::ρ)=Du i ρ:=by rfl
def Lu(i:Nat)(ρ:Yb)(p:PV):R Fl:=uc .next @lN
@[simp]theorem K1:Lu i ρ p=uc .next @lN:=by rfl
theorem HC(f:Yb->R PV)(h:Du i ρ=Y2):yC i f ρ=iA @mp @u:=by
 unfold Du at h;unfold yC;cases e:ρ[i]? with
|none=>rw[e]at h;cases h
|some x=>
  rw[e]at h;cases x with
  |own q=>
   cases q with
   |lst ps=>
    dsimp only;cases f ρ with
    |ok p=>
     simp only[R.Ym,pE,K1];unfold HA;rw[e];dsimp only
     split<;>rfl
    |er x=>rfl
    |no=>rfl
   |_=>cases h
  |_=>cases h
def Nz(b:Bool)(i:Nat)(ρ:Yb)(r:R PV):R Fl:=if b=Y2 then iA @mp r else .no
@[simp]theorem K2(r:R PV):Nz Y2 i ρ r=iA @mp r:=by rfl
@[simp]theorem Oa(f:Yb->R PV):yC i f ρ=Nz (Du i ρ) i ρ @u:=by
 grind[Du,HC,K2,Nz,yC]
def Mh(i:Nat)(ρ:Yb)(k:Key)(p:PV):R Yb:=match ρ[i]? with
|some (.own (.dct ks ps))=>if ks.length<16777216 then .ok (ρ.set i (.own @fc))else .no
|_=>.no
noncomputable def N4(i:Nat)(ρ:Yb):Bool:=match ρ[i]? with
|some (.own (.dct _ _))=>Y2
|_=>Y1
@[simp]theorem Oy(ks:List Key)(ps:List PV)(k:Key):Mh 0 (.own @aD::ρ) k p=if ks.length<16777216 then .ok (.own @fc::ρ)else .no:=by rfl
@[simp]theorem MQ(ks:List Key)(ps:List PV):N4 0 (.own @aD::ρ)=Y2:=by rfl
@[simp]theorem MP:N4 (i+1) (l::ρ)=N4 i ρ:=by rfl
def Mg(i:Nat)(ρ:Yb)(p:PV)(k:Key):R Fl:=uc .next (Mh i ρ k p)
@[simp]theorem Ow(k:Key):Mg i ρ p k=uc .next (Mh i ρ k p):=by rfl
def PJ(b:Bool)(i:Nat)(ρ:Yb)(v:R PV)(k:R PV):R Fl:=if b=Y2 then xD (Mg i ρ) v (iA MJ k)else .no
@[simp]theorem Ox(v k:R PV):PJ Y2 i ρ v k=xD (Mg i ρ) v (iA MJ k):=by rfl
end
@[simp]theorem IS(a b:Int):bt @bb @aH=Z' (.int (a+b)):=rfl
theorem nh{a b:Str}(h:a.length+b.length<=16777216):bt @iC @iB=Z' (.str @cy):=if_pos h
theorem sM{a b:List PV}(h:a.length+b.length<=16777216):bt (.lst a) (.lst b)=Z' (.lst @cy):=if_pos h
@[simp]theorem IR(a b:List PV):bt (.tup a) (.tup b)=if a.length+b.length<=16777216 then Z' (.tup @cy)else Y':=rfl
@[simp]theorem P6(a b:Int):OS @bb @aH=Z' (.int (a-b)):=rfl
theorem FD{a b:Int}(h:a.natAbs<18446744073709551616\/b.natAbs<18446744073709551616):BP @bb @aH=Z' (.int (a*b)):=if_pos h
theorem xC{a b:Int}(h:0<b/\b<1073741824):lg @bb @aH=Z' (.int (a/b)):=if_pos h
theorem sJ{a b:Int}(h:0<b):i5 @bb @aH=Z' (.int (a%b)):=if_pos h
@[simp]theorem v_lt(a b:Int):ZJ @bb @aH=some (.bl (decide (a<b))):=rfl
@[simp]theorem QG(a b:Int):gLe @bb @aH=some (.bl (decide (a<=b))):=rfl
@[simp]theorem QH(a b:Int):gGt @bb @aH=some (.bl (decide (b<a))):=rfl
@[simp]theorem QI(a b:Int):gGe @bb @aH=some (.bl (decide (b<=a))):=rfl
@[simp]theorem L4(x y:Str):ZJ @H @fW=some (.bl (decide (x.cps.toList<y.cps.toList))):=rfl
@[simp]theorem Lc(a b:Int):Yp @bb @aH=some @qI:=by simp[Yp,lJ,Z8,Ef]
@[simp]theorem Lb(a b:Str):Yp @iC @iB=some @qI:=by simp[Yp,lJ,Z8,Ef]
@[simp]theorem L3(a b:Int):Zh @bb @aH=Z' (.bl (!decide (a=b))):=by simp[Zh,lJ,Z8,Ef]
@[simp]theorem Ca(a b:Str):Zh @iC @iB=Z' (.bl (!decide (a=b))):=by simp[Zh,lJ,Z8,Ef]
@[simp]theorem KY(b:Bool):pk @bG=Z' b:=rfl
@[simp]theorem IE(ps:List PV):pk @X=Z' (!ps.isEmpty):=rfl
@[simp]theorem IF(ks:List Key)(ps:List PV):pk @aD=Z' (!ks.isEmpty):=rfl
@[simp]theorem IK(ps:List PV):jT @X=Z' @hn:=rfl
@[simp]theorem IJ(ps:List PV):jT @aq=Z' @hn:=rfl
theorem yU{x:Str}(h:x.length<=16777216):jT @H=Z' @sP:=if_pos h
@[simp]theorem L6(ps:List PV)(i:Int):Yh @X @I=Yu ps i:=rfl
@[simp]theorem L5(ps:List PV)(i:Int):Yh @aq @I=Yu ps i:=rfl
theorem vV{z:Str}{i:Int}{c:Nat}(h:z.length<=16777216)(e:Yu z.cps.toList i=Z' c):Yh (.str z) @I=Z' (.str ⟨#[c]⟩):=by
 show (if z.length<=16777216 then (Yu z.cps.toList i).map λc=>PV.str ⟨#[c]⟩else Y')=_
 simp_all
@[simp]theorem vW(ks:List Key)(ps:List PV)(k:PV):Yh @aD k=(iG k).bind λk=>bT ks ps k:=rfl
@[simp]theorem IM(i:Int):iG @I=Z' @iG:=rfl
@[simp]theorem IL(x:Str):iG @H=Z' @b2:=rfl
@[simp]theorem sL(k j:Key)(ks:List Key)(p:PV)(ps:List PV):bT (k::ks) (p::ps) j=if k=j then Z' p else bT ks ps j:=rfl
@[simp]theorem La(b:Bool):Lp @bG=Z' (.int (if b then 1 else 0)):=rfl
@[simp]theorem IQ(b:Int):Lp @aH=Z' @aH:=rfl
@[simp]theorem ID(ps:List PV):qt @X=Z' @aq:=rfl
@[simp]theorem IC(ps:List PV):qt @aq=Z' @aq:=rfl
@[simp]theorem L8(ps:List PV):iW @X=Z' ps:=rfl
@[simp]theorem L7(ps:List PV):iW @aq=Z' ps:=rfl
@[simp]theorem L9(ks:List Key)(ps:List PV):iW @aD=Z' @fy:=rfl
@[simp]theorem Od(x:Str):wV @b2=.str x:=rfl
@[simp]theorem HL(ps:List PV):DH @X=Z' @ru:=rfl
@[simp]theorem HK(x:Str):DH @H=Z' @p1:=rfl
@[simp]theorem IH(i:Int):jS @I=if i.natAbs.log2<1920 then Z' (.str (UT i))else Y':=rfl
@[simp]theorem IG(x:Str):jS @H=Z' @H:=rfl
@[simp]theorem LU(x:Str):uk @H=Y2:=rfl
@[simp]theorem KZ(ps:List PV)(lo hi:Option Int):gSl @X lo hi=Z' @lR:=rfl
theorem aX{α:Type}{xs:List α}{i:Int}{n:Nat}{x:α}(hi:i=n)(h:xs[n]?=Z' x):Yu xs i=Z' x:=by
 subst hi;have hl:=(RO.mp h).1;unfold Yu ixN;rw[if_pos @a,if_pos (by simp[*])];simpa using h
@[simp]theorem Qs{α:Type}(x:α)(xs:List α):Yu (x::xs) 0=Z' x:=aX (n:=0) rfl rfl
@[simp]theorem Qr{α:Type}(x y:α)(xs:List α):Yu (x::y::xs) 1=Z' y:=aX (n:=1) rfl rfl
@[simp]theorem Qq{α:Type}(x y z:α)(xs:List α):Yu (x::y::z::xs) 2=Z' z:=aX (n:=2) rfl rfl
@[simp]theorem Qp{α:Type}(x y z u:α)(xs:List α):Yu (x::y::z::u::xs) 3=Z' u:=aX (n:=3) rfl rfl
@[simp]theorem Qo{α:Type}(x y z u v:α)(xs:List α):Yu (x::y::z::u::v::xs) 4=Z' v:=aX (n:=4) rfl rfl
theorem AV{h:YT}{g:Yb->R Fl}(I:Nat->Yb->Prop):∀(ps:List PV)(n:Nat)(ρ:Yb),I n ρ->
  (∀(i:Nat)(p:PV)(ρ:Yb),ps[i]?=Z' p->I (n+i) ρ->∃ρ1 ρ2,h p ρ=Z' ρ1/\(g ρ1=.ok @cN\/g ρ1=.ok @fA)/\I (n+i+1) ρ2)->
  ∃ρ',rS h g ps ρ=.ok @cO/\I (n+ps.length) ρ'
|[],n,ρ,h0,_=>⟨ρ,rfl,h0⟩
|p::ps,n,ρ,h0,hs=>by
  obtain⟨ρ1,ρ2,e1,e2,i2⟩:=hs 0 p ρ rfl h0
  obtain⟨ρ3,e3,i3⟩:=AV I ps (n+1) ρ2 i2 λi q ρ' hq hi=>by
   have:=hs (i+1) q ρ' @i @b;rw[show n+(i+1)+1=n+1+i+1 by grind]at this;exact this
  grind[QV,rS,R.YR,R.Ym]
theorem x6{h:YT}{g:Yb->R Fl}{ps:List PV}{ρ:Yb}(I:Nat->Yb->Prop)(h0:I 0 ρ)
  (hs:∀(i:Nat)(p:PV)(ρ:Yb),ps[i]?=Z' p->I i ρ->∃ρ1 ρ2,h p ρ=Z' ρ1/\(g ρ1=.ok @cN\/g ρ1=.ok @fA)/\I (i+1) ρ2):
  ∃ρ',rS h g ps ρ=.ok @cO/\I ps.length ρ':=by
 have:=AV I ps 0 ρ h0 λi p ρ hp hi=>by
  rw[Vx]at hi ⊢;exact hs i p ρ hp hi
 simp_all
theorem xU(lo:Int)(n:Nat):(gd lo n).length=n:=by simp[gd]
theorem xV{lo:Int}{n i:Nat}{p:PV}(h:(gd lo n)[i]?=Z' p):i<n/\p=.int (lo+i):=by
 unfold gd at h;rw[RC]at h
 by_cases hi:i<n
 .rw[Th hi]at h
  exact⟨hi,(SG h).symm⟩
 .rw[UD @aC]at h
  cases h
theorem forR{h:YT}{g:Yb->R Fl}{lo:Int}{n:Nat}{ρ:Yb}(I:Nat->Yb->Prop)(h0:I 0 ρ)
  (hs:∀(i:Nat)(ρ:Yb),i<n->I i ρ->∃ρ1 ρ2,h (.int (lo+i)) ρ=Z' ρ1/\(g ρ1=.ok @cN\/g ρ1=.ok @fA)/\I (i+1) ρ2):
  ∃ρ',rS h g (gd lo n) ρ=.ok @cO/\I n ρ':=by
 obtain⟨ρ',e,i'⟩:=x6 (ps:=gd lo n) I h0 λi p ρ hp hi=>by
  obtain⟨hn,rfl⟩:=xV hp;exact hs i ρ hn hi
 grind[xU]
theorem AU{α:Type}{enc:α->PV}{h:YT}{g:Yb->R Fl}{xs:List α}(I:List α->Yb->Prop)
  (hs:∀(pre:List α)(x:α)(post:List α)(ρ:Yb),xs=pre++x::post->I pre ρ->∃ρ1 ρ2,h @eo ρ=Z' ρ1/\(g ρ1=.ok @cN\/g ρ1=.ok @fA)/\I (pre++[x]) ρ2):
  ∀(ys pre:List α)(ρ:Yb),xs=pre++ys->I pre ρ->∃ρ',rS h g (ys.map enc) ρ=.ok @cO/\I xs ρ'
|[],pre,ρ,e,h0=>⟨ρ,rfl,by simp_all⟩
|y::ys,pre,ρ,e,h0=>by
  obtain⟨ρ1,ρ2,e1,e2,i2⟩:=hs pre y ys ρ e h0;obtain⟨ρ3,e3,i3⟩:=AU I hs ys (pre++[y]) ρ2 (by rw[e];simp) i2
  grind[RG,rS,R.YR,R.Ym]
theorem forM{α:Type}{enc:α->PV}{h:YT}{g:Yb->R Fl}{xs:List α}{ρ:Yb}(I:List α->Yb->Prop)(h0:I [] ρ)
  (hs:∀(pre:List α)(x:α)(post:List α)(ρ:Yb),xs=pre++x::post->I pre ρ->∃ρ1 ρ2,h @eo ρ=Z' ρ1/\(g ρ1=.ok @cN\/g ρ1=.ok @fA)/\I (pre++[x]) ρ2):
  ∃ρ',rS h g @d3 ρ=.ok @cO/\I xs ρ':=AU I hs xs [] ρ rfl h0
open PySem.Spec PyProof.Rows PySem.SeqAt
variable[TW]
structure Cls(X:Cx)(H:Hp)(s:QR)(l:List @c):Prop where
 at_:∀c o,l.lookup c=Z' o->s.heap.get? c=Z' o
 fr:∀c o,l.lookup c=Z' o->H c=Y'
 bs:∀c o,l.lookup c=Z' o->X.base.get? c=Y'
 st:∀c o,l.lookup c=Z' o->c∉frs X.stack
mutual
noncomputable def Y7:PV->Bool
|.fn _ _=>Y1
|.tup ps=>Ae ps
|.lst ps=>Ae ps
|.dct _ ps=>Ae ps
|.ZC _ ps=>Ae ps
|_=>Y2
noncomputable def Ae:List PV->Bool
|[]=>Y2
|p::ps=>Y7 p&&Ae ps
end
noncomputable def qk:HO->Bool
|.tup _=>Y2
|.YL _ (.tup _)=>Y2
|.YL _ (.lst _)=>Y2
|.YL _ (.dK _)=>Y2
|.YL _ (.dT _)=>Y2
|_=>Y1
section
variable{X:Cx}{J':List @c}{σ:L2.St}{H:Hp}{s:QR}
def Bn (X:Cx):Prop:=∃bm o,X.mg "__builtins__"=Z' (.ref bm)/\bm≠VY/\bm≠R5/\X.base.get? bm=Z' o/\o.cls=.type "module"/\o.dict=Z' VY/\o.data=.plain
end
def Qy(X:Cx)(H:Hp)(σ:L2.St):PV->V->Prop
|.fn L cs,v=>∃f c pm ct xs,v=.ref f/\H f=Z' (FnAt f (EF L (iz X.env.cells L.scope.names []) pm c ct))/\H c=Z' (BI c L.qual)/\
   (iz X.env.cells L.scope.names []).map @d=L.kept/\((iz X.env.cells L.scope.names []).map @s).Nodup/\xs.length=L.kept.length/\aV X.K H cs xs/\
   ∀(j:Nat)(y:Str),L.kept[j]?=Z' y->∃(i:Nat)(v:V),X.N[i]?=Z' y/\σ[i]?=Z' @aR/\xs[j]?=Z' v/\X.env.scope.names.lookup y=Z' .cell
|p,v=>Rep X.K H p v/\Y7 p=Y2
def KI(X:Cx)(H:Hp)(σ:L2.St):List PV->List V->Prop
|[],xs=>xs=[]
|p::ps,xs=>∃x r,xs=x::r/\Qy X H σ p x/\KI X H σ ps r
abbrev Ph:=L2.St->Hp->Prop
def Ph.Ok(Φ:Ph):Prop:=∀σ H H',Φ σ H->Yc H H'->Φ σ H'
noncomputable def tL(C:Cn)(Φ:Ph)(f:Yb->R @e):TA:=fun σ H Q=>∃ρ,View C.X.K H σ ρ/\Φ σ H/\RQ C H @u λps=>∀vs H',Yc H H'->KI C.X H' σ ps vs->Q vs H'
def ELF(C:Cn)(Φ:Ph)(es:List Expr)(f:Yb->R @e):Prop:=PA C.X es (tL C Φ f)
noncomputable def tVF(C:Cn)(Φ:Ph)(f:Yb->R PV):TE:=fun σ H Q=>Φ σ H/\tV C f σ H Q
def EVF(C:Cn)(Φ:Ph)(e:Expr)(f:Yb->R PV):Prop:=PE C.X e (tVF C Φ f)
noncomputable def tNF(C:Cn)(Φ:Ph)(f:Yb->R PV):TE:=fun σ H Q=>Φ σ H/\tN C f σ H Q
def ENF(C:Cn)(Φ:Ph)(e:Expr)(f:Yb->R PV):Prop:=PE C.X e (tNF C Φ f)
end PU
namespace PU
theorem LW[TW]{H:L2.Hp}{ts:List PySem.Addr}(e:TW.tabs=ts)(h:∀P∈ts,H P=Z' (.tbl #[])):sC H:=λP hP=>⟨#[],h P (e▸hP),trivial,λpos v h=>by cases h⟩
open PySem PySem.Spec PyProof.Rows L2
theorem fsc{N ps:List Str}{sc:Scope}(a:sc.kind=.function:=by rfl)(b:sc.isCoroutine=Y1:=by rfl)(c:sc.isGenerator=Y1:=by rfl)(d:N.Nodup:=by decide +kernel)(e:N.take ps.length=ps:=by rfl)
  (f:∀x∈ps,sc.names.lookup x=Z' .local\/sc.names.lookup x=Z' .cell:=by decide +kernel) (g:∀y∈sc.names,y.2≠.free:=by decide +kernel):Ye N ps sc:=⟨a,b,c,d,e,f,g⟩
theorem cok{N ps NX N':List Str}{S scX scope:Scope}{nt:Nat}{Xw:List Nat}(_:Ye N ps S)(e1:NX=N:=by rfl)(e2:scX=S:=by rfl)(a:scope.kind=.function:=by rfl)(b:∀y∈scope.names,y.2≠.cell:=by decide +kernel)
  (c:∀y∈scope.names,y.2=.local->scope.names.lookup y.1=Z' .local:=by decide +kernel) (d:∀y∈scope.names,y.2=.free->S.names.lookup y.1=Z' .cell\/S.names.lookup y.1=Z' .free:=by decide +kernel) (e:N'.length=nt+Xw.length:=by rfl)
  (f:(Xw.zip @lq).all (λp=>decide (N[p.1]?=Z' p.2)&&decide @oe)=Y2:=by decide +kernel):YK NX scX scope N' nt Xw:=by
 subst e1 e2;exact⟨a,b,c,d,e,f⟩
def Has(K:QO)(n:Str)(st:Stmt):Prop:=∃(f:Addr)(oc kV dc pm cd ct:Value)(od an:Option Addr)(sl:Array @bz),RK K R5 n=Z' @bC/\
 K.lookup f=Z' @mV/\Se K cd n=Y2/\Rl K @x=Y2
theorem Has.of{K:QO}{n:Str}{st:Stmt}{f:Addr}{oc kV dc pm cd ct:Value}{od an:Option Addr}{sl:Array @bz}(a:RK K R5 n=Z' @bC)
  (l:K.lookup f=Z' @mV) (c:Se K cd n=Y2) (k:Rl K @x=Y2):Has K n st:=@oc
def Hs(K:QO)(mg:Str->Option Value)(n:Str)(st:Stmt):Prop:=∃f fd,Fun K n n st f fd/\mg n=Z' @x
theorem Has.fn{K:QO}{n:Str}{st:Stmt}{h:Heap}{mg:Str->Option Value}(x:Has K n st)(X:K.In h)(G:h.Ns R5 mg):Hs K mg n st:=by
 obtain⟨f,_,_,_,_,_,_,_,_,_,a,l,c,k⟩:=x;exact@oG
variable[TW]
section
variable{C:Cn}{pos:SL}
theorem av(i:Nat){x:Str}(hN:C.X.N[i]?=Z' x:=by rfl)(hv:Z3 C.X.env.scope x:=by first|exact .inl rfl|exact .inr (.inl rfl)|exact .inr (.inr rfl))
  (hd:(x==("__debug__":Str))=Y1:=by decide) (hcd:(x==("__classdict__":Str))=Y1:=by decide):EO C @aE (Y9 i):=(aL i hN hv hd hcd).o
theorem aa{i j}:EO C @jK (kI i):=bz.o
theorem ak{i j}:EO C (.Constant (.str i) j pos) (kS i):=b5.o
theorem lb{C:Cn}{N':List Str}{scope:Scope}{cl}{L}{s}{H}{fp}(i:Nat){x:Str}(hi:N'[i]?=Z' x:=by rfl)(hx:Loc (cF C N' scope cl L s H fp).X.env.scope x:=by first|exact .inl rfl|exact .inr rfl)(hN:N'.Nodup:=by decide +kernel)
  (hf:(cF C N' scope cl L s H fp).X.fn x=Y2\/(cF C N' scope cl L s H fp).X.env.scope.names.lookup x=Z' .local:=by first|exact .inl rfl|exact .inr rfl|assumption):TCt @ab @aE (ar i):=FH i hN hi hx hf
end
section
variable{P:R8}{w:RH}{K:QO}{mg:Str->Option Value}{base:Heap}{x:Str}{st:Stmt}{N ps:List Str}{k:Nat}{g:Yb->R Fl}
theorem gI(h:Hs K mg x st)(S:Ye N ps @A)
  (Y3:∀(f:Addr)(Y5:Value)(A:RV)(outer:List Uz)(s:QR)(H:Hp)(E:XK),Yg k @eH->SVs @eF @R g)
  (hb:∀(kV doc pm:Value)(an:Option Addr)(Y5 ct:Value)(us:List Value),us.length=ps.length->VI @iU ⟨us,[]⟩=pure @bX:=by
   intro _ _ _ _ _ _ us hl;repeat' (first|(exfalso;simp only[SY]at hl;omega)|(rcases us with _|⟨_,us⟩)|rfl)):
  PF P w K mg base (k+1) x @ju:=by
 obtain⟨f,fd,F,hm⟩:=h;exact Mm F S hm @lu (Y3 f)
end
open PySem.SeqAt
noncomputable def tSF(C:Cn)(Φ:Ph)(g:Yb->R Fl):TS:=λD σ H=>Φ σ H/\tS C g D σ H
def SVF(C:Cn)(Φ:Ph)(st:List Stmt)(g:Yb->R Fl):Prop:=PSs C.X st (tSF C Φ g)
noncomputable def tBF(C:Cn)(Φ:Ph)(t:Yb->R Bool):TT:=fun σ H Q=>Φ σ H/\tBl C t σ H Q
def ETF(C:Cn)(Φ:Ph)(e:Expr)(t:Yb->R Bool):Prop:=PT C.X e (tBF C Φ t)
end PU
namespace PU
open PySem PySem.Spec PyProof.Rows L2
theorem Je(a:Addr):L2.RelV @m @m:=by unfold L2.RelV;exact rfl
theorem rep_conT {w:RH} {tabs:List Addr} {qual:Nat->Nat->Str} {K:QO} {H:Hp} {a:Addr} {o:Obj} {Xv:Array Value} {n:Nat} {xs:List V} {ps:List PV} (n2:K.lookup a=Z' o) (n3:o={cls:=.type "tuple",data:=.seq Xv n}) (hc:AE ps=Y2) (hz:Xv.size<=sizeLine) (vals:Vals xs Xv.toList) (reps:@aV @aK K H ps xs):
  @Rep @aK K H @aq @m:=by
 letI:TW:=@aK
 subst n3;exact⟨a,xs,rfl,.inr ⟨hc,.inr ⟨_,Xv,n,n2,rfl,rfl,hz,vals,rfl⟩⟩,reps⟩
theorem con_tup{w:RH}{tabs:List Addr}{qual:Nat->Nat->Str}{K:QO}{h:Heap}{mg:Str->Option Value}{x:Str}{a:Addr}{o:Obj}{Xv:Array Value}{n:Nat}{xs:List V}{ps:List PV}(X:K.In h)(G:h.Ns R5 mg)
  (n1:RK K R5 x=Z' @ag) (n2:K.lookup a=Z' o) (n3:o={cls:=.type "tuple",data:=.seq Xv n}) (hc:AE ps=Y2) (hz:Xv.size<=sizeLine) (vals:Vals xs Xv.toList) (reps:∀H,@aV @aK K H ps xs):
  @ZL @aK K mg x @aq:=by
 letI:TW:=@aK
 exact⟨.ref a,_,Sa X G n1,rfl,λH=>rep_conT n2 n3 hc hz vals (reps H)⟩
theorem con_dctT{w:RH}{tabs:List Addr}{qual:Nat->Nat->Str}{K:QO}{h:Heap}{mg:Str->Option Value}{x:Str}{a:Addr}{o:Obj}(es:List (Str×XD×Addr)){ep:Nat}{ps:List PV}(X:K.In h)(G:h.Ns R5 mg)
  (n1:RK K R5 x=Z' @ag) (n2:K.lookup a=Z' o) (n3:o={cls:=.type "dict",data:=.dict (es.map λe=>F4 w.params (e.1,e.2.1,.ref e.2.2)).toArray ep}) (hs:(a==SI)=Y1)
  (nd:(es.map @d).Nodup) (hz:es.length<=sizeLine) (reps:∀H,@aV @aK K H ps (es.map λe=>.ref e.2.2)):@ZL @aK K mg x @n9:=by
 have e1:es.map (λe=>F4 w.params (e.1,e.2.1,.ref e.2.2))=(es.map λe=>(e.1,e.2.1,RU e.2.2)).map @d0:=by rw[Rm];rfl
 rw[e1]at n3
 have:=con_dct (w:=w) (tabs:=tabs) (qual:=qual) (ps:=ps) (es.map λe=>(e.1,e.2.1,RU e.2.2)) X G n1 n2 n3 hs (by rw[Rm];exact nd) (by rw[RB];exact hz) (xs:=es.map λe=>.ref e.2.2) (by
  rw[Rm];clear e1 n3 nd hz reps
  induction es with
  |nil=>exact .nil
  |cons e es ih=>exact .cons (Je _) ih) reps
 rw[Rm]at this;exact this
end PU
namespace L2
open PySem PySem.Spec PyProof.Rows
theorem An{P:R8}{w:RH}{K:QO}{mg mb:Str->Option Value}{CX:CXT}{k:Nat}{fa a:Addr}{fd:FuncData}{x:Str}{sp:Sp}{s₁:QR}{vs:List Value}{ns:List Int}
  (KX:K.In s₁.heap) (hns:s₁.heap.Ns R5 mg) (hb:s₁.heap.Ns VY mb) (hbb:∀x:Str,x≠"__name__"->mb x=Sj x) (hlim:s₁.heap.NoLimit) (hg:s₁.gens=#[])
  (ha:s₁.heap.get? a=Z' {cls:=.type "list",data:=.seq vs.toArray}) (hi:Xr vs ns) (hl:ns.length<=sizeLine) (hr:Yg k WG)
  (F:∀base:Heap,K.In base->base.Ns R5 mg->YO P w K mg base CX k fa fd [x] sp) (hbind:∀(s:QR)(u:Value),X0 s fd ⟨[u],[]⟩ [(x,u)])
  (hsp:∀H:Hp,NB H->PU.SqF K H a @dR->sp [.ref a] H @qZ λ_ _ _=>False)
  (hCX:∀H e s',CX [] H s₁ @rk e s'->False):
  Uj @bo WG (.call @ds ⟨[.ref a],[]⟩) (λr s'=>r=.ok @lQ/\OldK s₁.heap s'.heap/\s'.os=s₁.os/\V3 s'.gens) s₁:=by
 have rv:=sI hi;have lenV:=hi.length
 have core:∀H:Hp,NB H->PU.SqF K H a @dR->Z4 P w H s₁.heap->(∀b,H b≠Y'->b=a)->(H a≠Y'->K.lookup a=Y')->
   Uj @bo WG (.call @ds ⟨[.ref a],[]⟩) (λr s'=>r=.ok @lQ/\OldK s₁.heap s'.heap/\s'.os=s₁.os/\V3 s'.gens) s₁:=by
  intro H hO hS hok hA hK;have ad8:∀{b:Addr}{o:Obj},s₁.heap.get? b=Z' o->H b=Y'->(Dr s₁.heap H).get? b=Z' o:=λe n=>Dq e n
  have noA:∀{b:Addr}{o:Obj}{es:Array DictEntry}{ep:Nat},s₁.heap.get? b=Z' o->o.data=.dict es ep->H b=Y':=λ{b o es ep} e d=>by
   cases q:H b with
   |none=>rfl
   |some u=>
    have e':b=a:=hA b (by rw[q];simp);subst e';rw[ha]at e;cases e;have d':Data.seq vs.toArray _=Data.dict es ep:=d;cases d'
  have nsK:∀{b:Addr}{m:Str->Option Value},s₁.heap.Ns b m->(Dr s₁.heap H).Ns b m:=λ{b m} ⟨o,es,ep,e,d,r⟩=>⟨o,es,ep,ad8 e (noA e d),d,r⟩
  have hKb:K.In @kt:=λb o e=>ad8 (KX b o e) (by
   cases q:H b with
   |none=>rfl
   |some u=>
    have e':b=a:=hA b (by rw[q];simp);subst e';rw[hK (by rw[q];simp)]at e;cases e)
  have hM:Mod K mg @kt:=⟨hKb,nsK hns,⟨mb,nsK hb,hbb⟩,let ⟨mc,h1,h2⟩:=hlim;⟨mc,nsK h1,h2⟩⟩;have e0:ad3 P w K mg @kt WG [] s₁ H:=⟨rfl,hM,λb o e=>Gm e,U8 (AH _ _),trivial,λb hb=>absurd (show b∈([]:List Addr)from hb) @a,hok,.of_eq hg⟩;refine UG ((F _ hKb (nsK hns)).run WG [] s₁ H ⟨[.ref a],[]⟩ [.ref a] [.ref a] _ _ hr e0 (hbind s₁ @m) (.cons rfl .nil) (hsp H hO hS)) λr s' h=>?_;cases r with
  |error e=>exact(hCX H e s' h).elim
  |ok fl=>
   cases fl with
   |next=>exact QS h
   |brk=>exact QS h
   |cont=>exact QS h
   |ret u=>
    obtain⟨v,H',os,bare,un,hok',r',q⟩:=h;have q':v=.bl Y2:=q;subst q';obtain rfl:u=WJ Y2:=r';refine⟨rfl,OldK.of_keep λb o e=>?_,os,bare⟩;cases q:H b with
    |none=>exact un.keep b o e q (by intro z;exact absurd (show b∈([]:List Addr)from z) @a) @a
    |some u=>
     rcases hO b with z|⟨ob,xs,z⟩
     .rw[q]at z;cases z
     .have z2:=un.Zj b ob _ z
      obtain⟨e1,_⟩:=hok b _ z;obtain⟨e2,_⟩:=hok' b _ z2;rw[e]at e1;cases e1;exact e2
 cases hk:K.lookup a with
|some o=>
  have e:=KX a o hk;rw[ha]at e;cases e;refine core @lI (λ_=>.inl rfl) (.inr ⟨vs,_,hk,by rw[RB];exact hl,rv⟩) (λb u z=>by have z':(Y':Option HO)=Z' u:=z;cases z') (λb z=>absurd rfl z) λz=>absurd rfl z
|none=>
  refine core (λb=>if b=a then Z' (.YL {cls:=.type "list",data:=.seq vs.toArray} (.lst @dR))else Y') (λb=>?_) (.inl ⟨{cls:=.type "list",data:=.seq vs.toArray},if_pos rfl⟩) (λb u z=>?_) (λb z=>?_) λ_=>hk
  .by_cases hb:b=a
   .exact .inr ⟨_,_,if_pos hb⟩
   .exact .inl (if_neg hb)
  .by_cases hb:b=a
   .have z':=(if_pos hb).symm.trans z
    cases z';subst hb;exact⟨ha,by rw[RB];exact hl,vs,_,rv,ha⟩
   .have z':=(if_neg hb).symm.trans z
    cases z'
  .by_cases hb:b=a
   .exact hb
   .exact absurd (if_neg hb) z
theorem ae'{l:Vw}{n k:Nat}{q:R8}{loose:List Str}{XP:(Str->Option Value)->Heap->Prop}{YP:RH->Heap->Prop}{d:DefRec}{K:Params->QO}{CX:RH->CXT}{sp:RH->Sp}{x:Str}
  (hn:l.most=Z' n) (hn2:n<=sizeLine) (hdf:d.params.defaults=[]) (hr:Yg k WG)
  (hY:∀(w:RH)(h:Heap),YP w h->(K w.params).In h)
  (F:∀(w:RH)(mg:Str->Option Value)(fa:Addr)(h:Heap),(K w.params).In h->h.Ns R5 mg->mg d.name=Z' @ds->
   ∃fd:FuncData,(∀(s:QR)(u:Value),X0 s fd ⟨[u],[]⟩ [(x,u)])/\
    ∀base:Heap,(K w.params).In base->base.Ns R5 mg->YO l.prog w @ft mg base (CX w) k fa fd [x] (sp w))
  (hsp:∀(w:RH)(H:Hp)(a:Addr)(ns:List Int),ns.length<=n->NB H->PU.SqF @ft H a @dR->sp w [.ref a] H @qZ λ_ _ _=>False)
  (hCX:∀(w:RH)(H:Hp)(s:QR)(e:Value)(s':QR),CX w [] H s @rk e s'->False):
  PySem.W.WalkO q loose XP YP l.row.toRowW d [] @j1:=by
 refine Att.ab5 hn hdf λw s₀ s₁ mg mb fa o pm cd doc a vs ns G Y ho hd hcd hmg hobj hints Xy hg=>?_;have KX:=hY w _ Y;obtain⟨fd,hb,hF⟩:=F w mg fa _ KX G.T.g hmg;exact An KX G.T.g G.T.b G.T.builtins G.T.nolimit hg hobj hints (Rg Xy hn2) hr hF hb (λH hO hS=>hsp w H a ns Xy hO hS) λH e s'=>hCX w H s₁ e s'
end L2
namespace PU
open PySem PySem.Spec PyProof.Rows L2 PySem.SeqAt
variable[TW]
def Fc(K:QO)(B H:Hp)(a b:Addr)(p:PV):Prop:=∃(kvs:List @t)(k:Key)(q:PV)(ps:List PV),p=.dct (kvs.map @d++[k]) (ps++[q])/\H a=Z' (.dK (kvs++[(k,.ref b)]))/\aV K H ps @ai/\dj K H b q/\a≠b/\B a=Y'/\B b=Y'
noncomputable def tM(C:Cn)(f:Yb->R PV):TE:=fun σ H Q=>∃ρ,View C.X.K H σ ρ/\RQ C H @u λp=>∀a b H',Yc H H'->Fc C.X.K H H' a b p->Q @m H'
def EM(C:Cn)(e:Expr)(f:Yb->R PV):Prop:=PE C.X e (tM C f)
def EDN(C:Cn)(pos:SL)(ks:List @ci)(vs:List Expr)(f:Yb->R @hY)(k:Key)(i:Nat):Prop:=∃Zp,PPs C.X pos ks vs Zp/\
 ∀σ H Q b,(∃ρ,View C.X.K H σ ρ/\σ[i]?=Z' @mj/\RQ C H @u λkps=>∀kvs H',Yc H H'->HG C.X.K H' kps kvs->Q ((kvs++[(k,V.ref b)]).map λkv=>(kV kv.1,kv.2)) H')->pN Zp σ H Q
omit [TW] in
theorem o9:∀{kvs Xx:List @t},((Xx++kvs).map @d).Nodup->jB Xx kvs=Xx++kvs
|[],Xx,_=>by simp[jB]
|kv::kvs,Xx,h=>by
  have h1:Xz Xx kv.1 kv.2=Xx++[kv]:=by
   unfold Xz;rw[if_neg];intro z;obtain⟨y,hy,e⟩:=W7.mp z;have e:y.1=kv.1:=by simpa using e
   rw[SX,TQ]at h;exact h.2.2 y.1 (UR hy) kv.1 @a e
  have:jB Xx (kv::kvs)=jB (Xz Xx kv.1 kv.2) kvs:=rfl;rw[this,h1,o9 (by simpa using h)];simp
def RM(C:Cn)(B:Bs)(D:Ends):R Fl->Prop
|.ok (.ret p)=>∀a b H,Yc B.1 H->Fc C.X.K B.1 H a b p->D.rt @m H
|_=>False
noncomputable def tSM(C:Cn)(g:Yb->R Fl):TS:=λD σ H=>∃ρ B,Yr C.X.K B H σ ρ/\RM C B D @er
def SVM(C:Cn)(st:List Stmt)(g:Yb->R Fl):Prop:=PSs C.X st (tSM C g)
end PU
namespace PU
open PySem PySem.Spec PyProof.Rows L2
inductive XO (α:Type) where
|ok (a:α) (ρ:Yb)|YV (x:PX) (ρ:Yb)|no
inductive Fb where
|next|brk|cont|ret (p:PV)|Zt (t:Tr)
namespace XO
protected noncomputable def bind{α β:Type}:XO α->(α->Yb->XO β)->XO β
|ok a ρ,f=>f a ρ
|YV x ρ,_=>YV x ρ
|no,_=>no
noncomputable def rd{α:Type}(ρ:Yb):R α->XO α
|.ok a=>ok a ρ
|.er x=>YV x ρ
|.no=>no
end XO
noncomputable def aJ(g:Yb->R Fl):Yb->XO Fb:=fun ρ=>match g ρ with
|.ok (.next ρ')=>.ok .next ρ'
|.ok (.brk ρ')=>.ok .brk ρ'
|.ok (.cont ρ')=>.ok .cont ρ'
|.ok (.ret p)=>.ok @au ρ
|.er x=>.YV x ρ
|.no=>.no
def bX{α:Type}(f:Yb->R α):Yb->XO α:=fun ρ=>XO.rd ρ @u
def cy:Yb->XO Fb:=fun ρ=>.ok .next ρ
def bM(g g':Yb->XO Fb):Yb->XO Fb:=fun ρ=>(g ρ).bind λfl ρ'=>match fl with
|.next=>g' ρ'
|fl=>.ok fl ρ'
def YS(t:Yb->XO Bool)(g g':Yb->XO Fb):Yb->XO Fb:=fun ρ=>(t ρ).bind λk ρ'=>if k=Y2 then g ρ' else g' ρ'
def v8(f:Yb->XO PV):Yb->XO Fb:=fun ρ=>(f ρ).bind λp ρ'=>.ok @au ρ'
def D3(t:Yb->XO Bool):Yb->XO Bool:=fun ρ=>(t ρ).bind λk ρ'=>.ok (!k) ρ'
def BJ(f:Yb->XO PV):Yb->XO Bool:=fun ρ=>(f ρ).bind λp ρ'=>match p with
|.bl b=>.ok b ρ'
|_=>.no
def ux(h:YT)(g:Yb->XO Fb):List PV->Yb->XO Fb
|[],ρ=>.ok .next ρ
|p::ps,ρ=>match h p ρ with
  |none=>.no
  |some ρ1=>(g ρ1).bind λfl ρ2=>match fl with
   |.next=>ux h g ps ρ2
   |.cont=>ux h g ps ρ2
   |.brk=>.ok .next ρ2
   |.ret p=>.ok @au ρ2
   |.Zt t=>.ok @f3 ρ2
def x5(fi:Yb->R @e)(h:YT)(g:Yb->XO Fb):Yb->XO Fb:=fun ρ=>(XO.rd ρ (fi ρ)).bind λps ρ=>ux h g ps ρ
variable[TW]
structure Zs where
 hp:Hp
 kp:Hp
 at_:Nat->Option @he
structure BOk(n:Nat)(Z:Zs)(B:Bs):Prop where
 lim:∀i,n<=i->Z.at_ i=Y'
 kp:B.2=Z.kp
 same:Yc Z.hp B.1
 at_:∀i q,Z.at_ i=Z' q->B.3 i=Z' q
 off:∀i a r,B.3 i=Z' (a,r)->∀b∈a::r,Z.hp b=Y'
 apart:∀i j a r a' r',B.3 i=Z' (a,r)->B.3 j=Z' (a',r')->i≠j->∀b∈a::r,b∉a'::r'
 liv:∀i a r,B.3 i=Z' (a,r)->∀b∈a::r,B.1 b≠Y'
def YC(K:QO)(n:Nat)(Z:Zs)(H:Hp)(σ:L2.St)(ρ:Yb):Prop:=∃B:Bs,Yr K B H σ ρ/\BOk n Z B
def TB(K:QO)(Z:Zs)(H:Hp)(ρ:Yb):Prop:=Yc Z.hp H/\∀i a r t,Z.at_ i=Z' (a,r)->ρ[i]?=Z' @aW->aA K H a r t
section
variable{K:QO}{n:Nat}{Z:Zs}{B:Bs}{H H':Hp}{σ:L2.St}{ρ:Yb}
theorem FI(S:Yr K B H σ ρ)(b:BOk n Z B)(s:Yc B.1 H'):TB K Z H' ρ:=
 ⟨b.same.trans s,λi a r t e1 e2=>by
  obtain⟨a',r',h1,_,h3⟩:=S.Yy i t e2;rw[b.at_ i _ e1]at h1;cases h1;exact h3.same s⟩
theorem YC.tb(h:YC K n Z H σ ρ):TB K Z H ρ:=let ⟨_,S,b⟩:=h;FI S b S.same
theorem YC.grow(h:YC K n Z H σ ρ)(s:Yc H H'):YC K n Z H' σ ρ:=let ⟨B,S,b⟩:=h;⟨B,S.grow s,b⟩
theorem YC.vw(h:YC K n Z H σ ρ):View K H σ ρ:=let ⟨_,S,_⟩:=h;S.vw
theorem YC.kpt(h:YC K n Z H σ ρ):Kp Z.kp H:=let ⟨_,S,b⟩:=h;b.kp▸S.kp
theorem BOk.rebase(b:BOk n Z B)(k:Hp):BOk n {Z with kp:=k} ⟨B.1,k,B.3⟩:=⟨b.lim,rfl,b.same,b.at_,b.off,b.apart,b.liv⟩
theorem YC.rebase(h:YC K n Z H σ ρ){k:Hp}(kp:Kp k H):YC K n {Z with kp:=k} H σ ρ:=let ⟨_,S,b⟩:=h;⟨_,S.rebase kp,b.rebase k⟩
theorem YC.back{k:Hp}(h:YC K n {Z with kp:=k} H σ ρ)(kp:Kp Z.kp k):YC K n Z H σ ρ:=by
 obtain⟨B,S,b⟩:=h;have e:B.2=k:=b.kp;exact⟨⟨B.1,Z.kp,B.3⟩,S.rebase (kp.trans (e▸S.kp)),b.lim,rfl,b.same,b.at_,b.off,b.apart,b.liv⟩
end
def RX(C:Cn)(Z:Zs){α:Type}(r:XO α)(k:α->Yb->Prop):Prop:=
 match r with
|.ok a ρ=>k a ρ
|.YV x ρ=>∀H,TB C.X.K Z H ρ->C.Ac x H
|.no=>False
section
variable{C:Cn}{n:Nat}{Z:Zs}{α β:Type}{r:XO α}{k k':α->Yb->Prop}
theorem RX.imp(h:RX C Z r k)(f:∀a ρ,r=.ok a ρ->k a ρ->k' a ρ):RX C Z r k':=by
 cases r with
|ok a ρ=>exact f a ρ rfl h
|YV x ρ=>exact h
|no=>exact h
theorem RX.bind{f:α->Yb->XO β}{m:β->Yb->Prop}(h:RX C Z (r.bind f) m):RX C Z r λa ρ=>RX C Z (f a ρ) m:=by
 cases r<;>exact h
theorem RX.rd{σ:L2.St}{H:Hp}{ρ:Yb}{q:R α}(S:YC C.X.K n Z H σ ρ)(h:RX C Z (XO.rd ρ q) k):RQ C H q λa=>k a ρ:=by
 cases q with
|ok a=>exact h
|er x=>exact λH' s=>h H' (S.grow s).tb
|no=>exact h
end
noncomputable def tX(C:Cn)(n:Nat)(f:Yb->XO PV):TE:=fun σ H Q=>∃ρ Z,YC C.X.K n Z H σ ρ/\RX C Z @u λp ρ'=>∀v H',YC C.X.K n Z H' σ ρ'->Rep C.X.K H' p v->Q v H'
def XB(C:Cn)(n:Nat)(e:Expr)(f:Yb->XO PV):Prop:=PE C.X e (tX C n f)
noncomputable def tXT(C:Cn)(n:Nat)(f:Yb->XO Bool):TT:=fun σ H Q=>∃ρ Z,YC C.X.K n Z H σ ρ/\RX C Z @u λb ρ'=>∀H',YC C.X.K n Z H' σ ρ'->Q b H'
def XT(C:Cn)(n:Nat)(e:Expr)(f:Yb->XO Bool):Prop:=PT C.X e (tXT C n f)
def Ie(C:Cn)(n:Nat)(Z:Zs)(D:Ends):Fb->Yb->Prop
|.next,ρ=>∀σ H,YC C.X.K n Z H σ ρ->D.nx σ H
|.brk,ρ=>∀σ H,YC C.X.K n Z H σ ρ->D.bk σ H
|.cont,ρ=>∀σ H,YC C.X.K n Z H σ ρ->D.ct σ H
|.ret p,ρ=>∀v H,TB C.X.K Z H ρ->Rep C.X.K H p v->D.rt v H
|.Zt t,_=>∀a r H,Yc Z.hp H->(∀b∈a::r,Z.hp b=Y')->aA C.X.K H a r t->D.rt @m H
noncomputable def tSB(C:Cn)(n:Nat)(g:Yb->XO Fb):TS:=λD σ H=>∃ρ Z,YC C.X.K n Z H σ ρ/\RX C Z @er @lt
def SB(C:Cn)(n:Nat)(st:Stmt)(g:Yb->XO Fb):Prop:=PS C.X st (tSB C n g)
def SBs(C:Cn)(n:Nat)(st:List Stmt)(g:Yb->XO Fb):Prop:=PSs C.X st (tSB C n g)
section
variable{C:Cn}{n:Nat}{st:Stmt}{sts a b body:List Stmt}{e c tg iter:Expr}{f:Yb->R PV}{fx:Yb->XO PV}{g g':Yb->XO Fb}{t:Yb->XO Bool}{pos:SL}
theorem aB{g:Yb->R Fl}(h:SV C st g):SB C n st (aJ g):=by
 intro J' s σ H D I ⟨ρ,Z,⟨B,S,b⟩,q⟩;refine h J' s σ H D I ⟨ρ,B,S,?_⟩;unfold aJ at q;cases hg:g ρ with
|ok fl=>
  rw[hg]at q;cases fl with
  |next ρ'=>exact fun σ' H' S'=>q σ' H' @hJ
  |brk ρ'=>exact fun σ' H' S'=>q σ' H' @hJ
  |cont ρ'=>exact fun σ' H' S'=>q σ' H' @hJ
  |ret p=>exact λv H' s' r'=>q v H' (FI S b s') r'
|er x=>rw[hg]at q;exact λH' s'=>q H' (FI S b s')
|no=>rw[hg]at q;exact q
theorem cf{t:Yb->R Bool}(h:ET C e t):XT C n e (bX t):=by
 sleep 15;exact h J' s σ H Q I ⟨ρ,S.vw,(RX.rd S q).imp λp _ k H' s'=>k H' (S.grow s')⟩
theorem yL(h:XB C n e fx)(he:∀whole,isTrue e C.X.env whole=(do let v<- whole;US e.pos;V2 [v] @h4):=by intro _;rfl):XT C n e (BJ fx):=by
 sleep 15;refine Ji h he J' s σ H Q I ⟨ρ,Z,S,q.bind.imp λp ρ' _ k v H' S' r=>?_⟩;cases p with
|bl b=>exact⟨b,r,k H' S'⟩
|_=>exact QS k
theorem sE(h:XT C n e t):XT C n (.UnaryOp .Not e pos) (D3 t):=by
 sleep 15;exact Em h J' s σ H Q I ⟨ρ,Z,S,q.bind.imp λb ρ' _ k H' S'=>k H' S'⟩
theorem bD:SBs C n [] cy:=λJ' s σ H D I ⟨ρ,Z,S,h⟩=>zH J' s σ H D I (h σ H S)
theorem aD(h1:SB C n st g):SBs C n [st] g:=λJ' s σ H D I h=>vb h1 J' s σ H D I h
theorem ah(h1:SB C n st g)(h2:SBs C n sts g'):SBs C n (st::sts) (bM g g'):=by
 intro J' s σ H D I ⟨ρ,Z,S,h⟩;refine mV h1 h2 J' s σ H D I ⟨ρ,Z,S,h.bind.imp λfl ρ' _ k=>?_⟩;cases fl with
|next=>exact fun σ' H' S'=>⟨ρ',Z,S',k⟩
|brk=>exact k
|cont=>exact k
|ret p=>exact k
|Zt t=>exact k
theorem eZ(hc:XT C n c t)(ha:SBs C n a g)(hb:SBs C n b g'):SB C n @kI (YS t g g'):=by
 intro J' s σ H D I ⟨ρ,Z,S,h⟩;refine Jj hc ha hb J' s σ H D I ⟨ρ,Z,S,h.bind.imp λk ρ' _ q H' S'=>?_⟩;cases k with
|true=>exact Dm @r2
|false=>exact Dn @r2
theorem kf(he:XB C n e fx):SB C n @jW (v8 fx):=by
 intro J' s σ H D I ⟨ρ,Z,S,h⟩;exact wy he J' s σ H D I ⟨ρ,Z,S,h.bind.imp λp ρ' _ k v H' S' r=>k v H' S'.tb r⟩
theorem fM:SB C n st (λ_=>.no):=λ_ _ _ _ _ _ ⟨_,_,_,h⟩=>QS h
theorem P8{h:YT}(hg:TGt C tg h){J':List @c}:PG C.X tg (λv σ H Q=>∃ρ Z p ρ',YC C.X.K n Z H σ ρ/\Rep C.X.K H p v/\h p ρ=Z' ρ'/\∀σ',YC C.X.K n Z H σ' ρ'->Q σ' H):=by
 intro J' s σ H v u Q I r ⟨ρ,Z,p,ρ',⟨B,S,b⟩,rp,e,k⟩;exact hg J' s σ H v u Q I r ⟨ρ,B,p,ρ',S,rp,e,fun σ' S'=>k σ' @hJ⟩
theorem nE{fi:Yb->R @e}{h:YT}(hi:EI C tg iter fi)(hg:TGt C tg h)(hb:SBs C n body g)
  (hs:∀x,Sx iter C.X.env x=pure x:=by intro _;rfl) (hp:Vo @an C.X.A C.X.env C.X.xe:=by exact Vl) (hc:C.X.calm=Y2:=by rfl):SB C n (.For tg iter body [] pos) (x5 fi h g):=by
 intro J' s σ H D I ⟨ρ,Z,S,q⟩;refine En hp hc hi (P8 (n:=n) (J':=J') hg) hb hs J' s σ H D I ⟨ρ,S.vw,(RX.rd S q.bind).imp λps _ k J H1 s1 it=>?_⟩;have kz:Kp Z.kp H1:=S.kpt.trans (Yc.kp s1);refine⟨λi m σ' H'=>∃ρ',m=ps.length-i/\i<=ps.length/\YC C.X.K n {Z with kp:=H1} H' σ' ρ'/\RX C Z (ux h g @lC ρ') @lt,⟨ps.length,ρ,rfl,UL _,(S.grow s1).rebase @ls,by simp_all⟩,?_⟩;rintro i m σ' H' ⟨ρ',rfl,hi',S',q'⟩;obtain⟨stp,aa6⟩:=it i H' S'.kpt
 by_cases hlt:i<ps.length
 .have ei:ps[i]?=Z' ps[i]:=by simp[hlt]
  obtain⟨go,yl⟩:=aa6 _ ei;rw[sd ei]at q';unfold ux at q';cases e1:h ps[i] ρ' with
  |none=>rw[e1]at q';exact QS q'
  |some ρ1=>
   rw[e1]at q';refine .inr ⟨go,fun σ2 H2=>∃ρ2,YC C.X.K n {Z with kp:=H1} H2 σ2 ρ2/\RX C Z (ux h g (ps.drop (i+1)) ρ2) @lt,fun σ2 H2 ⟨ρ2,S2,r2⟩=>⟨ps.length-(i+1),by omega,ρ2,rfl,hlt,S2,r2⟩,λx H2 y=>?_⟩;obtain⟨s2,rp⟩:=yl x H2 y;refine⟨ρ',{Z with kp:=H1},ps[i],ρ1,S'.grow s2,rp,e1,fun σ3 S3=>⟨ρ1,{Z with kp:=H1},S3,?_⟩⟩;have q1:=RX.bind q';cases hgr:g ρ1 with
   |ok fl ρ2=>
    rw[hgr]at q1;cases fl with
    |next=>exact fun σ4 H4 S4=>@hp
    |cont=>exact fun σ4 H4 S4=>@hp
    |brk=>exact fun σ4 H4 S4=>q1 σ4 H4 (S4.back kz)
    |ret p=>exact q1
    |Zt t=>exact q1
   |YV x ρ2=>rw[hgr]at q1;exact q1
   |no=>rw[hgr]at q1;exact q1
 .have e:i=ps.length:=by grind
  subst e;rw[W6]at q';exact .inl ⟨stp rfl,q' σ' H' (S'.back kz)⟩
end
end PU
namespace PU
open PySem PySem.Spec PyProof.Rows L2
noncomputable def iB:List Key->List YU->Key->Option YU
|k::ks,f::fs,j=>if k=j then Z' f else iB ks fs j
|_,_,_=>Y'
noncomputable def v9:List Key->List YU->Key->YU->List YU
|k::ks,f::fs,j,g=>if k=j then g::fs else f::v9 ks fs j g
|_,fs,_,_=>fs
inductive Sel where
|whole (i:Nat)|fld (i:Nat) (k:Key)|att (D:Str) (i:Nat) (x:Str)|ZU (i k:Nat)
noncomputable def pe(n:Int):Tr->Option Tr
|.two t u=>if n=0 then Z' t else if n=1 then Z' u else Y'
|_=>Y'
noncomputable def qE(n:Int)(t':Tr):Tr->Option Tr
|.two t u=>if n=0 then Z' (.two t' u)else if n=1 then Z' (.two t t')else Y'
|_=>Y'
def mS:Sel->Yb->Option Tr
|.whole i,ρ=>match ρ[i]? with
  |some (.tree t)=>Z' t
  |_=>Y'
|.fld i k,ρ=>match ρ[i]? with
  |some (.tree (.node ks fs))=>match iB ks fs k with
   |some (.own p)=>Z' @fO
   |_=>Y'
  |_=>Y'
|.att D i x,ρ=>match ρ[i]? with
  |some (.tree (.obj c ks fs))=>if c=D then (match iB @fj fs (.inr x)with
   |some (.own p)=>Z' @fO
   |_=>Y')else Y'
  |_=>Y'
|.ZU i k,ρ=>match ρ[i]?,ρ[k]? with
  |some (.tree t),Z' (.val (.int n))=>pe n t
  |_,_=>Y'
def dJ:Sel->Tr->Yb->Option Yb
|.whole i,t,ρ=>Z' @kB
|.fld i k,.leaf p,ρ=>match ρ[i]? with
  |some (.tree (.node ks fs))=>Z' (ρ.set i (.tree (.node ks (v9 ks fs k @aX))))
  |_=>Y'
|.att _ i x,.leaf p,ρ=>match ρ[i]? with
  |some (.tree (.obj c ks fs))=>Z' (ρ.set i (.tree (.obj c ks (v9 @fj fs @b2 @aX))))
  |_=>Y'
|.ZU i k,t',ρ=>match ρ[i]?,ρ[k]? with
  |some (.tree t),Z' (.val (.int n))=>(qE n t' t).map λt=>ρ.set i @aW
  |_,_=>Y'
|_,_,_=>Y'
open Classical in
noncomputable def Yz(H:Hp)(l:List Addr):Hp:=λb=>if b∈l then Y' else H b
theorem eJ{H:Hp}{l:List Addr}{b:Addr}(h:b∈l):Yz H l b=Y':=by unfold Yz;rw[if_pos h]
theorem b6{H:Hp}{l:List Addr}{b:Addr}(h:b∉l):Yz H l b=H b:=by unfold Yz;rw[if_neg h]
variable[TW]
section
variable{K:QO}{n:Nat}{H H':Hp}{a:Addr}{r:List Addr}{t:Tr}{fs:List YU}{xs:List V}
theorem bo.off(k:Kp H H'):∀{fs:List YU}{r:List Addr}{xs:List V},(∀c∈r,H' c=H c)->bo K H r fs xs->bo K H' r fs xs
|[],_,_,_,h=>h
|.val p::fs,_,_,o,⟨x,ys,e,h,t⟩=>⟨x,ys,e,h.kp k,bo.off k o t⟩
|.own p::fs,_,_,o,⟨b,r',ys,e1,e2,h,t⟩=>by
  subst e1;exact⟨b,r',ys,rfl,e2,h.kp k (o b @a),bo.off k (λc hc=>o c (by simp[hc])) t⟩
theorem aA.off(k:Kp H H')(o:∀c∈a::r,H' c=H c)(h:aA K H a r t):aA K H' a r t:=by
 induction t generalizing a r with
|leaf p=>exact⟨h.1,h.2.kp k (o a @a)⟩
|node ks fs=>
  obtain⟨n,kvs,e,ek,f⟩:=h;exact⟨n,kvs,by simp_all,ek,f.off k λc hc=>o c (by simp[hc])⟩
|obj c ks fs=>
  obtain⟨n,C,dx,r',vs,hc,er,e,eo,ek,f⟩:=h;subst er;exact⟨n,C,dx,r',vs,hc,rfl,by simp_all,by simp_all,ek,f.off k λc hc=>o c (by simp[hc])⟩
|two t u i j=>
  obtain⟨n,b,q,c,l,er,e,h1,h2⟩:=h;subst er;exact⟨n,b,q,c,l,rfl,by simp_all,i (λd hd=>o d (by simp at hd ⊢;grind)) h1,j (λd hd=>o d (by simp at hd ⊢;grind)) h2⟩
theorem bo.obj:∀{fs:List YU}{r:List Addr}{xs:List V},bo K H r fs xs->∀b∈r,∃u,H b=Z' u/\rG u=Y1/\su u=Y1
|[],_,_,⟨e,_⟩,b,hb=>by simp_all
|.val p::fs,_,_,⟨x,ys,e,h,t⟩,b,hb=>bo.obj t b hb
|.own p::fs,_,_,⟨c,r',ys,e1,e2,h,t⟩,b,hb=>by
  subst e1;rcases R7.mp hb with z|z
  .subst z
   obtain⟨u,hu,_⟩:=h.obj;exact@ql
  .exact bo.obj t b z
theorem aA.obj(h:aA K H a r t):∀b∈a::r,∃u,H b=Z' u/\rG u=Y1/\su u=Y1:=λb hb=>by
 induction t generalizing a r with
|leaf p=>
  obtain⟨e,h⟩:=h;subst e;rcases R7.mp hb with z|z
  .subst z
   obtain⟨u,hu,_⟩:=h.obj;exact@ql
  .simp at z
|node ks fs=>
  obtain⟨n,kvs,e,ek,f⟩:=h;rcases R7.mp hb with z|z
  .subst z
   exact@kf
  .exact f.obj b z
|obj c ks fs=>
  obtain⟨n,C,dx,r',vs,hc,er,e,eo,ek,f⟩:=h;subst er;rcases R7.mp hb with z|z
  .subst z
   exact@kf
  .rcases R7.mp z with z|z
   .subst z
    exact⟨_,eo,rfl,rfl⟩
   .exact f.obj b z
|two t u i j=>
  obtain⟨n,b',q,c,l,er,e,h1,h2⟩:=h;subst er;rcases R7.mp hb with z|z
  .subst z
   exact@kf
  .rcases Ra.mp z with z|z
   .exact i h1 z
   .exact j h2 z
theorem TOk.sub{H H':Hp}{ps:Array Value}(h:∀b u,H b=Z' u->rG u=Y2->H' b=Z' u)(t:TOk H ps):TOk H' ps:=t.kp h
theorem Yc.cut(l:List Addr):Yc (Yz H l) H:=.of λb o e=>by
 grind[eJ,b6]
theorem YC.swap{Z:Zs}{σ:L2.St}{ρ:Yb}{i:Nat}{t0:Tr}(S:YC K n Z H σ ρ)(ei:ρ[i]?=Z' (.tree t0)):∃a0 r0,σ[i]?=Z' @hz/\aA K H a0 r0 t0/\
  ∀(l:List Addr)(H':Hp)(t':Tr),(∀b∈l,b∈a0::r0)->Yc (Yz H l) H'->aA K H' a0 r0 t'->YC K n Z H' σ @jN:=by
 obtain⟨B,S,bk⟩:=S;obtain⟨a0,r0,e3,es,ht0⟩:=S.Yy i t0 ei;have hT:aA K H a0 r0 t0:=ht0.same S.same;refine⟨a0,r0,es,hT,λl H' t' hl hs ht=>?_⟩
 have mutb:∀b∈l,∀u,H b=Z' u->rG u=Y1/\su u=Y1:=λb hb u hu=>by
  obtain⟨u',hu',h1⟩:=hT.obj b (hl b hb)
  simp_all
 have kp:Kp H H':=λb u e f=>by
  have hb:b∉l:=λz=>by grind
  refine hs.at_ b u (by rw[b6 hb];exact e) ?_;cases u<;>first|rfl|cases f
 have stay:∀c,c∉l->∀u,H c=Z' u->su u=Y1->H' c=H c:=λc hc u e n=>by
  rw[e];exact hs.at_ c u (by rw[b6 hc];exact e) n
 have tab:∀P ps,H P=Z' @fL->TOk H ps->∃ps',H' P=Z' (.tbl ps')/\TOk H' ps':=λP ps e k=>by
  have hP:P∉l:=λz=>by have:=(mutb P z _ e).2;cases this
  obtain⟨ps',e',k'⟩:=hs.tb P ps (by rw[b6 hP];exact e);refine⟨ps',e',k' (k.sub λb u eb f=>?_)⟩
  grind[b6]
 let O:Addr->Prop:=λc=>∃(j:Nat)(p:PV),ρ[j]?=Z' @aX/\σ[j]?=Z' (Z' @fY)
 have oB:∀c,O c->B.1 c=Y':=λc ⟨j,p,e1,e2⟩=>S.fresh j p c e1 e2
 have oH:∀c,O c->∃u,H c=Z' u/\rG u=Y1/\su u=Y1:=λc ⟨j,p,e1,e2⟩=>by
  obtain⟨c',e2',w⟩:=S.vw j _ e1;rw[e2]at e2';cases e2';obtain⟨u,hu,_⟩:=w.obj;exact@qk
 have tn:∀j a r,B.3 j=Z' (a,r)->∀t,ρ[j]?=Z' @aW->∀c∈a::r,¬ O c:=λj a r e t et c hc o=>by
  obtain⟨a',r',e',_,ht'⟩:=S.Yy j t et;rw[e]at e';cases e';obtain⟨u,hu,_⟩:=ht'.obj c hc
  simp_all
 classical
 let B1:Hp:=λc=>if O c then Y' else H' c
 have b1o:∀c,O c->B1 c=Y':=λc h=>if_pos h;have b1n:∀c,¬ O c->B1 c=H' c:=λc h=>if_neg h;have oL:∀c,O c->c∉l:=λc h z=>tn i a0 r0 e3 t0 ei c (hl c z) h
 have oH':∀c,O c->∃u,H' c=Z' u/\rG u=Y1/\su u=Y1:=λc h=>by
  obtain⟨u,hu,h1,h2⟩:=oH c h
  simp_all
 have k1:Kp H' B1:=λb u e f=>by
  have:¬ O b:=λo=>by
   obtain⟨u',hu',h1,_⟩:=oH' b o
   simp_all
  simp_all
 have s1:Yc B1 H':=.of λb o e=>by
  grind
 have sz:Yc Z.hp H:=bk.same.trans S.same
 have zl:∀b o,Z.hp b=Z' o->b∉l:=λb o e z=>by
  rw[bk.off i a0 r0 e3 b (hl b z)]at e;cases e
 have zo:∀b o,Z.hp b=Z' o->su o=Y1->¬ O b:=λb o e n h=>by
  have:=bk.same.at_ b o e n
  simp_all
 have Zp:∀j t a r,j≠i->ρ[j]?=Z' @aW->B.3 j=Z' (a,r)->aA K B.1 a r t->aA K B1 a r t:=λj t a r hj et e h=>by
  have hd:=bk.apart j i a r a0 r0 e e3 hj
  have h1:aA K H' a r t:=aA.off kp (λc hc=>by
   obtain⟨u,hu,_,n⟩:=(h.same S.same).obj c hc
   grind) (h.same S.same)
  exact h1.off k1 λc hc=>b1n c (tn j a r e t et c hc)
 have ZM:aA K B1 a0 r0 t':=ht.off k1 λc hc=>b1n c (tn i a0 r0 e3 t0 ei c hc);refine⟨⟨B1,B.2,B.3⟩,⟨by simp[S.len],s1,S.kp.trans kp,⟨λj x ej=>?_,λP hP=>?_⟩,λj q c ej fj=>?_,λj m q q' c e1 e2 f1 f2=>?_,λj t ej=>?_⟩,bk.lim,bk.kp,⟨λb o e n=>?_,λb ps e=>?_⟩,bk.at_,bk.off,bk.apart,λj a r e b hb=>?_⟩
 .rcases bp ej with⟨rfl,rfl,_⟩|⟨hj,ej⟩
  .exact⟨a0,r0,es,ht⟩
  .have hx:=S.vw j x ej
   cases x with
   |no=>exact trivial
   |val q=>obtain⟨v,e1,rq⟩:=hx;exact@qP
   |own q=>
    obtain⟨c,e1,rq⟩:=hx;obtain⟨u,hu,_,n⟩:=oH c @sn;exact⟨c,e1,rq.kp kp (stay c (oL c @sn) u hu n)⟩
   |tree t=>
    obtain⟨a,r,e1,e2,h⟩:=S.Yy j t ej;exact⟨a,r,e2,(Zp j t a r hj ej e1 h).same s1⟩
   |exc y=>exact hx.exk kp
 .obtain⟨ps,e,k⟩:=S.vw.tb P hP
  simp_all
 .rcases bp ej with⟨_,z,_⟩|⟨hj,ej⟩
  .cases z
  .exact b1o c @sm
 .rcases bp e1 with⟨_,z,_⟩|⟨_,e1⟩
  .cases z
  .rcases bp e2 with⟨_,z,_⟩|⟨_,e2⟩
   .cases z
   .exact S.apart j m q q' c e1 e2 f1 f2
 .rcases bp ej with⟨rfl,z,_⟩|⟨hj,ej⟩
  .grind
  .obtain⟨a,r,e1,e2,h⟩:=S.Yy j t ej
   grind
 .have:=sz.at_ b o e n
  simp_all
 .obtain⟨p1,e1,k1'⟩:=sz.tb b ps e
  have hP:b∉l:=zl b _ e;obtain⟨p2,e2,k2⟩:=hs.tb b p1 (by rw[b6 hP];exact e1)
  have nb:¬ O b:=λo=>by
   obtain⟨u,hu,_,n⟩:=oH b o;rw[e1]at hu;cases hu;cases n
  refine⟨p2,by simp_all,λtk=>?_⟩;refine(k2 ((k1' tk).sub λc u ec f=>?_)).sub k1
  grind[b6]
 .have hB:=bk.liv j a r e b hb
  have nO:¬ O b:=λo=>hB (oB b o);show B1 b≠Y';rw[b1n b nO]
  by_cases hj:j=i
  .subst hj
   rw[e3]at e;cases e;obtain⟨u,hu,_⟩:=ht.obj b hb
   simp_all
  .have hl':b∉l:=λz=>bk.apart j i a r a0 r0 e e3 hj b hb (hl b z)
   cases hu:B.1 b with
   |none=>simp_all
   |some u=>
    intro z;have s2:Yc B.1 H:=S.same
    have hn:H b=Y':=by
     have:=hs.free z;rw[b6 hl']at this;exact this
    rw[s2.free hn]at hu;cases hu
end
end PU
namespace PU
open PySem PySem.Spec PyProof.Rows L2
def BR(i:Nat)(k:Key):Yb->R PV:=fun ρ=>match ρ[i]? with
|some (.tree (.node ks fs))=>match iB ks fs k with
  |some (.val p)=>.ok p
  |some (.own p)=>.ok p
  |none=>.no
|_=>.no
def AS(i:Nat)(k:Key)(f:Yb->R PV):Yb->XO Fb:=fun ρ=>match ρ[i]? with
|some (.tree (.node ks fs))=>match iB ks fs k with
  |some (.val _)=>if ks.Nodup/\ks.length<16777216 then (XO.rd ρ @u).bind λp ρ=>.ok .next (ρ.set i (.tree (.node ks (v9 ks fs k @cr))))else .no
  |_=>.no
|_=>.no
def KC(s:Sel)(f:Yb->R PV):Yb->XO Fb:=fun ρ=>match mS s ρ with
|some (.leaf (.lst ps))=>(XO.rd ρ @u).bind λp ρ=>if ps.length<16777216 then (match dJ s @lv ρ with
  |some ρ'=>.ok .next ρ'
  |none=>.no)else .no
|_=>.no
def nj(s:Sel)(fk fv:Yb->R PV):Yb->XO Fb:=fun ρ=>match mS s ρ with
|some (.leaf (.dct ks ps))=>(XO.rd ρ (fv ρ)).bind λp ρ=>(XO.rd ρ (fk ρ)).bind λkp ρ=>match iG kp with
  |none=>.no
  |some k=>if ks.length<16777216 then (match dJ s (.leaf @fc) ρ with
   |some ρ'=>.ok .next ρ'
   |none=>.no)else .no
|_=>.no
variable[TW]
section
variable{K:QO}{H:Hp}
theorem bo.Zf{k:Key}{p:PV}:∀{fs:List YU}{r:List Addr}{kvs:List @t},bo K H r fs @ai->iB @ay fs k=Z' @aX->
  ∃b,b∈r/\pj kvs k=Z' @bZ/\dj K H b p/\∀(H':Hp)(p':PV),r.Nodup->Kp H H'->(∀c∈r,c≠b->H' c=H c)->dj K H' b p'->bo K H' r (v9 @ay fs k (.own p')) @ai
|[],r,kvs,_,e=>by
  exfalso
  cases kvs with
  |nil=>cases e
  |cons kv kvs=>cases e
|.val q::fs,r,kvs,h,e=>by
  obtain⟨x,ys,ex,hq,ht⟩:=h;cases kvs with
  |nil=>cases ex
  |cons kv kvs=>
   injection ex with ex1 ex2;subst ex1 ex2
   by_cases hk:kv.1=k
   .grind[iB]
   .have e:(if kv.1=k then Z' (YU.val q)else iB @ay fs k)=Z' @aX:=e
    rw[if_neg hk]at e;obtain⟨b,h1,h2,h3,h4⟩:=bo.Zf ht e;refine⟨b,h1,by rw[eN hk];exact h2,h3,λH' p' nd kp o n=>?_⟩;show bo K H' r (if kv.1=k then _ else _) _;rw[if_neg hk];exact⟨_,_,rfl,hq.kp kp,h4 H' p' nd kp o n⟩
|.own q::fs,r,kvs,h,e=>by
  obtain⟨b,r',ys,er,ex,hq,ht⟩:=h;cases kvs with
  |nil=>cases ex
  |cons kv kvs=>
   injection ex with ex1 ex2;subst ex2 er
   by_cases hk:kv.1=k
   .have e:(if kv.1=k then Z' (YU.own q)else iB @ay fs k)=Z' @aX:=e
    rw[if_pos hk]at e;cases e;refine⟨b,by simp,by grind[i7],hq,λH' p' nd kp o n=>?_⟩;show bo K H' _ (if kv.1=k then _ else _) _;rw[if_pos hk];refine⟨b,r',_,rfl,by simp_all,n,ht.off kp λc hc=>o c (by simp[hc]) λz=>?_⟩
    simp_all
   .have e:(if kv.1=k then Z' (YU.own q)else iB @ay fs k)=Z' @aX:=e
    rw[if_neg hk]at e;obtain⟨c,h1,h2,h3,h4⟩:=bo.Zf ht e;refine⟨c,by simp[h1],by rw[eN hk];exact h2,h3,λH' p' nd kp o n=>?_⟩;show bo K H' _ (if kv.1=k then _ else _) _;rw[if_neg hk];have nd':=RT.mp nd;exact⟨b,r',_,rfl,by simp_all,hq.kp kp (o b @a λz=>nd'.1 (z▸h1)),h4 H' p' nd'.2 kp (λd hd=>o d (by simp[hd])) n⟩
theorem bo.Ze{k:Key}{p:PV}:∀{fs:List YU}{r:List Addr}{kvs:List @t},bo K H r fs @ai->iB @ay fs k=Z' @cr->
  ∃v,pj kvs k=Z' v/\Rep K H p v/\∀(H':Hp)(p':PV)(v':V),(kvs.map @d).Nodup->Kp H H'->(∀c∈r,H' c=H c)->Rep K H' p' v'->
   bo K H' r (v9 @ay fs k (.val p')) ((kvs.map λkv=>if kv.1=k then (kv.1,v')else kv).map @s)
|[],r,kvs,_,e=>by
  exfalso
  cases kvs with
  |nil=>cases e
  |cons kv kvs=>cases e
|.val q::fs,r,kvs,h,e=>by
  obtain⟨x,ys,ex,hq,ht⟩:=h;cases kvs with
  |nil=>cases ex
  |cons kv kvs=>
   injection ex with ex1 ex2;subst ex1 ex2
   by_cases hk:kv.1=k
   .have e:(if kv.1=k then Z' (YU.val q)else iB @ay fs k)=Z' @cr:=e
    rw[if_pos hk]at e;cases e;refine⟨kv.2,by rw[i7 hk],hq,λH' p' v' nd kp o n=>?_⟩;show bo K H' _ (if kv.1=k then _ else _) _;rw[if_pos hk,RG,if_pos hk];have nd':=RT.mp nd
    have hz:kvs.map (λkv=>if kv.1=k then (kv.1,v')else kv)=kvs:=by
     conv=>rhs;rw[<-List.map_id kvs]
     refine Sy λy hy=>if_neg λz=>nd'.1 ?_;show kv.1∈_;rw[hk,<-z];exact UR (f:=@d) hy
    rw[hz];exact⟨v',_,rfl,n,ht.off kp o⟩
   .have e:(if kv.1=k then Z' (YU.val q)else iB @ay fs k)=Z' @cr:=e
    rw[if_neg hk]at e;obtain⟨v,h2,h3,h4⟩:=bo.Ze ht e;refine⟨v,by rw[eN hk];exact h2,h3,λH' p' v' nd kp o n=>?_⟩;show bo K H' r (if kv.1=k then _ else _) _;rw[if_neg hk,RG,if_neg hk];exact⟨_,_,rfl,hq.kp kp,h4 H' p' v' (RT.mp nd).2 kp o n⟩
|.own q::fs,r,kvs,h,e=>by
  obtain⟨b,r',ys,er,ex,hq,ht⟩:=h;cases kvs with
  |nil=>cases ex
  |cons kv kvs=>
   injection ex with ex1 ex2;subst ex2 er
   by_cases hk:kv.1=k
   .grind[iB]
   .have e:(if kv.1=k then Z' (YU.own q)else iB @ay fs k)=Z' @cr:=e
    rw[if_neg hk]at e;obtain⟨v,h2,h3,h4⟩:=bo.Ze ht e;refine⟨v,by rw[eN hk];exact h2,h3,λH' p' v' nd kp o n=>?_⟩;show bo K H' _ (if kv.1=k then _ else _) _;rw[if_neg hk,RG,if_neg hk];exact⟨b,r',_,rfl,by simp_all,hq.kp kp (o b @a),h4 H' p' v' (RT.mp nd).2 kp (λd hd=>o d (by simp[hd])) n⟩
end
def Ic(K:QO)(H:Hp)(σ:L2.St):Sel->Addr->Prop
|.whole i,a=>σ[i]?=Z' @ag
|.fld i k,a=>∃a0 kvs,σ[i]?=Z' @hz/\H a0=Z' @ah/\pj kvs k=Z' @m
|.att D i x,a=>∃a0 C dx vs,RK K R5 D=Z' @U/\σ[i]?=Z' @hz/\H a0=Z' @tA/\vs.lookup x=Z' @m
|.ZU i k,a=>∃a0 xs n,σ[i]?=Z' @hz/\H a0=Z' @ae/\σ[k]?=Z' (Z' @iD)/\Yu xs n=Z' @m
theorem jY{x:Str}:∀vs:List @a9,pj (vs.map λp=>((Rp p.1:Key),p.2)) @b2=vs.lookup x
|[]=>rfl
|p::vs=>by
  rw[RG]
  by_cases h:p.1=x
  .grind[i7,XI]
  .rw[eN (show ¬ (Rp p.1:Key)=.inr x from λz=>h (V6 z)),jY vs]
   grind
theorem aA.sub{K:QO}{H:Hp}{a:Addr}{r:List Addr}{T t:Tr}{n:Int}(h:aA K H a r T)(e:pe n T=Z' t):∃b q xs,H a=Z' @ae/\Yu xs n=Z' @bZ/\(∀c∈b::q,c∈r)/\a∉b::q/\aA K H b q t/\
  ∀(H':Hp)(t' T':Tr),qE n t' T=Z' T'->Kp H H'->(∀c∈a::r,c∉b::q->H' c=H c)->aA K H' b q t'->aA K H' a r T':=by
 cases T with
|two t0 t1=>
  obtain⟨nd,b,q,c,l,er,ea,h1,h2⟩:=h;subst er;have nd1:=RT.mp nd;have nd2:=TQ.mp nd1.2;have ZN:∀x∈b::q,x∉c::l:=λx hx hy=>nd2.2.2 x hx x hy rfl;have e:(if n=0 then Z' t0 else if n=1 then Z' t1 else Y')=Z' t:=e;split at e
  .rename_i hn
   subst hn;cases e;refine⟨b,q,_,ea,rfl,λx hx=>SD _ hx,λz=>nd1.1 (SD _ z),h1,λH' t' T' ep kp o ht=>?_⟩;cases ep;exact⟨nd,b,q,c,l,rfl,by rw[o a @a λz=>nd1.1 (SD _ z)];exact ea,ht,h2.off kp λx hx=>o x (R6 _ (RN _ hx)) λz=>ZN x z hx⟩
  .split at e
   .rename_i _ hn
    subst hn;cases e;refine⟨c,l,_,ea,rfl,λx hx=>RN _ hx,λz=>nd1.1 @iz,h2,λH' t' T' ep kp o ht=>?_⟩;cases ep;exact⟨nd,b,q,c,l,rfl,by rw[o a @a λz=>nd1.1 @iz];exact ea,h1.off kp λx hx=>o x (R6 _ (SD _ hx)) (ZN x hx),ht⟩
   .cases e
|leaf p=>cases e
|node _ _=>cases e
|obj _ _ _=>cases e
theorem YC.sel{K:QO}{n:Nat}{Z:Zs}{H:Hp}{σ:L2.St}{ρ:Yb}{s:Sel}{t:Tr}(S:YC K n Z H σ ρ)(e:mS s ρ=Z' t):∃a r,Ic K H σ s a/\aA K H a r t/\
  ∀(H':Hp)(t':Tr)(ρ':Yb),dJ s t' ρ=Z' ρ'->Yc (Yz H (a::r)) H'->aA K H' a r t'->YC K n Z H' σ ρ':=by
 cases s with
|whole i=>
  simp only[mS]at e;split at e
  .rename_i t0 e0
   cases e;obtain⟨a,r,h1,h2,h3⟩:=S.swap e0;refine⟨a,r,h1,h2,λH' t' ρ' ep s ht=>?_⟩;cases ep;exact h3 (a::r) H' t' @hK s ht
  .cases e
|fld i k=>
  simp only[mS]at e;split at e
  .rename_i ks fs e0
   split at e
   .rename_i p el
    cases e;obtain⟨a0,r0,h1,h2,h3⟩:=S.swap e0;obtain⟨nd,kvs,h4,ek,h5⟩:=id h2;subst ek;obtain⟨b,hb,hv,hn,hup⟩:=h5.Zf el;refine⟨b,[],⟨a0,kvs,h1,h4,hv⟩,⟨rfl,hn⟩,λH' t' ρ' ep s ht=>?_⟩;cases t' with
    |node _ _=>cases ep
    |obj _ _ _=>cases ep
    |two _ _=>cases ep
    |leaf p'=>
     simp only[dJ,e0]at ep;cases ep
     have nb:∀c,c≠b->∀u,H c=Z' u->su u=Y1->H' c=H c:=λc hc u hu ht'=>by
      rw[hu];exact s.at_ c u (by rw[b6 (by simpa using hc)];exact hu) ht'
     obtain⟨ub,hub,fb,_⟩:=h2.obj b (by simp[hb])
     have kp:Kp H H':=λc u hu f=>by
      have hc:c≠b:=λz=>by
       subst z;rw[hub]at hu;cases hu;rw[fb]at f;cases f
      rw[nb c hc u hu (by cases u<;>first|rfl|cases f)]
      exact hu
     have ha:a0≠b:=λz=>(RT.mp nd).1 (z▸hb);refine h3 [b] H' _ (λc hc=>by have:=Sd.mp hc;subst this;simp[hb]) s ⟨nd,kvs,by rw[nb a0 ha _ h4 rfl];exact h4,rfl,hup H' p' (RT.mp nd).2 kp (λc hc z=>?_) ht.2⟩;obtain⟨u,hu,_,tb⟩:=h2.obj c (by simp[hc]);exact nb c z u hu tb
   .cases e
  .cases e
|att D i x=>
  simp only[mS]at e;split at e
  .rename_i c0 ks fs e0
   split at e
   .rename_i hD
    subst hD;split at e
    .rename_i p el
     cases e;obtain⟨a0,r0,h1,h2,h3⟩:=S.swap e0;obtain⟨nd,C,dx,r',vs,hc,er,h4,h4',ek,h5⟩:=id h2;subst ek er;have m1:(vs.map λp=>((Rp p.1:Key),p.2)).map @d=(vs.map @d).map .inr:=by rw[Rm,Rm];rfl
     have m2:(vs.map λp=>((Rp p.1:Key),p.2)).map @s=vs.map @s:=by rw[Rm];rfl
     rw[<-m2]at h5;rw[<-m1]at el;obtain⟨b,hb,hv,hn,hup⟩:=h5.Zf el;rw[jY]at hv;refine⟨b,[],⟨a0,C,dx,vs,hc,h1,h4,hv⟩,⟨rfl,hn⟩,λH' t' ρ' ep s ht=>?_⟩;cases t' with
     |node _ _=>cases ep
     |obj _ _ _=>cases ep
     |two _ _=>cases ep
     |leaf p'=>
      simp only[dJ,e0]at ep;cases ep
      have nb:∀c,c≠b->∀u,H c=Z' u->su u=Y1->H' c=H c:=λc hc u hu ht'=>by
       rw[hu];exact s.at_ c u (by rw[b6 (by simpa using hc)];exact hu) ht'
      obtain⟨ub,hub,fb,_⟩:=h2.obj b (by simp[hb])
      have kp:Kp H H':=λc u hu f=>by
       have hc:c≠b:=λz=>by
        subst z;rw[hub]at hu;cases hu;rw[fb]at f;cases f
       rw[nb c hc u hu (by cases u<;>first|rfl|cases f)]
       exact hu
      have nd1:=RT.mp nd;have nd2:=RT.mp nd1.2;have ha:a0≠b:=λz=>nd1.1 (z▸by simp[hb]);have hd:dx≠b:=λz=>nd2.1 (z▸hb);refine h3 [b] H' _ (λc hc=>by have:=Sd.mp hc;subst this;simp[hb]) s ⟨nd,C,dx,r',vs,hc,rfl,by rw[nb a0 ha _ h4 rfl];exact h4,by rw[nb dx hd _ h4' rfl];exact h4',rfl,?_⟩
      have:=hup H' p' nd2.2 kp (λc hc z=>by
       obtain⟨u,hu,_,tb⟩:=h2.obj c (by simp[hc]);exact nb c z u hu tb) ht.2
      rw[m1,m2]at this;exact this
    .cases e
   .cases e
  .cases e
|ZU i k=>
  simp only[mS]at e;split at e
  .rename_i T m e0 e1
   obtain⟨a0,r0,h1,h2,h3⟩:=S.swap e0;obtain⟨b,q,xs,ha,hx,hsub,hna,ht,hup⟩:=h2.sub e;obtain⟨v,ev,rv⟩:=S.vw k _ e1;cases (show v=.int m from rv);refine⟨b,q,⟨a0,xs,m,h1,ha,ev,hx⟩,ht,λH' t' ρ' ep s ht'=>?_⟩;simp only[dJ,e0,e1]at ep;obtain⟨T',eT,eρ⟩:=RJ.mp ep;subst eρ
   have nb:∀c,c∉b::q->∀u,H c=Z' u->su u=Y1->H' c=H c:=λc hc u hu ht'=>by
    rw[hu];exact s.at_ c u (by rw[b6 hc];exact hu) ht'
   have kp:Kp H H':=λc u hu f=>by
    have hc:c∉b::q:=λz=>by
     obtain⟨u',hu',fb,_⟩:=ht.obj c z;rw[hu']at hu;cases hu;rw[fb]at f;cases f
    rw[nb c hc u hu (by cases u<;>first|rfl|cases f)]
    exact hu
   refine h3 (b::q) H' T' (λc hc=>R6 _ (hsub c hc)) s (hup H' t' T' eT kp (λc hc hn=>?_) ht');obtain⟨u,hu,_,tb⟩:=h2.obj c hc;exact nb c hn u hu tb
  .cases e
noncomputable def z6(K:QO)(s:Sel):TE:=fun σ H Q=>∃a,Ic K H σ s a/\Q @m H
section
variable{C:Cn}{n:Nat}
theorem iS (i:Nat) {x:Str} {pos:SL} (hN:C.X.N[i]?=Z' x:=by rfl) (hv:Z3 C.X.env.scope x:=by first|exact .inl rfl|exact .inr (.inl rfl)|exact .inr (.inr rfl)) (hd:(x==("__debug__":Str))=Y1:=by decide) (hcd:(x==("__classdict__":Str))=Y1:=by decide):
  PE C.X @aE (z6 C.X.K @ee):=λJ' s σ H Q I ⟨a,h,q⟩=>bR hN hv hd hcd J' s σ H Q I ⟨_,h,q⟩
theorem vj (i:Nat) {x y:Str} {j} {np kp pos:SL} (hu:C.X.A.units+64<cLine) (hN:C.X.N[i]?=Z' x:=by rfl) (hv:Z3 C.X.env.scope x:=by first|exact .inl rfl|exact .inr (.inl rfl)|exact .inr (.inr rfl)) (hd:(x==("__debug__":Str))=Y1:=by decide) (hcd:(x==("__classdict__":Str))=Y1:=by decide):
  PE C.X @o2 (z6 C.X.K (.fld i @cR)):=λJ' s σ H Q I ⟨a,⟨a0,kvs,h1,h2,h3⟩,q⟩=>
 vm @b @ax nY @dS J' s σ H Q I ⟨_,h1,a0,.ref a,rfl,by rw[<-h3];exact Fi.k (k:=.inr y) h2,q⟩
theorem B5 (i:Nat) {x y:Str} {j} {np kp pos:SL} (hu:C.X.A.units+64<cLine) (hN:C.X.N[i]?=Z' x:=by rfl) (hv:Z3 C.X.env.scope x:=by first|exact .inl rfl|exact .inr (.inl rfl)|exact .inr (.inr rfl)) (hd:(x==("__debug__":Str))=Y1:=by decide) (hcd:(x==("__classdict__":Str))=Y1:=by decide):
  EO C @o2 (BR i @cR):=by
 sleep 1;unfold BR at q;split at q
 .rename_i ks fs e0
  obtain⟨a,r,ea,nd,kvs,ha,ek,hf⟩:=vw i _ e0;subst ek;split at q
  .rename_i p el
   obtain⟨v,h1,h2,_⟩:=hf.Ze el;exact vm @b @ax nY @dS J' s σ H Q I ⟨_,ea,a,v,rfl,by rw[<-h1];exact Fi.k (k:=.inr y) ha,q v H @p h2.o⟩
  .rename_i p el
   obtain⟨b,_,h1,h2,_⟩:=hf.Zf el;exact vm @b @ax nY @dS J' s σ H Q I ⟨_,ea,a,.ref b,rfl,by rw[<-h1];exact Fi.k (k:=.inr y) ha,q _ H @p h2.o⟩
  .exact QS q
 .exact QS q
theorem dI{H:Hp}{a:Addr}{r:List Addr}{u u':HO}(hu:H a=Z' u)(nf:rG u=Y1)(nf':rG u'=Y1):Yc (Yz H (a::r)) @mx:=by
 have k:Kp H @mx:=Kp.upd hu nf;refine⟨λb o e n=>?_,λb ps e=>?_⟩
 .grind[eJ,b6,ai]
 .have hb:b∉a::r:=λz=>by rw[eJ z]at e;cases e
  rw[b6 hb]at e;refine⟨ps,by grind[ai],λt=>?_⟩;refine t.sub λc w ec f=>?_;have hc:c∉a::r:=λz=>by rw[eJ z]at ec;cases ec
  rw[b6 hc]at ec;exact k c w ec f
theorem FT(i:Nat){x y:Str}{e:Expr}{f:Yb->R PV}{j}{np kp pos' pos:SL}(hu:C.X.A.units+64<cLine)(hv:EV C e f)(hN:C.X.N[i]?=Z' x:=by rfl)(hvis:Z3 C.X.env.scope x:=by first|exact XG rfl|exact Wt (XG rfl))
  (hs:SR e (Z' (.Subscript @ao @jc pos')) pos.line C.X.env=pure Y1:=by rfl) (hd:(x==("__debug__":Str))=Y1:=by decide) (hcd:(x==("__classdict__":Str))=Y1:=by decide):
  SB C n (.Assign [.Subscript @ao @jc pos'] e pos) (AS i @cR f):=by
 intro J' s σ H D I ⟨ρ,Z,S,q⟩;unfold AS at q;split at q
 .rename_i ks fs e0
  split at q
  .rename_i p0 el
   split at q
   .rename_i hc
    obtain⟨a0,r0,h1,_,_⟩:=S.swap e0;refine zK @b (bR hN hvis hd hcd) nY hv hs J' s σ H D I ⟨ρ,S.vw,(RX.rd S q.bind).imp λp _ q1 v H1 s1 r1=>⟨_,h1,?_⟩⟩;obtain⟨a,r,h1',h2,h3⟩:=(S.grow s1).swap e0;rw[h1]at h1';cases h1';obtain⟨nd,kvs,ha,ek,hf⟩:=h2;subst ek;obtain⟨v0,hv0,_,hup⟩:=hf.Ze el;have hl:kvs.length<sizeLine:=by rw[Rt];simpa using hc.2
    refine⟨a0,_,rfl,Ig.k (k:=.inr y) ha hl,?_⟩;have any:(kvs.any λkv=>decide (kv.1=(Rp y:Key)))=Y2:=by rw[jl,hv0];rfl
    have ep:Xz kvs @cR v=kvs.map λkv=>if kv.1=(Rp y:Key)then (kv.1,v)else kv:=if_pos any
    have kp:Kp H1 (upd H1 a0 @qe):=Kp.upd ha rfl;have nr:∀c∈r,upd H1 a0 @qe c=H1 c:=λc hc=>ai λz=>(RT.mp nd).1 (z▸hc);refine q1 σ _ (h3 (a0::r) _ _ @hK @sC ⟨nd,_,aq,?_,?_⟩)
    .grind[Rm,Sy]
    .have:=hup _ p v hc.1 kp nr @sb
     simp_all
   .exact QS q
  .exact QS q
 .exact QS q
theorem eY{K:QO}{Z:Zs}{H H1:Hp}{σ:L2.St}{ρ:Yb}{s:Sel}{t:Tr}{a:Addr}(S:YC K n Z H σ ρ)(e:mS s ρ=Z' t)(s1:Yc H H1)(h:Ic K H σ s a):∃r,Ic K H1 σ s a/\aA K H1 a r t/\
  ∀(H':Hp)(t':Tr)(ρ':Yb),dJ s t' ρ=Z' ρ'->Yc (Yz H1 (a::r)) H'->aA K H' a r t'->YC K n Z H' σ ρ':=by
 obtain⟨a',r,h1,h2,h3⟩:=(S.grow s1).sel e
 have:a'=a:=by
  cases s with
  |whole i=>
   have h:σ[i]?=Z' @ag:=h;have h1:σ[i]?=Z' (Z' (.ref a')):=h1
   simp_all
  |fld i k=>
   obtain⟨b,kvs,g1,g2,g3⟩:=h;obtain⟨b',kvs',g1',g2',g3'⟩:=h1;rw[g1]at g1';cases g1';rw[s1 _ _ g2]at g2'
   simp_all
  |att D i x=>
   obtain⟨b,C,dx,vs,gc,g1,g2,g3⟩:=h;obtain⟨b',C',dx',vs',gc',g1',g2',g3'⟩:=h1;rw[g1]at g1';cases g1';rw[s1 _ _ g2]at g2'
   simp_all
  |ZU i k=>
   obtain⟨b,xs,m,g1,g2,g3,g4⟩:=h;obtain⟨b',xs',m',g1',g2',g3',g4'⟩:=h1;rw[g1]at g1';cases g1';rw[s1 _ _ g2]at g2'
   simp_all
 grind
theorem Ja{s:Sel}{o e:Expr}{f:Yb->R PV}{pos Y4 Y0:SL}(ho:PE C.X o @fo)(he:EV C e f)(hs:QU [e] C.X.env=[(Y1,Rj e C.X.env)]:=by exact bF rfl)
  (hb:S8 o "append" C.X.env @de=Rj o C.X.env:=by rfl) (Y6:(Y4.endLine==Y0.line)=Y2:=by rfl):SB C n (.Expr (.Call (.Attribute o "append" Y4) [e] [] Y0) pos) (KC s f):=by
 intro J' st σ H D I ⟨ρ,Z,S,q⟩;unfold KC at q;split at q
 .rename_i ps e1
  obtain⟨a,r,h1,h2,_⟩:=S.sel e1;obtain⟨xs,hx,rr⟩:=h2.2;refine nS (vn Tn Tw Ud kC ho @dA hb (by rw[hs];rfl) Y6 hs @D) @D J' st σ H D I ?_;refine⟨a,h1,.inl @gP,ρ,S.vw,(RX.rd S q.bind).imp λp _ q' v H1 s1 r1=>?_⟩;split at q'
  .rename_i hl
   split at q'
   .rename_i ρ' ep
    obtain⟨r',_,h2',h3⟩:=eY S e1 s1 h1;have hx1:=s1 _ _ hx;refine⟨a,xs,v,rfl,rfl,hx1,by rw[Rt,<-rr.length];exact hl,?_⟩;have kp:Kp H1 @su:=Kp.upd hx1 rfl;exact q' σ _ (h3 _ _ _ ep @r9 ⟨h2'.1,xs++[v],aq,aV.append @jw @jd⟩)
   .exact QS q'
  .exact QS q'
 .exact QS q
theorem t9{s:Sel}{o ke e:Expr}{fk fv:Yb->R PV}{pos' pos:SL}(hu:C.X.A.units+64<cLine)(ho:PE C.X o @fo)(hk:EV C ke fk)(hv:EV C e fv)
  (hs:SR e (Z' (.Subscript o ke pos')) pos.line C.X.env=pure Y1:=by rfl):SB C n (.Assign [.Subscript o ke pos'] e pos) (nj s fk fv):=by
 intro J' st σ H D I ⟨ρ,Z,S,q⟩;unfold nj at q;split at q
 .rename_i ks ps e1
  obtain⟨a,r,h1,h2,_⟩:=S.sel e1;obtain⟨kvs,hx,ek,rr⟩:=h2.2;refine zK @b ho hk hv hs J' st σ H D I ⟨ρ,S.vw,(RX.rd S q.bind).imp λp _ q1 v H1 s1 r1=>?_⟩;obtain⟨r1',g1,_,_⟩:=eY S e1 s1 h1;refine⟨a,g1,ρ,(S.grow s1).vw,(RX.rd (S.grow s1) q1.bind).imp λkp _ q2 y H2 s2 r2=>?_⟩;split at q2
  .exact QS q2
  .rename_i k e3
   split at q2
   .rename_i hl
    split at q2
    .rename_i ρ' ep
     obtain⟨r2',_,h2',h3⟩:=eY S e1 @dB h1;have hy:=fX e3 r2.o;subst hy;subst ek;have hx2:H2 a=Z' @ah:=↑265 _ _ hx;refine⟨a,_,rfl,Ig.k hx2 (by rw[Rt];simp_all),?_⟩;have kp:Kp H2 (upd H2 a @g2):=Kp.upd hx2 rfl;refine q2 σ _ (h3 _ _ _ ep (dI hx2 rfl rfl) ⟨h2'.1,?_⟩);exact G3 (aV.kp kp _ ((rr.same s1).same s2)) (Rep.kp kp _ (r1.same s2)) aq
    .exact QS q2
   .exact QS q2
 .exact QS q
end
end PU
namespace PU
open PySem PySem.Spec PyProof.Rows L2
def jk(s:Sel)(fs:Yb->R @e)(F:Tr->List PV->Option @bp):Yb->XO PV:=fun ρ=>match mS s ρ with
|none=>.no
|some t=>(XO.rd ρ @bF).bind λps ρ=>match F t ps with
  |none=>.no
  |some (p,t')=>match dJ s t' ρ with
   |some ρ'=>.ok p ρ'
   |none=>.no
noncomputable def ZM(ρ:Yb):Option Tr:=match (ρ[(0:Nat)]?:Option Sl)with
|some (.tree t)=>Z' t
|_=>Y'
def zt(m n:Nat)(g:Yb->XO Fb)(t:Tr)(qs:List PV):Option @bp:=if qs.length+1=m then (match g (.tree t::start (n-1) qs)with
|.ok (.ret p) ρ=>(ZM ρ).map λt'=>(p,t')
|.ok .next ρ=>(ZM ρ).map λt'=>(.Yj,t')
|_=>Y')else Y'
theorem yY{ρ:Yb}{t:Tr}(e:ZM ρ=Z' t):ρ[0]?=Z' @aW:=by
 grind[ZM]
noncomputable def Br(fs:Yb->R @e)(F:List PV->Option Tr):Yb->R Tr:=fun ρ=>fs ρ>>=λps=>R.Yn (F ps)
def FX(m n:Nat)(g:Yb->XO Fb)(qs:List PV):Option Tr:=if qs.length=m then (match g (start n qs)with
|.ok (.Zt t) _=>Z' t
|_=>Y')else Y'
def Li:Yb->R @bT:=λ_=>.ok []
noncomputable def xq(k:Key)(fv:Yb->R PV)(f:Yb->R @bT):Yb->R @bT:=fun ρ=>fv ρ>>=λp=>f ρ>>=λr=>.ok ((k,.val p)::r)
noncomputable def oS(k:Key)(fv:Yb->R PV)(f:Yb->R @bT):Yb->R @bT:=fun ρ=>fv ρ>>=λp=>f ρ>>=λr=>.ok ((k,.own p)::r)
noncomputable def D5(f:Yb->R @bT):Yb->R Tr:=fun ρ=>f ρ>>=λkfs=>if kfs.length<=15/\(kfs.map @d).Nodup then .ok (.node (kfs.map @d) @s5)else .no
def qF(i:Nat)(f:Yb->R Tr):Yb->XO Fb:=fun ρ=>(XO.rd ρ @u).bind λt ρ=>.ok .next @kB
noncomputable def Cw(i:Nat):Yb->XO Fb:=fun ρ=>match ρ[i]? with
|some (.tree t)=>.ok @f3 ρ
|_=>.no
def Nd:YU->PV
|.val p=>p
|.own p=>p
noncomputable def trV:Tr->PV
|.leaf p=>p
|.node ks fs=>.dct ks @lJ
|.obj ..=>.Yj
|.two ..=>.Yj
noncomputable def _root_.PU.Tr.isObj:Tr->Bool
|.obj ..=>Y2
|.two ..=>Y2
|_=>Y1
def HN(f:Yb->R Tr):Yb->R PV:=fun ρ=>f ρ>>=λt=>if t.isObj=Y2 then .no else .ok @cV
variable[TW]
def spB(K:QO)(n:Nat)(F:Tr->List PV->Option @bp):Sp:=λvs H Q _=>vs.length=n/\sC H/\∃a r xs t ps p t',vs=.ref a::xs/\aA K H a r t/\aV K H ps xs/\F t ps=Z' (p,t')/\
 ∀v H',Yc (Yz H (a::r)) H'->aA K H' a r t'->Rep K H' p v->Q v H'
structure PFB(P:R8)(w:RH)(K:QO)(mg:Str->Option Value)(base:Heap)(k:Nat)(x:Str)(F:Tr->List PV->Option @bp):Prop where
 ex:∃(f:Addr)(fd:FuncData)(ps:List Str),YO P w K mg base CX0 k f fd ps (spB K ps.length F)/\mg x=Z' @x/\Rl K @x=Y2/\Binds K fd ps []/\∀t qs z,F t qs=Z' z->qs.length+1=ps.length
noncomputable def spT(K:QO)(n:Nat)(F:List PV->Option Tr):Sp:=λvs H Q _=>vs.length=n/\sC H/\∃ps t,aV K H ps vs/\F ps=Z' t/\∀a r H',Yc H H'->(∀b∈a::r,H b=Y')->aA K H' a r t->Q @m H'
structure PFT(P:R8)(w:RH)(K:QO)(mg:Str->Option Value)(base:Heap)(k:Nat)(x:Str)(F:List PV->Option Tr):Prop where
 ex:∃(f:Addr)(fd:FuncData)(ps:List Str),YO P w K mg base CX0 k f fd ps (spT K ps.length F)/\mg x=Z' @x/\Rl K @x=Y2/\Binds K fd ps []/\∀qs z,F qs=Z' z->qs.length=ps.length
noncomputable def tNT(C:Cn)(f:Yb->R Tr):TE:=fun σ H Q=>∃ρ,View C.X.K H σ ρ/\RQ C H @u λt=>∀a r H',Yc H H'->(∀b∈a::r,H b=Y')->aA C.X.K H' a r t->Q @m H'
def ENT(C:Cn)(e:Expr)(f:Yb->R Tr):Prop:=PE C.X e (tNT C f)
section
variable{C:Cn}{n:Nat}{e:Expr}{es:List Expr}{fs:Yb->R @e}{x:Str}{k:Nat}{p pos:SL}
theorem jG{s:Sel}{F:Tr->List PV->Option @bp}(G:PFB C.X.prog C.X.w C.X.K C.X.mg C.X.base k x F){kr:Nat}(hr:Yg kr C.X.A)(h0:PE C.X e @fo)(ha:EA C es fs)
  (hdb:(x==("__debug__":Str))=Y1:=by decide) (he:QU (e::es) C.X.env=(Y1,Rj e C.X.env)::QU es C.X.env:=by exact bq rfl) (hpl:(SN pos @dP).any @d=Y1:=by exact fK rfl) (hk:k<=kr:=by decide) (hg:Gl C.X x:=by exact rfl):
  XB C n (.Call @bl (e::es) [] pos) (jk s fs F):=by
 replace hr:=hr.mono hk;obtain⟨f,fd,ps,a,b,c,d,l⟩:=G.ex;sleep 14;unfold jk at q;split at q
 .exact QS q
 .rename_i t et
  obtain⟨ad,r,h1,h2,_⟩:=S.sel et;refine o3 (Zd:=[]) (ds:=[]) (E:=E0) a hr hg b c d .nil y9 (bh h0 ha he) hdb he hpl J' st σ H Q I ⟨ad,h1,ρ,S.vw,(RX.rd S q.bind).imp λqs _ q1 vs H1 s1 r1=>?_⟩;obtain⟨r',_,h2',h3⟩:=eY S et s1 h1;split at q1
  .exact QS q1
  .rename_i p t' ef
   split at q1
   .rename_i ρ' ep
    rw[Rh];exact⟨by rw[QV,<-r1.length];grind,s1.tabs S.vw.tb,ad,r',vs,t,qs,p,t',rfl,h2',r1,ef,λv H' s' ht rp=>q1 v H' @jI rp⟩
   .exact QS q1
theorem DJ{F:List PV->Option Tr}(G:PFT C.X.prog C.X.w C.X.K C.X.mg C.X.base k x F){kr:Nat}(hr:Yg kr C.X.A)(ha:EA C (e::es) fs)
  (hdb:(x==("__debug__":Str))=Y1:=by decide) (he:QU (e::es) C.X.env=(Y1,Rj e C.X.env)::QU es C.X.env:=by exact bq rfl) (hpl:(SN pos @dP).any @d=Y1:=by exact fK rfl) (hk:k<=kr:=by decide) (hg:Gl C.X x:=by exact rfl):
  ENT C (.Call @bl (e::es) [] pos) (Br fs F):=by
 replace hr:=hr.mono hk;obtain⟨f,fd,ps,a,b,c,d,l⟩:=G.ex;sleep 1;sleep 24;obtain⟨z,ez,k⟩:=k.Yn;rw[Rh];exact⟨by rw[<-r1.length];simp_all,s1.tabs vw.tb,qs,z,r1,ez,λv r H' s' n' r'=>k v r H' @hF (λb hb=>s1.free (n' b hb)) r'⟩
end
section
variable{P:R8}{w:RH}{K:QO}{mg:Str->Option Value}{base:Heap}
theorem sR{H:Hp}{N:List Str}{a:Addr}{r:List Addr}{t:Tr}{ps:List PV}{vs:List V}(tb:sC H)(ht:aA K H a r t)(rp:aV K H ps vs):
  YC K 1 ⟨Yz H (a::r),H,λi=>if i=0 then Z' (a,r)else Y'⟩ H (L2.start N (.ref a::vs)) (.tree t::start (N.length-1) ps):=by
 have e0:L2.start N (.ref a::vs)=Z' @m::L2.start N.tail vs:=by
  unfold L2.start;rw[RG,List.cons_append,QV,List.length_tail,Nat.sub_add_eq,Nat.sub_right_comm]
 have e1:N.length-1=N.tail.length:=by rw[List.length_tail]
 rw[e0,e1];have S:=mR (N:=N.tail) tb rp;refine⟨⟨H,H,λi=>if i=0 then Z' (a,r)else Y'⟩,⟨by rw[QV,QV,S.len],Yc.refl H,Kp.refl H,⟨λi l e=>?_,tb⟩,λi p c e f=>?_,λi j p q c e1 e2 f1 f2=>?_,λi u e=>?_⟩,λi hi=>if_neg @b,rfl,Yc.cut _,λi q h=>h,λi b s h c hc=>?_,λi j b s b' s' h h' hn=>?_,λi b s h c hc=>?_⟩
 .cases i with
  |zero=>cases e;exact⟨a,r,rfl,ht⟩
  |succ i=>exact S.vw i l (by simpa using e)
 .cases i with
  |zero=>cases e
  |succ i=>exact S.fresh i p c (by simpa using e) (by simpa using f)
 .cases i with
  |zero=>cases e1
  |succ i=>cases j with
   |zero=>cases e2
   |succ j=>exact congrArg _ (S.apart i j p q c (by simpa using e1) (by simpa using e2) (by simpa using f1) (by simpa using f2))
 .cases i with
  |zero=>cases e;exact⟨a,r,rfl,rfl,ht⟩
  |succ i=>exact absurd (show (start N.tail.length ps)[i]?=Z' @mt by simpa using e) λz=>Ab z
 .have h:(if i=0 then Z' (a,r)else Y')=Z' (b,s):=h
  split at h
  .cases h;exact eJ hc
  .cases h
 .have h:(if i=0 then Z' (a,r)else Y')=Z' (b,s):=h
  have h':(if j=0 then Z' (a,r)else Y')=Z' (b',s'):=h';split at h
  .split at h'
   .rename_i z1 z2;exact absurd @kb hn
   .cases h'
  .cases h
 .have h:(if i=0 then Z' (a,r)else Y')=Z' (b,s):=h
  split at h
  .cases h
   obtain⟨u,hu,_⟩:=ht.obj c hc;show H c≠Y';rw[hu];exact λz=>by cases z
  .cases h
theorem sS{H:Hp}{N:List Str}{ps:List PV}{vs:List V}(tb:sC H)(rp:aV K H ps vs):YC K 0 @eV H @hr @qW:=
 ⟨@eV,mR tb rp,@dS,rfl,Yc.refl H,(λ_ _ h=>h),(λ_ _ _ h=>by cases h),(λ_ _ _ _ _ _ h=>by cases h),(λ_ _ _ h=>by cases h)⟩
theorem Jo{x qual:Str}{st:Stmt}{f:Addr}{fd:FuncData}{N ps:List Str}{k:Nat}{g:Yb->XO Fb}(F:Fun K x qual st f fd)(S:Ye N ps @A)(hm:mg x=Z' @x)(hb:Binds K fd ps [])
  (Y3:∀(Y5:Value)(A:RV)(outer:List Uz)(s:QR)(H:Hp)(E:XK),Yg k @bK->SBs @gf 1 @R g):
  PFB P w K mg base (k+1) x @o5:=by
 refine⟨f,fd,ps,F.ok S @ca (λY5 A outer s H vs Q E hr h=>?_),hm,F.kp,hb,λt qs p h=>?_⟩
 .obtain⟨hl,tb,a,r,xs,t,qs,p,t',rfl,ht,rp,e,k⟩:=h
  refine⟨_,Y3 Y5 A outer s H E hr,_,_,sR tb ht rp,?_⟩;unfold zt at e;split at e
  .have fin:∀{ρ:Yb}{H':Hp},TB K ⟨Yz H (a::r),H,λi=>if i=0 then Z' (a,r)else Y'⟩ H' ρ->∀{u},ρ[0]?=Z' @mt->Yc (Yz H (a::r)) H'/\aA K H' a r u:=λ{ρ H'} h {u} eu=>⟨h.1,h.2 0 a r u rfl eu⟩
   split at e
   .rename_i q ρ hg
    rw[hg];obtain⟨u,eu,e⟩:=RJ.mp e;cases e;have eu:=yY eu;exact λv H' h rv=>k v H' (fin h eu).1 (fin h eu).2 rv
   .rename_i ρ hg
    rw[hg];obtain⟨u,eu,e⟩:=RJ.mp e;cases e;have eu:=yY eu;exact fun σ H' h=>k .Yj H' (fin h.tb eu).1 (fin h.tb eu).2 rfl
   .cases e
  .cases e
 grind[zt]
theorem Jm{x qual:Str}{st:Stmt}{f:Addr}{fd:FuncData}{N ps:List Str}{k:Nat}{g:Yb->XO Fb}(F:Fun K x qual st f fd)(S:Ye N ps @A)(hm:mg x=Z' @x)(hb:Binds K fd ps [])
  (Y3:∀(Y5:Value)(A:RV)(outer:List Uz)(s:QR)(H:Hp)(E:XK),Yg k @bK->SBs @gf 0 @R g):
  PFT P w K mg base (k+1) x @pg:=by
 refine⟨f,fd,ps,F.ok S @ca (λY5 A outer s H vs Q E hr h=>?_),hm,F.kp,hb,λqs p h=>?_⟩
 .obtain⟨hl,tb,qs,t,rp,e,k⟩:=h
  refine⟨_,Y3 Y5 A outer s H E hr,_,_,sS tb rp,?_⟩;unfold FX at e;split at e
  .split at e
   .rename_i u ρ hg
    rw[hg];cases e;exact k
   .cases e
  .cases e
 grind[FX]
end
section
variable{C:Cn}{n:Nat}{pos:SL}
def EDF(C:Cn)(pos:SL)(ks:List @ci)(vs:List Expr)(f:Yb->R @bT):Prop:=∃Zp,PPs C.X pos ks vs Zp/\
 ∀σ H Q,(∃ρ,View C.X.K H σ ρ/\RQ C H @u λkfs=>∀(r:List Addr)(kvs:List @t)(H':Hp),Yc H H'->(∀b∈r,H b=Y')->r.Nodup->kvs.map @d=kfs.map @d->bo C.X.K H' r @s5 @ai->Q (kvs.map λkv=>(kV kv.1,kv.2)) H')->pN Zp σ H Q
theorem Ho:EDF C pos [] [] Li:=⟨[],G5,fun σ H Q ⟨ρ,vw,q⟩=>q [] [] H @p @a @a rfl @aT⟩
theorem Hn{y:Str}{j}{p1:SL}{v:Expr}{ks:List @ci}{vs:List Expr}{fv:Yb->R PV}{f:Yb->R @bT}(hv:EV C v fv)(h:EDF C pos ks vs f):EDF C pos (Z' @pi::ks) (v::vs) (xq @cR fv f):=by
 obtain⟨Zp,hp,ht⟩:=h;refine⟨_,wz nY hv hp,fun σ H Q ⟨ρ,vw,q⟩=>⟨ρ,vw,q.bind.imp λp _ q1 x H1 s1 r1=>ht σ H1 _ ⟨ρ,vw.same s1,(q1.bind.same s1).imp λkfs _ q2 r kvs H2 s2 fr nd ek hf=>?_⟩⟩⟩;exact q2 r ((.inr y,x)::kvs) H2 @dB (λb hb=>s1.free (fr b hb)) nd (by simp[ek]) ⟨x,_,rfl,r1.same s2,hf⟩
theorem Bb{y:Str}{j}{p1:SL}{v:Expr}{ks:List @ci}{vs:List Expr}{fv:Yb->R PV}{f:Yb->R @bT}(hv:EN C v fv)(h:EDF C pos ks vs f):EDF C pos (Z' @pi::ks) (v::vs) (oS @cR fv f):=by
 obtain⟨Zp,hp,ht⟩:=h;refine⟨_,wz nY hv hp,fun σ H Q ⟨ρ,vw,q⟩=>⟨ρ,vw,q.bind.imp λp _ q1 b H1 s1 nb r1=>ht σ H1 _ ⟨ρ,vw.same s1,(q1.bind.same s1).imp λkfs _ q2 r kvs H2 s2 fr nd ek hf=>?_⟩⟩⟩
 have hb:b∉r:=λz=>by
  obtain⟨u,hu,_⟩:=r1.obj
  simp_all
 refine q2 (b::r) ((.inr y,.ref b)::kvs) H2 @dB (λc hc=>?_) (RT.mpr ⟨hb,nd⟩) (by simp[ek]) ⟨b,r,_,rfl,rfl,r1.same s2,hf⟩;rcases R7.mp hc with z|z
 .simp_all
 .exact s1.free (fr c z)
theorem DI{ks:List @ci}{vs:List Expr}{f:Yb->R @bT}(h:EDF C pos ks vs f)(hall:ks.all (·.isSome)=Y2:=by rfl)(hl:ks.length=vs.length:=by rfl)(h0:ks≠[]:=by simp)(h15:ks.length<=15:=by decide):ENT C (.Dict ks vs pos) (D5 f):=by
 obtain⟨Zp,hp,ht⟩:=h;sleep 1;refine Ge hp hall hl h0 h15 J' s σ H Q I λd hd=>ht σ _ _ ⟨ρ,vw.same (Yc.new hd),(q.bind.same (Yc.new hd)).imp λkfs _ q1 r kvs H2 s2 fr nd ek hf=>?_⟩;split at q1
 .rename_i hc
  have hd2:H2 d=Z' (.dK []):=s2 _ _ aq
  have ne:∀b∈r,b≠d/\H b=Y':=λb hb=>by
   grind[aq,ai]
  have em:jB [] kvs=kvs:=o9 (Xx:=[]) @i;refine⟨hd2,kvs,rfl,by have:=congrArg SY ek;grind,?_⟩;rw[em];have kp:Kp H2 (upd H2 d @ah):=Kp.upd hd2 rfl;refine q1 d r _ (((Yc.new hd).trans s2).but hd (λu h=>by rw[hd2]at h;cases h;rfl) λb hb=>ai hb) (λb hb=>?_) ⟨RT.mpr ⟨λz=>(ne d z).1 rfl,nd⟩,kvs,aq,ek,hf.off kp λc hc=>ai (ne c hc).1⟩
  grind
 .exact QS q1
theorem YC.setT{K:QO}{Z:Zs}{H H':Hp}{σ:L2.St}{ρ:Yb}{i:Nat}{a:Addr}{r:List Addr}{t:Tr}(S:YC K n Z H σ ρ)(s:Yc H H')(fr:∀b∈a::r,H b=Y')(ht:aA K H' a r t)(hi:n<=i):YC K n Z H' @hq @kB:=by
 obtain⟨B,S,bk⟩:=S;have S1:=S.grow s
 let O:Addr->Prop:=λc=>∃(j:Nat)(p:PV),ρ[j]?=Z' @aX/\σ[j]?=Z' (Z' @fY)
 have oB:∀c,O c->B.1 c=Y':=λc ⟨j,p,e1,e2⟩=>S.fresh j p c e1 e2
 have oH:∀c,O c->∃u,H c=Z' u/\rG u=Y1/\su u=Y1:=λc ⟨j,p,e1,e2⟩=>by
  obtain⟨c',e2',w⟩:=S.vw j _ e1;rw[e2]at e2';cases e2';obtain⟨u,hu,_⟩:=w.obj;exact@qk
 classical
 let B1:Hp:=λc=>if O c then Y' else H' c
 have b1o:∀c,O c->B1 c=Y':=λc h=>if_pos h;have b1n:∀c,¬ O c->B1 c=H' c:=λc h=>if_neg h
 have k1:Kp H' B1:=λb u e f=>by
  have:¬ O b:=λo=>by
   obtain⟨u',hu',h1,h2⟩:=oH b o;rw[s.at_ b u' hu' h2]at e
   simp_all
  simp_all
 have s1:Yc B1 H':=.of λb o e=>by
  grind
 have sz:Yc Z.hp H':=(bk.same.trans S.same).trans s;have tn:∀j a r,B.3 j=Z' (a,r)->∀c∈a::r,¬ O c:=λj a r e c hc o=>bk.liv j a r e c hc (oB c o)
 have no:∀c∈a::r,¬ O c:=λc hc o=>by
  obtain⟨u,hu,_⟩:=oH c o
  grind
 have liv':∀j a r,B.3 j=Z' (a,r)->∀c∈a::r,H c≠Y':=λj a r e c hc z=>bk.liv j a r e c hc (S.same.free z);have t0:aA K B1 a r t:=ht.off k1 λc hc=>b1n c (no c hc);have z0:∀b∈a::r,Z.hp b=Y':=λb hb=>(bk.same.trans S.same).free (fr b hb)
 have own':∀{j:Nat}{q:PV},(ρ.set i @aW)[j]?=Z' @ek->j≠i/\ρ[j]?=Z' @ek:=λ{j q} e=>by
  grind
 refine⟨⟨B1,B.2,λj=>if j=i then Z' (a,r)else B.3 j⟩,⟨by simp[S.len],s1,S1.kp,⟨λj x ej=>?_,S1.vw.tb⟩,λj q c ej fj=>?_,λj m q q' c e1 e2 f1 f2=>?_,λj u ej=>?_⟩,bk.lim,bk.kp,⟨λb o e m=>?_,λb ps e=>?_⟩,λj q e=>?_,λj b l e=>?_,λj m b l b' l' e e' hn=>?_,λj b l e c hc=>?_⟩
 .rcases bp ej with⟨rfl,rfl,hl⟩|⟨hj,ej⟩
  .exact⟨a,r,d6 (by rw[<-S.len];exact hl),ht⟩
  .rw[aR hj]
   exact S1.vw j x ej
 .obtain⟨hj,ej⟩:=own' ej
  rw[aR hj]at fj;exact b1o c @sm
 .obtain⟨hj,e1⟩:=own' e1
  obtain⟨hm,e2⟩:=own' e2;rw[aR hj]at f1;rw[aR hm]at f2;exact S.apart j m q q' c e1 e2 f1 f2
 .rcases bp ej with⟨rfl,z,hl⟩|⟨hj,ej⟩
  .cases z
   exact⟨a,r,if_pos rfl,d6 (by rw[<-S.len];exact hl),t0⟩
  .obtain⟨a',r',h1,h2,h3⟩:=S1.Yy j u ej
   refine⟨a',r',(if_neg hj).trans h1,by grind,?_⟩;exact(h3.same S1.same).off k1 λc hc=>b1n c (tn j a' r' h1 c hc)
 .have h1:=sz.at_ b o e m
  show B1 b=Z' o;rw[b1n b λo'=>?_]
  .exact h1
  .have:=bk.same.at_ b o e m
   simp_all
 .obtain⟨p1,e1,k1'⟩:=sz.tb b ps e
  have nb:¬ O b:=λo=>by
   obtain⟨u,hu,_,m⟩:=oH b o;rw[s.at_ b u hu m]at e1;cases e1;cases m
  exact⟨p1,by simp_all,λtk=>(k1' tk).sub k1⟩
 .have hj:j≠i:=λz=>by
   subst z;rw[bk.lim j hi]at e;cases e
  exact(if_neg hj).trans (bk.at_ j q e)
 .have e:(if j=i then Z' (a,r)else B.3 j)=Z' (b,l):=e
  split at e
  .simp_all
  .exact bk.off j b l e
 .have e:(if j=i then Z' (a,r)else B.3 j)=Z' (b,l):=e
  have e':(if m=i then Z' (a,r)else B.3 m)=Z' (b',l'):=e';split at e
  .grind
  .split at e'
   .grind
   .exact bk.apart j m b l b' l' e e' hn
 .have e:(if j=i then Z' (a,r)else B.3 j)=Z' (b,l):=e
  show B1 c≠Y';split at e
  .cases e
   rw[b1n c (no c hc)];obtain⟨u,hu,_⟩:=ht.obj c hc
   simp_all
  .rw[b1n c (tn j b l e c hc)]
   exact λz=>liv' j b l e c hc (s.free z)
theorem qO(i:Nat){x:Str}{e:Expr}{f:Yb->R Tr}{pos':SL}(hN:C.X.N.Nodup)(he:ENT C e f)(hin:n<=i:=by decide)(hs:SR e @eX pos.line C.X.env=pure Y1:=by rfl)
  (hf:C.X.fn x=Y2\/C.X.env.scope.names.lookup x=Z' .local:=by first|exact .inl rfl|exact .inr rfl|assumption) (hi:C.X.N[i]?=Z' x:=by rfl) (hx:Loc C.X.env.scope x:=by first|exact .inl rfl|exact .inr rfl):
  SB C n @eO (qF i f):=by
 intro J' s σ H D I ⟨ρ,Z,S,q⟩;exact wx hN hi hx he hs hf J' s σ H D I ⟨ρ,S.vw,(RX.rd S q.bind).imp λt _ k a r H' s' fr ht=>k _ H' (S.setT s' fr ht hin)⟩
theorem FS (i:Nat) {x:Str} {np:SL} (hN:C.X.N[i]?=Z' x:=by rfl) (hv:Z3 C.X.env.scope x:=by first|exact .inl rfl|exact .inr (.inl rfl)|exact .inr (.inr rfl)) (hd:(x==("__debug__":Str))=Y1:=by decide) (hcd:(x==("__classdict__":Str))=Y1:=by decide):
  SB C n @pJ (Cw i):=by
 intro J' s σ H D I ⟨ρ,Z,⟨B,S,bk⟩,q⟩;unfold Cw at q;split at q
 .rename_i t e
  obtain⟨a,r,h1,h2,h3⟩:=S.Yy i t e;exact wy @ax J' s σ H D I ⟨_,h2,q a r H (bk.same.trans S.same) (bk.off i a r h1) @r6⟩
 .exact QS q
end
end PU
namespace PU
open PySem PySem.Spec PyProof.Rows L2
def Df{α:Type}(i:Nat)(f:Yb->R α):Yb->XO α:=fun ρ=>match ρ[i]? with
|some (.tree t)=>if t.isObj=Y2 then .no else XO.rd ρ (Ex (f @pR))
|_=>.no
def BO:HO->Bool
|.lst _=>Y2
|.dK _=>Y2
|.dT _=>Y2
|_=>Y1
theorem BO.fz{u:HO}(h:BO u=Y2):rG u=Y1:=by cases u<;>first|rfl|cases h
variable[TW]
theorem _root_.L2.Inv.ai1{X:Cx}{J':List @c}{σ:L2.St}{H:Hp}{s:QR}{a:Addr}{p:PV}(I:L2.Inv X J' σ H s)(n:dj X.K H a p):
  ∃o u,H a=Z' u/\BO u=Y2/\L2.Inv X J' σ @s0 s/\Rep X.K @s0 p @m:=by
 cases p with
|lst ps=>
  obtain⟨xs,q,r⟩:=n;obtain⟨z,Xv,m,rv,e⟩:=I.hok a _ q;exact⟨_,.lst xs,q,rfl,I.reH q rfl rfl ↑8 @i @qQ,a,xs,rfl,.inl @h3,r.kp @dU⟩
|dct ks ps=>
  obtain⟨kvs,q,ek,r⟩:=n;obtain⟨z,hs,vs,rv,o,es,ep,e,rest⟩:=I.hok a _ q;exact⟨o,.dK kvs,q,rfl,I.reH q rfl rfl ↑8 @i @ob,a,kvs,rfl,.inl @h3,ek,r.kp @dU⟩
|ZC ks ps=>
  obtain⟨kvs,q,ek,r⟩:=n;obtain⟨z,hs,ys,rv,o,es,ep,e,rest⟩:=I.hok a _ q;refine⟨o,.dT kvs,q,rfl,I.reH q rfl rfl ↑8 @i ⟨e,z,hs,ys,?_,o,es,ep,e,rest⟩,a,o,kvs,rfl,aq,ek,r.kp @dU⟩;exact Paired.af4 rv λp1 q1 ⟨h1,h2,h3⟩=>@nc
|_=>exact QS n
theorem _root_.L2.Inv.thaw1{X:Cx}{J':List @c}{σ σ0:L2.St}{H H':Hp}{s s':QR}{a:Addr}{o:Obj}{u:HO}(I0:L2.Inv X J' σ0 H s)(I:L2.Inv X J' σ H' s')(h0:H a=Z' u)(mu:BO u=Y2)(h1:H' a=Z' @bB):
  L2.Inv X J' σ (upd H' a u) s':=by
 have ne:∀b w,H' b=w->w≠Z' @bB->b≠a:=λb w e n z=>by
  simp_all
 refine⟨I.ok,I.os,I.bare,⟨I.base.keep,I.base.slot,λb q e n hx=>?_,I.base.there,λb ys e=>?_,λb q w e=>?_,λb ps e=>?_⟩,I.loc,I.cell,?_,λx c e=>?_,λp hp=>?_,λb w e=>?_,I.len⟩
 .have:=I.base.free b q e n hx
  grind[ai]
 .have:=I.base.tups b ys e
  grind[ai]
 .have h2:=I.base.Zj b q w e
  have h3:=I0.base.Zj b q w e;have hb:b≠a:=λz=>by subst z;rw[h0]at h3;cases h3;cases mu
  rw[ai hb];exact h2
 .obtain⟨m,e2⟩:=I.base.ZD b ps e
  grind[ai]
 .have:=I.free
  grind[ai]
 .have:=I.YJ x c e
  grind[ai]
 .obtain⟨p1,p2,p3⟩:=I.pin p hp
  grind[ai]
 .have st:∀{b:Addr}{w:HO},eM X.prog X.w H' s'.heap b w->eM X.prog X.w (upd H' a u) s'.heap b w:=λ{b w} h=>h.stay (λc v hc q=>q) (λc q=>by
   grind[ai]) λc ys q=>by
   grind[ai]
  by_cases hb:b=a
  .subst hb
   rw[aq]at e;cases e;exact st (I.hok b _ h1).2
  .rw[ai hb]at e
   exact st (I.hok b w e)
theorem uo{X:Cx}{J':List @c}{σ σ0:L2.St}{H:Hp}{s s':QR}(I0:L2.Inv X J' σ0 H s):∀(l:List Addr){H1:Hp},L2.Inv X J' σ H1 s'->(∀b∈l,∃o u,H b=Z' u/\BO u=Y2/\(H1 b=Z' @bB\/H1 b=Z' u))->
  ∃H2,L2.Inv X J' σ H2 s'/\(∀b∈l,H2 b=H b)/\∀b,b∉l->H2 b=H1 b
|[],H1,I,_=>⟨H1,I,by simp,λ_ _=>rfl⟩
|a::l,H1,I,h=>by
  obtain⟨o,u,h0,mu,h1⟩:=h a @a
  have:∃H1',L2.Inv X J' σ H1' s'/\H1' a=Z' u/\∀b,b≠a->H1' b=H1 b:=by
   rcases h1 with h1|h1
   .exact⟨_,I0.thaw1 I h0 mu h1,aq,λb hb=>ai hb⟩
   .grind
  obtain⟨H1',I',ha,Z1⟩:=this
  obtain⟨H2,I2,g1,g2⟩:=uo I0 l I' λb hb=>by
   grind
  grind
theorem rL{X:Cx}{J':List @c}{σ:L2.St}{s:QR}:∀{fs:List YU}{r:List Addr}{xs:List V}{H:Hp},L2.Inv X J' σ H s->bo X.K H r fs xs->r.Nodup->
  ∃H',L2.Inv X J' σ H' s/\aV X.K H' @lJ xs/\(∀b,b∉r->H' b=H b)/\Kp H H'/\∀b∈r,∃o u,H b=Z' u/\BO u=Y2/\H' b=Z' @bB
|[],r,xs,H,I,⟨e1,e2⟩,_=>by
  subst e1 e2;exact⟨H,I,rfl,λ_ _=>rfl,Kp.refl H,by simp⟩
|.val p::fs,r,xs,H,I,⟨x,ys,e,h,t⟩,nd=>by
  obtain⟨H',I',rr,o,k,f⟩:=rL I t nd;subst e;exact⟨H',I',⟨x,ys,rfl,h.kp k,rr⟩,o,k,f⟩
|.own p::fs,r,xs,H,I,⟨b,r',ys,e1,e2,h,t⟩,nd=>by
  subst e1 e2;obtain⟨nb,nd'⟩:=RT.mp nd;obtain⟨H',I',rr,o,k,f⟩:=rL I t nd';obtain⟨ob,u,hu,mu,I2,rp⟩:=I'.ai1 (h.kp k (o b nb));have k2:Kp H' (upd H' b (.YL ob u)):=Kp.upd hu @l2;refine⟨_,I2,⟨_,_,rfl,rp,aV.kp k2 _ rr⟩,λc hc=>?_,k.trans k2,λc hc=>?_⟩
  .grind[ai]
  grind[aq,ai]
theorem _root_.L2.Inv.ai2{X:Cx}{J':List @c}{σ:L2.St}{s:QR}{H:Hp}{a:Addr}{r:List Addr}{t:Tr}(I:L2.Inv X J' σ H s)(h:aA X.K H a r t)(no:t.isObj=Y1):
  ∃H',L2.Inv X J' σ H' s/\Rep X.K H' @cV @m/\(∀b,b∉a::r->H' b=H b)/\Kp H H'/\∀b∈a::r,∃o u,H b=Z' u/\BO u=Y2/\H' b=Z' @bB:=by
 cases t with
|leaf p=>
  obtain⟨e,h⟩:=h;subst e;obtain⟨o,u,hu,mu,I',rp⟩:=I.ai1 h
  exact⟨_,I',rp,λb hb=>ai λz=>hb (by simp[z]),Kp.upd hu @l2,λb hb=>by
   grind[aq]⟩
|node ks fs=>
  obtain⟨nd,kvs,ha,ek,hf⟩:=h;obtain⟨na,nd'⟩:=RT.mp nd;obtain⟨H',I',rr,o,k,f⟩:=rL I hf nd';have n:dj X.K H' a (.dct ks @lJ):=⟨kvs,by simp_all,ek,rr⟩;obtain⟨ob,u,hu,mu,I2,rp⟩:=I'.ai1 n;have k2:Kp H' (upd H' a (.YL ob u)):=Kp.upd hu @l2;refine⟨_,I2,rp,λc hc=>?_,k.trans k2,λc hc=>?_⟩
  .grind[ai]
  grind[aq,ai]
|obj c ks fs=>cases no
|two t u=>cases no
theorem ENT.v{C:Cn}{e:Expr}{f:Yb->R Tr}(h:ENT C e f):EV C e (HN f):=by
 sleep 1;unfold HN at q;cases hf:f ρ with
|ok t=>
  rw[hf]at q;have q:RQ C H (if t.isObj=Y2 then .no else .ok @cV) _:=q;cases ho:t.isObj with
  |true=>rw[ho]at q;exact QS q
  |false=>
  rw[ho]at q;refine Yl (h J' s σ H (λv H'=>∃a r,v=.ref a/\Yc H H'/\(∀b∈a::r,H b=Y')/\aA C.X.K H' a r t) I ⟨ρ,vw,by rw[hf];exact λa r H' sm n w=>⟨a,r,rfl,sm,n,w⟩⟩) λu s' ⟨v,H',I',rv,a,r,ev,sm,na,w⟩=>?_;obtain⟨H2,I2,rp,Z1,kp,fz⟩:=I'.ai2 w ho;subst ev;refine⟨.ref a,H2,I2,rv,q _ H2 ⟨λb o e n=>?_,λb ps e=>?_⟩ rp⟩
  .have hb:b∉a::r:=λz=>by grind
   rw[Z1 b hb];exact sm.at_ b o e n
  .have hb:b∉a::r:=λz=>by grind
   obtain⟨p1,e1,k1⟩:=sm.tb b ps e;exact⟨p1,by simp_all,λt=>(k1 t).kp kp⟩
|er x=>
  rw[hf]at q;exact h J' s σ H Q I ⟨ρ,vw,by rw[hf];exact q⟩
|no=>
  rw[hf]at q;exact QS q
section
variable{C:Cn}{n:Nat}{e:Expr}
theorem lend{J':List @c}{s:QR}{σ:L2.St}{H:Hp}{ρ:Yb}{Z:Zs}{i:Nat}{t:Tr}(I:Inv C.X J' σ H s)(S:YC C.X.K n Z H σ ρ)(ei:ρ[i]?=Z' @aW)(no:t.isObj=Y1):
  ∃Hf,Inv C.X J' σ Hf s/\View C.X.K Hf σ @pR/\∀H1 s',Yc Hf H1->Inv C.X J' σ H1 s'->∃H2,Inv C.X J' σ H2 s'/\YC C.X.K n Z H2 σ ρ:=by
 obtain⟨B,S,bk⟩:=S;obtain⟨a,r,e3,es,ht⟩:=S.Yy i t ei;have hT:=ht.same S.same;obtain⟨Hf,If,rp,Z1,kp,fz⟩:=I.ai2 hT no;refine⟨Hf,If,⟨λj l ej=>?_,λP hP=>?_⟩,λH1 s' sm I1=>?_⟩
 .rcases bp ej with⟨rfl,rfl,_⟩|⟨hj,ej⟩
  .exact⟨_,es,rp⟩
  .have hx:=S.vw j l ej
   cases l with
   |no=>exact trivial
   |val q=>obtain⟨v,e1,rq⟩:=hx;exact@qP
   |own q=>
    obtain⟨c,e1,rq⟩:=hx;exact⟨c,e1,rq.kp kp (Z1 c λz=>bk.liv i a r e3 c z (S.fresh j q c ej e1))⟩
   |tree u=>
    obtain⟨a',r',h1,h2,h3⟩:=S.Yy j u ej;exact⟨a',r',h2,(h3.same S.same).off kp λc hc=>Z1 c (bk.apart j i a' r' a r h1 e3 hj c hc)⟩
   |exc y=>exact hx.exk kp
 .obtain⟨ps,e,k⟩:=S.vw.tb P hP
  have hb:P∉a::r:=λz=>by
   obtain⟨_,u,hu,mu,_⟩:=fz P z;rw[e]at hu;cases hu;cases mu
  exact⟨ps,by simp_all,k.kp kp⟩
 .obtain⟨H2,I2,g1,g2⟩:=uo I (a::r) I1 λb hb=>by
   obtain⟨o,u,hu,mu,hf⟩:=fz b hb;exact⟨o,u,hu,mu,.inl (sm _ _ hf)⟩
  refine⟨H2,I2,YC.grow ⟨B,S,bk⟩ ⟨λb o e m=>?_,λb ps e=>?_⟩⟩
  .by_cases hb:b∈a::r
   .grind
   .rw[g2 b hb]
    exact sm.at_ b o @i m
  .have hb:b∉a::r:=λz=>by
    obtain⟨_,u,hu,mu,_⟩:=fz b z;rw[e]at hu;cases hu;cases mu
   obtain⟨p1,e1,k1⟩:=sm.tb b ps @i;refine⟨p1,by simp_all,λtk=>?_⟩;have t1:=k1 (tk.kp kp);refine⟨t1.1,λpos v ev=>?_⟩;obtain⟨c,f1,f2⟩:=t1.2 pos v ev
   have hc:c∉a::r:=λz=>by
    obtain⟨o,u,_,_,hf⟩:=fz c z;rw[sm _ _ hf]at f2;cases f2
   simp_all
theorem Fq(i:Nat){f:Yb->R Bool}(he:ET C e f):XT C n e (Df i f):=by
 sleep 15;unfold Df at q;split at q
 .rename_i t ei
  cases ho:t.isObj with
  |true=>rw[ho]at q;exact QS q
  |false=>
  rw[ho]at q;obtain⟨Hf,If,vw,back⟩:=lend I S ei ho;cases hf:f (ρ.set i (.val @cV))with
  |ok b=>
   rw[hf]at q;refine Yl (he J' s σ Hf (λb' H'=>b'=b/\Yc Hf H') If ⟨_,vw,by rw[hf];exact λH' s'=>⟨rfl,s'⟩⟩) λb' s1 ⟨H1,I1,eb,sm⟩=>?_;subst eb;obtain⟨H2,I2,S2⟩:=back H1 s1 sm I1;exact⟨H2,I2,q H2 S2⟩
  |er x=>rw[hf]at q;exact QS q
  |no=>rw[hf]at q;exact QS q
 .exact QS q
end
end PU
namespace PU
open PySem PySem.Spec PyProof.Rows L2 PySem.SeqAt
noncomputable def j9:PV->PV->Option PV
|.str x,.str y=>if (y.length==0)=Y1/\x.length<=16777216/\(Txt.split x y).length<=16777216 then Z' (.lst ((Txt.split x y).map .str))else Y'
|_,_=>Y'
noncomputable def jt:PV->PV->Option PV
|.str x,.str y=>if (y.length==0)=Y1/\x.length<=16777216 then Z' (.tup [.str (Txt.partition x y).1,.str (Txt.partition x y).2.1,.str (Txt.partition x y).2.2])else Y'
|_,_=>Y'
noncomputable def rR:PV->PV->PV->Option PV
|.str x,.str y,.int k=>if (y.length==0)=Y1/\x.length<=16777216/\k.natAbs<1000000000/\(Txt.splitMax x y k).length<=16777216 then Z' (.lst ((Txt.splitMax x y k).map .str))else Y'
|_,_,_=>Y'
noncomputable def GT:PV->Option PV
|.str x=>if x.length<=640 then (WE x).map .int else Y'
|_=>Y'
noncomputable def Dc(fo fe fg:Yb->R PV)(g:PV->PV->PV->Option PV):Yb->R PV:=fun ρ=>fo ρ>>=λp=>if uk p=Y2 then fe ρ>>=λq=>fg ρ>>=λr=>R.Yn (g p q r)else .no
variable[TW]
theorem n9:∀(xs:List Str)(tk:Nat),Vals @sY (strsFrom tk xs)
|[],_=>.nil
|x::r,tk=>.cons ⟨tk,rfl⟩ (n9 r (tk+1))
theorem nN{K:QO}{H:Hp}:∀(xs:List Str),aV K H @fh @sY
|[]=>rfl
|x::r=>⟨_,_,rfl,rfl,nN r⟩
theorem tF:ab6 "split" "str.split":=⟨SQ,PySem.F.type_str_split⟩
theorem Co:ab6 "partition" "str.partition":=⟨WA,PySem.F.type_str_partition⟩
theorem wN {X:Cx}:MtR X "str.split" (rM1 X.K j9):=by
 sleep 13;subst e1;obtain⟨a,b,t,t2,rfl,rfl,rfl,rfl⟩:=jZ (g:=j9) (λp q z e=>by unfold j9 at e;grind) rx rs rp rq ez;have ez:(if (b.length==0)=Y1/\a.length<=16777216/\(Txt.split a b).length<=16777216 then Z' (PV.lst ((Txt.split a b).map .str))else Y')=Z' z:=ez;split at ez
 .rename_i hc
  cases ez;obtain⟨hy,ha,hn⟩:=hc;have hs:=Rt
  have one:Txt.split a b=[a]->wants @aN X.xe @rY {s with heap:=s.heap.push {cls:=.type "list",data:=.seq [U9 a t].toArray} }:=λe=>by
   rw[e]at k;obtain⟨H',I',sm,r'⟩:=o7 (ps:=[.str a]) I (ys:=[V.str a]) (Xv:=[U9 a t]) @rZ @i @p3 s.toks;exact@gi
  cases h1:(decide (a.length<b.length) ||decide (Sf a<Sf b))with
  |true=>exact U6 SQ @dm Sg (Uh _ _) (meets_str_split_cannot_occur a b t t2 h1) @rE
  |false=>
   cases hf:(RI a b 0 a.length (a.length+1)).isEmpty with
   |true=>exact U6 SQ @dm Sg (Uh _ _) (meets_str_split_not_found a b t t2 h1 hy hf) (one ((if_neg @i).trans (if_pos hf)))
   |false=>
    have e:Txt.split a b=SW a (RI a b 0 a.length (a.length+1)) b.length:=(if_neg @i).trans (if_neg @i);rw[e]at hn k;refine U6 SQ @dm Sg (Uh _ _) (meets_str_split_sep a b t t2 h1 hy hf (by trivial) (by trivial)) ?_;obtain⟨H',I',sm,r'⟩:=o7 I (n9 (SW a (RI a b 0 a.length (a.length+1)) b.length) s.toks) @i (nN _) (s.toks+(SW a (RI a b 0 a.length (a.length+1)) b.length).length);exact@gi
 .cases ez
theorem De {X:Cx}:MtR X "str.partition" (rM1 X.K jt):=by
 sleep 13;subst e1;obtain⟨a,b,t,t2,rfl,rfl,rfl,rfl⟩:=jZ (g:=jt) (λp q z e=>by unfold jt at e;grind) rx rs rp rq ez;have ez:(if (b.length==0)=Y1/\a.length<=16777216 then Z' (PV.tup @mM)else Y')=Z' z:=ez;split at ez
 .rename_i hc
  cases ez;obtain⟨hy,ha⟩:=hc;have hs:=Rt
  have fin:∀(ta tb tc tk:Nat),EP X J' σ Q @b9 {s with toks:=tk,heap:=s.heap.push {cls:=.type "tuple",data:=.seq [.str (Txt.partition a b).1 ta,.str (Txt.partition a b).2.1 tb,.str (Txt.partition a b).2.2 tc].toArray} }:=λta tb tc tk=>by
   have nf:H s.heap.objs.size=Y':=I.fresh;refine⟨.ref s.heap.objs.size,_,I.laid (t':=tk) (o:=.tup @mM) @gS @C ?_,rfl,k _ _ @di ⟨_,_,rfl,@mv,_,_,rfl,rfl,_,_,rfl,rfl,_,_,rfl,rfl,rfl⟩⟩;exact⟨by simp_all,_,.cons ⟨ta,rfl⟩ (.cons ⟨tb,rfl⟩ (.cons ⟨tc,rfl⟩ .nil)),E6.new _ _⟩
  refine U6 WA @dm PySem.F.entry_str_partition (PySem.F.args_str_partition_2 _ _) (meets_str_partition a b t t2 hy (by trivial)) ?_
  grind[Txt.partition,RI]
 .cases ez
def rM2(K:QO)(g:PV->PV->PV->Option PV):V->List V->Hp->VK->Prop:=λv vs H Q=>∃p q r z u u2,vs=[u,u2]/\di K H p v/\di K H q u/\di K H r u2/\g p q r=Z' z/\∀w H',Yc H H'->Rep K H' z w->Q w H'
theorem GA {X:Cx}:MtR X "str.split" (rM2 X.K rR):=by
 intro J' s σ H x xs v us Q I rx rs ⟨p,q,r,z,u,u2,e1,rp,rq,rr,ez,k⟩;subst e1;unfold rR at ez;split at ez
 .rename_i a b n
  cases (show x=.str a from rp);cases (show u=.str b from rq);cases (show u2=.int n from rr);sleep 3;cases rs with
  |cons r1 rs=>
   cases rs with
   |cons r2 rs=>
    cases rs;obtain⟨t2,rfl⟩:=r1;obtain⟨t3,rfl⟩:=r2;split at ez
    .rename_i hc
     cases ez;obtain⟨hy,ha,hk,hn⟩:=hc;have hs:=Rt
     have hkk:(decide (n < -(2^63:Int)) ||decide (n ≥ 2^63))=false:=by
      rw[Bool.or_eq_false_iff];exact⟨decide_eq_false @b,decide_eq_false @b⟩
     have one:Txt.splitMax a b n=[a]->wants @aN X.xe @rY {s with heap:=s.heap.push {cls:=.type "list",data:=.seq [U9 a t].toArray} }:=λe=>by
      rw[e]at k;obtain⟨H',I',sm,r'⟩:=o7 (ps:=[.str a]) I (ys:=[V.str a]) (Xv:=[U9 a t]) @rZ (by show 1<=sizeLine;decide) @p3 s.toks;exact@gi
     cases h1:(decide (a.length<b.length) ||decide (Sf a<Sf b))with
     |true=>exact U6 SQ @dm Sg @l0 (meets_str_split_max_cannot_occur a b n t t2 t3 hkk h1) @rE
     |false=>
      cases hf:(RI a b 0 a.length (Xk a n)).isEmpty with
      |true=>exact U6 SQ @dm Sg @l0 (meets_str_split_max_not_found a b n t t2 t3 hkk h1 hy hf) (one ((if_neg (by rw[h1];decide)).trans (if_pos hf)))
      |false=>
       have e:Txt.splitMax a b n=SW a @jl b.length:=(if_neg (by rw[h1];decide)).trans (if_neg (by rw[hf];decide));rw[e]at hn k;refine U6 SQ @dm Sg @l0 (meets_str_split_sep_max a b n t t2 t3 hkk h1 hy hf (by trivial) (by trivial)) ?_;obtain⟨H',I',sm,r'⟩:=o7 I (n9 (SW a @jl b.length) s.toks) (by rw[RB];trivial) (nN _) (s.toks+(SW a @jl b.length).length);exact@gi
    .cases ez
 .cases ez
theorem Nj{C:Cn}{o e e2:Expr}{fo fe fg:Yb->R PV}{g:PV->PV->PV->Option PV}{name:Str}{id:String}{Y4 Y0:SL}(S:ab6 name id)(hm:MtR C.X id (rM2 C.X.K g))(ho:EV C o fo)(he:EO C e fe)(hg:EO C e2 fg)
  (hbase:S8 o name C.X.env @de=Rj o C.X.env:=by rfl) (Y6:(Y4.endLine==Y0.line)=Y2:=by rfl) (hs:QU [e,e2] C.X.env=[(Y1,Rj e C.X.env),(Y1,Rj e2 C.X.env)]:=by exact qI rfl rfl) (hs2:QU [e2] C.X.env=[(Y1,Rj e2 C.X.env)]:=by exact bF rfl):
  EV C (.Call @jL [e,e2] [] Y0) (Dc fo fe fg g):=by
 sleep 1;refine vn We S.slot S.ty hm ho (bh he (bh hg dZ hs2) (hs.trans (by rw[hs2]))) hbase (by rw[hs];rfl) Y6 (hs.trans (by rw[hs2])) (by rw[hs2];rfl) J' s σ H Q I ⟨ρ,vw,q.bind.imp λp _ k v H1 s1 r1=>?_⟩;cases p with
|str x=>
  cases (show v=.str x from r1);have k:RQ C H (fe ρ>>=λq=>fg ρ>>=λr=>R.Yn (g @H q r)) λp=>∀v H',Yc H H'->Rep C.X.K H' p v->Q v H':=k;refine⟨rfl,ρ,vw.same s1,(k.bind.same s1).imp λp2 _ k2 u H2 s2 r2=>⟨ρ,(vw.same s1).same s2,(k2.bind.same @dB).imp λp3 _ k3 u2 H3 s3 r3=>?_⟩⟩;obtain⟨z,ez,k4⟩:=k3.Yn;exact⟨.str x,p2,p3,z,u,u2,rfl,rfl,r2.same s3,r3,ez,λw H4 s4 r4=>k4 w H4 @n6 r4⟩
|_=>exact QS k
theorem Nv {X:Cx}:gw X @k8 (r1 X.K GT):=by
 sleep 11;subst e1;cases p with
|str x=>
  cases (show v=.str x from rp);obtain⟨u,rfl,ru⟩:=vals1 r;obtain⟨t,rfl⟩:=ru;have ez:(if x.length<=640 then (WE x).map PV.int else Y')=Z' z:=ez;split at ez
  .rename_i hl
   obtain⟨n,hn,rfl⟩:=RJ.mp ez;exact PySem.W.KIN.call_text hn hl ⟨.int n,H,I.tok _,@O,k _ H @p rfl⟩
  .cases ez
|_=>cases ez
end PU
namespace PU
open PySem PySem.Spec PyProof.Rows
section
variable{M:Wo}{A:RV}{E:Value->QR->Prop}{s:QR}{env:Uz}
theorem Hg{pos:SL}{T:String}{e:Expr}{rest:List Expr}{kws:List Xp}{Q:Value->QR->Prop}
  (h:QZ M A (spliced (SN pos (QU (e::rest) env))) (λvs s1=>QZ M A (evalAll ((TH pos @d5).map @s)) (λks s2=>QZ M A (call @aG vs (((TH pos @d5).filterMap @d).zip ks)) Q E s2) E s1) E s)
  (he:SN pos (QU (e::rest) env)=(Y1,Rj e env)::SN pos (QU rest env)) (hp:(SN pos (QU (e::rest) env)).any @d=Y1)
  (ha:(TH pos @d5).all (·.1.isSome)=Y2) (hk:(TH pos @d5).any (·.1.isNone)=Y1):
  QZ M A (VH pos @aG [] (SN pos (QU (e::rest) env)) (TH pos @d5)) Q E s:=by
 have h2:QZ M A (evalArgs @aG Y2 (SN pos (QU (e::rest) env)) (TH pos @d5)) (λa s1=>QZ M A (call @aG a.pos a.kw) Q E s1) E s:=by
  rw[he]at h ⊢;exact evalArgs_kwB ha h
 unfold VH;refine QQ (SZ (Rz h2 (λa s1 k1=>QQ (Tx ?_)) λ_ _ z=>z));simp only[hp,hk,Ur];refine QQ (QW (QQ (Rz k1 (λr s2 kr=>QQ (SZ (wpAny_point (QW kr)))) λ_ _ z=>z)))
end
section
variable{prog:R8}{w:RH}{A:RV}{E:Value->QR->Prop}{s:QR}
theorem DL(l:Addr)(items:Array Value)(n:Nat)(d:Option Addr)(sl:Array @bz)(t:XD):
  Meets (Builtin.«enumerate.__new__» ⟨[.type "enumerate",.ref l],[("start",.int 1 t)]⟩) (λ_ R s=>s.heap.get? l=Z' {cls:=.type "list",dict:=d,data:=.seq items n,slots:=sl}/\
   R (.ok (.ret (.ref (s.heap.push {cls:=.type "list_iterator",data:=.fields #[.ref l,.int 0 0]}).objs.size)))
    {s with heap:=(s.heap.push {cls:=.type "list_iterator",data:=.fields #[.ref l,.int 0 0]}).push {cls:=.type "enumerate",data:=.fields #[.none,.bool Y1,.ref s.heap.objs.size,T5 1,.none,.none]} }):=
 .of_wp λprog w A R s ⟨hl,h⟩=>by
  obtain⟨hp,g,dd,tk,os⟩:=s;have sb:=sub_enumerate;have hL:Heap.IsList (Wz ⟨hp,g,dd,tk,os⟩) l items:=⟨_,hl,rfl,n,rfl⟩
  wp_walk using UY hl
  refine wpAny_stack_any λst=>QW ?_
  split
  .rename_i c _ _ _ _ _
   cases (c==WI "enumerate")<;>(wp_walk using UY hl,Sm hL;exact⟨_,rfl,h⟩)
  .wp_walk using UY hl,Sm hL
   exact⟨_,rfl,h⟩
theorem Hj {T newId:String} {self:Value} {rest:List Value} {kw:List @bW} (hl:X3 @aG "__init__"=pure (Z' (.builtin "object.__init__"))) (hm:Bind.madeBy @aG=pure (Z' newId)) (hne:(Z' newId != Z' "object.__new__")=Y2):
  Meets (Builtin.«object.__init__» ⟨self::rest,kw⟩) (λ_ R s=>s.TypeIs self T/\R (.ok (.ret .none)) s):=.of_wp λprog w A R s ⟨hT,hq⟩=>by
 cases rest with
|nil=>
  cases kw with
  |nil=>exact QW @kK
  |cons b kw=>
   repeat (any_goals (first|assumption|wp_step))
   exact@kK
|cons a rest=>
  repeat (any_goals (first|assumption|wp_step))
  exact@kK
theorem Hl {T newId:String} {Bn:Builtin} {args:List Value} {kw:List @bW} {S:PySem.Spec} {Q:Value->QR->Prop} (ft:TypeCalled T newId "object.__init__") (hne:(Z' newId != Z' "object.__new__")=Y2)
  (hct:checkTypeCall T ⟨args,kw⟩=pure ()) (hcn:checkBuiltinCall newId ⟨.type T::args,kw⟩=pure ()) (hok:∀obj,argsOk "object.__init__" ⟨obj::args,kw⟩) (en:entryFor table newId=Z' Bn) (g:Meets (Bn ⟨.type T::args,kw⟩) S)
  (h:S A.in1 (wants (λobj s1=>s1.TypeIs obj T/\Q obj s1) E) s):QZ @r A (call @aG args kw) Q E s:=by
 obtain⟨c0,tl0,f1⟩:=ft.mro;have f2:=ft.made;have f3:=ft.sub;have f4:=ft.notType;have f5:=ft.canCreate;refine UO (codeAny_of_tree (show QZ _ _ (callAny @aG _) _ _ _ from QW ⟨Code.quiet_builtin _ @bf,codeAny_builtin F.entry_type_call ?_⟩));rw[Around.under_plain (weight_type_call_type T args kw) (units_type_call_type T args kw)]
 repeat (any_goals (first|assumption|wp_step))
 refine UG (UW ft.plain en (wpAny_of_eq hcn (g prog w A.in1 _ s h))) λr s1 hr=>?_;cases r with
|error e=>exact hr
|ok fl=>
  cases fl with
  |ret obj=>
   obtain⟨hT,hQ⟩:=hr;have f6:=ft.init.lookup;have f7:=ft.init.bind obj
   repeat (any_goals (first|assumption|wp_step))
   refine UG (UW ft.init.plain F.entry_object_init (ft.init.check _ _ _ _ _ _ _ _ hT (hok obj) (Hj (kw:=kw) f6 f2 hne prog w A.in1 _ s1 ⟨hT,(show wants (λr s2=>r=.none/\Q obj s2) E _ s1 from ⟨rfl,hQ⟩)⟩))) λr2 s2 hr2=>?_;cases r2 with
   |error e=>exact hr2
   |ok fl2=>
    cases fl2 with
    |ret r=>
     obtain⟨rfl,hq⟩:=hr2
     repeat (any_goals (first|assumption|wp_step))
    |_=>exact hr2.elim
  |_=>exact hr.elim
theorem Hk{l:Addr}{items:Array Value}{t:XD}{Q:Value->QR->Prop}(hL:s.heap.IsList l items)
  (h:∀h',IsEnum h' (s.heap.objs.size+1) s.heap.objs.size 1 .none->h'.IsListIter s.heap.objs.size l 0->(∀b o,s.heap.get? b=Z' o->h'.get? b=Z' o)->Q (.ref (s.heap.objs.size+1)) {s with heap:=h'}):
  QZ @r A (call @q9 [.ref l] [("start",.int 1 t)]) Q E s:=by
 obtain⟨⟨c,d,dt,sl⟩,hl,hc,n,hd⟩:=hL;cases (show c=.type "list" from hc);cases (show dt=.seq items n from hd);refine Hl F.called_enumerate @h @aM @aM (λobj=>by first|exact F.args_object_init_2 obj _|trivial|simp[argsOk]) F.entry_enumerate_new (DL l items n d sl t) ⟨hl,?_⟩;have hz:(s.heap.push {cls:=.type "list_iterator",data:=.fields #[.ref l,.int 0 0]}).objs.size=s.heap.objs.size+1:=SA ..;rw[hz];have he:=RD (s.heap.push {cls:=.type "list_iterator",data:=.fields #[.ref l,.int 0 0]}) (o:={cls:=.type "enumerate",data:=.fields #[.none,.bool Y1,.ref s.heap.objs.size,T5 1,.none,.none]}) rfl;rw[hz]at he;exact⟨@sW,h _ he ⟨_,QT _ (RD _ rfl),rfl,rfl⟩ λb o x=>QT _ (QT _ x)⟩
end
theorem DM{prog:R8}{w:RH}{A:RV}{it:Addr}{fp:List Addr}{n:Nat}{P:Nat->Value->Prop}{St:Nat->Heap->Prop}(D:Ws prog w A it fp n P St):
  Ws prog w A it fp (n+1) (λi v=>∃j,i=j+1/\P j v) (λi h=>∃j,i=j+1/\St j h) where
 live:=λi h ⟨j,_,st⟩=>D.live j h st
 frame:=λi h h' ⟨j,e,st⟩ k=>⟨j,e,D.frame j h h' st k⟩
 item:=λi s Q E hi ⟨j,e,st⟩ hQ=>D.item j s Q E @i st λx h' tk p st' sb=>hQ x h' tk ⟨j,e,p⟩ ⟨j+1,by simp[*],st'⟩ sb
 done:=λs Q E ⟨j,e,st⟩ hE=>by
  cases (show n=j by simp_all);exact D.done s Q E st hE
theorem Hi{prog:R8}{w:RH}{A:RV}{I:Addr}{fp wr:List Addr}{n:Nat}{Pt:Nat->Array Value->Prop}{St:Nat->Heap->Prop}{Mid:Nat->Addr->Heap->Prop}(W:WalksT prog w A I fp wr (n+1) Pt St Mid):
  WalksT prog w A I fp wr n (λi=>Pt (i+1)) (λi=>St (i+1)) (λi=>Mid (i+1)) where
 sub:=W.sub
 frame:=λi=>W.frame (i+1)
 item:=λi s Q E hi=>W.item (i+1) s Q E (by simp[*])
 go:=λelts k pos i=>W.go elts k pos (i+1)
 apart:=λi=>W.apart (i+1)
 done:=W.done
 self:=λi=>W.self (i+1)
open L2 PySem.SeqAt
noncomputable def u3(ps:List PV):List @e:=(S7 ps.length).zipWith (λ(i:Nat) p=>[.int ((i+1:Nat):Int),p]) ps
def xi:PV->Option @e
|.lst ps=>Z' ((u3 ps).map .tup)
|_=>Y'
def mr(f:Yb->R PV):Yb->R @e:=fun ρ=>f ρ>>=λp=>R.Yn (xi p)
variable[TW]
noncomputable def CZ(xs:List V):List @ej:=(S7 xs.length).zipWith (λ(i:Nat) x=>[.int ((i+1:Nat):Int),x]) xs
theorem A9{K:QO}{H:Hp}{ps:List PV}{xs:List V}(r:aV K H ps xs):∀(i:Nat)(qs:List PV)(ys:List V),(u3 ps)[i]?=Z' qs->(CZ xs)[i]?=Z' ys->aV K H qs ys:=λi qs ys h1 h2=>by
 unfold u3 at h1;unfold CZ at h2;rw[o5]at h1 h2;cases e:ps[i]? with
|none=>simp_all
|some p=>
  rw[e]at h1;obtain⟨x,ex,rp⟩:=r.get e;rw[ex]at h2;cases h1;cases h2;exact@og
theorem xK{P:R8}{w:RH}{K:QO}{elts:List Expr}{kk:Nat}{tp:SL}(a it e:Addr)(xs:List V)(hne:e≠it)(hae:a≠e)(hai:a≠it):
  Turn P w K @bO (lS xs.length @qy (CZ xs)) @f5 e (λi h=>(∃old,IsEnum h e it ((i+1:Nat):Int) old)/\h.IsListIter it a i):=by
 sleep 22
 .subst hP hw hK
  have hq:Zc X.K H a xs:=by rcases hg with h|h<;>exact h.2
  obtain⟨Xv,rv,pl,hz⟩:=I.list hq;have hl:=rv.length;have W:=Hi (Vh (A:=X.A) (DM (XU (prog:=X.prog) (w:=X.w) (A:=X.A.in1) @aF it a hai Xv.toArray)) e hne (by simp[hne,Rv hae]) @a);rw[show Xv.toArray.size=xs.length by simp[hl]]at W;refine⟨_,_,_,_,W,⟨st.1,i,rfl,st.2,pl.isList⟩,λj h ⟨s1,j',ej,s2⟩=>⟨s1,by cases (show j=j' by simp_all);exact s2.1⟩,λvals hv=>?_⟩;obtain⟨t,x,⟨j,ej,hx⟩,rfl⟩:=hv;cases (show i=j by simp_all);have hx:Xv[i]?=Z' x:=by simpa using hx
  have hi:i<xs.length:=by rw[hl];exact(RO.mp hx).1
  have e1:xs[i]?=Z' xs[i]:=by simp[hi]
  obtain⟨u,eu,ru⟩:=rv.get e1;rw[hx]at eu;cases eu;refine⟨[.int ((i+1:Nat):Int),xs[i]],.cons @a5 @kH,by show 2<=sizeLine;decide,λz=>(by obtain⟨b,z⟩:=z _ RZ;cases z),λT hT=>⟨T,_,rfl,hT,?_,rfl⟩⟩;unfold CZ;rw[o5,e1];rfl
 .obtain⟨⟨old,he⟩,o,ho,hc,hd⟩:=st
  rcases R7.mp hb with rfl|hb
  .sleep 19
  .have:b=it:=by simpa using hb
   subst this;exact⟨o,ho,λv z=>by rw[hd]at z;cases z⟩
 .obtain⟨⟨old,he⟩,hi⟩:=st
  exact@m9
theorem xl {C:Cn} {e:Expr} {elts:List Expr} {kk:Nat} {tp p pos kp cp:SL} {j} {f:Yb->R PV} (hg:Gl C.X "enumerate") (hm:C.X.mg "enumerate"=Y') (he:EV C e f) (hs:QU [e] C.X.env=[(Y1,Rj e C.X.env)]:=by exact bF rfl):
  EI C @bO (.Call @qg [e] [⟨Z' "start",.Constant @cU j cp,kp⟩] pos) (mr f):=by
 intro J' s σ H Rk I ⟨ρ,vw,q⟩
 refine TM (oj I hg hm jF (Hg (Yl (↑264 pos J' s σ H (λvs H'=>∃v p ps,vs=[v]/\Yc H H'/\Rep C.X.K H' p v/\xi p=Z' ps/\∀J H2,Yc H' H2->ItP C.X.K J H2 ps->Rk J H2) I ⟨ρ,vw,q.bind.imp λp _ k v H' s' r=>?_⟩)
  λus s1 ⟨vs,H1,I1,r1,v,p,ps,ev,sm,rp,ep,k⟩=>Yl ((G9 wB Jl) pos J' s1 σ H1 (λvs H'=>vs=[.int 1]/\H'=H1) I1 @aT) λws s2 ⟨zs,H2,I2,r2,ez,eh⟩=>?_) (by rw[hs];rfl) (by rw[hs];rfl) rfl rfl))
 .obtain⟨ps,ep,k⟩:=k.Yn
  exact@m2
 .subst ev ez eh
  obtain⟨u,rfl,ru⟩:=vals1 r1;obtain⟨u2,rfl,ru2⟩:=vals1 r2;obtain⟨t2,rfl⟩:=ru2;have hne:s2.heap.objs.size+1≠s2.heap.objs.size:=Nat.succ_ne_self _;cases p with
  |lst qs=>
   cases ep;obtain⟨a,xs,rfl,g,rr⟩:=rp;cases ru;obtain⟨Xv,rv,pl,hz⟩:=I2.list g.l.l;have ha:a<s2.heap.objs.size:=by obtain⟨o,n,ho,_⟩:=pl;exact QY ho
   refine Hk pl.isList λh' he' hi' hk=>Tb he' ?_;refine⟨_,_,_,_,H2,rfl,I2.kept (t':=s2.toks) hk,xK a s2.heap.objs.size (s2.heap.objs.size+1) xs hne (RY (Vy ha)) (RY ha),@jM,λb hb=>?_,k _ H2 (Yc.refl H2) ?_⟩
   .have hb:s2.heap.objs.size<=b:=by
     simp only[R7,Rx,or_false]at hb;rcases hb with rfl|rfl
     .exact UM _
     .exact R9 _
    exact I2.ZK hb (I2.hok.fresh hb)
   .exact ou (by unfold u3;simp[rr.length]) (λH3 k3=>(k3.sqF g).l.l) (A9 rr)
  |_=>cases ep
end PU
namespace PU
open PySem PySem.Spec PyProof.Rows
section
variable{prog:R8}{w:RH}{A:RV}{E:Value->QR->Prop}{s:QR}
theorem Fm{it t:Addr}{i:Nat}{items:Array Value}{x:Value}{Q:Value->QR->Prop}(hit:s.heap.IsTupleIter it t i)(ht:s.heap.IsTuple t items)(hx:items[i]?=Z' x)
  (hQ:∀g,g.IsTupleIter it t (i+1)->T9 it s.heap g->Q x {s with heap:=g}):QZ @r A (Rq @ap) Q E s:=by
 obtain⟨o,e1,e2,e3⟩:=id hit;obtain⟨o2,f1,_,n,f3⟩:=ht;unfold Rq
 refine QQ (TF (name:=QP "__next__") hit.typeIs Te (TC Te hit.typeIs Wr
  (show QZ _ _ (Xc @ap 0 >>= _) _ _ s from QQ (Ry e1 e3 (x:=.ref t) rfl (show QZ _ _ (if (RU t == S6)=Y2 then _ else _) _ _ s from ?_))) (Wg _)))
 rw[if_neg (show ¬ ((RU t==S6)=Y2)from RA)];sleep 23;simp only[hx,Int.toNat_natCast];refine QQ (Us e1 e3 @a (QW ⟨x,rfl,QW (hQ _ ⟨_,UA _ e1 (VL (Uc e3 _)),(Obj.cls_mapFields ..).trans e2,?_⟩ (WK ..))⟩))
 grind[Uc,T5]
theorem Ih{it t:Addr}{i:Nat}{items:Array Value}{Q:Value->QR->Prop}(hh:A.handled=Y')(hit:s.heap.IsTupleIter it t i)(ht:s.heap.IsTuple t items)(hx:items[i]?=Y')
  (hE:∀g e,Heap.ExtBut it s.heap g->(∃o,g.get? e=Z' o/\o.cls=.type "StopIteration")->E @b0 {s with heap:=g}):QZ @r A (Rq @ap) Q E s:=by
 obtain⟨o,e1,e2,e3⟩:=id hit;obtain⟨o2,f1,_,n,f3⟩:=ht;unfold Rq
 refine QQ (TF (name:=QP "__next__") hit.typeIs Te (TC Te hit.typeIs Wr
  (show QZ _ _ (Xc @ap 0 >>= _) _ _ s from QQ (Ry e1 e3 (x:=.ref t) rfl (show QZ _ _ (if (RU t == S6)=Y2 then _ else _) _ _ s from ?_))) (Wg _)))
 rw[if_neg (show ¬ ((RU t==S6)=Y2)from RA)];sleep 23;simp only[hx,Int.toNat_natCast];refine QQ (wpAny_rule (QQ (Us e1 e3 @a (show QZ _ _ (newExc (.type "StopIteration") []>>=_) _ _ _ from QQ ?_))));simp only[newExc,newTuple];refine QQ (Sn (QQ (m:=firstArgMember _ _) (wpAny_of_eq (a:=S6) @D (Sn ?_ (by size_fits)))) (by size_fits));simp only[raiseNew];refine QQ (wpAny_handled ?_)
 first|rw[show A.in1.handled=Y' from hh]|rw[hh]
 exact QQ (QW (wpAny_throw (hE _ _ (((WK ..).extBut.push _).push _) ⟨_,RD _ rfl,rfl⟩)))
end
theorem BY{prog:R8}{w:RH}{A:RV}(hh:A.handled=Y')(it t:Addr)(hne:t≠it)(items:Array Value):
  Ws prog w A it [it,t] items.size (λi v=>items[i]?=Z' v) (λi h=>h.IsTupleIter it t i/\h.IsTuple t items) where
 live:=λ_ _ ⟨⟨o,e,_⟩,_⟩=>⟨o,e⟩
 frame:=λ_ _ _ ⟨a,o,e,r⟩ k=>⟨a.at λo e=>k it @a o e,o,k t @a o e,r⟩
 item:=λi s Q E hi st hQ=>Fm st.1 st.2 (x:=items[i]) (by simp[hi]) λg g1 g2=>hQ _ g s.toks (by simp[hi]) ⟨g1,st.2.extBut g2.extBut hne⟩ g2
 done:=λs Q E st hE=>Ih hh st.1 st.2 @a hE
structure ZtA(z T O i1 i2:Addr)(f1 f2:List Addr):Prop where
 nd:[z,T,O,i1,i2].Nodup
 m1:i1∈f1
 m2:i2∈f2
 a1:∀b∈f1,b≠z/\b≠O/\b≠i2
 a2:∀b∈f2,b≠z/\b≠O/\b≠i1
section
variable{prog:R8}{w:RH}{A:RV}{E:Value->QR->Prop}{s:QR}{z T O i1 i2:Addr}{f1 f2:List Addr}{n1 n2:Nat}{P1 P2:Nat->Value->Prop}{S1 S2:Nat->Heap->Prop}
theorem Fk{k:Nat}{a b:Value}{Q:Value->QR->Prop}(Z:ZtA z T O i1 i2 f1 f2)(D1:Ws prog w A i1 f1 n1 P1 S1)(D2:Ws prog w A i2 f2 n2 P2 S2)(hz:Vm s.heap z T O .none)(hT:Tj s.heap T @cQ @dr)(hO:Tj s.heap O a b)
  (k1:k<n1) (k2:k<n2) (st1:S1 k s.heap) (st2:S2 k s.heap)
  (hQ:∀(x y:Value)(g:Heap)(N:Addr)(tk:Nat),P1 k x->P2 k y->Vm g z T O (T5 N)->Tj g O x y->S1 (k+1) g->S2 (k+1) g->Tj g N x y->s.heap.objs.size<=N->(∀c o,c≠z->c≠O->c≠i1->c≠i2->s.heap.get? c=Z' o->g.get? c=Z' o)->Q (.ref N) {s with heap:=g,toks:=tk}):
  QZ @r A (Builtin.«zip.__next__» ⟨[.ref z],[]⟩) (λfin s'=>∃v,fin=.done (.ret v)/\Q v s') E s:=by
 have nd:=Z.nd;simp only[RT,R7,Rx,or_false,not_or]at nd;sleep 18;sleep 21;unfold Sb;refine QQ (Ry hz rfl (x:=.none) rfl (QW ?_));simp only[if_true];refine QQ (wpAny_rule (QQ (Ry hz rfl (x:=.ref O) rfl (QQ (U4 hz @a λg1 hz1 c1=>QQ ?_)))));have hz1:Vm g1 z T O .ellipsis:=hz1;simp only[List.zipIdx_cons,List.zipIdx_nil,VD,List.forIn_nil];refine QQ (QQ (V7 (show QZ _ _ (Rq @cQ>>=_) _ _ _ from QQ (D1.item k _ _ _ k1 @iO λx g2 t2 p1 s2 c2=>QW ?_))));have hO2:Tj g2 O a b:=c2.extBut _ _ O1 @oX;refine QQ (Su hO2 rfl (QQ (Vj hO2 λg3 hO3 c3=>QQ (wpAny_letGo (QW ?_)))));have hO3:Tj g3 O x b:=hO3;refine QQ (QQ (V7 (show QZ _ _ (Rq @dr>>=_) _ _ _ from QQ (D2.item k _ _ _ k2 @mB λy g4 t4 p2 s4 c4=>QW ?_))));have hO4:Tj g4 O x b:=c4.extBut _ _ O2 hO3;refine QQ (Su hO4 rfl (QQ (Vj hO4 λg5 hO5 c5=>QQ (wpAny_letGo (QW (QW ?_))))));have hO5:Tj g5 O x y:=hO5;refine QQ (Su hO5 rfl (QQ (wpAny_newTuple ?_)));have up5:∀c o,c≠z->c≠O->c≠i1->c≠i2->s.heap.get? c=Z' o->g5.get? c=Z' o:=λc o d1 d2 d3 d4 e=>c5.extBut _ _ d2 (c4.extBut _ _ d4 (c3.extBut _ _ d2 (c2.extBut _ _ d3 (c1.extBut _ _ d1 e))));have hz5:Vm g5 z T O .ellipsis:=c5.extBut _ _ zO (c4.extBut _ _ z2 @nE);have q1:S1 (k+1) g5:=D1.frame _ _ _ s2 λb hb o e=>c5.extBut _ _ (Z.a1 b hb).2.1 (c4.extBut _ _ (Z.a1 b hb).2.2 (c3.extBut _ _ (Z.a1 b hb).2.1 e));have q2:S2 (k+1) g5:=D2.frame _ _ _ s4 λb hb o e=>c5.extBut _ _ (Z.a2 b hb).2.1 e;have lz:z<g5.objs.size:=QY hz5;have sz:s.heap.objs.size<=g5.objs.size:=U8 (by rw[c5.1,c4.1,c3.1,c2.1,c1.1]);refine(show QZ _ _ (UX @dn (.ref g5.objs.size)>>=_) _ _ _ from QQ ?_);unfold UX;have hz6:Vm (g5.push {cls:=.type "tuple",data:=.seq #[x,y]}) z T O .ellipsis:=QT _ hz5;refine QQ (U4 hz6 @a λg7 hz7 c7=>U4 (show Vm g7 z T O (T5 g5.objs.size)from hz7) @a λg8 hz8 c8=>QW ⟨_,rfl,?_⟩);have up8:∀c o,c≠z->(g5.push {cls:=.type "tuple",data:=.seq #[x,y]}).get? c=Z' o->g8.get? c=Z' o:=λc o d e=>c8.extBut _ _ d (c7.extBut _ _ d e);have up:∀c o,c≠z->g5.get? c=Z' o->g8.get? c=Z' o:=λc o d e=>up8 c o d @iA
 exact hQ x y g8 g5.objs.size _ p1 p2 hz8 (up _ _ (Rv zO) hO5) (D1.frame _ _ _ q1 λb hb o e=>up b o (Z.a1 b hb).1 e) (D2.frame _ _ _ q2 λb hb o e=>up b o (Z.a2 b hb).1 e) (up8 _ _ (Tf lz) (RD _ rfl)) sz
  λc o d1 d2 d3 d4 e=>up c o d1 (up5 c o d1 d2 d3 d4 e)
theorem Fj{a b:Value}{Q:Fin->QR->Prop}(Z:ZtA z T O i1 i2 f1 f2)(D1:Ws prog w A i1 f1 n1 P1 S1)(D2:Ws prog w A i2 f2 n2 P2 S2)(hz:Vm s.heap z T O .none)(hT:Tj s.heap T @cQ @dr)(hO:Tj s.heap O a b)
  (st1:S1 @lE s.heap) (st2:S2 @lE s.heap)
  (hE:∀g e tk,(∀c o,c≠z->c≠O->c≠i1->c≠i2->s.heap.get? c=Z' o->g.get? c=Z' o)->(∃o,g.get? e=Z' o/\o.cls=.type "StopIteration")->E @b0 {s with heap:=g,toks:=tk}):
  QZ @r A (Builtin.«zip.__next__» ⟨[.ref z],[]⟩) Q E s:=by
 have nd:=Z.nd;simp only[RT,R7,Rx,or_false,not_or]at nd;sleep 18;sleep 21;unfold Sb;refine QQ (Ry hz rfl (x:=.none) rfl (QW ?_));simp only[if_true];refine QQ (wpAny_rule (QQ (Ry hz rfl (x:=.ref O) rfl (QQ (U4 hz @a λg1 hz1 c1=>QQ ?_)))));have hz1:Vm g1 z T O .ellipsis:=hz1;simp only[List.zipIdx_cons,List.zipIdx_nil,VD,List.forIn_nil]
 have fin:∀{g g':Heap} {e:Addr} {tk:Nat},Vm g' z T O .ellipsis->(∀c o,c≠z->c≠O->c≠i1->c≠i2->s.heap.get? c=Z' o->g'.get? c=Z' o)->(∃o,g'.get? e=Z' o/\o.cls=.type "StopIteration")->
   QZ @r A (setField @dn 0 .none) (λ_ s'=>E @b0 s') E {s with heap:=g',toks:=tk}:=λ{g g' e tk} h1 h2 ⟨o,h3,h4⟩=>by
  have ez:e≠z:=λq=>by simp_all
  exact U4 h1 @a λg3 _ c3=>hE g3 e tk (λc o d1 d2 d3 d4 x=>c3.extBut _ _ d1 (h2 c o d1 d2 d3 d4 x)) ⟨o,c3.extBut _ _ ez h3,h4⟩
 by_cases h12:n1<=n2
 .rw[Nat.min_eq_left h12]at st1
  refine QQ (QQ (V7 (show QZ _ _ (Rq @cQ>>=_) _ _ _ from QQ (D1.done _ _ _ @iO λg2 e c2 he=>?_))));exact fin (g:=g2) (c2 _ _ z1 hz1) (λc o d1 d2 d3 d4 x=>c2 _ _ d3 @qz) he
 .have h21:n2<n1:=by simp_all
  rw[Nat.min_eq_right (Vz h21)]at st1 st2;refine QQ (QQ (V7 (show QZ _ _ (Rq @cQ>>=_) _ _ _ from QQ (D1.item n2 _ _ _ h21 @iO λx g2 t2 p1 s2 c2=>QW ?_))));have hO2:Tj g2 O a b:=c2.extBut _ _ O1 @oX;refine QQ (Su hO2 rfl (QQ (Vj hO2 λg3 hO3 c3=>QQ (wpAny_letGo (QW ?_)))));refine QQ (QQ (V7 (show QZ _ _ (Rq @dr>>=_) _ _ _ from QQ (D2.done _ _ _ @mB λg4 e c4 he=>?_))));exact fin (g:=g4) (c4 _ _ z2 @nE) (λc o d1 d2 d3 d4 x=>c4 _ _ d4 (c3.extBut _ _ d2 (c2.extBut _ _ d3 @qz))) he
end
open L2 PySem.SeqAt
theorem BW{prog:R8}{w:RH}{A:RV}{z T O i1 i2:Addr}{f1 f2:List Addr}{n1 n2:Nat}{P1 P2:Nat->Value->Prop}{S1 S2:Nat->Heap->Prop}(Z:ZtA z T O i1 i2 f1 f2)(hT1:T∉f1)(hT2:T∉f2)
  (D1:Ws prog w A.in1 i1 f1 n1 P1 S1) (D2:Ws prog w A.in1 i2 f2 n2 P2 S2):
  WalksT prog w A z (z::T::O::(f1++f2)) [z,O,i1,i2] @lE (λi vals=>∃x y,P1 i x/\P2 i y/\vals=#[x,y])
   (λi h=>Vm h z T O .none/\Tj h T @cQ @dr/\(∃a b,Tj h O a b)/\S1 i h/\S2 i h)
   (λi N h=>Vm h z T O (T5 N)/\Tj h T @cQ @dr/\(∃a b,Tj h O a b)/\S1 (i+1) h/\S2 (i+1) h/\N∉[z,O,i1,i2]):=by
 have nd:=Z.nd;simp only[RT,R7,Rx,or_false,not_or]at nd;sleep 18
 have fr:∀{h h':Heap},(∀b∈z::T::O::(f1++f2),∀o,h.get? b=Z' o->h'.get? b=Z' o)->(∀b∈f1,∀o,h.get? b=Z' o->h'.get? b=Z' o)/\∀b∈f2,∀o,h.get? b=Z' o->h'.get? b=Z' o:=
  λk=>⟨λb hb=>k b (by simp[hb]),λb hb=>k b (by simp[hb])⟩
 refine⟨λb hb=>?_,λi h h' st k=>⟨k z @a _ st.1,k T @a _ st.2.1,?_,D1.frame _ _ _ st.2.2.2.1 (fr k).1,D2.frame _ _ _ st.2.2.2.2 (fr k).2⟩,λi s Q E hi st hQ=>?_,λelts k pos i N s Q E hm hQ=>?_,λi N h hm=>hm.2.2.2.2.2,λs Q E st hQ=>?_,λi s Q E st hQ=>WV st.1 hQ⟩
 .simp only[R7,Rx,or_false]at hb
  rcases hb with rfl|rfl|rfl|rfl
  .simp
  .simp
  .simp[Z.m1]
  .simp[Z.m2]
 .grind
 .obtain⟨hz,hT,⟨a,b,hO⟩,s1,s2⟩:=st
  have hY:s.TypeIs @dn "zip":=@sV;have l1:i1<s.heap.objs.size:=by obtain⟨o,e⟩:=D1.live _ _ s1;exact QY e
  have l2:i2<s.heap.objs.size:=by obtain⟨o,e⟩:=D2.live _ _ s2;exact QY e
  have l3:z<s.heap.objs.size:=QY hz;have l4:O<s.heap.objs.size:=QY hO;unfold pyNext
  refine QQ (W3 (TF (name:=QP "__next__") hY VP (TC VP hY F.entry_zip_next
   (Fk Z D1 D2 hz hT hO (QX hi (Nat.min_le_left ..)) (QX hi (Nat.min_le_right ..)) s1 s2 λx y g N tk p1 p2 q1 q2 q3 q4 q5 q6 q7=>QW ?_) @qc)))
  exact hQ N #[x,y] g tk ⟨x,y,p1,p2,rfl⟩ q6 ⟨_,q5,rfl,_,rfl⟩ ⟨q1,q7 _ _ (Rv zT) TO T1 T2 hT,⟨_,_,q2⟩,q3,q4,by grind⟩
   λc o hc e=>q7 c o (λx=>hc (by simp[x])) (λx=>hc (by simp[x])) (λx=>hc (by simp[x])) (λx=>hc (by simp[x])) e
 .obtain⟨hz,hT,⟨a,b,hO⟩,s1,s2,_⟩:=hm
  exact wpAny_letOwnedTupleGo_zip hz λh' hz' hs'=>hQ h' ⟨hz',hs'.extBut _ _ (Rv zT) hT,⟨a,b,hs'.extBut _ _ (Rv zO) hO⟩,D1.frame _ _ _ s1 λb hb o e=>hs'.extBut _ _ (Z.a1 b hb).1 e,D2.frame _ _ _ s2 λb hb o e=>hs'.extBut _ _ (Z.a2 b hb).1 e⟩ λc o hc e=>hs'.extBut _ _ (λx=>hc (by simp[x])) e
 .obtain⟨hz,hT,⟨a,b,hO⟩,s1,s2⟩:=st
  have hY:s.TypeIs @dn "zip":=@sV;unfold pyNext
  refine QQ (W3 (TF (name:=QP "__next__") hY VP (TC VP hY F.entry_zip_next
   (Fj Z D1 D2 hz hT hO s1 s2 λg e tk q1 ⟨o,ho,hc⟩=>QQ (wpAny_isInstance (T:="StopIteration") (b:=Y2) ⟨o,ho,hc⟩ isSubtype_stop (QW (hQ g tk λc o hc e=>q1 c o (λx=>hc (by simp[x])) (λx=>hc (by simp[x])) (λx=>hc (by simp[x])) (λx=>hc (by simp[x])) e)))) @qc)))
noncomputable def ztH(h:Heap)(t l:Addr):Heap:=
 ((((h.push {cls:=.type "tuple_iterator",data:=.fields #[.ref t,.int 0 0]}).push {cls:=.type "list_iterator",data:=.fields #[.ref l,.int 0 0]}).push {cls:=.type "tuple",data:=.seq #[.ref h.objs.size,.ref (h.objs.size+1)]}).push {cls:=.type "tuple",data:=.seq #[.none,.none]}).push
  {cls:=.type "zip",data:=.fields #[.none,.bool Y1,.bool Y1,.ref (h.objs.size+2),.ref (h.objs.size+3)]}
theorem BX (t l:Addr) (xs ys:Array Value):Meets (Builtin.«zip.__new__» ⟨[.type "zip",.ref t,.ref l],[]⟩) (λ_ R s=>s.heap.IsTuple t xs/\s.heap.IsList l ys/\R (.ok (.ret (.ref (s.heap.objs.size+4)))) {s with heap:=ztH s.heap t l}):=
 .of_wp λprog w A R s h=>by
  obtain⟨hp,g,d,tk,os⟩:=s;obtain⟨h1,h2,h⟩:=h;have sb:=sub_zip;have k1:Heap.IsTuple (Wz ⟨hp,g,d,tk,os⟩) t xs:=h1;have k2:Heap.IsList (Wz ⟨hp.push {cls:=.type "tuple_iterator",data:=.fields #[.ref t,.int 0 0]},g,d,tk,os⟩) l ys:=Heap.IsList.push h2 _
  wp_walk using wpAny_pyIter_tuple k1,Sm k2
  refine⟨_,rfl,?_⟩;simp only[SA];exact h
theorem Fn{prog:R8}{w:RH}{A:RV}{E:Value->QR->Prop}{s:QR}{t l:Addr}{xs ys:Array Value}{Q:Value->QR->Prop}(h1:s.heap.IsTuple t xs)(h2:s.heap.IsList l ys)
  (hQ:∀h',Vm h' (s.heap.objs.size+4) (s.heap.objs.size+2) (s.heap.objs.size+3) .none/\Tj h' (s.heap.objs.size+2) @b9 (.ref (s.heap.objs.size+1))/\(∃a b,Tj h' (s.heap.objs.size+3) a b)/\
   h'.IsTupleIter s.heap.objs.size t 0/\h'.IsListIter (s.heap.objs.size+1) l 0->(∀c o,s.heap.get? c=Z' o->h'.get? c=Z' o)->Q (.ref (s.heap.objs.size+4)) {s with heap:=h'}):
  QZ @r A (call (.type "zip") [.ref t,.ref l]) Q E s:=by
 refine callType_new F.called_zip @h (F.typeCall_zip_2 _ _) (F.newCall_zip_2 _ _) (λobj=>F.args_object_init_3 obj _ _) F.entry_zip_new (BX t l xs ys) ⟨h1,h2,?_⟩;have up:∀{h:Heap}{o:Obj}{c:Addr}{x:Obj},h.get? c=Z' x->(h.push o).get? c=Z' x:=λe=>QT _ e;have at':∀(h:Heap)(o:Obj)(n:Nat),h.objs.size=n->o.isFreed=Y1->(h.push o).get? n=Z' o:=λh o n e f=>by subst e;exact RD _ f
 have g5:(ztH s.heap t l).get? (s.heap.objs.size+4)=Z' _:=at' _ _ _ (by simp only[SA]) rfl;have g4:(ztH s.heap t l).get? (s.heap.objs.size+3)=Z' _:=up (at' _ _ _ (by simp only[SA]) rfl);have g3:(ztH s.heap t l).get? (s.heap.objs.size+2)=Z' _:=up (up (at' _ _ _ (by simp only[SA]) rfl));have g2:(ztH s.heap t l).get? (s.heap.objs.size+1)=Z' _:=up (up (up (at' _ _ _ (by simp only[SA]) rfl)));have g1:(ztH s.heap t l).get? s.heap.objs.size=Z' _:=up (up (up (up (at' _ _ _ rfl rfl))));exact⟨⟨_,g5,rfl⟩,hQ _ ⟨g5,g3,⟨_,_,g4⟩,⟨_,g1,rfl,rfl⟩,_,g2,rfl,rfl⟩ λc o x=>up (up (up (up (up x))))⟩
theorem BZ{n t l:Addr}(h1:t<n)(h2:l<n):ZtA (n+4) (n+2) (n+3) n (n+1) [n,t] [n+1,l]:=by
 have q1:(t:Nat)<n:=h1;have q2:(l:Nat)<n:=h2;refine⟨?_,by simp,by simp,λb hb=>?_,λb hb=>?_⟩
 .simp
 .grind
 grind
def sD(f g:Yb->R PV):Yb->R @e:=fun ρ=>f ρ>>=λp=>g ρ>>=λq=>(match p,q with
|.tup ps,.lst qs=>if (ps.all iD ||qs.all iD)=Y2 then .ok ((xB ps qs).map .tup)else .no
|_,_=>.no)
variable[TW]
theorem yW{P:R8}{w:RH}{K:QO}{elts:List Expr}{kk:Nat}{tp:SL}{z T O i1 i2 a b:Addr}(Z:ZtA z T O i1 i2 [i1,a] [i2,b])(hTa:T≠a)(hTb:T≠b)(ha1:a≠i1)(hb2:b≠i2)(xs ys:List V)(hfl:(∀x∈xs,∀b,x≠V.ref b)\/(∀y∈ys,∀b,y≠V.ref b)):
  Turn P w K @bO (lS (min xs.length ys.length) (λH=>Zo K H a xs/\Zc K H b ys) (KL xs ys)) [z,T,O,i1,i2] z
   (λi h=>Vm h z T O .none/\Tj h T @cQ @dr/\(∃a b,Tj h O a b)/\h.IsTupleIter i1 a i/\h.IsListIter i2 b i):=by
 have nd:=Z.nd;simp only[RT,R7,Rx,or_false,not_or]at nd;sleep 18;refine vX (wr:=[z,O,i1,i2]) (n:=min xs.length ys.length) (λX J' σ H s i hP hw hK hc I st hg=>?_) @a (λb hb=>by simp at hb ⊢;rcases hb with rfl|rfl|rfl|rfl<;>simp) (λi h st b hb=>?_) (λi h h' st k=>?_) @dJ @dJ λA i s Q E st h=>WV st.1 h
 .subst hP hw hK
  obtain⟨hq1,hq2⟩:Zo X.K H a xs/\Zc X.K H b ys:=by rcases hg with h|h<;>exact h.2
  obtain⟨ag6,rv1,pl1,hz1⟩:=I.tuple hq1;obtain⟨its2,rv2,pl2,hz2⟩:=I.list hq2;have hl1:=rv1.length;have hl2:=rv2.length;have W:=BW (prog:=X.prog) (w:=X.w) (A:=X.A) Z (by simp;exact⟨T1,hTa⟩) (by simp;exact⟨T2,hTb⟩) (BY (A:=X.A.in1) @aF i1 a ha1 ag6.toArray) (XU (A:=X.A.in1) @aF i2 b hb2 its2.toArray);rw[show min ag6.toArray.size its2.toArray.size=min xs.length ys.length by simp[hl1,hl2]]at W;refine⟨_,_,_,_,W,⟨st.1,st.2.1,st.2.2.1,⟨st.2.2.2.1,pl1⟩,st.2.2.2.2,pl2.isList⟩,λj h st=>⟨st.1,st.2.1,st.2.2.1,st.2.2.2.1.1,st.2.2.2.2.1⟩,λvals hv=>?_⟩;obtain⟨x,y,hx,hy,rfl⟩:=hv;have hx:ag6[i]?=Z' x:=by simpa using hx
  have hy:its2[i]?=Z' y:=by simpa using hy
  have h1:i<xs.length:=by rw[hl1];exact(RO.mp hx).1
  have h2:i<ys.length:=by rw[hl2];exact(RO.mp hy).1
  have e1:xs[i]?=Z' xs[i]:=by simp[h1]
  have e2:ys[i]?=Z' ys[i]:=by simp[h2]
  obtain⟨u,eu,ru⟩:=rv1.get e1;rw[hx]at eu;cases eu;obtain⟨v,ev,rv⟩:=rv2.get e2;rw[hy]at ev;cases ev;refine⟨[xs[i],ys[i]],.cons ru (.cons rv .nil),by show 2<=sizeLine;decide,λz=>?_,λT hT=>⟨T,_,rfl,hT,?_,rfl⟩⟩
  .rcases hfl with g|g
   .exact xa ru (g _ (Sz h1)) (z _ RZ)
   .exact xa rv (g _ (Sz h2)) (z _ (R6 _ RZ))
  unfold KL;rw[UC,e1,e2]
 .obtain⟨hz,hTI,⟨u,v,hTO⟩,⟨o1,ho1,_,hd1⟩,o2,ho2,_,hd2⟩:=st
  simp only[R7,Rx,or_false]at hb;rcases hb with rfl|rfl|rfl|rfl|rfl
  .exact⟨_,hz,λv z=>by cases (show VR _=Ux v from z)⟩
  .exact⟨_,hTI,λv z=>by cases (show Data.seq _ _=Ux v from z)⟩
  .exact⟨_,hTO,λv z=>by cases (show Data.seq _ _=Ux v from z)⟩
  .exact⟨o1,ho1,λv z=>by rw[hd1]at z;cases z⟩
  .exact⟨o2,ho2,λv z=>by rw[hd2]at z;cases z⟩
 .obtain⟨hz,hTI,⟨u,v,hTO⟩,h1,h2⟩:=st
  exact⟨k z @a _ hz,k T @a _ hTI,⟨u,v,k O @a _ hTO⟩,h1.at λo x=>k i1 @a o x,h2.at λo x=>k i2 @a o x⟩
theorem B9 {C:Cn} {e e2:Expr} {elts:List Expr} {kk:Nat} {tp p pos:SL} {f g:Yb->R PV} (hg:Gl C.X "zip") (hm:C.X.mg "zip"=Y') (he:EV C e f) (he2:EV C e2 g)
  (hs:QU [e,e2] C.X.env=[(Y1,Rj e C.X.env),(Y1,Rj e2 C.X.env)]:=by exact qI rfl rfl) (hs2:QU [e2] C.X.env=[(Y1,Rj e2 C.X.env)]:=by exact bF rfl):
  EI C @bO (.Call (.Name "zip" p) [e,e2] [] pos) (sD f g):=by
 intro J' s σ H Rk I ⟨ρ,vw,q⟩
 refine Call_ (oj I hg hm PyProof.Rows.boot_zip (T7 (Yl ((bh he (bh he2 dZ hs2) (by rw[hs,hs2])) pos J' s σ H (λvs H'=>∃v u ps qs,vs=[v,u]/\Yc H H'/\Rep C.X.K H' @aq v/\Rep C.X.K H' @cp u/\(ps.all iD ||qs.all iD)=Y2/\∀J H2,Yc H' H2->ItP C.X.K J H2 @qi->Rk J H2) I ⟨ρ,vw,q.bind.imp λp _ k v H1 s1 r1=>⟨ρ,vw.same s1,(k.bind.same s1).imp λp2 _ k2 u H2 s2 r2=>?_⟩⟩)
  λus s1 ⟨vs,H1,I1,r1,v,u,ps,qs,ev,sm,rp,rq,hfl,k⟩=>?_) (by rw[hs,hs2]) (by rw[hs2];rfl)))
 .cases p with
  |tup ps=>
   cases p2 with
   |lst qs=>
    by_cases hfl:(ps.all iD ||qs.all iD)=Y2
    .simp only[if_pos hfl]at k2
     exact⟨v,u,ps,qs,rfl,s1.trans s2,r1.same s2,r2,hfl,λJ H3 s3 it=>k2 J H3 @jD it⟩
    .simp only[if_neg hfl]at k2
     exact QS k2
   |_=>exact QS k2
  |_=>exact QS k2
 .subst ev
  obtain⟨w1,w2,rfl,rw1,rw2⟩:=vals2 r1;obtain⟨a,xs,rfl,g1,rr1⟩:=rp;obtain⟨b,ys,rfl,g2,rr2⟩:=rq;cases rw1;cases rw2;obtain⟨ag6,rv1,pl1,hz1⟩:=I1.tuple g1.sq;obtain⟨its2,rv2,pl2,hz2⟩:=I1.list g2.l.l;have ha:a<s1.heap.objs.size:=by obtain⟨o,ho,_⟩:=pl1;exact QY ho
  have hb:b<s1.heap.objs.size:=by obtain⟨o,n,ho,_⟩:=pl2;exact QY ho
  have hfl2:(∀x∈xs,∀b,x≠V.ref b)\/(∀y∈ys,∀b,y≠V.ref b):=by
   cases hA:ps.all iD with
   |true=>exact .inl (uz hA rr1)
   |false=>
    rw[hA,Bool.false_or]at hfl;exact .inr (uz hfl rr2)
  refine Fn pl1 pl2.isList λh' st hk=>WV st.1 ?_
  refine⟨_,[s1.heap.objs.size+4,s1.heap.objs.size+2,s1.heap.objs.size+3,s1.heap.objs.size,s1.heap.objs.size+1],_,_,H1,rfl,I1.kept (t':=s1.toks) hk,
   yW (BZ ha hb) (Tf (QX ha (WB _ _))) (Tf @sd) (RY ha) (RY @sd) xs ys hfl2,st,λc hc=>?_,k _ H1 @ck ?_⟩
  .have hc:s1.heap.objs.size<=c:=by
    simp only[R7,Rx,or_false]at hc;rcases hc with rfl|rfl|rfl|rfl|rfl<;>simp
   exact I1.ZK hc (I1.hok.fresh hc)
  .refine ou ?_ (λH2 k2=>⟨k2.sqT g1.sq,(k2.sqF g2).l.l⟩) (C2 rr1 rr2)
   unfold xB;rw[Vb,rr1.length,rr2.length]
end PU
namespace PU
open PySem PySem.Spec PyProof.Rows L2
def Mb(m n:Nat)(g:Yb->XO Fb)(qs:List PV):Option PV:=if qs.length=m then (match g (start n qs)with
|.ok (.ret p) _=>Z' p
|.ok .next _=>Z' .Yj
|_=>Y')else Y'
def noB:Yb->XO Fb:=λ_=>.no
variable[TW]
section
variable{P:R8}{w:RH}{K:QO}{mg:Str->Option Value}{base:Heap}{x:Str}{st:Stmt}{N ps:List Str}{k:Nat}{g:Yb->XO Fb}
def HsB(K:QO)(mg:Str->Option Value)(x:Str)(st:Stmt)(ps:List Str):Prop:=∃f fd,Fun K x x st f fd/\mg x=Z' @x/\Binds K fd ps []
theorem ER(h:Hs K mg x st) (hb:∀(kV doc pm:Value)(an:Option Addr)(Y5 ct:Value)(us:List Value),us.length=ps.length->VI @iU ⟨us,[]⟩=pure @bX:=by
   intro _ _ _ _ _ _ us hl;repeat' (first|(exfalso;simp only[SY]at hl;omega)|(rcases us with _|⟨_,us⟩)|rfl)):HsB K mg x st ps:=by
 obtain⟨f,fd,F,hm⟩:=h;exact⟨f,fd,F,hm,F.binds hb⟩
theorem JC{qual:Str}{f:Addr}{fd:FuncData}(F:Fun K x qual st f fd)(S:Ye N ps @A)
  (Y3:∀(Y5:Value)(A:RV)(outer:List Uz)(s:QR)(H:Hp)(E:XK),Yg k @bK->SBs @gf 0 @R g):
  YO P w K mg base CX0 (k+1) f fd ps (spP K ps.length (Mb ps.length N.length g)):=by
 refine F.ok S @ca (λY5 A outer s H vs Q E hr h=>?_);obtain⟨hl,tb,qs,p,r,e,k⟩:=h;refine⟨_,Y3 Y5 A outer s H E hr,_,_,sS tb r,?_⟩;unfold Mb at e;split at e
 .split at e
  .rename_i q ρ hg
   rw[hg];cases e;exact λv H' h rv=>k v H' h.1 rv
  .rename_i ρ hg
   rw[hg];cases e;exact fun σ H' h=>k .Yj H' h.tb.1 rfl
  .cases e
 .cases e
theorem zQ(h:HsB K mg x st ps)(S:Ye N ps @A)
  (Y3:∀(f:Addr)(Y5:Value)(A:RV)(outer:List Uz)(s:QR)(H:Hp)(E:XK),Yg k @eH->SBs @eF 1 @R g):
  PFB P w K mg base (k+1) x @o5:=by
 obtain⟨f,fd,F,hm,hb⟩:=h;exact Jo F S hm hb (Y3 f)
theorem Ml(h:HsB K mg x st ps)(S:Ye N ps @A)
  (Y3:∀(f:Addr)(Y5:Value)(A:RV)(outer:List Uz)(s:QR)(H:Hp)(E:XK),Yg k @eH->SBs @eF 0 @R g):
  PFT P w K mg base (k+1) x @pg:=by
 obtain⟨f,fd,F,hm,hb⟩:=h;exact Jm F S hm hb (Y3 f)
end
end PU
namespace PU
open PySem PySem.Spec PyProof.Rows
def mO(h:Heap)(e T:Addr)(x cls:Value)(dx:Option Addr):Prop:=
 ∃oe vs oT ts,h.get? e=Z' oe/\oe.cls=cls/\oe.dict=dx/\oe.data=.fields vs/\vs[1]?=Z' (.ref T)/\T≠e/\h.get? T=Z' oT/\oT.data=.fields ts/\ts[3]?=Z' x
def ND(h:Heap)(e:Addr)(cls:Value)(dx:Option Addr):Prop:=
 ∃oe vs,h.get? e=Z' oe/\oe.cls=cls/\oe.dict=dx/\oe.data=.fields vs/\vs[1]?=Z' .none
def Ib(fs ks:List Addr)(h h':Heap):Prop:=h.objs.size<=h'.objs.size/\∀b o,b∉ks->h.get? b=Z' o->(b∉fs->h'.get? b=Z' o)/\∃sl,h'.get? b=Z' {o with slots:=sl}
def HH(L:Addr)(h:Heap)(ks:List Addr)(e:Addr)(cls:Value)(dx:Option Addr):Prop:=
 (ks=[e]/\ND h e cls dx)\/∃T x,(x=.none\/x=T5 L)/\ks=[e,T]/\mO h e T x cls dx
section
variable{M:Wo}{A:RV}{E:Value->QR->Prop}{s:QR}{base:Heap}{env:Uz}{outer:List Uz}{L e T:Addr}{cls:Value}{dx:Option Addr}
theorem wL{oe:Obj}{vs:Array Value}{hd:Value}{nx:Bool}{Q:Unit->QR->Prop}(hA:A.frames=Z' (env::outer))(hF:s.heap.FunFrames base (env::outer))(hL:env.frame=Z' L)
  (q1:s.heap.get? e=Z' oe) (q2:oe.data=.fields vs) (q3:1<vs.size)
  (k:∀g N,s.heap.objs.size<=N->mO g e N (T5 L) oe.cls oe.dict->Ib ((env::outer).filterMap (·.frame)) [e] s.heap g->Q () {s with heap:=g}):
  QZ M A (do let x<- frameOf env;let p<- entryPlaceOf L nx;let n<- Wh hd x .none (T5 L) .none p;setField @b0 1 n) Q E s:=by
 have ne:e∉(env::outer).filterMap (·.frame):=λz=>by
  obtain⟨_,o,z1,z2⟩:=hF.mem z;rw[q1]at z1;cases z1;exact z2 vs q2
 refine QQ (wpAny_frameOf_fun hA hF hL λg1 c1=>QQ (wpAny_entryPlaceOf λp hp=>?_));unfold Wh newFields;refine QQ (Sn ?_ (hp.sizeOk5 _ _ _ _ _));have e1:g1.get? e=Z' oe:=(c1.2.1 e ne).trans q1;generalize hob:({cls:=.type "traceback",dict:=Y',data:=.fields (@oB++(if p.isEmpty then Sh 6 S6 else p)).toArray}:Obj)=ob;have od:ob.data=.fields (@oB++(if p.isEmpty then Sh 6 S6 else p)).toArray:=by rw[<-hob]
 have of:ob.isFreed=Y1:=by rw[<-hob];rfl
 have e2:(g1.push ob).get? e=Z' oe:=QT _ e1;refine Us e2 q2 q3 ?_;have nT:g1.objs.size≠e:=Tf (QY e1);have zs:s.heap.objs.size<=g1.objs.size:=U8 c1.1.symm;have d3:=Uc q2 (·.setIfInBounds 1 @hd);have e3:=UA (UJ (·.setIfInBounds 1 @hd)) e2 (VL d3)
 have t3:((g1.push ob).update e (UJ (·.setIfInBounds 1 @hd))).get? g1.objs.size=Z' ob:=by
  rw[SE _ _ (Rv nT)];exact RD _ of
 refine k _ g1.objs.size zs ⟨_,_,_,_,e3,Obj.cls_mapFields _ _,?_,d3,by simp[q3],nT,t3,od,?_⟩ ⟨?_,λb o nb hb=>?_⟩
 .unfold UJ
  split<;>rfl
 .rcases hp with rfl|⟨_,_,_,_,_,_,_,rfl⟩<;>simp
 .rw[Heap.size_update,SA]
  exact TR zs
 .have nb:b≠e:=λz=>nb (by simp[z])
  have up:∀o',g1.get? b=Z' o'->((g1.push ob).update e (UJ (·.setIfInBounds 1 @hd))).get? b=Z' o':=λo' z=>by
   rw[SE _ _ (Rv nb)];exact QT _ z
  obtain⟨sl,z⟩:=c1.2.2 b o hb;exact⟨λnf=>up o ((c1.2.1 b nf).trans hb),sl,up _ z⟩
theorem Ey{ks:List Addr}{Q:Unit->QR->Prop}(hA:A.frames=Z' (env::outer))(hF:s.heap.FunFrames base (env::outer))(hL:env.frame=Z' L)(hx:HH L s.heap ks e cls dx)
  (k:∀g T,(T∈ks\/s.heap.objs.size<=T)->mO g e T (T5 L) cls dx->Ib ((env::outer).filterMap (·.frame)) ks s.heap g->Q () {s with heap:=g}):QZ M A (VG @b0 env) Q E s:=by
 rcases hx with⟨rfl,oe,vs,q1,rfl,rfl,q2,q3⟩|⟨T,x,hx,rfl,oe,vs,oT,ts,q1,rfl,rfl,q2,q3,q4,q5,q6,q7⟩
 .unfold VG
  simp only[hL];refine QQ (Ry q1 q2 q3 ?_);rw[if_neg @h];exact wL hA hF hL q1 q2 (TY.mp q3).1 λg N z1 z2 z3=>k g N (.inr z1) z2 z3
 .unfold VG
  simp only[hL];refine QQ (Ry q1 q2 q3 ?_);rw[if_pos (show (RU T != S6)=Y2 from by simp)];refine QQ (Ry q5 q6 q7 ?_);rcases hx with rfl|rfl
  .rw[if_neg (show ¬ ((S6==T5 L)=Y2)from by simp[T5])]
   refine QQ (Us q5 q6 (TY.mp q7).1 ?_);have Z1:∀b,b≠T->(s.heap.update T (UJ (·.setIfInBounds 3 S6))).get? b=s.heap.get? b:=λb z=>SE _ _ (Rv z)
   have noT:∀b o,s.heap.get? b=Z' o->(∀vs,o.data≠.fields vs)->b≠T:=λb o z1 z2 z=>by
    simp_all
   refine wL hA (hF.of_keeps λb o z1 z2=>⟨o,(Z1 b (noT b o z1 z2)).trans z1,rfl⟩) hL ((Z1 e (Rv q4)).trans q1) q2 (TY.mp q3).1 λg N z1 z2 z3=>k g N (.inr ?_) z2 ⟨?_,λb o z4 z5=>?_⟩
   .simp_all
   .have:=z3.1;simp_all
   .have n1:b≠e:=λz=>z4 (by simp[z])
    have n2:b≠T:=λz=>z4 (by simp[z]);exact z3.2 b o @i ((Z1 b n2).trans z5)
  .rw[if_pos (show (T5 L==T5 L)=Y2 from by simp)]
   exact QW (k _ T (.inl @a) ⟨oe,vs,oT,ts,q1,rfl,rfl,q2,q3,q4,q5,q6,q7⟩ ⟨R9 _,λb o _ z=>⟨λ_=>z,o.slots,z⟩⟩)
theorem zc{x:Value}{fr:Option Addr}{Q:Unit->QR->Prop}(hx:mO s.heap e T x cls dx)
  (k:∀g,mO g e T @gD cls dx->Ib [] [T] s.heap g->Q () {s with heap:=g}):QZ M A (WX @b0 fr) Q E s:=by
 obtain⟨oe,vs,oT,ts,q1,rfl,rfl,q2,q3,q4,q5,q6,q7⟩:=hx;unfold WX;refine QQ (Ry q1 q2 q3 ?_);rw[if_pos (show (RU T != S6)=Y2 from by simp)];have lt:=(TY.mp q7).1;have d3:=Uc q6 (·.setIfInBounds 3 @gD);refine Us q5 q6 lt (k _ ⟨oe,vs,_,_,?_,rfl,rfl,q2,q3,q4,UA _ q5 (VL d3),d3,by simp[lt]⟩ ⟨?_,λb o nb hb=>?_⟩)
 .grind[SE]
 .simp_all
 .have:b≠T:=λz=>nb (by simp[z])
  have e:=(SE s.heap (UJ (·.setIfInBounds 3 @gD)) (Rv this)).trans hb;exact⟨λ_=>e,o.slots,e⟩
end
open PySem.W PySem.Calls
section
variable{M:Wo}{A:RV}{E:Value->QR->Prop}{s:QR}{env:Uz}
variable{nm ql:Str}{C N:Addr}{bs bm:List Value}{hd:Bool}{sn:List Str}{sb:List Value}{ab:Bool}{co:Option Bool}{dd:Option Addr}{k0 k1 k2 k3 k5:Option Value}{ni:String}
theorem Fs {x:Sem Value} {Q:Flow->QR->Prop} (hb:bm.contains @jJ=Y2) (hh:A.handled=Y')
  (k:QZ M A x (λv s1=>∃e a0 dx,v=.ref e/\s1.heap.get? C=Z' @iS/\s1.heap.get? e=Z' {cls:=.ref C,dict:=dx,data:=.fields #[a0,.none,.none,.none,.bool Y1,.none]}/\E @b0 s1) E s):QZ M A (raiseStmt env (Z' x) Y') Q E s:=by
 have cB:(RU C::bm).contains @jJ=Y2:=by rw[List.contains_cons,hb,Bool.or_true]
 unfold raiseStmt;refine QQ (Rz k (λv s1 z=>?_) λ_ _ z=>z);obtain⟨e,a0,dx,rfl,q1,q2,q5⟩:=z;obtain⟨hp,g,d,tk,os⟩:=s1
 repeat (first|with_reducible refine UE q2 ?_|with_reducible refine UE q1 ?_|(with_reducible refine wpAny_isSubtype_exc q1 ?_;rw[cB])|wp_step)
 exact wpAny_raiseNew_none hh q5
end
end PU
namespace PU
open PySem PySem.Spec PyProof.Rows PySem.W L2
noncomputable def bmV:List Value:=[.type "ValueError",.type "Exception",.type "BaseException",.type "object"]
def KM(K:QO)(C:Addr)(ini:Option Addr):Bool:=match K.lookup C with
|some ⟨.type "type",_,.cls cd,sl⟩=>(match cd.mro,sl.toList with
  |.ref C'::bm,[_,_,_,_,Z' (.builtin n),_]=>C'==C&&n == "ValueError.__new__" && !cd.hasDel&&tailIn K bmV bm&&nsOkIn K cd.ns&&nsIn K cd.ns "__init__" == Z' (ini.map .ref)
  |_,_=>Y1)
|_=>Y1
def Qv (h:Heap) (C:Addr) (ini:Option Addr):Prop:=∃bm N nm q bs hd sn sub ab col dd k0 k1 k2 k3 k5 mN,h.get? C=Z' (Vk nm q C N bs bm hd sn sub ab col dd k0 k1 k2 k3 k5 "ValueError.__new__")/\h.Ns N mN/\mN "__init__"=ini.map .ref/\OwnTail h bmV bm
theorem yd{K:QO}{h:Heap}{N:Addr}{mg:Str->Option Value}{n:Str}{v:Value}(X:K.In h)(G:h.Ns N mg)(e:nsIn K N n=Z' @aR):mg n=Z' v:=by
 obtain⟨o,es,ep,ho,hd,_,hf⟩:=G;unfold nsIn at e;split at e
 .rename_i c d es' n' sl q
  have:=X _ _ q
  grind[nsFind,findBy,Xa]
 .cases e
theorem Im{K:QO}{h:Heap}{C:Addr}{ini:Option Addr}(X:K.In h)(q:KM K C ini=Y2):Qv h C ini:=by
 unfold KM at q;split at q
 .rename_i dd cd sl ho
  split at q
  .rename_i C' bm k0 k1 k2 k3 n k5 hm hs
   simp only[S5,beq_iff_eq,Vt]at q;obtain⟨⟨⟨⟨⟨rfl,rfl⟩,hdel⟩,ht⟩,hok⟩,hni⟩:=q;obtain⟨nm,bs,mro,ns,qn,hd,sn,sub,ab,col,del⟩:=cd;dsimp only at hm hdel hok hni;subst hm hdel
   have hsl:sl=#[k0,k1,k2,k3,Z' (.builtin "ValueError.__new__"),k5]:=by
    obtain⟨l⟩:=sl;simp only at hs;rw[hs]
   subst hsl;refine⟨bm,ns,nm,qn,bs,hd,sn,sub,ab,col,dd,k0,k1,k2,k3,k5,_,X _ _ ho,.of_isNs @rh,?_,tail_of_in X ht⟩;cases ini with
   |none=>exact nsMap_none_of_in X hok hni
   |some f=>exact yd X (.of_isNs @rh) hni
  .cases q
 .cases q
end PU
namespace PU
open PySem PySem.Spec PyProof.Rows L2
def Apart(X:Cx)(H:Hp)(ks:List Addr):Prop:=∀b∈ks,X.s₀.heap.objs.size<=b/\b≠X.env.locals/\(∀x c,X.env.cells.lookup x=Z' c->c≠b)/\H b=Y'
section
variable{X:Cx}{σ:L2.St}{H:Hp}{s:QR}{ks:List Addr}
theorem iU{J':List @c}{b:Addr}(I:L2.Inv X J' σ H s)(h:s.heap.objs.size<=b):X.s₀.heap.objs.size<=b/\b≠X.env.locals/\(∀x c,X.env.cells.lookup x=Z' c->c≠b)/\H b=Y':=
 ⟨Rg I.sz h,λz=>Ru _ (QX (z▸I.lt) h),λx c e z=>by
  obtain⟨v,q⟩:=I.cell x c e;have z:c=b:=z;exact Ru _ (QX (z▸q.lt) h),I.hok.fresh h⟩
theorem k8{J':List @c}{g:Heap}(I:L2.Inv X J' σ H s)(hp:∀b∈ks,∀p∈X.pn++J',p.1≠b)(st:Ib @fk ks s.heap g)(ap:Apart X H ks):L2.Inv X J' σ H {s with heap:=g}:=by
 have nf:∀b u,H b=Z' u->b∉ks/\b∉frs X.stack:=λb u e=>⟨λz=>(by rw[(ap b z).2.2.2]at e;cases e),λz=>(by rw[I.ZR b z]at e;cases e)⟩;refine I.call (g':=s.gens) (d':=s.drawn) (t':=s.toks) (ch:=ks) ⟨λb o e n hb hx=>(st.2 b o hx e).1 hb,λb o e n hb hx=>(st.2 b o hx e).2,λb o e n hx=>n,λb o e hx=>let ⟨sl,z⟩:=(st.2 b o hx e).2;⟨_,z⟩,λ_ _ e=>e,λ_ _ _ e=>e,λb ps e=>⟨#[],by rw[e];simp⟩⟩ (λb u e=>?_) I.bare λb hb=>?_
 .refine(I.hok b u e).stay (λc v hc q=>?_) @d4 λ_ _ q=>q
  obtain⟨u',e'⟩:∃u',H c=Z' u':=by
   grind
  exact(st.2 c v (nf c u' e').1 q).1 (nf c u' e').2
 .obtain⟨z1,z2,z3,_⟩:=ap b hb
  grind
theorem Eu(hp:X.pn=[]):∀b∈ks,∀p∈X.pn++[],p.1≠b:=λb _ p Ys=>by simp_all
end
variable[TW]
def XS(X:Cx)(Ac:PX->Hp->Prop):Value->QR->Prop:=λe s'=>∃σ H a ks C dx x,e=.ref a/\L2.Inv X [] σ H s'/\HH X.env.locals s'.heap ks a @k dx/\Apart X H ks/\ExP X.K H C dx x/\Ac x H
def XN(X:Cx)(Ac:PX->Hp->Prop)(y:Value):Value->QR->Prop:=λe s'=>∃σ H a T C dx x,e=.ref a/\L2.Inv X [] σ H s'/\mO s'.heap a T y @k dx/\Apart X H [a,T]/\ExP X.K H C dx x/\Ac x H
section
variable{X:Cx}{Ac:PX->Hp->Prop}{M:Wo}{E:Value->QR->Prop}{e y:Value}{s:QR}
structure Own(X:Cx):Prop where
 pn:X.pn=[]
 st:X.stack=X.env::X.outer
 fr:X.env.frame=Z' X.env.locals
theorem yN{Q:Unit->QR->Prop}(o:Own X)(h:XS X Ac e s)(k:∀s',XN X Ac (T5 X.env.locals) e s'->Q () s'):QZ M X.A (VG e X.env) Q E s:=by
 obtain⟨σ,H,a,ks,C,dx,x,rfl,I,al,ap,ex,ac⟩:=h;refine Ey (by rw[I.ok.frames,o.st]) (by have:=I.stack;rw[o.st]at this;exact this) o.fr al λg T hT fl st=>k _ ?_;have st':Ib @fk ks s.heap g:=by rw[o.st];exact st
 have hk:a∈ks:=by
  rcases al with⟨rfl,_⟩|⟨_,_,_,rfl,_⟩<;>simp
 refine⟨σ,H,a,T,C,dx,x,rfl,k8 I (Eu o.pn) st' ap,fl,λb hb=>?_,ex,ac⟩;rcases R7.mp hb with z|z
 .subst z;exact ap _ hk
 .have:b=T:=by simpa using z
  subst this;rcases hT with z|z
  .exact ap _ z
  .exact iU I z
theorem sF{Q:Unit->QR->Prop}{fr:Option Addr}(o:Own X)(h:XN X Ac y e s)(k:∀s',XN X Ac @gD e s'->Q () s'):QZ M X.A (WX e fr) Q E s:=by
 obtain⟨σ,H,a,T,C,dx,x,rfl,I,fl,ap,ex,ac⟩:=h;refine zc fl λg fl' st=>k _ ⟨σ,H,a,T,C,dx,x,rfl,k8 I (Eu o.pn) ⟨st.1,λb ob nb hb=>?_⟩ ap,fl',ap,ex,ac⟩;obtain⟨z1,sl,z2⟩:=st.2 b ob @kp hb
 grind
theorem XN.xs{s:QR}(h:XN X Ac y e s)(hy:y=.none\/y=T5 X.env.locals):XS X Ac e s:=by
 obtain⟨σ,H,a,T,C,dx,x,rfl,I,fl,ap,ex,ac⟩:=h;exact⟨σ,H,a,[a,T],C,dx,x,rfl,I,.inr ⟨T,y,hy,rfl,fl⟩,ap,ex,ac⟩
theorem yM(o:Own X):Vo M X.A X.env (XS X Ac):=λe s h=>by
 refine yN o h λs' hn=>?_;obtain⟨σ,H,a,T,C,dx,x,rfl,I,fl,ap,ex,ac⟩:=id hn;obtain⟨oe,vs,oT,ts,q1,q1',q1'',q2,q3,q4,q5,q6,q7⟩:=id fl;unfold cameBackBy;refine QQ (Ry q1 q2 q3 ?_);rw[if_neg (show ¬ ((RU T==S6)=Y2)from by simp)];refine sF o hn λs'' h''=>h''.xs (.inr ?_);rw[o.fr];rfl
theorem C3{Q:Unit->QR->Prop}(o:Own X)(h:XS X Ac e s)(k:∀s',XN X Ac .none e s'->Q () s'):QZ M X.A (leaving X.env e) Q E s:=
 QQ (yN o h λs' hn=>sF (fr:=Y') o hn λs'' h''=>k s'' h'')
end
noncomputable def CXr(P:R8)(w:RH):CXT:=λouter H s E e s'=>∃H' a T C dx,e=.ref a/\mO s'.heap a T .none @k dx/\s'.os=s.os/\V3 s'.gens/\Un (frs outer) [] H H' s.heap s'.heap/\Z4 P w H' s'.heap/\
 (∀b∈[a,T],s.heap.objs.size<=b/\H' b=Y')/\E @k dx H'
def acE(K:QO)(E:XK):PX->Hp->Prop:=λx H'=>∀C dx,ExP K H' C dx x->E @k dx H'
abbrev cnX(P:R8)(w:RH)(K:QO)(mg:Str->Option Value)(base:Heap)(N:List Str)(qual:Str)(sc:Scope)(f:Addr)(Y5:Value)(A:RV)(outer:List Uz)(s:QR)(H:Hp)(E:XK):Cn:=
 ⟨(DQ @fK P w K mg base N qual sc f Y5 A outer s H E).Z2 (XS (DQ @fK P w K mg base N qual sc f Y5 A outer s H E) (acE K E)),acE K E⟩
section
variable{P:R8}{w:RH}{K:QO}{mg:Str->Option Value}{base:Heap}
theorem okX{x qual:Str}{st:Stmt}{f:Addr}{fd:FuncData}{N ps:List Str}{k:Nat}{sp:Sp}(F:Fun K x qual st f fd)(S:Ye N ps @A)(len:∀vs H Q E,sp vs H Q E->vs.length=ps.length)
  (Y3:∀(Y5:Value)(A:RV)(outer:List Uz)(s:QR)(H:Hp)(vs:List V)(Q:VK)(E:XK),Yg k @bK->sp vs H Q E->
   ∃t,PSs (cnX P w K mg base N qual @A f Y5 A outer s H E).X @R t/\t {nx:=λ_ H'=>Q .Yj H',rt:=Q} @hr H):YO P w K mg base @fK (k+1) f fd ps sp:=by
 obtain⟨oc,od,kV,doc,pm,an,Y5,ct,osl,rfl,lk,hcd⟩:=F.ex;refine Kl lk hcd S len λA outer s H vs Q E hr hsp=>?_;obtain⟨t,h,q⟩:=Y3 Y5 A outer s H vs Q E hr hsp;refine⟨t,λJ' s' σ' H' D I q=>Rz (h J' s' σ' H' D (I.Z2 _) q) (λ_ _ z=>z.YD) λe s'' z=>?_,q⟩;refine C3 @g8 z λs3 ⟨σ3,H3,a,T,C,dx,y,e1,I3,fl,ap,ex,ac⟩=>⟨H3,a,T,C,dx,e1,fl,I3.os,I3.bare,I3.base,I3.hok,λb hb=>⟨(ap b hb).1,(ap b hb).2.2.2⟩,ac C dx ex⟩
end
def Thr(C:Cn):Prop:=∀σ H s a ks D dx x,L2.Inv C.X [] σ H s->HH C.X.env.locals s.heap ks a @aY dx->Apart C.X H ks->ExP C.X.K H D dx x->C.Ac x H->C.X.xe @m s
theorem uV{P:R8}{w:RH}{K:QO}{mg:Str->Option Value}{base:Heap}{N:List Str}{qual:Str}{sc:Scope}{f:Addr}{Y5:Value}{A:RV}{outer:List Uz}{s:QR}{H:Hp}{E:XK}:
  Thr (cnX P w K mg base N qual sc f Y5 A outer s H E):=fun σ H' s' a ks D dx x I al ap ex ac=>⟨σ,H',a,ks,D,dx,x,rfl,I.YD,al,ap,ex,ac⟩
end PU
namespace PU
open PySem PySem.Spec PyProof.Rows L2
section
variable{X:Cx}{J':List @c}{σ:L2.St}{H:Hp}{s:QR}
theorem BF{d:Addr}{o:HO}(I:L2.Inv X J' σ H s)(hd:H d=Y')(h1:X.s₀.heap.objs.size<=d)(h2:d≠X.env.locals)(h3:∀x c,X.env.cells.lookup x=Z' c->c≠d)(h4:∀p∈X.pn++J',p.1≠d)(ok:eM X.prog X.w (upd H d o) s.heap d o):L2.Inv X J' σ (upd H d o) s:=by
 have ne:∀b u,H b=Z' u->b≠d:=λb u e z=>by simp_all
 refine I.step (h':=s.heap) (g':=s.gens) (d':=s.drawn) (t':=s.toks) (ch:=[d]) (λb hb=>?_) (λb ob _ _ _ e _=>e) (λb ob _ _ _ e _=>⟨ob.slots,e⟩) (λb ob hb e n=>?_) (λb ob _ e=>⟨ob,e⟩) (λb xs e=>by rw[ai @lW];exact e) (λb ob u e=>by rw[ai @lW];exact e) (λb ps e=>⟨#[],by rw[ai @lW,e];simp⟩) (λm hm=>hm) (λb u e=>?_) I.bare
 .grind
 .grind[ai]
 .by_cases hb:b=d
  .grind[aq]
  .rw[ai hb]at e
   exact(I.hok b u e).stay (λc v _ q=>q) (λc q=>by rw[ai (ne c _ q)];exact q) λc xs q=>by rw[ai (ne c _ q)];exact q
end
end PU
namespace PU
open PySem PySem.Spec PyProof.Rows PySem.W
section
variable{prog:R8}{w:RH}{A:RV}{E:Value->QR->Prop}{s:QR}{K:QO}{x C:Addr}{ox:Obj}{od:Option Obj}{name:Str}
structure XFit(K:QO)(C:Addr):Prop where
 pg:findIn K @k "__getattribute__"=Z' (Z' @ny)
 pn:findIn K @k "__getattr__"=Z' Y'
 pb:mroIn K C @jJ=Z' Y2
 hd:hasDictIn K C=Y2
 ha:findIn K @k "__class__"=Z' (Z' @gu)
 hn:specialIn K @gu "__get__"=Z' (Z' @i9)
 htk:takesIn K @gu=Z' Y2
 hm:mroIn K C (.type "object")=Z' Y2
theorem GO{fill expr:Bool}{tk:XD}{Q:Value->QR->Prop}(X:K.In s.heap)(I:InstAt s.heap x ox C od)(ft:XFit K C)
  (h:QZ @r A.in1 (Builtin.«object.__getattribute__» ⟨@p5,[]⟩) (λfin s'=>match fin with|.done (.ret v)=>QZ (RE prog w) A (handedOut v) Q E s'|_=>False) @bw s):
  QZ @r A (getAttrBy @bD @tv fill expr) Q E s:=by
 have L0:=I.type (M:=RE prog w);have L1:=looks_findIn (M:=RE prog w) X ft.pg;have L2:Looks @r s.heap (hookBefore @k) Y':=looks_hook X (by rw[show onTheHeap (RU C)=Y2 from rfl,if_pos rfl];exact ft.pn);unfold getAttrBy;refine SZ (QQ (L0.here (QQ (L1.here ?_))));dsimp only;rw[show (onTheHeap (RU C)&&Va "BaseException.__getattribute__" == Va "object.__getattribute__")=Y1 from by rfl,if_neg RA];unfold getAttrByItsOwn;refine QQ (L2.here (QQ (W3 (SZ ?_))));unfold callGetattribute;rw[show (expr&&onTheHeap (Va "BaseException.__getattribute__"))=Y1 from VW _,if_neg RA];unfold boundAndCalled;rw[F.attr_ValueError.ga.bind];refine QQ (QW ?_);show QZ _ _ (call @ny @p5) _ _ _;refine UO (UW F.attr_ValueError.ga.plain F.entry_bexc_ga ?_);refine @check_slot @r _ _ s "BaseException.__getattribute__" "BaseException" "__getattribute__" @bD [.str name tk] [] _ @D @D (L0.andThen (looks_mroIn X ft.pb)) (F.args_bexc_ga @bD @tv) ?_;refine Rz h (λfin s' z=>?_) λ_ _ z=>z.elim;rcases fin with (_|_|_|_)|_<;>first|exact z|exact z.elim
theorem Dv{Q:Option Value->QR->Prop}(X:K.In s.heap)(I:InstAt s.heap x ox C od)(ft:XFit K C)(h:Q @U {s with toks:=s.toks+1}):
  QZ @r A (getAttr? @bD "__class__") Q E s:=by
 have hf:findObj K C od "__class__"=Z' (.bind @i9 @gu):=by
  obtain⟨cd,hc,_⟩:=any_some ft.hd;unfold findObj;rw[hc,Vp,ft.ha,Vp];simp[ft.hn,ft.htk]
 unfold getAttr? getAttrBy?;refine QQ (wpAny_mkText (QQ (W3 (GO (s:={s with toks:=s.toks+1}) X I ft ?_))));have L0:=I.type (M:=RE prog w);have L1:=looks_find (M:=RE prog w) X I hf;obtain⟨hp,g,d,t,os⟩:=s;refine QQ (QW (QQ (QW (QQ (L0.at (QQ (L1.at ?_)))))));show QZ _ _ (V2 [.builtin "object.__class__"] (call @i9 [.builtin "object.__class__",.ref x,.ref C])>>=ret) _ _ _;refine QQ (SZ (UO (class_get (s:=⟨hp,g,d,t+1,os⟩) (ox:=ox) (od:=od) X I ft.hm (QW ?_))))
 grind[QZ,handedOut,handedOut_of,QW]
theorem Dh(ft:XFit K C):KitX K @bD @k (λh=>InstAt h x ox C od) where
 ty:=λ_ _ _ I=>I.type
 it:=λ_ _ X _=>by
  obtain⟨cd,hc,_⟩:=any_some ft.hd;unfold clsIn at hc;split at hc
  .rename_i ho
   intro A' Q' E' s' k q;unfold isType loadHead;exact QQ (wpAny_loadPart (k _ _ (X _ _ ho)) (QW q))
  .cases hc
 ne:=λh tp dd Xv n sl X htp=>by
  obtain⟨cd,hc,_⟩:=any_some ft.hd;refine Bool.eq_false_iff.mpr λq=>?_;have e:C=tp:=Value.ref.inj (beq_iff_eq.mp q);subst e;unfold clsIn at hc;split at hc
  .rename_i ho
   cases (X _ _ ho).symm.trans htp
  .cases hc
 ca:=λX I k=>Dv X I ft k
end
end PU
namespace PU
open PySem PySem.Spec PyProof.Rows L2
def XIs(K:QO)(tab:Str->Option Bool)(cV:Value):Prop:=∀c b,tab c=Z' b->∃C,RK K R5 c=Z' @U/\XFit K C/\VA K @k cV=Z' b
noncomputable def qj(i:Nat)(tab:Str->Option Bool):Yb->R PV:=fun ρ=>match ρ[i]? with
|some (.exc x)=>(match tab x.cls with
  |some b=>.ok @bG
  |none=>.no)
|_=>.no
variable[TW]
theorem B2{X:Cx}{J':List @c}{σ:L2.St}{H:Hp}{s:QR}{a C:Addr}{dx:Option Addr}{y:PX}(I:L2.Inv X J' σ H s)(h1:H a=Z' @sH)(h2:ExP X.K H C dx y):∃ox od,Xn s.heap a ox C od:=by
 obtain⟨⟨o,vs,g1,g2,g3,g4⟩,_⟩:=I.hok a _ h1;have no:Xm o=Y2:=by unfold Xm;rw[g4]
 obtain⟨c,as⟩:=y;cases dx with
|none=>exact⟨o,Y',g1,g2,no,by simp_all⟩
|some d=>
  match as,h2.2 with
  |[p],h2=>
   obtain⟨v,z,h3,_⟩:=h2;obtain⟨_,⟨od,ho⟩,_⟩:=I.hok d _ h3;exact⟨o,Z' od,g1,g2,no,by simp_all⟩
section
variable{C:Cn}{pos p1 p2:SL}{x:Str}
theorem EY (i:Nat) {tab:Str->Option Bool} {D:Str} {cV:Value} {vD:V} (hX:XIs C.X.K tab cV) (hD:PE C.X (.Name D p2) (tC vD)) (rD:∀u,RelV vD u->u=cV) (hm:C.X.mg "isinstance"=Y') (hN:C.X.N[i]?=Z' x:=by rfl) (hv:Z3 C.X.env.scope x:=by first|exact .inl rfl|exact .inr (.inl rfl)|exact .inr (.inr rfl))
  (hg:Gl C.X "isinstance":=by exact rfl) (hd:(x==("__debug__":Str))=Y1:=by decide) (hcd:(x==("__classdict__":Str))=Y1:=by decide) {p:SL}:EV C (.Call @gO @jH [] pos) @lU:=by
 sleep 1;unfold qj at q;split at q
 .rename_i y e
  split at q
  .rename_i b eb
   obtain⟨a,B,dx,ea,h1,h2⟩:=vw i _ e;obtain⟨B',n1,ft,kt⟩:=hX y.cls b eb
   obtain rfl:B=B':=by
    have:=h2.1.symm.trans n1
    simp_all
   have hc:gw C.X @pI (λvs H' Q'=>vs=[.ref a,vD]/\H' a=Z' (XAt a @a0 dx)/\ExP C.X.K H' B dx y/\Q' @bG H'):=by
    intro J' s σ H xs us Q I r ⟨e1,e2,e3,k⟩;subst e1;obtain⟨u,u2,rfl,ru,ru2⟩:=vals2 r;cases (show u=RU a from ru);obtain⟨ox,od,J⟩:=B2 I e2 e3;have:u2=cV:=rD u2 ru2;subst this;exact Si (Dh ft) I.Z6 J kt (λz=>nomatch z) λtk=>⟨.bl b,H,I.tok _,rfl,k⟩
   exact rg hc hg hm @D (bh @ax (bh hD dZ)) @h @h rfl rfl J' s σ H Q I ⟨.ref a,ea,rfl,h1,h2,q _ H (Yc.refl _) rfl⟩
  .exact QS q
 .exact QS q
end
section
variable{X:Cx}{J':List @c}{σ:L2.St}{H:Hp}{s:QR}{M:Wo}{A:RV}{E:Value->QR->Prop}
theorem GP{j:Nat}{n:Str}{pos:SL}{Q:Unit->QR->Prop}(I:L2.Inv X J' σ H s)(hN:X.N.Nodup)(hj:X.N[j]?=Z' n)(hk:X.env.scope.names.lookup n=Z' .local)(h:∀s',L2.Inv X J' (σ.set j Y') H s'->Q () s'):
  QZ M A (do bindName X.env n .none;unbindBehindTheSuite X.env n pos) Q E s:=by
 obtain⟨m,hn,hl⟩:=id I.loc;have hcls:(X.env.scope.kind==.class ||(X.env.scope.kind==.module&&X.env.locals != X.env.globals))=Y1:=by rw[I.ok.kind];rfl
 refine wpAny_nameGoes_keeps hk hn hcls λh' v hn' hs=>h _ ?_;obtain⟨oL,_,_,hoL,_⟩:=id hn;have lt:∀b o,X.s₀.heap.get? b=Z' o->b≠X.env.locals:=λb o e=>RY @i3;refine⟨I.ok,I.os,I.bare,⟨λb o e n hb hx=>(hs.2 b @lX).trans @gx,λb o e n hb hx=>?_,I.base.free,λb o e hx=>?_,I.base.tups,I.base.Zj,I.base.ZD⟩,⟨_,hn',λi y v' e1 e2 e3=>?_⟩,λy c e=>?_,I.free,I.YJ,λp hp=>?_,λb u e=>?_,by simpa using I.len⟩
 .obtain⟨sl,e1⟩:=I.base.slot b o e n hb hx
  exact⟨sl,(hs.2 b @lX).trans e1⟩
 .obtain⟨o',e1⟩:=I.base.there b o e hx
  exact⟨o',(hs.2 b @lX).trans e1⟩
 .have hij:i≠j:=λz=>by
   grind
  rw[VT (Rv hij)]at e2;obtain⟨u',r',q⟩:=hl i y v' e1 e2 e3;refine⟨u',r',?_⟩;have ny:y≠n:=λe=>hij (ri hN e1 (e▸hj));rcases q with⟨k,e⟩|⟨k,c,e,z⟩
  .exact .inl ⟨k,by simp[ny,e]⟩
  .exact .inr ⟨k,c,e,z.sameBut hs (I.cne y c e)⟩
 .obtain⟨w',z⟩:=I.cell y c e
  exact⟨w',z.sameBut hs (I.cne y c e)⟩
 .obtain⟨e,n,ne,nf,d⟩:=I.pin p hp
  exact@nU
 .refine(I.hok b u e).stay (λc w' hc q=>(hs.2 c ?_).trans q) @d4 λ_ _ q=>q
  rintro rfl;rcases hc with z|z
  .rw[<-z,I.free]at e;cases e
  .rw[I.free]at z;cases z
end
section
variable{K:QO}{n:Nat}{Z:Zs}{B:Bs}{H:Hp}{σ:L2.St}{ρ:Yb}{j:Nat}
theorem Yr.ae0{l:Sl}{v:Option V}(S:Yr K B H σ ρ)(hl:BA K H @aR l)(h1:∀p,l≠.own p)(h2:∀t,l≠.tree t):Yr K B H (σ.set j v) (ρ.set j l):=by
 refine⟨by simp[S.len],S.same,S.kp,⟨λi x e=>?_,S.vw.tb⟩,λi q b e f=>?_,λi k q q' b e1 e2 f1 f2=>?_,λi t e=>?_⟩
 .rcases bp e with⟨rfl,rfl,hl'⟩|⟨hi,e⟩
  .rw[d6 (by rw[<-S.len];exact hl')]
   exact hl
  .rw[aR hi]
   exact S.vw i x e
 .rcases bp e with⟨_,z,_⟩|⟨hi,e⟩
  .grind
  .rw[aR hi]at f
   exact S.fresh i q b e f
 .rcases bp e1 with⟨_,z,_⟩|⟨hi,e1⟩
  .grind
  .rcases bp e2 with⟨_,z,_⟩|⟨hk,e2⟩
   .grind
   .rw[aR hi]at f1
    rw[aR hk]at f2;exact S.apart i k q q' b e1 e2 f1 f2
 .rcases bp e with⟨_,z,_⟩|⟨hi,e⟩
  .grind
  .obtain⟨a,r,g1,g2,g3⟩:=S.Yy i t e
   grind
theorem YC.ae0{l:Sl}{v:Option V}(S:YC K n Z H σ ρ)(hl:BA K H @aR l)(h1:∀p,l≠.own p:=by intro _ h;cases h)(h2:∀t,l≠.tree t:=by intro _ h;cases h):YC K n Z H (σ.set j v) (ρ.set j l):=by
 obtain⟨B,S,b⟩:=S;exact⟨B,S.ae0 hl h1 h2,b⟩
end
end PU
namespace PU
open PySem PySem.Spec PyProof.Rows L2
abbrev cxH(X:Cx)(a:Addr):Cx:={X with A:=X.A.mark (Z' (.ref a)),calm:=Y1,xe:=λ_ _=>False}
theorem rK{X:Cx}{J':List @c}{σ:L2.St}{H:Hp}{s:QR}{a:Addr}(I:L2.Inv X J' σ H s):L2.Inv @ih J' σ H s:=by
 have o:=I.ok;exact⟨⟨o.mod,o.kind,o.glob,o.blt,o.above,o.inj,o.has,o.cab,λz=>(by cases z),o.frames,o.stk,o.exf,o.bs,o.bsz,o.ab7,o.ae9,o.Zi,o.frf⟩,I.os,I.bare,I.base,I.loc,I.cell,I.free,I.YJ,I.pin,I.hok,I.len⟩
theorem yo{X:Cx}{J':List @c}{σ:L2.St}{H:Hp}{s:QR}{a:Addr}(ok:X.Ok)(I:L2.Inv @ih J' σ H s):L2.Inv X J' σ H s:=
 ⟨ok,I.os,I.bare,I.base,I.loc,I.cell,I.free,I.YJ,I.pin,I.hok,I.len⟩
section
variable{X:Cx}{CX:CXT}{k:Nat}{f:Addr}{fd:FuncData}{ps:List Str}{sp:Sp}{E:XK}{x:Str}{p pos:SL}{e:Expr}{es:List Expr}{t:TA}{J':List @c}{s:QR}{σ:L2.St}{H:Hp}{Q:VK}
theorem PA.re{es:List Expr}{t:TA}{Y:Value->QR->Prop}(h:PA X es t)(hx:X.xe=λ_ _=>False):PA (X.Z2 Y) es t:=λpos J' s σ H Q I hw=>
 Rz (h pos J' s σ H Q I.YD hw) (λ_ _ ⟨v,H',I',r,q⟩=>⟨v,H',I'.Z2 _,r,q⟩) λ_ _ z=>by simp_all
end
variable[TW]
theorem Qj{X:Cx}{J':List @c}{σ:L2.St}{H:Hp}{s:QR}{a T D:Addr}{dx:Option Addr}{M:Wo}{E:Value->QR->Prop}{Q:Unit->QR->Prop}(o:Own X)(I:L2.Inv X J' σ H s)(fl:mO s.heap a T .none @aY dx)(ap:Apart X H [a,T])(np:∀b∈[a,T],∀p∈X.pn++J',p.1≠b)
  (k:∀s' T',L2.Inv X J' σ H s'->mO s'.heap a T' .none @aY dx->Apart X H [a,T']->(∀b∈[a,T'],∀p∈X.pn++J',p.1≠b)->Q () s'):
  QZ M X.A (VG @m X.env) (λ_ s₂=>QZ M X.A (WX @m Y') Q E s₂) E s:=by
 refine Ey (by rw[I.ok.frames,o.st]) (by have:=I.stack;rw[o.st]at this;exact this) o.fr @n0 λg T' hT fl' st=>?_;have st':Ib @fk [a,T] s.heap g:=by rw[o.st];exact st
 have I1:=k8 I np st' ap
 have ap':Apart X H [a,T']/\∀b∈[a,T'],∀p∈X.pn++J',p.1≠b:=by
  have hT':(X.s₀.heap.objs.size<=T'/\T'≠X.env.locals/\(∀x c,X.env.cells.lookup x=Z' c->c≠T')/\H T'=Y')/\∀p∈X.pn++J',p.1≠T':=by
   rcases hT with z|z
   .exact⟨ap _ z,np _ z⟩
   .exact⟨iU I z,λp hp zz=>Ru _ (QX (QY (zz▸(I.pin p hp).1)) z)⟩
  refine⟨λb hb=>?_,λb hb=>?_⟩
  .rcases R7.mp hb with z|z
   .subst z;exact ap _ @a
   grind
  .grind
 refine zc fl' λg2 fl2 st2=>k _ T' (k8 I1 ap'.2 ⟨st2.1,λb ob nb hb=>?_⟩ ap'.1) fl2 ap'.1 ap'.2;obtain⟨z1,sl,z2⟩:=st2.2 b ob @kp hb
 grind
theorem GN{X:Cx}{J':List @c}{σ:L2.St}{H:Hp}{s:QR}{a T D B:Addr}{dx:Option Addr}{E:Value->QR->Prop}{Q:Flow->QR->Prop}{cls n:Str}{np ph:SL}{b₀:Stmt}{suite:List Stmt}{rest:List ExceptHandler}{j:Nat}{W:L2.St->Hp->Prop}
  (hN:X.N.Nodup) (I:L2.Inv X J' σ H s) (fl:mO s.heap a T .none @aY dx) (ap:Apart X H [a,T]) (npn:∀b∈[a,T],∀p∈X.pn++J',p.1≠b)
  (hg:Gl X cls) (hm:X.mg cls=Z' @a0) (hx:UP X.K @aY @a0=Z' Y2) (hd:(cls==("__debug__":Str))=Y1) (hj:X.N[j]?=Z' n) (hk:X.env.scope.names.lookup n=Z' .local)
  (hs:∀s' ,L2.Inv @ih J' (σ.set j @ag) @o7 s'->QZ @o (X.A.mark @ag) (execs (b₀::suite) X.env) (SP @ih J' {nx:=W,rt:=λ_ _=>False}) @bw s')
  (hq:∀σ' H' s',L2.Inv X J' (σ'.set j Y') H' s'->W σ' H'->Q .next s'):
  QZ @o X.A (X5 @m X.env (.ExceptHandler @mk (Z' n) (b₀::suite) ph::rest)) Q E s:=by
 refine wpAny_handleBy_cons (codeAny_handlers_test (lI (X:=cxH X a) (rK I) hg hm ?_ hd)) (by intro q;cases q);obtain⟨oe,vs,oT,ts,q1,q1',q1'',q2,q3,q4,q5,q6,q7⟩:=id fl
 have LT:PySem.W.Looks @o s.heap (typeOf @m) @aY:=by
  rw[<-q1'];exact(Wb q1).andThen .now
 refine(Xf I.Z6 LT hx).here (codeAny_handlers_suite_as ?_);refine zc fl λg fl2 st2=>?_
 have I1:L2.Inv X J' σ H {s with heap:=g}:=k8 I npn ⟨st2.1,λb ob nb hb=>by
  obtain⟨z1,sl,z2⟩:=st2.2 b ob @kp hb
  grind⟩ ap
 obtain⟨oe2,vs2,oT2,ts2,r1,r1',r1'',r2,_⟩:=id fl2;have ha:=ap a @a;have I2:L2.Inv X J' σ @o7 {s with heap:=g}:=BF I1 ha.2.2.2 ha.1 ha.2.1 ha.2.2.1 (npn a @a) ⟨⟨oe2,vs2,r1,r1',r1'',r2⟩,⟨oe2,r1⟩,λh1 h2 ⟨o,vs,z1,z2⟩ kk=>⟨o,vs,kk o z1,z2⟩⟩;refine mQ (X:=cxH X a) (rK I2) hN hj (.inl hk) (v:=.ref a) rfl (λs3 I3=>?_) (.inr hk);refine Rz (hs s3 I3) (λfl s4 z=>?_) λ_ _ z=>QS z;cases fl with
|next=>
  obtain⟨σ',H',I4,w⟩:=z;exact GP (X:=X) (yo I.ok I4) hN hj hk λs5 I5=>hq σ' H' s5 I5 w
|ret v=>obtain⟨_,_,_,_,_,z⟩:=z;simp_all
|brk=>obtain⟨_,_,_,z⟩:=z;simp_all
|cont=>obtain⟨_,_,_,z⟩:=z;simp_all
end PU
namespace PU
open PySem PySem.Spec PyProof.Rows L2
def IsO(K:QO)(mg:Str->Option Value)(D:Str)(tab:Str->Option Bool):Prop:=∃B,mg D=Z' @a0/\XIs K tab @a0
noncomputable def ll(c:Str)(b:Bool):Str->Option Bool:=λx=>if x=c then Z' b else Y'
section
variable{K:QO}{mg:Str->Option Value}{h:Heap}{C C0 B f:Addr}{c d:Str}{b:Bool}{cV:Value}
theorem xis1(e1:RK K R5 c=Z' @U)(ft:XFit K C)(kt:VA K @k cV=Z' b):XIs K (ll c b) cV:=λc' b' e=>by
 grind[ll]
theorem isO1(X:K.In h)(G:h.Ns R5 mg)(e0:RK K R5 d=Z' (Z' @a0))(e1:RK K R5 c=Z' @U)(ft:XFit K C)(kt:VA K @k @a0=Z' b):IsO K mg d (ll c b):=
 ⟨B,Sa X G e0,xis1 e1 ft kt⟩
end
variable[TW]
section
variable{C:Cn}{pos p1 p2 p:SL}{x:Str}
theorem oO (i:Nat) {tab:Str->Option Bool} {D:Str} (h:IsO C.X.K C.X.mg D tab) (hm:C.X.mg "isinstance"=Y') (hgD:Gl C.X D:=by exact rfl) (hdD:(D==("__debug__":Str))=Y1:=by decide) (hN:C.X.N[i]?=Z' x:=by rfl) (hv:Z3 C.X.env.scope x:=by first|exact .inl rfl|exact .inr (.inl rfl)|exact .inr (.inr rfl))
  (hg:Gl C.X "isinstance":=by exact rfl) (hd:(x==("__debug__":Str))=Y1:=by decide) (hcd:(x==("__classdict__":Str))=Y1:=by decide):EV C (.Call @gO @jH [] pos) @lU:=by
 obtain⟨B,h1,h2⟩:=h;exact EY i h2 (zX (v:=.ref B) hgD h1 rfl hdD) (λu h=>h) hm hN hv hg hd hcd
theorem Ko (i:Nat) {tab:Str->Option Bool} {D:Str} {cs:String} (h:XIs C.X.K tab @l3) (hm2:C.X.mg D=Y') (hb2:Sj D=Z' @l3) (hm:C.X.mg "isinstance"=Y') (hgD:Gl C.X D:=by exact rfl) (hnD:D≠"__name__":=by decide) (hdD:(D==("__debug__":Str))=Y1:=by decide) (hN:C.X.N[i]?=Z' x:=by rfl) (hv:Z3 C.X.env.scope x:=by first|exact .inl rfl|exact .inr (.inl rfl)|exact .inr (.inr rfl))
  (hg:Gl C.X "isinstance":=by exact rfl) (hd:(x==("__debug__":Str))=Y1:=by decide) (hcd:(x==("__classdict__":Str))=Y1:=by decide):EV C (.Call @gO @jH [] pos) @lU:=
 EY i h (A0 (v:=.ty cs) hgD hm2 hb2 rfl hnD hdD) (λu h=>h) hm hN hv hg hd hcd
end
end PU
namespace PU
open PySem PySem.Spec PyProof.Rows L2
noncomputable def vv(f:Yb->R PV):Yb->R Tr:=fun ρ=>f ρ>>=λp=>.ok @fO
def FN(i:Nat)(f:Yb->XO PV):Yb->XO Fb:=fun ρ=>(f ρ).bind λp ρ=>.ok .next @bN
variable[TW]
section
variable{C:Cn}{n:Nat}{e:Expr}{x:Str}{k:Nat}{p pos:SL}
theorem s9{f:Yb->R PV}(h:EN C e f):ENT C e (vv f):=by
 sleep 1;exact h J' s σ H Q I ⟨ρ,vw,q.bind.imp λp _ kq a H' s' n' w=>kq a [] H' s' (λb hb=>by simp_all) ⟨rfl,w⟩⟩
theorem zg(i:Nat){f:Yb->XO PV}{pos':SL}(hN:C.X.N.Nodup)(he:XB C n e f)(hs:SR e @eX pos.line C.X.env=pure Y1:=by rfl)
  (hf:C.X.fn x=Y2\/C.X.env.scope.names.lookup x=Z' .local:=by first|exact .inl rfl|exact .inr rfl|assumption) (hi:C.X.N[i]?=Z' x:=by rfl) (hx:Loc C.X.env.scope x:=by first|exact .inl rfl|exact .inr rfl):
  SB C n @eO (FN i f):=by
 intro J' s σ H D I ⟨ρ,Z,S,q⟩;exact wx hN hi hx he hs hf J' s σ H D I ⟨ρ,Z,S,q.bind.imp λp ρ' _ kq v H' S' r=>kq _ H' (S'.ae0 (l:=.val p) (v:=Z' v) ⟨v,rfl,r⟩)⟩
def XW(C:Cn)(n:Nat)(e:Expr)(f:Yb->XO Bool):Prop:=PW C.X e (tXT C n f)
end
end PU
namespace PU
open PySem PySem.Spec PyProof.Rows L2
def BU(D:Str)(i:Nat)(y:Str):Yb->R PV:=fun ρ=>match ρ[i]? with
|some (.tree (.obj c ks fs))=>if c=D then (match iB @fj fs (.inr y)with
  |some (.val p)=>.ok p
  |some (.own p)=>.ok p
  |none=>.no)else .no
|_=>.no
def Ls(D:Str)(i:Nat)(y:Str)(k:Int):Yb->XO Fb:=fun ρ=>match ρ[i]? with
|some (.tree (.obj c ks fs))=>if c=D/\ks.Nodup/\ks.length<1000 then (match iB @fj fs (.inr y)with
  |some (.val (.int g))=>.ok .next (ρ.set i (.tree (.obj c ks (v9 @fj fs @cR (.val (.int (g+k)))))))
  |_=>.no)else .no
|_=>.no
variable[TW]
def ObF(K:QO)(D y:Str):Prop:=∃C,RK K R5 D=Z' @U/\L2.Cls K C/\L2.Yv K C y
section
variable{C:Cn}{n:Nat}{D:Str}
theorem r9 (i:Nat) {x y:Str} {np pos:SL} (F:ObF C.X.K D y) (hN:C.X.N[i]?=Z' x:=by rfl) (hv:Z3 C.X.env.scope x:=by first|exact .inl rfl|exact .inr (.inl rfl)|exact .inr (.inr rfl)) (hd:(x==("__debug__":Str))=Y1:=by decide) (hcd:(x==("__classdict__":Str))=Y1:=by decide)
  (hb:S8 @ao y C.X.env @hc=Rj @ao C.X.env:=by rfl):
  PE C.X @pL (z6 C.X.K (.att D i y)):=λJ' s σ H Q I ⟨a,⟨a0,C',dx,vs,hc,h1,h2,h3⟩,q⟩=>by
 obtain⟨C0,hc0,cl,na⟩:=F;rw[hc0]at hc;obtain rfl:C0=C':=by simp_all
 exact zY @ax hb J' s σ H Q I ⟨_,h1,a0,C0,dx,vs,.ref a,rfl,h2,cl,na,h3,q⟩
theorem MI(vs:List @a9):(vs.map λp=>((Rp p.1:Key),p.2)).map @d=(vs.map @d).map .inr:=by simp_all
theorem Lj(vs:List @a9):(vs.map λp=>((Rp p.1:Key),p.2)).map @s=vs.map @s:=by simp_all
theorem xh (i:Nat) {x y:Str} {np pos:SL} (F:ObF C.X.K D y) (hN:C.X.N[i]?=Z' x:=by rfl) (hv:Z3 C.X.env.scope x:=by first|exact .inl rfl|exact .inr (.inl rfl)|exact .inr (.inr rfl)) (hd:(x==("__debug__":Str))=Y1:=by decide) (hcd:(x==("__classdict__":Str))=Y1:=by decide)
  (hb:S8 @ao y C.X.env @hc=Rj @ao C.X.env:=by rfl):EO C @pL (BU D i y):=by
 sleep 1;obtain⟨C0,hc0,cl,na⟩:=F;unfold BU at q;split at q
 .rename_i c ks fs e0
  obtain⟨a,r,ea,nd,C',dx,r',vs,hc,er,ha,ho,ek,hf⟩:=vw i _ e0;split at q
  .rename_i hD
   subst hD ek;rw[hc0]at hc;cases hc;rw[<-Lj]at hf;rw[<-MI]at q;split at q
   .rename_i p el
    obtain⟨v,h1,h2,_⟩:=hf.Ze el;rw[jY]at h1;exact zY @ax hb J' s σ H Q I ⟨_,ea,a,C0,dx,vs,v,rfl,ha,cl,na,h1,q v H @p h2.o⟩
   .rename_i p el
    obtain⟨b,_,h1,h2,_⟩:=hf.Zf el;rw[jY]at h1;exact zY @ax hb J' s σ H Q I ⟨_,ea,a,C0,dx,vs,.ref b,rfl,ha,cl,na,h1,q _ H @p h2.o⟩
   .exact QS q
  .exact QS q
 .exact QS q
theorem El{y:Str}{v:V}:∀vs:List @a9,y∈vs.map @d->(L2.YE y v vs).map @d=vs.map @d
|[],h=>by cases h
|(g,x)::vs,h=>by
  show ((if g=y then (g,v)::vs else (g,x)::L2.YE y v vs)).map @d=_
  by_cases e:g=y
  .simp_all
  .rw[if_neg e]
   show g::(L2.YE y v vs).map @d=g::vs.map @d;rw[El vs @b]
theorem Ek{y:Str}{v:V}:∀vs:List @a9,(vs.map @d).Nodup->y∈vs.map @d->(L2.YE y v vs).map @s=((vs.map λp=>((Rp p.1:Key),p.2)).map λkv=>if kv.1=(.inr y:Key)then (kv.1,v)else kv).map @s
|[],_,h=>by cases h
|(g,x)::vs,nd,h=>by
  obtain⟨n1,n2⟩:=RT.mp nd;show ((if g=y then (g,v)::vs else (g,x)::L2.YE y v vs)).map @s=(if (Rp g:Key)=.inr y then ((Rp g:Key),v)else (.inr g,x)).2::_
  by_cases e:g=y
  .rw[if_pos e,if_pos (by rw[e])]
   show v::vs.map @s=v::_
   congr 1
   grind[Rm,Sy,V6]
  .rw[if_neg e,if_neg (λz=>e (V6 z))]
   show x::(L2.YE y v vs).map @s=x::_;rw[Ek vs n2 @b]
theorem J9 (i:Nat) {x y:Str} {k:Int} {j} {np tpos kp pos:SL} (F:ObF C.X.K D y) (hN:C.X.N[i]?=Z' x:=by rfl) (hv:Z3 C.X.env.scope x:=by first|exact .inl rfl|exact .inr (.inl rfl)|exact .inr (.inr rfl)) (hd:(x==("__debug__":Str))=Y1:=by decide) (hcd:(x==("__classdict__":Str))=Y1:=by decide):
  SB C n (.AugAssign (.Attribute @ao y tpos) .Add (.Constant @b1 j kp) pos) (Ls D i y k):=by
 intro J' s σ H D' I ⟨ρ,Z,S,q⟩;obtain⟨C0,hc0,cl,na⟩:=F;unfold Ls at q;split at q
 .rename_i c ks fs e0
  split at q
  .rename_i hD
   obtain⟨hD,nk,kl⟩:=hD;obtain⟨a0,r0,h1,h2,h3⟩:=S.swap e0;obtain⟨nd,C',dx,r',vs,hc,er,ha,ho,ek,hf⟩:=id h2;subst hD ek er;rw[hc0]at hc;cases hc;rw[<-Lj]at hf
   have nk1:((vs.map λp=>((Rp p.1:Key),p.2)).map @d).Nodup:=by
    rw[MI];exact Xs.mpr (nk.imp λh z=>h (V6 z))
   rw[<-MI]at q;split at q
   .rename_i g el
    obtain⟨v0,hv0,rv0,hup⟩:=hf.Ze el;rw[jY]at hv0;have rv0:v0=.int g:=rv0;subst rv0
    have hy:y∈vs.map @d:=by
     obtain⟨l1,l2,e,_⟩:=List.lookup_eq_some_iff.mp hv0;rw[e];simp
    refine zI @ax wB Kb J' s σ H D' I ⟨_,h1,a0,C0,dx,vs,.int g,rfl,ha,cl,na,hv0,g,k,rfl,rfl,dx,vs,ha,by simpa using kl,?_⟩;have nd1:=RT.mp nd;have kp:Kp H (upd H a0 (.ins C0 dx (L2.YE y (.int (g+k)) vs))):=Kp.upd ha rfl;have nr:∀c∈dx::r',upd H a0 (.ins C0 dx (L2.YE y (.int (g+k)) vs)) c=H c:=λc hc=>ai λz=>nd1.1 (z▸hc);refine q σ _ (h3 (a0::dx::r') _ _ @hK @sC ⟨nd,C0,dx,r',_,hc0,rfl,aq,by rw[nr dx @a];exact ho,El vs hy,?_⟩);have:=hup _ (.int (g+k)) (.int (g+k)) nk1 kp (λc hc=>nr c (by simp[hc])) rfl;rw[Ek vs nk hy];exact this
   .exact QS q
  .exact QS q
 .exact QS q
end
end PU
namespace PU
open PySem PySem.Spec PyProof.Rows L2
def qQ(m n:Nat)(g:Yb->XO Fb)(t:Tr)(qs:List PV):Option ((PV ⊕ PX)×Tr):=if qs.length+1=m then (match g (.tree t::start (n-1) qs)with
|.ok (.ret p) ρ=>(ZM ρ).map λt'=>(.inl p,t')
|.ok .next ρ=>(ZM ρ).map λt'=>(.inl .Yj,t')
|.YV x ρ=>(ZM ρ).map λt'=>(.inr x,t')
|_=>Y')else Y'
def mx(s:Sel)(fs:Yb->R @e)(F:Tr->List PV->Option ((PV ⊕ PX)×Tr)):Yb->XO PV:=fun ρ=>match mS s ρ with
|none=>.no
|some t=>(XO.rd ρ @bF).bind λps ρ=>match F t ps with
  |none=>.no
  |some (.inl p,t')=>(match dJ s t' ρ with
   |some ρ'=>.ok p ρ'
   |none=>.no)
  |some (.inr x,t')=>(match dJ s t' ρ with
   |some ρ'=>.YV x ρ'
   |none=>.no)
variable[TW]
def Pn(K:QO)(n:Nat)(F:Tr->List PV->Option ((PV ⊕ PX)×Tr)):Sp:=λvs H Q E=>vs.length=n/\sC H/\∃a r xs t ps z t',vs=.ref a::xs/\aA K H a r t/\aV K H ps xs/\F t ps=Z' (z,t')/\
 (∀p,z=.inl p->∀v H',Yc (Yz H (a::r)) H'->aA K H' a r t'->Rep K H' p v->Q v H')/\∀x,z=.inr x->∀H' C dx,Yc (Yz H (a::r)) H'->aA K H' a r t'->ExP K H' C dx x->E @k dx H'
structure PFBX(P:R8)(w:RH)(K:QO)(mg:Str->Option Value)(base:Heap)(k:Nat)(f:Addr)(F:Tr->List PV->Option ((PV ⊕ PX)×Tr)):Prop where
 ex:∃(fd:FuncData)(ps:List Str),YO P w K mg base @fK k f fd ps (Pn K ps.length F)/\Rl K @x=Y2/\Binds K fd ps []/\∀t qs z,F t qs=Z' z->qs.length+1=ps.length
section
variable{C:Cn}{n:Nat}{e:Expr}{es:List Expr}{fs:Yb->R @e}{x:Str}{k:Nat}{p pos:SL}
theorem A1{J':List @c}{σ:L2.St}{H:Hp}{s s':QR}{v:Value}(hT:Thr C)(I:L2.Inv C.X J' σ H s)(hq:CXr C.X.prog C.X.w C.X.stack H s (λcV dx H'=>∃y B',cV=.ref B'/\ExP C.X.K H' B' dx y/\C.Ac y H') v s'):C.X.xe v s':=by
 obtain⟨H',ad,T,B0,dx,rfl,fl,os,bare,un,hok,apt,y,B',eB,exp,ac⟩:=hq;cases eB;have J:L2.Inv C.X J' σ H' s':=I.ag2 (ch:=[]) os un hok bare @jz;refine hT σ H' s' ad [ad,T] B0 dx y (J.Z9 λp hp=>by cases hp) @n0 (λb hb=>?_) exp ac;obtain⟨z1,z2⟩:=apt b hb;obtain⟨y1,y2,y3,_⟩:=iU I z1
 grind
end
end PU
namespace PU
open PySem PySem.Spec PyProof.Rows L2
def o8(D m:Str)(i:Nat)(fs:Yb->R @e)(F:Tr->List PV->Option ((PV ⊕ PX)×Tr)):Yb->XO PV:=fun ρ=>match ρ[i]? with
|some (.tree (.obj c ks ws))=>if c=D/\m∉ks then mx @ee fs F ρ else .no
|_=>.no
variable[TW]
structure ag3(P:R8)(w:RH)(K:QO)(mg:Str->Option Value)(base:Heap)(k:Nat)(D m:Str)(F:Tr->List PV->Option ((PV ⊕ PX)×Tr)):Prop where
 ex:∃C f,RK K R5 D=Z' @U/\L2.Cls K C/\L2.Meth K C m f/\PFBX P w K mg base k f F
section
variable{C:Cn}{n:Nat}{e:Expr}{es:List Expr}{fs:Yb->R @e}{D m:Str}{k:Nat}{np Y4 pos:SL}{o:Str}
theorem kG{m:Str}:∀vs:List @a9,m∉vs.map @d->vs.lookup m=Y'
|[],_=>rfl
|(g,x)::vs,h=>by
  grind
theorem qB(i:Nat){F:Tr->List PV->Option ((PV ⊕ PX)×Tr)}(G:ag3 C.X.prog C.X.w C.X.K C.X.mg C.X.base k D m F){kr:Nat}(hr:Yg kr C.X.A)(hT:Thr C)(ha:EA C (e::es) fs){pl:Sem Bool}
  (hN:C.X.N[i]?=Z' o:=by rfl) (hv:Z3 C.X.env.scope o:=by first|exact .inl rfl|exact .inr (.inl rfl)|exact .inr (.inr rfl)) (hd:(o==("__debug__":Str))=Y1:=by decide) (hcd:(o==("__classdict__":Str))=Y1:=by decide)
  (he:QU (e::es) C.X.env=(Y1,Rj e C.X.env)::QU es C.X.env:=by exact bq rfl) (hpl:(SN pos @dP).any @d=Y1:=by exact fK rfl) (hk:k<=kr:=by decide)
  (ht:Rj (.Call @gr (e::es) [] pos) C.X.env=(do
   let ov<- Rj @hT C.X.env
   US Y4.atName
   let (f,first)<- V2 [ov] (Um ov m pl)
   VH pos f first (SN pos (QU (e::es) C.X.env)) (TH pos (SS [] C.X.env))):=by rfl):
  XB C n (.Call @gr (e::es) [] pos) (o8 D m i fs F):=by
 replace hr:=hr.mono hk;obtain⟨C0,f,hc0,cl,me,⟨fd,ps,a,b,d,l⟩⟩:=G.ex;sleep 14;unfold o8 at q;split at q
 .rename_i c ks ws e0
  split at q
  .rename_i hD
   obtain⟨hD,hm⟩:=hD;have et:mS @ee ρ=Z' @hB:=by simp only[mS,e0]
   unfold mx at q;rw[et]at q;obtain⟨ad,r,h1,h2,_⟩:=S.sel et;have h1':σ[i]?=Z' (Z' (.ref ad)):=h1;obtain⟨nd,C',dx,r',vs,hc,er,hi,ho,ek,hf⟩:=id h2;subst hD ek er;rw[hc0]at hc;obtain rfl:C0=C':=by simp_all
   refine vk (pl:=pl) (CX:=CXr C.X.prog C.X.w) (Zd:=[]) (ds:=[]) (E:=λcV dx H'=>∃y B',cV=.ref B'/\ExP C.X.K H' B' dx y/\C.Ac y H') @ax cl me a hr d .nil (λJ' σ H s v s' I1 hq=>A1 hT I1 hq) ha he hpl ht J' st σ H Q I ⟨_,h1',ad,dx,vs,rfl,hi,kG vs hm,ρ,S.vw,(RX.rd S q.bind).imp λqs _ q1 us H1 s1 r1=>?_⟩;obtain⟨r2,_,h2',h3⟩:=eY S et s1 h1;rw[Rh];split at q1
   .exact QS q1
   .rename_i p t' ef
    split at q1
    .rename_i ρ' ep
     exact⟨by rw[QV,<-r1.length];grind,s1.tabs S.vw.tb,ad,r2,us,_,qs,.inl p,t',rfl,h2',r1,ef,λp' e' v H' s' ht rp=>by
      cases e';exact q1 v H' @jI rp,λy e'=>by cases e'⟩
    .exact QS q1
   .rename_i y t' ef
    split at q1
    .rename_i ρ' ep
     exact⟨by rw[QV,<-r1.length];grind,s1.tabs S.vw.tb,ad,r2,us,_,qs,.inr y,t',rfl,h2',r1,ef,λp' e'=>(by cases e'),λy' e' H' B' dx' s' ht exp=>by
      cases e';exact@ni⟩
    .exact QS q1
  .exact QS q
 .exact QS q
end
section
variable{P:R8}{w:RH}{K:QO}{mg:Str->Option Value}{base:Heap}{x qual:Str}{st:Stmt}{N ps:List Str}{k:Nat}{g:Yb->XO Fb}{f:Addr}{fd:FuncData}
theorem Ga(F:Fun K x qual st f fd)(S:Ye N ps @A)(hb:Binds K fd ps [])
  (Y3:∀(Y5:Value)(A:RV)(outer:List Uz)(s:QR)(H:Hp)(E:XK),Yg k @bK->SBs @ge 1 @R g):
  PFBX P w K mg base (k+1) f @o8:=by
 refine⟨fd,ps,okX F S @ca (λY5 A outer s H vs Q E hr h=>?_),F.kp,hb,λt qs z h=>?_⟩
 .obtain⟨hl,tb,a,r,xs,t,qs,z,t',ev,ht,rp,e,k1,k2⟩:=h
  subst ev;refine⟨_,Y3 Y5 A outer s H E hr,_,_,sR tb ht rp,?_⟩;have at0:∀{ρ:Yb}{H':Hp},ZM ρ=Z' t'->TB K ⟨Yz H (a::r),H,λi=>if i=0 then Z' (a,r)else Y'⟩ H' ρ->Yc (Yz H (a::r)) H'/\aA K H' a r t':=λh0 tb'=>⟨tb'.1,tb'.2 0 a r t' @a (yY h0)⟩;unfold qQ at e;split at e
  .split at e
   .rename_i u ρ hg
    rw[hg];obtain⟨t1,h1,h2⟩:=RJ.mp e;cases h2;exact λv H' tb' rv=>k1 _ rfl v H' (at0 h1 tb').1 (at0 h1 tb').2 rv
   .rename_i ρ hg
    rw[hg];obtain⟨t1,h1,h2⟩:=RJ.mp e;cases h2;exact fun σ' H' S'=>k1 _ rfl _ H' (at0 h1 S'.tb).1 (at0 h1 S'.tb).2 rfl
   .rename_i y ρ hg
    rw[hg];obtain⟨t1,h1,h2⟩:=RJ.mp e;cases h2;exact λH' tb' C dx ex=>k2 y rfl H' C dx (at0 h1 tb').1 (at0 h1 tb').2 ex
   .cases e
  .cases e
 grind[qQ]
end
end PU
namespace PU
open PySem PySem.Spec PyProof.Rows L2
section
variable{prog:R8}{w:RH}{A:RV}{E:Value->QR->Prop}{H:Heap}{gs:Array GenState}{dr:Drawn}{tk:Nat}{os:OsState}
variable{nm ql:Str}{C N:Addr}{bs bm bB:List Value}{hd:Bool}{sn:List Str}{sb:List Value}{ab:Bool}{co:Option Bool}{dd:Option Addr}{k0 k1 k2 k3 k5:Option Value}{B ni ii:String}
theorem Il (F:ExcBaseFacts B ni ii bB) (T:OwnTail H bB bm) {mN:Str->Option Value} {as:List Value} {Q:Fin->QR->Prop} (q1:H.get? C=Z' @iS) (q2:H.Ns N mN) (q3:mN "__init__"=Y') (hl:as.length<=sizeLine)
  (k:∀H' e,H.objs.size<=e->Heap.MadeExcOf H H' e @k as->Q (.done (.ret @b0)) @qp):
  QZ @r A (Builtin.«type.__call__» ⟨.ref C::as,[]⟩) Q E @jZ:=by
 repeat (first|with_reducible refine UE q1 ?_|with_reducible refine wpAny_madeBy_exc q1 ?_|wp_step)
 refine codeAny_call_builtin_code (Code.quiet_builtin _ F.quiet) (wpAny_check_new_subT F T q1 (codeAny_exc_new_subT F T q1 (show QZ _ _ _ _ _ _ from ?_) hl));have up:∀{b:Addr} {o:Obj},H.get? b=Z' o->((H.push {cls:=.type "tuple",data:=.seq as.toArray}).push {cls:=.ref C,data:=.fields #[.ref H.objs.size,.none,.none,.none,.bool Y1,.none]}).get? b=Z' o:=λz=>QT _ (QT _ z);have n1:((H.push {cls:=.type "tuple",data:=.seq as.toArray}).push {cls:=.ref C,data:=.fields #[.ref H.objs.size,.none,.none,.none,.bool Y1,.none]}).Ns N mN:=q2.keeps λb o z=>up z;have g1:((H.push {cls:=.type "tuple",data:=.seq as.toArray}).push {cls:=.ref C,data:=.fields #[.ref H.objs.size,.none,.none,.none,.bool Y1,.none]}).get? (H.objs.size+1)=Z' {cls:=.ref C,data:=.fields #[.ref H.objs.size,.none,.none,.none,.bool Y1,.none]}:=by heap_get
 have cC:(RU C::bm).contains @k=Y2:=by simp
 have T1:=T.keeps λb o z=>up z;have C1:=up q1;unfold isInstance
 repeat (first|with_reducible refine UE g1 ?_|(with_reducible refine wpAny_isSubtype_exc C1 ?_;rw[cC])|wp_step)
 refine(show QZ _ _ (X3 @k _) _ _ _ from wpAny_typeLookup_tail C1 n1 T1 F.mroIs F.init.lookup ?_);rw[q3];refine SZ (QQ (wpAny_of_eq (F.init.bind _) (QQ (UO (UW F.init.plain F.initEntry (wpAny_check_init_subT F T1 C1 g1 rfl ?_))))))
 wp_walk
 refine k _ _ (UM _) ⟨λb o hb=>?_,VO (UM _),H.objs.size+2,?_,VO @a,?_⟩
 .exact(SE _ _ (λz=>Nat.not_lt_of_le (Rg (UM _) (U8 z)) (QY hb))).trans (QT _ (up hb))
 .rw[UA _ (QT _ g1) rfl]
  simp only[SA];rfl
 .exact(SE _ _ (λz=>by have z:H.objs.size+1=H.objs.size+2:=z;simp_all)).trans (Heap.get?_push_at (by rw[SA,SA]) rfl)
theorem Ft (F:ExcBaseFacts B ni ii bB) (T:OwnTail H bB bm) {mN:Str->Option Value} {as:List Value} {Q:Value->QR->Prop} (q1:H.get? C=Z' @iS) (q2:H.Ns N mN) (q3:mN "__init__"=Y') (hl:as.length<=sizeLine)
  (k:∀H' e,H.objs.size<=e->Heap.MadeExcOf H H' e @k as->Q @b0 @qp):
  QZ @r A (call @k as) Q E @jZ:=by
 have z1:=tc_lookup;have z2:=tc_bind @k;have z3:(@jZ:QR).TypeIs @k "type":=⟨_,q1,rfl⟩;refine UO (codeAny_of_tree (show QZ _ _ (callAny @k _) _ _ _ from ?_))
 repeat (any_goals (first|assumption|with_reducible refine UE q1 ?_|wp_step))
 exact⟨rfl,codeAny_call_builtin_at (Code.quiet_builtin _ @bf) entry_typeCall (wpAny_check_type_call_sub q1 (Il F T q1 q2 q3 hl λH' e z m=>k H' e z m))⟩
end
def qR(cls:Str)(f:Yb->R PV):Yb->XO Fb:=fun ρ=>(XO.rd ρ @u).bind λp ρ=>match p with
|.str _=>.YV ⟨cls,[]⟩ ρ
|_=>.no
variable[TW]
structure ad9(K:QO)(mg:Str->Option Value)(cls:Str)(C:Addr):Prop where
 glob:mg cls=Z' @k
 ns:RK K R5 cls=Z' @U
 kp:Rl K @k=Y2
 xc:KM K C Y'=Y2
theorem zh{C:Cn}{n k:Nat}{cls:Str}{D:Addr}{e:Expr}{f:Yb->R PV}{np Y0 pos:SL}(h:ad9 C.X.K C.X.mg cls D)(hT:Thr C)(hr:Yg k C.X.A)(he:EV C e f)
  (hg:Gl C.X cls:=by exact rfl) (hd:(cls==("__debug__":Str))=Y1:=by decide) (hst:QU [e] C.X.env=(Y1,Rj e C.X.env)::QU [] C.X.env:=by rfl):SB C n (.Raise (Z' (.Call @gR [e] [] Y0)) Y' pos) (qR cls f):=by
 intro J' s σ H D' I ⟨ρ,Z,S,q⟩;have hh:C.X.A.handled=Y':=hr.hd;obtain⟨bm,N,nm,ql,bs,hdc,sn,sub,ab,col,dd,k0,k1,k2,k3,k5,mN,c1,c2,c3,c4⟩:=Im I.ok.mod.kin h.xc;rw[arm_exec_Raise];show QZ _ _ (do US pos;raiseStmt C.X.env (Z' (do let v<- Rj (.Call @gR [e] [] Y0) C.X.env;US pos;pure v)) Y') _ _ s;refine QQ (Tx (Fs (C:=D) (nm:=nm) (ql:=ql) (N:=N) (bs:=bs) (bm:=bm) (hd:=hdc) (sn:=sn) (sb:=sub) (ab:=ab) (co:=col) (dd:=dd) (k0:=k0) (k1:=k1) (k2:=k2) (k3:=k3) (k5:=k5) (ni:="ValueError.__new__") (c4.hasType @D) hh ?_));refine QQ (Rz (TM (Q:=λv s1=>∃e a0 dx,v=.ref e/\s1.heap.get? D=Z' (Vk nm ql D N bs bm hdc sn sub ab col dd k0 k1 k2 k3 k5 "ValueError.__new__")/\s1.heap.get? e=Z' {cls:=.ref D,dict:=dx,data:=.fields #[a0,.none,.none,.none,.bool Y1,.none]}/\C.X.xe @b0 s1) (lI I hg h.glob ?_ hd)) (λv s₃ h₃=>QQ (Tx (QW h₃))) λ_ _ x=>x);refine UQ (h₀:=C.X.base) I.ok.mod.kin h.kp (Yl (bh he dZ hst Y0 J' s σ H (λvs H1=>∃y:Str,vs=[.str y]/\YC C.X.K n Z H1 σ ρ/\∀H',TB C.X.K Z H' ρ->C.Ac ⟨cls,[]⟩ H') I ?_) λus s1 ⟨vs,H1,I1,r,y,ev,S1,ac⟩=>⟨I1.Z6,?_⟩) hst rfl
 .refine⟨ρ,S.vw,(RX.rd S q.bind).imp λp _ kq v H' s' rp=>?_⟩
  cases p with
  |str y=>exact⟨y,by rw[show v=.str y from rp],S.grow s',kq⟩
  |_=>exact QS kq
 .subst ev
  obtain⟨u,rfl,ru⟩:=vals1 r;obtain⟨bm',N',nm',ql',bs',hdc',sn',sub',ab',col',dd',k0',k1',k2',k3',k5',mN',d1,d2,d3,d4⟩:=Im I1.Z6 h.xc;obtain⟨hp,gs,dr,tk,os⟩:=s1;refine Ft PySem.F.excBase_ValueError d4 d1 d2 d3 (show 1<=sizeLine by decide) λH2 e' sz m=>?_;have I2:L2.Inv C.X J' σ H1 {heap:=H2,gens:=gs,drawn:=dr,toks:=tk,os:=os}:=I1.kept (t':=tk) m.keeps;obtain⟨t0,m1,m2,m3⟩:=m.there;refine⟨e',_,_,rfl,I2.bk D _ c1,m1,?_⟩;refine hT σ H1 _ e' [e'] D Y' ⟨cls,[]⟩ (I2.Z9 λp hp=>(by cases hp)) (.inl ⟨rfl,_,_,m1,rfl,rfl,rfl,rfl⟩) (λb hb=>?_) ⟨h.ns,trivial⟩ (ac _ S1.tb);have:b=e':=by simpa using hb
  subst this;exact iU I1 sz
end PU
namespace PU
open PySem PySem.Spec PyProof.Rows L2
noncomputable def JI(D x y z:Str)(i:Int):Yb->R Tr:=λ_=>.ok (.obj D @b3 [.own (.dct [] []),.own (.dct [] []),.val @I])
variable[TW]
section
variable{P:R8}{w:RH}{K:QO}{mg:Str->Option Value}{base:Heap}
def Og(K:QO)(x y z:Str)(i:Int):TS:=L2.ah7 (L2.ag5 K (J1 0) z7 x) (L2.ah7 (L2.ag5 K (J1 0) z7 y) (L2.ag5 K (J1 0) (tC @I) z))
def M6 (K:QO) (x y z:Str) (i:Int):Sp:=λvs H Q _=>vs.length=1/\Og K x y z i {nx:=λ_ H'=>Q .Yj H',rt:=Q} (L2.start ["self"] vs) H
structure ZO(P:R8)(w:RH)(K:QO)(mg:Str->Option Value)(base:Heap)(k:Nat)(D x y z:Str)(i:Int):Prop where
 ex:∃C f fd ps,RK K R5 D=Z' @U/\mg D=Z' @k/\L2.Mk K C f/\L2.Cls K C/\L2.Yv K C x/\L2.Yv K C y/\L2.Yv K C z/\YO P w K mg base CX0 k f fd ps (M6 K x y z i)/\Binds K fd ps []
theorem Ka {qual:Str} {st:Stmt} {f C:Addr} {fd:FuncData} {k:Nat} {D x y z:Str} {i:Int} {j:Nat} {p1 p2 p3 p4 q1 q2 q3 q4 r1 r2 r3 r4:SL} (F:Fun K "__init__" qual st f fd) (S:Ye ["self"] ["self"] @A) (hb:Binds K fd ["self"] [])
  (Y3:aY st=[.Assign [.Attribute @jG x p2] (.Dict [] [] p3) p4,.Assign [.Attribute @jF y q2] (.Dict [] [] q3) q4,.Assign [.Attribute @jE z r2] @gQ r4])
  (hs1:∀env,SR (.Dict [] [] p3) @oL p4.line env=pure Y1) (hs2:∀env,SR (.Dict [] [] q3) @oM q4.line env=pure Y1) (hs3:∀env,SR @gQ @oN r4.line env=pure Y1)
  (h1:RK K R5 D=Z' @U) (h2:mg D=Z' @k) (h3:L2.Mk K C f) (h4:L2.Cls K C) (h5:L2.Yv K C x) (h6:L2.Yv K C y) (h7:L2.Yv K C z):ZO P w K mg base (k+1) D x y z i:=by
 have af0:Z3 @A "self":=by
  rcases S.par "self" (by simp)with z|z
  .exact .inl z
  .exact .inr (.inl z)
 refine⟨C,f,fd,["self"],h1,h2,h3,h4,h5,h6,h7,F.ok S @ca λY5 A outer s H vs Q E hr h=>⟨Og K x y z i,?_,h.2⟩,hb⟩;rw[Y3];exact mV (zJ (bR (i:=0) rfl af0 @h @h) rf (hs1 _)) (mV (zJ (bR (i:=0) rfl af0 @h @h) rf (hs2 _)) (vb (zJ (bR (i:=0) rfl af0 @h @h) wB (hs3 _))))
end
theorem B7 {C:Cn} {k:Nat} {D x y z:Str} {i:Int} {p pos:SL} (G:ZO C.X.prog C.X.w C.X.K C.X.mg C.X.base k D x y z i) {kr:Nat} (hr:Yg kr C.X.A) (nd:x≠y/\x≠z/\y≠z:=by decide) (hk:k+1<=kr:=by decide) (hg:Gl C.X D:=by exact rfl) (hdb:(D==("__debug__":Str))=Y1:=by decide):
  ENT C (.Call (.Name D p) [] [] pos) (JI D x y z i):=by
 replace hr:=hr.mono hk;obtain⟨C0,f,fd,ps,h1,h2,mk,cl,n1,n2,n3,F,b⟩:=G.ex;sleep 1;refine CO (Zd:=[]) (ds:=[]) (E:=E0) mk F hr hg h2 b .nil y9 hdb J' s σ H Q I ?_;show ∀a dx,H a=Y'->H dx=Y'->dx≠a->_;intro a dx ha hdx hne;refine⟨rfl,?_⟩;intro h hh;have na:∀{G:Hp}{u:HO}{b d:Addr},G b=Y'->G d=Z' u->d≠b:=λe1 e2 z=>by rw[z,e1]at e2;cases e2
 have h_a:a≠h:=na hh aq;have h_d:dx≠h:=na hh (by rw[ai hne];exact aq);have p1:L2.YE x (V.ref h) []=[(x,.ref h)]:=rfl;refine⟨.ref a,rfl,a,C0,dx,[],rfl,by rw[ai h_a];exact aq,cl,n1,by decide,?_⟩;rw[p1];intro c hc;have c_a:a≠c:=na hc aq;have c_h:h≠c:=na hc (by rw[ai @fV];exact aq);have c_d:dx≠c:=na hc (by rw[ai hne,ai h_d,ai hne];exact aq)
 have p2:L2.YE y (V.ref c) [(x,.ref h)]=[(x,.ref h),(y,.ref c)]:=by
  show (if x=y then _ else (x,V.ref h)::L2.YE y @fY [])=_;rw[if_neg nd.1];rfl
 refine⟨.ref a,rfl,a,C0,dx,[(x,.ref h)],rfl,by rw[ai c_a];exact aq,cl,n2,by show 1<1000;decide,?_⟩;rw[p2]
 have p3:L2.YE z (V.int i) [(x,.ref h),(y,.ref c)]=[(x,.ref h),(y,.ref c),(z,.int i)]:=by
  show (if x=z then _ else (x,V.ref h)::(if y=z then _ else (y,V.ref c)::L2.YE z @I []))=_;rw[if_neg nd.2.1,if_neg nd.2.2];rfl
 refine⟨.ref a,rfl,a,C0,dx,[(x,.ref h),(y,.ref c)],rfl,aq,cl,n3,by show 2<1000;decide,?_⟩;rw[p3];have Hh:H h=Y':=by rw[ai @fV,ai (Rv h_d)]at hh;exact hh
 have Hc:H c=Y':=by rw[ai @ix,ai (Rv c_h),ai @ix,ai (Rv c_d)]at hc;exact hc
 have hset:∀b∈[a,dx,h,c],H b=Y':=λb hb=>by
  simp only[R7,Rx,or_false]at hb;rcases hb with rfl|rfl|rfl|rfl<;>assumption
 refine⟨rfl,q a [dx,h,c] _ (.of λb o e=>?_) hset ⟨?_,C0,dx,[h,c],_,h1,rfl,aq,?_,rfl,h,[c],_,rfl,rfl,⟨[],?_,rfl,rfl⟩,c,[],_,rfl,rfl,⟨[],?_,rfl,rfl⟩,.int i,[],rfl,rfl,rfl,rfl⟩⟩
 .have nb:∀d∈[a,dx,h,c],b≠d:=λd hd z=>by rw[z,hset d hd]at e;cases e
  have b1:=nb a @a;have b2:=nb dx @a;have b3:=nb h @a;have b4:=nb c @a;rw[ai b1,ai b1,ai b4,ai b1,ai b3,ai b1,ai b2];exact e
 .simp[Rv hne,h_a,c_a,h_d,c_d,c_h]
 .rw[ai hne,ai hne,ai c_d,ai hne,ai h_d,ai hne]
  exact aq
 .rw[ai @fV,ai @fV,ai c_h,ai @fV]
  exact aq
 .rw[ai @ix,ai @ix]
  exact aq
end PU
namespace PU
open PySem PySem.Spec PyProof.Rows L2
noncomputable def iE:List Key->List PV->Key->List PV
|k::ks,p::ps,j=>if k=j then iE ks ps j else p::iE ks ps j
|_,_,_=>[]
def Hq(ks:List Key)(ps:List PV)(k:Key):PV:=.dct (ks.filter λj=>decide (j≠k)) (iE ks ps k)
def l0(s:Sel)(fk:Yb->R PV):Yb->XO Fb:=fun ρ=>match mS s ρ with
|some (.leaf (.dct ks ps))=>(XO.rd ρ (fk ρ)).bind λkp ρ=>match iG kp with
  |some k=>if @dG=Y2 then (match dJ s (.leaf (Hq ks ps k)) ρ with
   |some ρ'=>.ok .next ρ'
   |none=>.no)else .no
  |none=>.no
|_=>.no
variable[TW]
def Md:V->List V->Hp->VK->Prop:=λx vs H Q=>∃l kvs k v,x=.ref l/\vs=[kV k]/\H l=Z' @ah/\pj kvs k=Z' v/\Q v (upd H l @kv)
theorem Gv {X:Cx}:MtM X "dict.pop" Md:=by
 intro J' s σ H x vs v us Q I rx rv ⟨l,kvs,k,y,ex,ev,hH,hv,q⟩;subst ex ev;cases rx;obtain⟨u,rfl,ru⟩:=rv.one;exact Np I hH ru hv @ad λw' s' I' rw'=>⟨y,_,I',rw',q⟩
theorem uF{K:QO}{H:Hp}{k:Key}:∀{kvs:List @t}{ps:List PV},aV K H ps @ai->aV K H (iE @ay ps k) ((se kvs k).map @s)
|[],ps,h=>by
  rfl
|kv::kvs,ps,h=>by
  cases ps with
  |nil=>cases (show (kv::kvs).map @s=[]from h)
  |cons p ps=>
   obtain⟨x,l,e,h1,h2⟩:=h;injection e with e1 e2;subst e1 e2;have ih:=uF (k:=k) h2;show aV K H (if kv.1=k then iE @ay ps k else p::iE @ay ps k) (List.map @s (List.filter (λkv=>decide (kv.1≠k)) (kv::kvs)))
   by_cases hk:kv.1=k
   .rw[if_pos hk,Wx (by simp[hk])]
    exact ih
   .rw[if_neg hk,Ww (by simp[hk])]
    exact@qR
theorem Bd{k:Key}(kvs:List @t):(se kvs k).map @d=(kvs.map @d).filter λj=>decide (j≠k):=by
 unfold se;rw[List.filter_map];rfl
theorem v3{C:Cn}{n:Nat}{s:Sel}{o e:Expr}{fk:Yb->R PV}{pos Y4 Y0:SL}(ho:PE C.X o @fo)(he:EV C e fk)(hs:QU [e] C.X.env=[(Y1,Rj e C.X.env)]:=by exact bF rfl)
  (hb:S8 o "pop" C.X.env @de=Rj o C.X.env:=by rfl) (Y6:(Y4.endLine==Y0.line)=Y2:=by rfl):SB C n (.Expr (.Call (.Attribute o "pop" Y4) [e] [] Y0) pos) (l0 s fk):=by
 intro J' st σ H D I ⟨ρ,Z,S,q⟩;unfold l0 at q;split at q
 .rename_i ks ps e1
  obtain⟨a,r,h1,h2,_⟩:=S.sel e1;obtain⟨kvs,hx,ek,rr⟩:=h2.2;refine nS (vn To Wq PySem.F.type_dict_pop Gv ho @dA hb (by rw[hs];rfl) Y6 hs @D) @D J' st σ H D I ?_;refine⟨a,h1,.inr (.inr (.inl ⟨rfl,.inl ⟨kvs,hx⟩⟩)),ρ,S.vw,(RX.rd S q.bind).imp λkp _ q2 y H1 s1 r1=>?_⟩;split at q2
  .rename_i k e3
   split at q2
   .rename_i hk
    split at q2
    .rename_i ρ' ep
     obtain⟨r',_,h2',h3⟩:=eY S e1 s1 h1;have hy:=fX e3 r1.o;subst hy ek;have hx1:H1 a=Z' @ah:=s1 _ _ hx
     have hval:∃v,pj kvs k=Z' v:=by
      have:(pj kvs k).isSome=Y2:=by
       rw[<-jl];rw[V5]at hk;exact hk
      exact Ui.mp this
     obtain⟨v,hv⟩:=hval;refine⟨a,kvs,k,v,rfl,rfl,hx1,hv,?_⟩;have kp:Kp H1 (upd H1 a @kv):=Kp.upd hx1 rfl;exact q2 σ _ (h3 _ _ _ ep @r9 ⟨h2'.1,_,aq,Bd kvs,aV.kp kp _ (uF (rr.same s1))⟩)
    .exact QS q2
   .exact QS q2
  .exact QS q2
 .exact QS q
end PU
namespace PU
open PySem PySem.Spec PyProof.Rows L2
def lU(n:Nat)(as:List Sl):Yb:=as++Sh (n-as.length) .no
variable[TW]
theorem sQ{K:QO}{H:Hp}{N:List Str}{n:Nat}{as:List Sl}{vs:List V}{at_:Nat->Option @he}{L:List Addr}(tb:sC H)(hl:as.length=vs.length)
  (hv:∀i l,as[i]?=Z' l->(∃p v,l=.val p/\vs[i]?=Z' v/\Rep K H p v)\/∃t a r,l=.tree t/\vs[i]?=Z' @m/\at_ i=Z' (a,r)/\aA K H a r t)
  (hn:∀i,n<=i->at_ i=Y') (hL:∀i a r,at_ i=Z' (a,r)->∀b∈a::r,b∈L/\H b≠Y')
  (ap:∀i j a r a' r',at_ i=Z' (a,r)->at_ j=Z' (a',r')->i≠j->∀b∈a::r,b∉a'::r'):
  YC K n ⟨Yz H L,H,at_⟩ H @hr (lU N.length as):=by
 have cut:∀i l,(lU N.length as)[i]?=Z' l->as[i]?=Z' l\/l=Sl.no:=λi l e=>by
  unfold lU at e
  by_cases h:i<as.length
  .rw[Rc h]at e
   exact .inl e
  grind
 have sv:∀i v,vs[i]?=Z' v->(L2.start N vs)[i]?=Z' @aR:=λi v e=>by
  have h:=(RO.mp e).1;unfold L2.start;rw[Rc @i,RC,e];rfl
 refine⟨⟨H,H,at_⟩,⟨?_,Yc.refl H,Kp.refl H,⟨λi l e=>?_,tb⟩,λi p c e f=>?_,λi j p q c e1 e2 f1 f2=>?_,λi u e=>?_⟩,hn,rfl,Yc.cut _,λi q h=>h,λi a r h b hb=>eJ (hL i a r h b hb).1,ap,λi a r h b hb=>(hL i a r h b hb).2⟩
 .grind[lU,L2.start,RF,UB,RB]
 .rcases cut i l e with h|h
  .rcases hv i l h with⟨p,v,rfl,h1,h2⟩|⟨t,a,r,rfl,h1,h2,h3⟩
   .exact⟨v,sv i v h1,h2⟩
   .exact⟨a,r,sv i _ h1,h3⟩
  .subst h
   exact trivial
 .grind
 .grind
 grind
theorem bo.uniq{K:QO}{H:Hp}:∀{fs:List YU}{r r':List Addr}{xs:List V},bo K H r fs xs->bo K H r' fs xs->r=r'
|[],_,_,_,⟨e,_⟩,⟨e',_⟩=>e.trans e'.symm
|.val p::fs,_,_,_,⟨x,ys,e,_,t⟩,⟨x',ys',e',_,t'⟩=>by
  rw[e]at e';injection e' with _ e2;subst e2;exact bo.uniq t t'
|.own p::fs,_,_,_,⟨b,r1,ys,e1,e2,_,t⟩,⟨b',r1',ys',e1',e2',_,t'⟩=>by
  rw[e2]at e2';injection e2' with z1 z2;cases z1;subst z2;rw[e1,e1',bo.uniq t t']
theorem aA.uniq{K:QO}{H:Hp}{a:Addr}{r r':List Addr}{t:Tr}(h:aA K H a r t)(h':aA K H a r' t):r=r':=by
 induction t generalizing a r r' with
|leaf p=>exact h.1.trans h'.1.symm
|node ks fs=>
  obtain⟨_,kvs,e,_,f⟩:=h;obtain⟨_,kvs',e',_,f'⟩:=h';rw[e]at e';cases e';exact f.uniq f'
|obj c ks fs=>
  obtain⟨_,C,dx,r1,vs,_,e1,e,_,_,f⟩:=h;obtain⟨_,C',dx',r1',vs',_,e1',e',_,_,f'⟩:=h';rw[e]at e';cases e';rw[e1,e1',f.uniq f']
|two t u i j=>
  obtain⟨_,b,q,c,l,er,e,h1,h2⟩:=h;obtain⟨_,b',q',c',l',er',e',h1',h2'⟩:=h';rw[e]at e';cases e';rw[er,er',i h1 h1',j h2 h2']
open Classical in
theorem YC.aa5{K:QO}{n:Nat}{Z:Zs}{H:Hp}{σ:L2.St}{ρ:Yb}{i j:Nat}{t u:Tr}(S:YC K n Z H σ ρ)(ei:ρ[i]?=Z' @aW)(ej:ρ[j]?=Z' @mt)(hij:i≠j):
  ∃a r b q,σ[i]?=Z' @ag/\σ[j]?=Z' @mj/\aA K H a r t/\aA K H b q u/\(∀c∈a::r,c∉b::q)/\
   ∀(H':Hp)(t' u':Tr),Yc (Yz H ((a::r)++(b::q))) H'->aA K H' a r t'->aA K H' b q u'->YC K n Z H' σ @gg:=by
 obtain⟨a,r,h1,h2,h3⟩:=S.swap ei;obtain⟨b,q,g1,g2,_⟩:=S.swap ej
 have ZN:∀c∈a::r,c∉b::q:=by
  obtain⟨B,S0,bk⟩:=id S;obtain⟨a',r',e3,es,ht⟩:=S0.Yy i t ei;obtain⟨b',q',e3',es',ht'⟩:=S0.Yy j u ej;rw[h1]at es;rw[g1]at es';cases es;cases es';rw[h2.uniq (ht.same S0.same),g2.uniq (ht'.same S0.same)];exact bk.apart i j a r' b q' e3 e3' hij
 refine⟨a,r,b,q,h1,g1,h2,g2,ZN,λH' t' u' hs ht hu=>?_⟩
 let Hm:Hp:=λc=>if c∈b::q then H c else H' c
 have m1:∀c,c∈b::q->Hm c=H c:=λc hc=>if_pos hc;have m2:∀c,c∉b::q->Hm c=H' c:=λc hc=>if_neg hc
 have kp:Kp H' Hm:=λc w e f=>by
  have:c∉b::q:=λz=>by
   obtain⟨w',e',f',_⟩:=hu.obj c z
   simp_all
  simp_all
 have htm:aA K Hm a r t':=ht.off kp λc hc=>m2 c (ZN c hc)
 have sm:Yc (Yz H (a::r)) Hm:=by
  refine⟨λc o e no=>?_,λc ps e=>?_⟩
  .have hc:c∉a::r:=λz=>by rw[eJ z]at e;cases e
   rw[b6 hc]at e
   by_cases hb:c∈b::q
   .grind
   .rw[m2 c hb]
    exact hs.at_ c o (by grind[b6,Ra]) no
  .have hc:c∉a::r:=λz=>by rw[eJ z]at e;cases e
   rw[b6 hc]at e
   have hb:c∉b::q:=λz=>by
    obtain⟨w,e',_,f'⟩:=g2.obj c z;rw[e]at e';cases e';cases f'
   obtain⟨p1,e1,k1⟩:=hs.tb c ps (by grind[b6,Ra]);refine⟨p1,by simp_all,λtk=>(k1 (tk.sub λd w ed f=>?_)).kp kp⟩;have hd:d∉a::r:=λz=>by rw[eJ z]at ed;cases ed
   rw[b6 hd]at ed
   have hd':d∉b::q:=λz=>by
    obtain⟨w',e',f',_⟩:=g2.obj d z
    simp_all
   grind[b6,Ra]
 have S1:=h3 (a::r) Hm t' (λc h=>h) sm htm;obtain⟨b2,q2,g1',g2',g3'⟩:=S1.swap (i:=j) (t0:=u) @i;rw[g1]at g1';cases g1'
 have gm:aA K Hm b q u:=g2.off (λc w e f=>by
  by_cases hb:c∈b::q
  .grind
  .by_cases ha:c∈a::r
   .obtain⟨w',e',f',_⟩:=h2.obj c ha
    simp_all
   .rw[m2 c hb]
    exact hs.at_ c w (by grind[b6,Ra]) (by cases w<;>first|rfl|cases f)) λc hc=>m1 c hc
 obtain rfl:=gm.uniq g2';refine g3' (b::q) H' u' (λc h=>h) ⟨λc o e no=>?_,λc ps e=>?_⟩ hu
 .grind[eJ,b6]
 .have hc:c∉b::q:=λz=>by rw[eJ z]at e;cases e
  rw[b6 hc,m2 c hc]at e;refine⟨ps,e,λtk=>tk.sub λd w ed f=>?_⟩
  grind[eJ,b6]
end PU
namespace PU
open PySem PySem.Spec PyProof.Rows L2
abbrev F2:=Tr->List PV->Tr->Option ((PV ⊕ PX)×Tr×Tr)
noncomputable def HQ(i:Nat)(ρ:Yb):Option Tr:=match ρ[i]? with
|some (.tree t)=>Z' t
|_=>Y'
theorem qH{i:Nat}{ρ:Yb}{t:Tr}(h:HQ i ρ=Z' t):ρ[i]?=Z' @aW:=by
 grind[HQ]
def two(i j:Nat)(ρ:Yb)(z:PV ⊕ PX):Option ((PV ⊕ PX)×Tr×Tr):=match HQ i ρ,HQ j ρ with
|some t,Z' u=>Z' (z,t,u)
|_,_=>Y'
def zr(m n:Nat)(g:Yb->XO Fb):F2:=λt qs u=>if qs.length+2=m then (match g (lU n (.tree t::@oW))with
|.ok (.ret p) ρ=>two 0 (m-1) ρ (.inl p)
|.ok .next ρ=>two 0 (m-1) ρ @l6
|.YV x ρ=>two 0 (m-1) ρ @b2
|_=>Y')else Y'
variable[TW]
def Po(K:QO)(n:Nat)(F:F2):Sp:=λvs H Q E=>vs.length=n/\sC H/\∃a r xs b q t ps u z t' u',vs=.ref a::@sZ/\aA K H a r t/\aA K H b q u/\(∀c∈a::r,c∉b::q)/\aV K H ps xs/\F t ps u=Z' (z,t',u')/\
 (∀p,z=.inl p->∀v H',Yc (Yz H ((a::r)++(b::q))) H'->aA K H' a r t'->aA K H' b q u'->Rep K H' p v->Q v H')/\
 ∀x,z=.inr x->∀H' C dx,Yc (Yz H ((a::r)++(b::q))) H'->aA K H' a r t'->aA K H' b q u'->ExP K H' C dx x->E @k dx H'
structure ah3(P:R8)(w:RH)(K:QO)(mg:Str->Option Value)(base:Heap)(k:Nat)(D m:Str)(F:F2):Prop where
 ex:∃C f fd ps,RK K R5 D=Z' @U/\L2.Cls K C/\L2.Meth K C m f/\YO P w K mg base @fK k f fd ps (Po K ps.length F)/\Binds K fd ps []/\∀t qs u z,F t qs u=Z' z->qs.length+2=ps.length
section
variable{P:R8}{w:RH}{K:QO}{mg:Str->Option Value}{base:Heap}{x qual D m:Str}{st:Stmt}{N ps:List Str}{k:Nat}{g:Yb->XO Fb}{f C:Addr}{fd:FuncData}
theorem Gu(h1:RK K R5 D=Z' @U)(cl:L2.Cls K C)(me:L2.Meth K C m f)(F:Fun K x qual st f fd)(S:Ye N ps @A)(hb:Binds K fd ps [])
  (Y3:∀(Y5:Value)(A:RV)(outer:List Uz)(s:QR)(H:Hp)(E:XK),Yg k @bK->SBs @ge ps.length @R g):
  ah3 P w K mg base (k+1) D m @o6:=by
 refine⟨C,f,fd,ps,h1,cl,me,okX F S @ca (λY5 A outer s H vs Q E hr h=>?_),hb,λt qs u z h=>?_⟩
 .obtain⟨hl,tb,a,r,xs,b,q,t,qs,u,z,t',u',ev,ht,hu,ZN,rp,e,k1,k2⟩:=h
  subst ev
  have Xy:qs.length+2=ps.length:=by
   rw[<-hl,QV,RF,rp.length];rfl
  have m1:ps.length-1=qs.length+1:=by simp[*]
  have lx:=rp.length;have at1:(if qs.length+1=0 then Z' (a,r)else if qs.length+1=ps.length-1 then Z' (b,q)else Y')=Z' (b,q):=by rw[if_neg @b,if_pos m1.symm]
  have S0:YC K ps.length ⟨Yz H ((a::r)++(b::q)),H,λi=>if i=0 then Z' (a,r)else if i=ps.length-1 then Z' (b,q)else Y'⟩ H (L2.start N (.ref a::@sZ)) (lU N.length (.tree t::@oW)):=by
   refine sQ tb (by simp[lx]) (λi l e=>?_) (λi hi=>?_) (λi c s h d hd=>?_) (λi i' c s c' s' h h' hn=>?_)
   .cases i with
    |zero=>
     cases e;exact .inr ⟨t,a,r,rfl,rfl,if_pos rfl,ht⟩
    |succ i=>
     rw[Rf]at e
     by_cases hi:i<qs.length
     .rw[Rc (by rw[RB];exact hi),RC]at e
      obtain⟨p,hp,rfl⟩:=RJ.mp e;obtain⟨v,hv,rv⟩:=rp.get hp;refine .inl ⟨p,v,rfl,?_,rv⟩;rw[Rf,Rc @i];exact hv
     .rw[Ro (by rw[RB];simp_all),RB]at e
      have hi0:i=qs.length:=by
       have:=(RO.mp e).1;simp at this
       grind
      subst hi0;rw[Nat.sub_self]at e;cases e;refine .inr ⟨u,b,q,rfl,?_,at1,hu⟩;rw[Rf,Ro (by simp[*]),lx,Nat.sub_self];rfl
   .show (if i=0 then _ else if i=ps.length-1 then _ else Y')=Y'
    rw[if_neg @b,if_neg @b]
   .have h:(if i=0 then Z' (a,r)else if i=ps.length-1 then Z' (b,q)else Y')=Z' (c,s):=h
    split at h
    .cases h
     obtain⟨w',e',_⟩:=ht.obj d hd;exact⟨SD _ hd,by rw[e'];exact λz=>by cases z⟩
    .split at h
     .cases h
      obtain⟨w',e',_⟩:=hu.obj d hd;exact⟨RN _ hd,by rw[e'];exact λz=>by cases z⟩
     .cases h
   .have h:(if i=0 then Z' (a,r)else if i=ps.length-1 then Z' (b,q)else Y')=Z' (c,s):=h
    have h':(if i'=0 then Z' (a,r)else if i'=ps.length-1 then Z' (b,q)else Y')=Z' (c',s'):=h';split at h
    .split at h'
     .rename_i z1 z2;exact absurd @kb hn
     .split at h'
      .cases h;cases h';exact ZN
      .cases h'
    .split at h
     .split at h'
      .cases h;cases h';exact λd hd z=>ZN d z hd
      .split at h'
       .rename_i z1 _ z2;exact absurd @kb hn
       .cases h'
     .cases h
  refine⟨_,Y3 Y5 A outer s H E hr,_,_,S0,?_⟩
  have fin:∀{ρ:Yb}{H':Hp}{y:PV ⊕ PX},two 0 (ps.length-1) ρ y=Z' (z,t',u')->TB K ⟨Yz H ((a::r)++(b::q)),H,λi=>if i=0 then Z' (a,r)else if i=ps.length-1 then Z' (b,q)else Y'⟩ H' ρ->Yc (Yz H ((a::r)++(b::q))) H'/\aA K H' a r t'/\aA K H' b q u':=λ{ρ H' y} h0 tb'=>by
   unfold two at h0;split at h0
   .rename_i t1 u1 e1 e2
    cases h0;refine⟨tb'.1,tb'.2 0 a r _ rfl (qH e1),tb'.2 (ps.length-1) b q _ ?_ (qH e2)⟩;show (if ps.length-1=0 then Z' (a,r)else if ps.length-1=ps.length-1 then Z' (b,q)else Y')=_;rw[if_neg (by simp[*]),if_pos rfl]
   .cases h0
  have fst:∀{ρ:Yb}{y:PV ⊕ PX},two 0 (ps.length-1) ρ y=Z' (z,t',u')->y=z:=λ{ρ y} h0=>by
   unfold two at h0;split at h0
   .cases h0;rfl
   .cases h0
  unfold zr at e;rw[if_pos Xy]at e;split at e
  .rename_i p ρ hg
   rw[hg];exact λv H' tb' rv=>k1 _ (fst e).symm v H' (fin e tb').1 (fin e tb').2.1 (fin e tb').2.2 rv
  .rename_i ρ hg
   rw[hg];exact fun σ' H' S'=>k1 _ (fst e).symm _ H' (fin e S'.tb).1 (fin e S'.tb).2.1 (fin e S'.tb).2.2 rfl
  .rename_i y ρ hg
   rw[hg];exact λH' tb' C dx ex=>k2 _ (fst e).symm H' C dx (fin e tb').1 (fin e tb').2.1 (fin e tb').2.2 ex
  .cases e
 .unfold zr at h
  split at h
  .rename_i hl;exact hl
  .cases h
end
end PU
namespace PU
open PySem PySem.Spec PyProof.Rows L2
def yh(D m:Str)(i j:Nat)(f1 f2:Yb->R PV)(F:F2):Yb->XO PV:=fun ρ=>match ρ[i]?,ρ[j]? with
|some (.tree (.obj c ks ws)),Z' (.tree u)=>if c=D/\m∉ks/\i≠j then (XO.rd ρ (f1 ρ)).bind λp1 ρ=>(XO.rd ρ (f2 ρ)).bind λp2 ρ=>(match F @hB [p1,p2] u with
  |none=>.no
  |some (.inl p,t',u')=>.ok p @gg
  |some (.inr x,t',u')=>.YV x @gg)else .no
|_,_=>.no
def Ny(j:Nat)(f:Yb->XO PV):Yb->XO Fb:=fun ρ=>match ρ[j]? with
|some (.tree (.leaf (.lst _)))=>(f ρ).bind λp ρ'=>(match ρ'[j]? with
  |some (.tree (.leaf (.lst ps)))=>if ps.length<16777216 then .ok .next (ρ'.set j (.tree @lv))else .no
  |_=>.no)
|_=>.no
variable[TW]
section
variable{C:Cn}{n:Nat}{e1 e2:Expr}{f1 f2:Yb->R PV}{D m o y:Str}{k:Nat}{np yp Y4 pos:SL}
theorem C6(i j:Nat){F:F2}(G:ah3 C.X.prog C.X.w C.X.K C.X.mg C.X.base k D m F){kr:Nat}(hr:Yg kr C.X.A)(hT:Thr C)(h1:EV C e1 f1)(h2:EV C e2 f2){pl:Sem Bool}
  (hN:C.X.N[i]?=Z' o:=by rfl) (hv:Z3 C.X.env.scope o:=by first|exact .inl rfl|exact .inr (.inl rfl)|exact .inr (.inr rfl)) (hd:(o==("__debug__":Str))=Y1:=by decide) (hcd:(o==("__classdict__":Str))=Y1:=by decide)
  (hN':C.X.N[j]?=Z' y:=by rfl) (hv':Z3 C.X.env.scope y:=by first|exact .inl rfl|exact .inr (.inl rfl)|exact .inr (.inr rfl)) (hd':(y==("__debug__":Str))=Y1:=by decide) (ac4:(y==("__classdict__":Str))=Y1:=by decide)
  (s1:QU @gZ C.X.env=(Y1,Rj e1 C.X.env)::QU @kA C.X.env:=by exact bq rfl) (s2:QU @kA C.X.env=(Y1,Rj e2 C.X.env)::QU [.Name y yp] C.X.env:=by exact bq rfl) (s3:QU [.Name y yp] C.X.env=[(Y1,Rj @lx C.X.env)]:=by exact bF rfl)
  (hpl:(SN pos (QU @kA C.X.env)).any @d=Y1:=by exact fK rfl) (hk:k<=kr:=by decide)
  (ht:Rj (.Call @gr @gZ [] pos) C.X.env=(do
   let ov<- Rj @hT C.X.env
   US Y4.atName
   let (f,first)<- V2 [ov] (Um ov m pl)
   VH pos f first (SN pos (QU @gZ C.X.env)) (TH pos (SS [] C.X.env))):=by rfl):
  XB C n (.Call @gr @gZ [] pos) (yh D m i j f1 f2 F):=by
 replace hr:=hr.mono hk;obtain⟨C0,f,fd,ps,hc0,cl,me,fo,bd,l⟩:=G.ex;sleep 14;unfold yh at q;split at q
 .rename_i c ks ws u ei ej
  split at q
  .rename_i hD
   obtain⟨hD,hm,hij⟩:=hD;obtain⟨a,r,b,q0,ea,eb,ta,tb,ZN,_⟩:=S.aa5 ei ej hij;obtain⟨nd,C',dx,r',vs,hc,er,hi,ho,ek,hf⟩:=id ta;subst hD ek;rw[hc0]at hc;obtain rfl:C0=C':=by simp_all
   refine vk (pl:=pl) (CX:=CXr C.X.prog C.X.w) (Zd:=[]) (ds:=[]) (E:=λcV dx H'=>∃y B',cV=.ref B'/\ExP C.X.K H' B' dx y/\C.Ac y H') @ax cl me fo hr bd .nil (λJ' σ H s v s' I1 hq=>A1 hT I1 hq) (bh h1 (bh h2 (bh @jT dZ s3) s2) s1) s1 hpl ht J' st σ H Q I ⟨_,ea,a,dx,vs,rfl,hi,kG vs hm,ρ,S.vw,(RX.rd S q.bind).imp λp1 _ q1 v1 H1 g1 r1=>?_⟩;refine⟨ρ,(S.grow g1).vw,(RX.rd (S.grow g1) q1.bind).imp λp2 _ q2 v2 H2 g2 r2=>⟨.ref b,eb,?_⟩⟩;have S2:=S.grow (g1.trans g2);obtain⟨a',r2',b',q2',ea',eb',ta',tb',dis',sw⟩:=S2.aa5 ei ej hij;rw[ea]at ea';rw[eb]at eb';cases ea';cases eb';cases hF:F @ph [p1,p2] u with
   |none=>rw[hF]at q2;exact QS q2
   |some zz=>
    obtain⟨z,t',u'⟩:=zz;rw[hF]at q2;refine⟨by grind,S2.vw.tb,a,r2',[v1,v2],b,q2',_,[p1,p2],u,z,t',u',rfl,ta',tb',dis',⟨v1,[v2],rfl,r1.same g2,v2,[],rfl,r2,rfl⟩,hF,λp ep v H' s' h1' h2' rp=>?_,λx ex H' B' dx' s' h1' h2' exp=>?_⟩
    .subst ep
     exact q2 v H' (sw H' t' u' s' h1' h2') rp
    .subst ex
     exact⟨x,B',rfl,exp,q2 H' (sw H' t' u' s' h1' h2').tb⟩
  .exact QS q
 .exact QS q
theorem FU(j:Nat){e:Expr}{f:Yb->XO PV}{xp Y4 Y0 pos:SL}(he:XB C n e f)(hs:QU [e] C.X.env=[(Y1,Rj e C.X.env)]:=by exact bF rfl)
  (hN:C.X.N[j]?=Z' y:=by rfl) (hv:Z3 C.X.env.scope y:=by first|exact .inl rfl|exact .inr (.inl rfl)|exact .inr (.inr rfl)) (hd:(y==("__debug__":Str))=Y1:=by decide) (hcd:(y==("__classdict__":Str))=Y1:=by decide)
  (hb:S8 @hS "append" C.X.env (Rj @hS C.X.env)=Rj @hS C.X.env:=by rfl) (Y6:(Y4.endLine==Y0.line)=Y2:=by rfl):
  SB C n (.Expr (.Call (.Attribute @hS "append" Y4) [e] [] Y0) pos) (Ny j f):=by
 intro J' st σ H D' I ⟨ρ,Z,S,q⟩;unfold Ny at q;split at q
 .rename_i ps0 e0
  obtain⟨a,r,ha,⟨_,xs,hx,rr⟩,_⟩:=S.swap e0;refine nS (vn Tn Tw Ud kC @ax @dA hb (by rw[hs];rfl) Y6 hs @D) @D J' st σ H D' I ?_;refine⟨_,ha,.inl @gP,ρ,Z,S,q.bind.imp λp ρ' _ q1 v H1 S1 r1=>?_⟩;split at q1
  .rename_i ps e1
   split at q1
   .rename_i hl
    obtain⟨a',r',ha',⟨er,ys,hy,ry⟩,sw⟩:=S1.swap e1;rw[ha]at ha';cases ha';refine⟨a,ys,v,rfl,rfl,hy,by rw[Rt,<-ry.length];exact hl,?_⟩;have kp:Kp H1 (upd H1 a (.lst (ys++[v]))):=Kp.upd hy rfl;exact q1 σ _ (sw (a::r') _ _ @hK (dI hy rfl rfl) ⟨er,ys++[v],aq,aV.append (aV.kp kp _ ry) @jd⟩)
   .exact QS q1
  .exact QS q1
 .exact QS q
end
end PU
namespace PU
open PySem PySem.Spec PyProof.Rows L2
section
variable{X:Cx}{CX:CXT}{k:Nat}{f D:Addr}{fd:FuncData}{ps:List Str}{sp:Sp}{E:XK}{m:Str}{pos Y4:SL}{e o:Expr}{es:List Expr}{ta:TE}{t:TA}{J':List @c}{σ:L2.St}{H:Hp}{s:QR}{Q:VK}
theorem JN{pl:Sem Bool}(ho:PE X o ta)(c:L2.Cls X.K D)(hm:L2.Meth X.K D m f)(F:YO X.prog X.w X.K X.mg X.base CX k f fd ps sp)(hr:Yg k X.A)(hb:Binds X.K fd ps [])(hx:∀H s e s',L2.Inv X J' σ H s->CX X.stack H s E e s'->X.xe e s')(ha:PA X (e::es) t)
  (hst:QU (e::es) X.env=(Y1,Rj e X.env)::QU es X.env) (hpl:(SN pos @ch).any @d=Y1)
  (ht:Rj (.Call @gY (e::es) [] pos) X.env=(do
   let ov<- Rj o X.env
   US Y4.atName
   let (f,first)<- V2 [ov] (Um ov m pl)
   VH pos f first (SN pos (QU (e::es) X.env)) (TH pos (SS [] X.env))))
  (I:L2.Inv X J' σ H s) (h:L2.ah4 D m sp [] E ta t σ H Q):QZ @o X.A (Rj (.Call @gY (e::es) [] pos) X.env) @aN X.xe s:=by
 refine Wk (pl:=pl) (Yl @jR λu s1 ⟨x,H1,I1,rx,a,dx,fs,ex,ea,l,q⟩=>?_) ht;subst ex;obtain rfl:u=RU a:=rx;refine L2.ZA I1 ea c hm l (UQ (first:=[.ref a]) (h₀:=X.base) I.ok.mod.kin hm.kp (Yl @oI λus s2 ⟨vs,H2,I2,r,q2⟩=>⟨I2.Z6,?_⟩) hst hpl);have q2:sp (V.ref a::(vs++[])) H2 Q E:=q2;rw[Rh]at q2;have r2:Vals (V.ref a::vs) (RU a::us):=.cons rfl r;have hl:(RU a::us).length=ps.length:=by rw[<-r2.length];exact F.len _ _ _ _ q2
 have hb':=hb s2 (RU a::us) I2.Z6 @i;rw[Rh]at hb';refine UO (UG (F.run X.A X.stack s2 H2 ⟨RU a::us,[]⟩ (RU a::us) (V.ref a::vs) Q E hr I2.ai3 hb' r2 q2) λr s' hq=>?_);cases r with
|error v=>exact hx H2 s2 v s' I2 hq
|ok fl=>
  cases fl with
  |ret u=>exact I2.after hq
  |next=>exact QS hq
  |brk=>exact QS hq
  |cont=>exact QS hq
end
def BS(f:Yb->XO PV)(f2:Yb->R PV)(g:PV->PV->Option PV):Yb->XO PV:=fun ρ=>(f ρ).bind λp ρ=>(XO.rd ρ (f2 ρ)).bind λp2 ρ=>match g p p2 with
|some z=>.ok z ρ
|none=>.no
variable[TW]
section
variable{C:Cn}{n:Nat}{a b:Expr}{rest:List Expr}{pos:SL}{f:Yb->XO PV}{f2:Yb->R PV}{t u:Yb->XO Bool}
theorem Ij{op:WM}{g:PV->PV->Option PV}(ho:YH C.X @b5 @cH)(hg:wY g)(ha:XB C n a f)(hb:EO C b f2)(hm:TZ op b=Y1:=by first|exact wK _|with_unfolding_all rfl):XT C n @dH (BJ (BS f f2 g)):=by
 sleep 15;refine zG ho ha hb hm J' s σ H Q I ?_;refine⟨ρ,Z,S,q.bind.bind.imp λp ρ1 _ k1 v H1 S1 r1=>⟨ρ1,S1.vw,(RX.rd S1 k1.bind).imp λp2 _ k2 w H2 s2 r2=>?_⟩⟩;split at k2
 .rename_i z ez
  refine⟨p,p2,z,(r1.same s2).o,r2,ez,λy H3 s3 r3=>?_⟩;obtain⟨bb,rfl⟩:=hg p p2 z ez;exact⟨bb,r3,k2 H3 @pF⟩
 .exact QS k2
theorem E8{op:WM}{g:PV->PV->Option PV}(ho:YH C.X @b5 @cH)(ha:XB C n a f)(hb:EO C b f2)(hm:TZ op b=Y1:=by first|exact wK _|with_unfolding_all rfl):XB C n @dH (BS f f2 g):=by
 sleep 15;refine zZ ho ha hb hm J' s σ H Q I ?_;refine⟨ρ,Z,S,q.bind.imp λp ρ1 _ k1 v H1 S1 r1=>⟨ρ1,S1.vw,(RX.rd S1 k1.bind).imp λp2 _ k2 w H2 s2 r2=>?_⟩⟩;split at k2
 .rename_i z ez
  exact⟨p,p2,z,(r1.same s2).o,r2,ez,λy H3 s3 r3=>k2 y H3 @pF r3⟩
 .exact QS k2
end
end PU
namespace PU
open PySem PySem.Spec PyProof.Rows L2
def FZ(i:Nat):Yb->XO Fb:=fun ρ=>match ρ[i]? with
|some (.tree t)=>if t.isObj=Y2 then .no else .ok (.ret @cV) ρ
|_=>.no
variable[TW]
theorem IY{C:Cn}(h:C.Ac=@bw:=by rfl):Thr C:=λ_ _ _ _ _ _ _ _ _ _ _ _ ac=>by simp_all
theorem FR {C:Cn} {n:Nat} (i:Nat) {x:Str} {np pos:SL} (hin:n<=i:=by decide) (hN:C.X.N[i]?=Z' x:=by rfl) (hv:Z3 C.X.env.scope x:=by first|exact .inl rfl|exact .inr (.inl rfl)|exact .inr (.inr rfl)) (hd:(x==("__debug__":Str))=Y1:=by decide) (hcd:(x==("__classdict__":Str))=Y1:=by decide):
  SB C n @pJ (FZ i):=by
 intro J' s σ H D I ⟨ρ,Z,⟨B,S,bk⟩,q⟩;unfold FZ at q;split at q
 .rename_i t e
  cases ho:t.isObj with
  |true=>rw[ho]at q;exact QS q
  |false=>
   rw[ho]at q;obtain⟨a,r,h1,h2,h3⟩:=S.Yy i t e;obtain⟨H2,I2,rp,Z1,kp,fz⟩:=I.ai2 @r6 ho;have q:∀v H,TB C.X.K Z H ρ->Rep C.X.K H @cV v->D.rt v H:=q;have zo:∀b o,Z.hp b=Z' o->b∉a::r:=λb o e z=>by rw[bk.off i a r h1 b z]at e;cases e
   have sz:Yc Z.hp H:=bk.same.trans S.same;refine wy @ax J' s σ H2 D I2 ⟨_,h2,q _ H2 ⟨⟨λb o e m=>?_,λb ps e=>?_⟩,λj a' r' t' ej et=>?_⟩ rp⟩
   .rw[Z1 b (zo b o e)]
    exact sz.at_ b o e m
   .obtain⟨p1,e1,k1⟩:=sz.tb b ps e
    exact⟨p1,by simp_all,λt=>(k1 t).kp kp⟩
   .have hj:j≠i:=λz=>by
     subst z;rw[bk.lim j hin]at ej;cases ej
    obtain⟨a1,r1,g1,_,g3⟩:=S.Yy j t' et;rw[bk.at_ j _ ej]at g1;cases g1;exact(g3.same S.same).off kp λc hc=>Z1 c (bk.apart j i a' r' a r (bk.at_ j _ ej) h1 hj c hc)
 .exact QS q
section
variable{P:R8}{w:RH}{K:QO}{mg:Str->Option Value}{base:Heap}{x y D m qual:Str}{st:Stmt}{N ps:List Str}{k:Nat}
def HsA(K:QO)(mg:Str->Option Value)(y x:Str)(st:Stmt):Prop:=∃f fd,Fun K x x st f fd/\mg y=Z' @x
def HasA(K:QO)(y x:Str)(st:Stmt):Prop:=∃(f:Addr)(oc kV dc pm cd ct:Value)(od an:Option Addr)(sl:Array @bz),RK K R5 y=Z' @bC/\
 K.lookup f=Z' @mU/\Se K cd x=Y2/\Rl K @x=Y2
omit [TW] in
theorem HasA.of{f:Addr}{oc kV dc pm cd ct:Value}{od an:Option Addr}{sl:Array @bz}(a:RK K R5 y=Z' @bC)
  (l:K.lookup f=Z' @mU) (c:Se K cd x=Y2) (k:Rl K @x=Y2):HasA K y x st:=@oc
omit [TW] in
theorem HasA.fn{h:Heap}(z:HasA K y x st)(X:K.In h)(G:h.Ns R5 mg):HsA K mg y x st:=by
 obtain⟨f,_,_,_,_,_,_,_,_,_,a,l,c,k⟩:=z;exact@oG
theorem Mn{g:Yb->R Fl}(h:HsA K mg y x st)(S:Ye N ps @A)
  (Y3:∀(f:Addr)(Y5:Value)(A:RV)(outer:List Uz)(s:QR)(H:Hp)(E:XK),Yg k @eH->SVs @eF @R g)
  (hb:∀(kV doc pm:Value)(an:Option Addr)(Y5 ct:Value)(us:List Value),us.length=ps.length->VI @iU ⟨us,[]⟩=pure @bX:=by
   intro _ _ _ _ _ _ us hl;repeat' (first|(exfalso;simp only[SY]at hl;omega)|(rcases us with _|⟨_,us⟩)|rfl)):
  PF P w K mg base (k+1) y @ju:=by
 obtain⟨f,fd,F,hm⟩:=h;refine⟨f,fd,ps,F.ok S @ca (λY5 A outer s H vs Q E hr h=>?_),hm,F.kp,F.binds hb,λqs p h=>?_⟩
 .obtain⟨hl,tb,qs,p,r,e,k⟩:=h
  refine⟨_,Y3 f Y5 A outer s H E hr,start N.length qs,@eV,mR tb r,?_⟩;unfold f9 at e;rw[if_pos @i]at e;cases hg:g (start N.length qs)with
  |ok fl=>
   rw[hg]at e;cases fl with
   |next ρ=>cases e;exact fun σ H' S'=>k .Yj H' S'.same rfl
   |ret q=>cases e;exact λv H' s' r'=>k v H' s' r'
   |brk ρ=>cases e
   |cont ρ=>cases e
  |er x=>simp_all
  |no=>simp_all
 grind[f9]
def HasM(K:QO)(D m qual:Str)(st:Stmt):Prop:=∃(C f:Addr)(fd:FuncData),RK K R5 D=Z' @U/\L2.Cls K C/\L2.Meth K C m f/\Fun K m qual st f fd
omit [TW] in
theorem HasM.of{C f:Addr}{oc kV dc pm cd ct:Value}{od an:Option Addr}{sl:Array @bz}(a:RK K R5 D=Z' @U)(c1:Sw K C Wy=Y2)(c2:TJ K C=Y2)(c3:Tv K C=Y2)
  (c4:Rn K @k "__setattr__"=Z' @eK) (m1:Rn K @k m=Z' @bC) (m2:Ut K @x=Y2) (k:Rl K @x=Y2)
  (l:K.lookup f=Z' ⟨oc,od,.func (Rr m qual @cw @R @A .none kV dc pm an cd ct),sl⟩) (c:Se K cd qual=Y2):HasM K D m qual st:=⟨C,f,_,a,@ke,⟨m1,m2,k⟩,uw l c k⟩
theorem u9{g:Yb->XO Fb}(h:HasM K D m qual st)(S:Ye N ps @A)
  (Y3:∀(f:Addr)(Y5:Value)(A:RV)(outer:List Uz)(s:QR)(H:Hp)(E:XK),Yg k @bK->SBs @ge 1 @R g)
  (hb:∀(kV doc pm:Value)(an:Option Addr)(Y5 ct:Value)(us:List Value),us.length=ps.length->VI @nh ⟨us,[]⟩=pure @bX:=by
   intro _ _ _ _ _ _ us hl;repeat' (first|(exfalso;simp only[SY]at hl;omega)|(rcases us with _|⟨_,us⟩)|rfl)):
  ag3 P w K mg base (k+1) D m @o8:=by
 obtain⟨C,f,fd,h1,cl,me,F⟩:=h;exact⟨C,f,h1,cl,me,Ga F S @lu (Y3 f)⟩
theorem JK{g:Yb->XO Fb}(h:HasM K D m qual st)(S:Ye N ps @A)
  (Y3:∀(f:Addr)(Y5:Value)(A:RV)(outer:List Uz)(s:QR)(H:Hp)(E:XK),Yg k @bK->SBs @ge ps.length @R g)
  (hb:∀(kV doc pm:Value)(an:Option Addr)(Y5 ct:Value)(us:List Value),us.length=ps.length->VI @nh ⟨us,[]⟩=pure @bX:=by
   intro _ _ _ _ _ _ us hl;repeat' (first|(exfalso;simp only[SY]at hl;omega)|(rcases us with _|⟨_,us⟩)|rfl)):
  ah3 P w K mg base (k+1) D m @o6:=by
 obtain⟨C,f,fd,h1,cl,me,F⟩:=h;exact Gu h1 cl me F S @lu (Y3 f)
def HasI (K:QO) (D qual x y z:Str) (st:Stmt):Prop:=∃(C f:Addr) (fd:FuncData),RK K R5 D=Z' @U/\L2.Mk K C f/\L2.Cls K C/\L2.Yv K C x/\L2.Yv K C y/\L2.Yv K C z/\Fun K "__init__" qual st f fd
omit [TW] in
theorem HasI.of{C f:Addr}{z:Str}{oc kV dc pm cd ct:Value}{od an:Option Addr}{sl:Array @bz}(a:RK K R5 D=Z' @U)(c1:Sw K C Wy=Y2)(c2:TJ K C=Y2)(c3:Tv K C=Y2)
  (c4:Rn K @k "__setattr__"=Z' @eK) (m0:Vv K C=Y2) (m1:Rn K @k "__init__"=Z' @bC) (m2:Ut K @x=Y2) (k:Rl K @k=Y2) (k2:Rl K @x=Y2)
  (n1:Rn K @k x=Z' Y') (n2:Rn K @k y=Z' Y') (n3:Rn K @k z=Z' Y')
  (l:K.lookup f=Z' ⟨oc,od,.func (Rr "__init__" qual @cw @R @A .none kV dc pm an cd ct),sl⟩) (c:Se K cd qual=Y2):HasI K D qual x y z st:=⟨C,f,_,a,⟨m0,m1,m2,k⟩,@ke,n1,n2,n3,uw l c k2⟩
theorem N0 {z:Str} {i:Int} {j:Nat} {p1 p2 p3 p4 q1 q2 q3 q4 r1 r2 r3 r4:SL} {h:Heap} (X:K.In h) (G:h.Ns R5 mg) (hh:HasI K D qual x y z st) (S:Ye ["self"] ["self"] @A)
  (Y3:aY st=[.Assign [.Attribute @jG x p2] (.Dict [] [] p3) p4,.Assign [.Attribute @jF y q2] (.Dict [] [] q3) q4,.Assign [.Attribute @jE z r2] @gQ r4])
  (hs1:∀env,SR (.Dict [] [] p3) @oL p4.line env=pure Y1:=by intro _;rfl) (hs2:∀env,SR (.Dict [] [] q3) @oM q4.line env=pure Y1:=by intro _;rfl) (hs3:∀env,SR @gQ @oN r4.line env=pure Y1:=by intro _;rfl)
  (hb:∀(kV doc pm:Value) (an:Option Addr) (Y5 ct:Value) (us:List Value),us.length=1->VI (Rr "__init__" qual @cw @R @A .none kV doc pm an Y5 ct) ⟨us,[]⟩=pure ((["self"]:List Str).zip us):=by
   intro _ _ _ _ _ _ us hl;repeat' (first|(exfalso;simp only[SY]at hl;omega)|(rcases us with _|⟨_,us⟩)|rfl)):ZO P w K mg base (k+1) D x y z i:=by
 obtain⟨C,f,fd,h1,mk,cl,n1,n2,n3,F⟩:=hh;exact Ka F S (F.binds (ps:=["self"]) hb) Y3 hs1 hs2 hs3 h1 (Sa X G h1) mk cl n1 n2 n3
omit [TW] in
theorem obf_of{C:Addr}(a:RK K R5 D=Z' @U)(c1:Sw K C Wy=Y2)(c2:TJ K C=Y2)(c3:Tv K C=Y2)
  (c4:Rn K @k "__setattr__"=Z' @eK) (n:Rn K @k x=Z' Y'):ObF K D x:=⟨C,a,@ke,n⟩
omit [TW] in
theorem has0_of{cls:Str}{C:Addr}{h:Heap}(X:K.In h)(G:h.Ns R5 mg)(a:RK K R5 cls=Z' @U)(k:Rl K @k=Y2)(e:KM K C Y'=Y2):∃C,ad9 K mg cls C:=⟨C,Sa X G a,a,k,e⟩
end
theorem pR{C:Cn}{n k:Nat}{cls:Str}{e:Expr}{f:Yb->R PV}{np Y0 pos:SL}(h:∃D,ad9 C.X.K C.X.mg cls D)(hT:Thr C)(hr:Yg k C.X.A)(he:EV C e f)
  (hg:Gl C.X cls:=by exact rfl) (hd:(cls==("__debug__":Str))=Y1:=by decide) (hst:QU [e] C.X.env=(Y1,Rj e C.X.env)::QU [] C.X.env:=by rfl):SB C n (.Raise (Z' (.Call @gR [e] [] Y0)) Y' pos) (qR cls f):=by
 grind[zh]
end PU
namespace PU
open PySem PySem.Spec PyProof.Rows L2
def GM:PX->Yb->XO Fb:=λ_ _=>.no
noncomputable def Ln(tab:Str->Option Bool)(j:Nat)(gh:Yb->XO Fb)(g:PX->Yb->XO Fb):PX->Yb->XO Fb:=λx ρ=>match tab x.cls with
|some Y2=>(match gh (ρ.set j (.exc x))with
  |.ok .next ρ'=>.ok .next (ρ'.set j .no)
  |_=>.no)
|some Y1=>g x ρ
|none=>.no
def HM(D m:Str)(i x:Nat)(fs:Yb->R @e)(F:Tr->List PV->Option ((PV ⊕ PX)×Tr))(g:PX->Yb->XO Fb):Yb->XO Fb:=fun ρ=>match ρ[i]? with
|some (.tree (.obj c ks ws))=>if c=D/\m∉ks then (XO.rd ρ @bF).bind λps ρ=>(match F @hB ps with
  |some (.inl p,t')=>.ok .next ((ρ.set i @l4).set x @cr)
  |some (.inr y,t')=>g y @jN
  |none=>.no)else .no
|_=>.no
def Tst(K:QO)(mg:Str->Option Value)(cls:Str)(tab:Str->Option Bool):Prop:=∃B,mg cls=Z' @a0/\∀c b,tab c=Z' b->∀C,RK K R5 c=Z' @U->UP K @k @a0=Z' b
noncomputable def Le(l:List @lK):Str->Option Bool:=λc=>l.lookup c
def Lv(K:QO)(B:Addr)(l:List @lK):Prop:=∀c b,l.lookup c=Z' b->∀C,RK K R5 c=Z' @U->UP K @k @a0=Z' b
section
variable{K:QO}{mg:Str->Option Value}{h:Heap}{B C:Addr}{c d:Str}{b:Bool}{l:List @lK}
theorem tl_nil:Lv K B []:=λc b e=>by cases e
theorem tl_cons(e1:RK K R5 c=Z' @U)(kt:UP K @k @a0=Z' b)(r:Lv K B l):Lv K B ((c,b)::l):=λc' b' e C' n=>by
 rw[List.lookup_cons]at e;cases hc:c'==c with
|true=>
  simp_all
|false=>
  rw[hc]at e;exact r c' b' e C' n
theorem tst_of(X:K.In h)(G:h.Ns R5 mg)(e0:RK K R5 d=Z' (Z' @a0))(r:Lv K B l):Tst K mg d (Le l):=⟨B,Sa X G e0,r⟩
end
variable[TW]
section
variable{X:Cx}{J':List @c}{σ:L2.St}{H:Hp}{s:QR}{a T D B:Addr}{dx:Option Addr}{E:Value->QR->Prop}{Q:Flow->QR->Prop}{cls:Str}{np ph:SL}{b₀:Stmt}{suite:List Stmt}{rest:List ExceptHandler}
theorem AL {nm:Option Str} {body:List Stmt} (I:L2.Inv X J' σ H s) (fl:mO s.heap a T .none @aY dx) (hg:Gl X cls) (hm:X.mg cls=Z' @a0) (hx:UP X.K @aY @a0=Z' Y1) (hd:(cls==("__debug__":Str))=Y1)
  (h:QZ @o X.A (X5 @m X.env rest) Q E s):QZ @o X.A (X5 @m X.env (.ExceptHandler @mk nm body ph::rest)) Q E s:=by
 refine wpAny_handleBy_cons (codeAny_handlers_test (lI (X:=cxH X a) (rK I) hg hm ?_ hd)) (by intro q;cases q);obtain⟨oe,vs,oT,ts,q1,q1',q1'',q2,q3,q4,q5,q6,q7⟩:=id fl
 have LT:PySem.W.Looks @o s.heap (typeOf @m) @aY:=by
  rw[<-q1'];exact(Wb q1).andThen .now
 exact(Xf I.Z6 LT hx).here h
end
def HB(C:Cn)(n:Nat)(hs:List ExceptHandler)(g:PX->Yb->XO Fb):Prop:=∀(J':List @c)(σ:L2.St)(H:Hp)(s:QR)(a T D:Addr)(dx:Option Addr)(D':Ends)(ρ:Yb)(Z:Zs)(y:PX),L2.Inv C.X J' σ H s->mO s.heap a T .none @aY dx->Apart C.X H [a,T]->(∀b∈[a,T],∀p∈C.X.pn++J',p.1≠b)->
 YC C.X.K n Z H σ ρ->ExP C.X.K H D dx y->RX C Z (g y ρ) (Ie C n Z D')->QZ @an C.X.A (X5 @m C.X.env hs) @tq C.X.xe s
section
variable{C:Cn}{n:Nat}{cls nm:Str}{np ph:SL}{b₀:Stmt}{suite:List Stmt}{rest:List ExceptHandler}{tab:Str->Option Bool}{gh:Yb->XO Fb}{g:PX->Yb->XO Fb}
theorem Ke:HB C n [] GM:=λ_ _ _ _ _ _ _ _ _ _ _ _ _ _ _ _ _ _ q=>QS q
theorem N3 (j:Nat) (hN:C.X.N.Nodup) (ct:Tst C.X.K C.X.mg cls tab) (hsu:∀a,SBs ⟨cxH C.X a,λ_ _=>False⟩ n (b₀::suite) gh) (hr:HB C n rest g) (hdc:(cls==("__debug__":Str))=Y1:=by decide) (hgc:Gl C.X cls:=by exact rfl)
  (hj:C.X.N[j]?=Z' nm:=by rfl) (hjl:C.X.env.scope.names.lookup nm=Z' .local:=by rfl):HB C n (.ExceptHandler @mk (Z' nm) (b₀::suite) ph::rest) (Ln tab j gh g):=by
 intro J' σ H s a T D dx D' ρ Z y I fl ap npn S exp q;obtain⟨B,hB,hcat⟩:=ct;unfold Ln at q;split at q
 .rename_i e
  split at q
  .rename_i ρ' hgh
   refine GN (W:=fun σ' H2=>YC C.X.K n Z H2 σ' ρ') hN I fl ap npn hgc hB @qu hdc hj hjl (λs4 I4=>?_) fun σ' H2 s4 I4 w=>⟨_,H2,I4,q _ _ (w.ae0 (l:=.no) trivial)⟩;refine hsu a J' s4 _ _ _ I4 ⟨ρ.set j (.exc y),Z,(S.grow @oZ).ae0 (l:=.exc y) ⟨a,D,dx,rfl,aq,exp.kp (Yc.kp @oZ)⟩,?_⟩;rw[hgh];exact fun σ' H2 w=>w
  .exact QS q
 .rename_i e
  exact AL I fl hgc hB @qu hdc (hr J' σ H s a T D dx D' ρ Z y I fl ap npn S exp q)
 .exact QS q
end
theorem FQ{C:Cn}{n k:Nat}(i x:Nat){y o m D:Str}{e:Expr}{es:List Expr}{px po pm pc pa pos:SL}{h₀:ExceptHandler}{hs₀:List ExceptHandler}{fs:Yb->R @e}{F:Tr->List PV->Option ((PV ⊕ PX)×Tr)}{g:PX->Yb->XO Fb}{pl:Sem Bool}
  (G:ag3 C.X.prog C.X.w C.X.K C.X.mg C.X.base k D m F) {kr:Nat} (hr:Yg kr C.X.A) (hN:C.X.N.Nodup) (ha:EA C (e::es) fs) (hh:HB C n (h₀::hs₀) g)
  (own:Own C.X:=by exact⟨rfl,rfl,rfl⟩) (hxe:C.X.xe=@bw:=by rfl) (he:QU (e::es) C.X.env=(Y1,Rj e C.X.env)::QU es C.X.env:=by exact bq rfl) (hpl:(SN pc @dP).any @d=Y1:=by exact fK rfl) (hk:k<=kr:=by decide)
  (hs:SR (.Call @ji (e::es) [] pc) (Z' (.Name y px)) pa.line C.X.env=pure Y1:=by rfl) (hi':C.X.N[x]?=Z' y:=by rfl) (hx:Loc C.X.env.scope y:=by first|exact .inl rfl|exact .inr rfl) (hf':C.X.fn y=Y2\/C.X.env.scope.names.lookup y=Z' .local:=by first|exact .inl rfl|exact .inr rfl|assumption) (hNo:C.X.N[i]?=Z' o:=by rfl) (hv:Z3 C.X.env.scope o:=by first|exact .inl rfl|exact .inr (.inl rfl)|exact .inr (.inr rfl)) (hd:(o==("__debug__":Str))=Y1:=by decide) (hcd:(o==("__classdict__":Str))=Y1:=by decide)
  (ht:Rj (.Call @ji (e::es) [] pc) C.X.env=(do
   let ov<- Rj (.Name o po) C.X.env
   US pm.atName
   let (f,first)<- V2 [ov] (Um ov m pl)
   VH pc f first (SN pc (QU (e::es) C.X.env)) (TH pc (SS [] C.X.env))):=by rfl):
  SB C n (.Try [.Assign [.Name y px] (.Call @ji (e::es) [] pc) pa] (h₀::hs₀) [] [] pos) (HM D m i x fs F g):=by
 replace hr:=hr.mono hk;intro J' s σ H D' I ⟨ρ,Z,S,q⟩;obtain⟨C0,f,hc0,cl,me,⟨fd,ps,fo,kp0,bd,l⟩⟩:=G.ex;unfold HM at q;split at q
 .rename_i c ks ws e0
  split at q
  .rename_i hD
   obtain⟨hD,hm⟩:=hD;have et:mS @ee ρ=Z' @hB:=by simp only[mS,e0]
   obtain⟨ad0,r0,h1,h2,_⟩:=S.sel et;have h1':σ[i]?=Z' (Z' (.ref ad0)):=h1;obtain⟨nd,C',dx0,r',vs,hc,er,hi,ho,ek,hf⟩:=id h2;subst hD ek er;rw[hc0]at hc;obtain rfl:C0=C':=by simp_all
   refine wpAny_Try_except (WW (wpAny_Assign_Name ?_ hs))
   refine Yl (JN (pl:=pl) (X:=C.X.Z2 (λe' s₁=>QZ @an C.X.A (VG e' C.X.env) (λ_ s₂=>QZ @an C.X.A (WX e' Y') (λ_ s₃=>QZ @an C.X.A (X5 e' C.X.env (h₀::hs₀)) @tq C.X.xe s₃) C.X.xe s₂) C.X.xe s₁)) (J':=J') (σ:=σ) (E:=λcV dx H'=>∃y B' ρ1,cV=.ref B'/\YC C.X.K n Z H' σ ρ1/\ExP C.X.K H' B' dx y/\RX C Z (g y ρ1) (Ie C n Z D'))
    (Q:=λv H'=>∃ρ1 p,YC C.X.K n Z H' σ ρ1/\Rep C.X.K H' p v/\Ie C n Z D' .next (ρ1.set x @cr)) (ta:=J1 i) (bR hNo hv hd hcd) cl me fo hr bd (λH1 s1 e' s' I1 hq=>?_) (PA.re ha hxe) he hpl ht (I.Z2 _) ?_) λu s1 ⟨v,H1,I1,r1,ρ1,p,S1,rp,hend⟩=>?_
   .obtain⟨H',ad,T,B0,dx,rfl,fl,os,bare,un,hok,apt,y,B',ρ1,eB,S1,exp,hend⟩:=hq
    cases eB;have J:L2.Inv C.X J' σ H' s':=I1.YD.ag2 (ch:=[]) os un hok bare @jz
    have ap:Apart C.X H' [ad,T]:=λb hb=>by
     obtain⟨z1,z2⟩:=apt b hb;obtain⟨y1,y2,y3,_⟩:=iU I1.YD z1
     grind
    have npn:∀b∈[ad,T],∀p∈C.X.pn++J',p.1≠b:=λb hb p hp zz=>by
     have:=(I1.pin p hp).1;exact Ru _ (QX (QY (zz▸this)) (apt b hb).1)
    exact Qj own J fl ap npn λs3 T' J3 fl3 ap3 np3=>hh J' σ H' s3 ad T' B0 dx D' ρ1 Z y J3 fl3 ap3 np3 S1 exp hend
   .refine⟨_,h1',ad0,dx0,vs,rfl,hi,kG vs hm,ρ,S.vw,(RX.rd S q.bind).imp λqs _ q1 us H1 s1 r1=>?_⟩
    obtain⟨r2,_,h2',h3⟩:=eY S et s1 h1;rw[Rh];cases hF:F @ph qs with
    |none=>rw[hF]at q1;exact QS q1
    |some zz=>
     obtain⟨z,t'⟩:=zz;rw[hF]at q1;refine⟨by rw[QV,<-r1.length];grind,s1.tabs S.vw.tb,ad0,r2,us,_,qs,z,t',rfl,h2',r1,hF,λp ep v H' s' ht' rp=>?_,λy ey H' B' dx s' ht' exp=>?_⟩
     .subst ep
      exact⟨_,p,h3 H' t' _ rfl s' ht',rp,q1⟩
     .subst ey
      exact⟨y,B',_,rfl,h3 H' t' _ rfl s' ht',exp,q1⟩
   .exact mQ I1.YD hN hi' hx r1 (λs2 I3=>U1 (U1 ⟨_,H1,I3,hend _ _ (S1.ae0 (l:=.val p) @sU)⟩)) hf'
  .exact QS q
 .exact QS q
end PU
namespace PU
open PySem PySem.Spec PyProof.Rows L2
abbrev G2:=Tr->Tr->List PV->Option @lp
def duo(ρ:Yb)(p:PV):Option @lp:=match HQ 0 ρ,HQ 1 ρ with
|some t,Z' u=>Z' (p,t,u)
|_,_=>Y'
def zq(m n:Nat)(g:Yb->XO Fb):G2:=λt u qs=>if qs.length+2=m then (match g (lU n (.tree t::.tree u::qs.map Sl.val))with
|.ok (.ret p) ρ=>duo ρ p
|.ok .next ρ=>duo ρ .Yj
|_=>Y')else Y'
def Bt(i j:Nat)(fs:Yb->R @e)(F:G2):Yb->XO PV:=fun ρ=>match ρ[i]?,ρ[j]? with
|some (.tree t),Z' (.tree u)=>if i≠j then (XO.rd ρ @bF).bind λps ρ=>(match F t u ps with
  |none=>.no
  |some (p,t',u')=>.ok p @gg)else .no
|_,_=>.no
variable[TW]
def Pm(K:QO)(n:Nat)(F:G2):Sp:=λvs H Q _=>vs.length=n/\sC H/\∃a r b q xs t u ps p t' u',vs=.ref a::.ref b::xs/\aA K H a r t/\aA K H b q u/\(∀c∈a::r,c∉b::q)/\aV K H ps xs/\F t u ps=Z' (p,t',u')/\
 ∀v H',Yc (Yz H ((a::r)++(b::q))) H'->aA K H' a r t'->aA K H' b q u'->Rep K H' p v->Q v H'
structure PFD(P:R8)(w:RH)(K:QO)(mg:Str->Option Value)(base:Heap)(k:Nat)(x:Str)(F:G2):Prop where
 ex:∃(f:Addr)(fd:FuncData)(ps:List Str),YO P w K mg base CX0 k f fd ps (Pm K ps.length F)/\mg x=Z' @x/\Rl K @x=Y2/\Binds K fd ps []/\∀t u qs z,F t u qs=Z' z->qs.length+2=ps.length
theorem vU{C:Cn}{n:Nat}{es:List Expr}{fs:Yb->R @e}{x o y:Str}{k:Nat}{p pos np yp:SL}(i j:Nat){F:G2}(G:PFD C.X.prog C.X.w C.X.K C.X.mg C.X.base k x F){kr:Nat}(hr:Yg kr C.X.A)(ha:EA C es fs)
  (hdb:(x==("__debug__":Str))=Y1:=by decide) (hN:C.X.N[i]?=Z' o:=by rfl) (hv:Z3 C.X.env.scope o:=by first|exact .inl rfl|exact .inr (.inl rfl)|exact .inr (.inr rfl)) (hd:(o==("__debug__":Str))=Y1:=by decide) (hcd:(o==("__classdict__":Str))=Y1:=by decide)
  (hN':C.X.N[j]?=Z' y:=by rfl) (hv':Z3 C.X.env.scope y:=by first|exact .inl rfl|exact .inr (.inl rfl)|exact .inr (.inr rfl)) (hd':(y==("__debug__":Str))=Y1:=by decide) (ac4:(y==("__classdict__":Str))=Y1:=by decide)
  (s1:QU (.Name o np::.Name y yp::es) C.X.env=(Y1,Rj @hT C.X.env)::QU (.Name y yp::es) C.X.env:=by exact bq rfl) (s2:QU (.Name y yp::es) C.X.env=(Y1,Rj @lx C.X.env)::QU es C.X.env:=by exact bq rfl)
  (hpl:(SN pos (QU (.Name y yp::es) C.X.env)).any @d=Y1:=by exact fK rfl) (hk:k<=kr:=by decide) (hg:Gl C.X x:=by exact rfl):
  XB C n (.Call @bl (.Name o np::.Name y yp::es) [] pos) (Bt i j fs F):=by
 replace hr:=hr.mono hk;obtain⟨f,fd,ps,a0,b0,c0,d0,l⟩:=G.ex;sleep 14;unfold Bt at q;split at q
 .rename_i t u ei ej
  split at q
  .rename_i hij
   obtain⟨a,r,b,q0,ea,eb,_⟩:=S.aa5 ei ej hij;refine o3 (Zd:=[]) (ds:=[]) (E:=E0) a0 hr hg b0 c0 d0 .nil y9 (bh @ax (bh @jT ha s2) s1) hdb s1 hpl J' st σ H Q I ⟨.ref a,ea,.ref b,eb,ρ,S.vw,(RX.rd S q.bind).imp λqs _ q1 vs H1 g1 r1=>?_⟩;obtain⟨a',r',b',q',ea',eb',ta,tb,ZN,sw⟩:=(S.grow g1).aa5 ei ej hij;rw[ea]at ea';rw[eb]at eb';cases ea';cases eb';split at q1
   .exact QS q1
   .rename_i p t' u' ef
    rw[Rh];exact⟨by rw[QV,QV,<-r1.length];exact l t u qs _ ef,g1.tabs S.vw.tb,a,r',b,q',vs,t,u,qs,p,t',u',rfl,ta,tb,ZN,r1,ef,λv H' s' h1 h2 rp=>q1 v H' (sw H' t' u' s' h1 h2) rp⟩
  .exact QS q
 .exact QS q
section
variable{P:R8}{w:RH}{K:QO}{mg:Str->Option Value}{base:Heap}{x:Str}{st:Stmt}{N ps:List Str}{k:Nat}{g:Yb->XO Fb}
theorem Jn(h:HsB K mg x st ps)(S:Ye N ps @A)
  (Y3:∀(f:Addr)(Y5:Value)(A:RV)(outer:List Uz)(s:QR)(H:Hp)(E:XK),Yg k @eH->SBs @eF 2 @R g):
  PFD P w K mg base (k+1) x (zq ps.length N.length g):=by
 obtain⟨f,fd,F,hm,hb⟩:=h;refine⟨f,fd,ps,F.ok S @ca (λY5 A outer s H vs Q E hr h=>?_),hm,F.kp,hb,λt u qs z h=>?_⟩
 .obtain⟨hl,tb,a,r,b,q,xs,t,u,qs,p,t',u',ev,ht,hu,ZN,rp,e,k1⟩:=h
  subst ev
  let at_:Nat->Option @he:=λi=>if i=0 then Z' (a,r)else if i=1 then Z' (b,q)else Y'
  have z0:∀{i c s},at_ i=Z' (c,s)->(i=0/\a=c/\r=s)\/(i=1/\b=c/\q=s):=λ{i c s} h=>by
   have h:(if i=0 then Z' (a,r)else if i=1 then Z' (b,q)else Y')=Z' (c,s):=h;split at h
   .cases h;exact .inl ⟨by assumption,rfl,rfl⟩
   .split at h
    .cases h;exact .inr ⟨by assumption,rfl,rfl⟩
    .cases h
  have S0:YC K 2 ⟨Yz H ((a::r)++(b::q)),H,at_⟩ H (L2.start N (.ref a::.ref b::xs)) (lU N.length (.tree t::.tree u::qs.map Sl.val)):=by
   refine sQ tb (by simp[rp.length]) (λi l e=>?_) (λi hi=>?_) (λi c s h d hd=>?_) (λi i' c s c' s' h h' hn=>?_)
   .match i with
    | 0=>cases e;exact .inr ⟨t,a,r,rfl,rfl,rfl,ht⟩
    | 1=>cases e;exact .inr ⟨u,b,q,rfl,rfl,rfl,hu⟩
    |i+2=>
     rw[Rf,Rf,RC]at e;obtain⟨p,hp,rfl⟩:=RJ.mp e;obtain⟨v,hv,rv⟩:=rp.get hp;exact .inl ⟨p,v,rfl,hv,rv⟩
   .show (if i=0 then _ else if i=1 then _ else Y')=Y'
    rw[if_neg @b,if_neg @b]
   .rcases z0 h with⟨_,rfl,rfl⟩|⟨_,rfl,rfl⟩
    .obtain⟨w',e',_⟩:=ht.obj d hd
     exact⟨SD _ hd,by rw[e'];exact λz=>by cases z⟩
    .obtain⟨w',e',_⟩:=hu.obj d hd
     exact⟨RN _ hd,by rw[e'];exact λz=>by cases z⟩
   .rcases z0 h with⟨rfl,rfl,rfl⟩|⟨rfl,rfl,rfl⟩<;>rcases z0 h' with⟨rfl,rfl,rfl⟩|⟨rfl,rfl,rfl⟩
    .exact absurd rfl hn
    .exact ZN
    .exact λd hd z=>ZN d z hd
    .exact absurd rfl hn
  refine⟨_,Y3 f Y5 A outer s H E hr,_,_,S0,?_⟩
  have fin:∀{ρ:Yb}{H':Hp}{y:PV},duo ρ y=Z' (p,t',u')->TB K ⟨Yz H ((a::r)++(b::q)),H,at_⟩ H' ρ->y=p/\Yc (Yz H ((a::r)++(b::q))) H'/\aA K H' a r t'/\aA K H' b q u':=λ{ρ H' y} h0 tb'=>by
   unfold duo at h0;split at h0
   .rename_i t1 u1 e1 e2
    cases h0;exact⟨rfl,tb'.1,tb'.2 0 a r _ rfl (qH e1),tb'.2 1 b q _ rfl (qH e2)⟩
   .cases h0
  unfold zq at e;split at e
  .split at e
   .rename_i y ρ hg
    rw[hg]
    exact λv H' tb' rv=>by
     obtain⟨rfl,h1,h2,h3⟩:=fin e tb';exact k1 v H' h1 h2 h3 rv
   .rename_i ρ hg
    rw[hg]
    exact fun σ' H' S'=>by
     obtain⟨rfl,h1,h2,h3⟩:=fin e S'.tb;exact k1 _ H' h1 h2 h3 rfl
   .cases e
  .cases e
 .unfold zq at h
  split at h
  .rename_i hl;exact hl
  .cases h
end
end PU
namespace PU
open PySem PySem.Spec PyProof.Rows L2
def yg(D m:Str)(s:Sel)(fs:Yb->R @e)(F:Tr->List PV->Option ((PV ⊕ PX)×Tr)):Yb->XO PV:=fun ρ=>match mS s ρ with
|some (.obj c ks ws)=>if c=D/\m∉ks then mx s fs F ρ else .no
|_=>.no
def xw(i j k:Nat)(fs:Yb->R @e)(F:G2):Yb->XO PV:=fun ρ=>match ρ[i]?,ρ[j]?,ρ[k]? with
|some (.tree T),Z' (.tree U),Z' (.val (.int m))=>match pe m T,pe m U with
  |some t,Z' u=>if i≠j then (XO.rd ρ @bF).bind λps ρ=>(match F t u ps with
   |none=>.no
   |some (p,t',u')=>match qE m t' T,qE m u' U with
    |some T',Z' U'=>.ok p @nN
    |_,_=>.no)else .no
  |_,_=>.no
|_,_,_=>.no
def Az(i k:Nat)(ρ:Yb):R PV:=match ρ[i]?,ρ[k]? with
|some (.tree T),Z' (.val (.int m))=>match pe m T with
  |some (.leaf p)=>.ok p
  |_=>.no
|_,_=>.no
def IW(f g:Yb->R Tr):Yb->R Tr:=fun ρ=>f ρ>>=λt=>g ρ>>=λu=>.ok (.two t u)
variable[TW]
theorem aA.nd{K:QO}{H:Hp}{a:Addr}{r:List Addr}{t:Tr}(h:aA K H a r t):(a::r).Nodup:=by
 cases t with
|leaf p=>rw[h.1];simp
|node ks fs=>exact h.1
|obj c ks fs=>exact h.1
|two t u=>exact h.1
section
variable{C:Cn}{n:Nat}
theorem nZ (i k:Nat) {x y:Str} {np yp pos:SL} (hN:C.X.N[i]?=Z' x:=by rfl) (hv:Z3 C.X.env.scope x:=by first|exact .inl rfl|exact .inr (.inl rfl)|exact .inr (.inr rfl)) (hd:(x==("__debug__":Str))=Y1:=by decide) (hcd:(x==("__classdict__":Str))=Y1:=by decide)
  (hN':C.X.N[k]?=Z' y:=by rfl) (hv':Z3 C.X.env.scope y:=by first|exact .inl rfl|exact .inr (.inl rfl)|exact .inr (.inr rfl)) (hd':(y==("__debug__":Str))=Y1:=by decide) (ac4:(y==("__classdict__":Str))=Y1:=by decide):
  PE C.X @oa @qr:=λJ' s σ H Q I ⟨a,⟨a0,xs,m,h1,h2,h3,h4⟩,q⟩=>
 Jt Ax @ax @jT @dS J' s σ H Q I ⟨_,h1,_,h3,a0,xs,m,.ref a,rfl,rfl,.inl (.inl h2),h4,q⟩
theorem F3 (i k:Nat) {x y:Str} {np yp pos:SL} (hN:C.X.N[i]?=Z' x:=by rfl) (hv:Z3 C.X.env.scope x:=by first|exact .inl rfl|exact .inr (.inl rfl)|exact .inr (.inr rfl)) (hd:(x==("__debug__":Str))=Y1:=by decide) (hcd:(x==("__classdict__":Str))=Y1:=by decide)
  (hN':C.X.N[k]?=Z' y:=by rfl) (hv':Z3 C.X.env.scope y:=by first|exact .inl rfl|exact .inr (.inl rfl)|exact .inr (.inr rfl)) (hd':(y==("__debug__":Str))=Y1:=by decide) (ac4:(y==("__classdict__":Str))=Y1:=by decide):
  EO C @oa (Az i k):=by
 sleep 1;unfold Az at q;split at q
 .rename_i T m e0 e1
  split at q
  .rename_i p es
   obtain⟨a,r,ea,ht⟩:=vw i _ e0;obtain⟨v,ev,rv⟩:=vw k _ e1;cases (show v=.int m from rv);obtain⟨b,q',xs,ha,hx,_,_,hb,_⟩:=ht.sub es;exact nZ i k hN hv hd hcd hN' hv' hd' ac4 J' s σ H Q I ⟨b,⟨a,xs,m,ea,ha,ev,hx⟩,q _ H @p hb.2.o⟩
  .exact QS q
 .exact QS q
theorem B6{e e':Expr}{f g:Yb->R Tr}{pos:SL}(he:ENT C e f)(he':ENT C e' g)(s1:QU [e,e'] C.X.env=(Y1,Rj e C.X.env)::QU [e'] C.X.env:=by exact bq rfl)(s2:QU [e'] C.X.env=(Y1,Rj e' C.X.env)::QU [] C.X.env:=by exact bq rfl):ENT C (.List [e,e'] pos) (IW f g):=by
 sleep 1;refine Er (bh he (bh he' dZ s2) s1) J' s σ H Q I ⟨ρ,vw,q.bind.imp λt _ q1 a r H1 g1 fr1 h1=>⟨ρ,vw.same g1,(q1.bind.same g1).imp λu _ q2 b l H2 g2 fr2 h2=>⟨by rw[Rt];simp,λp hp=>?_⟩⟩⟩
 have al:∀c∈a::r,H1 c≠Y':=λc hc z=>by
  obtain⟨w,e,_⟩:=h1.obj c hc;rw[z]at e;cases e
 have h1':=h1.same g2
 have n1:∀c∈a::r,c≠p:=λc hc z=>by
  obtain⟨w,e,_⟩:=h1'.obj c hc;rw[z,hp]at e;cases e
 have n2:∀c∈b::l,c≠p:=λc hc z=>by
  obtain⟨w,e,_⟩:=h2.obj c hc;rw[z,hp]at e;cases e
 have kp:Kp H2 (upd H2 p (.lst [.ref a,.ref b])):=λc w e f=>by
  rw[ai λz=>by rw[z,hp]at e;cases e];exact e
 refine q2 p ((a::r)++(b::l)) _ ((g1.trans g2).trans @fm) (λc hc=>?_) ⟨RT.mpr ⟨λz=>?_,TQ.mpr ⟨h1.nd,h2.nd,λc hc d hd z=>?_⟩⟩,a,r,b,l,rfl,aq,h1'.off kp λc hc=>ai (n1 c hc),h2.off kp λc hc=>ai (n2 c hc)⟩
 .rcases R7.mp hc with z|z
  .rw[z]
   exact g1.free (g2.free hp)
  .rcases Ra.mp z with z|z
   .exact fr1 c z
   .exact g1.free (fr2 c z)
 .rcases Ra.mp z with z|z
  .exact n1 p z rfl
  .exact n2 p z rfl
 .subst z
  exact al c hc (fr2 c hd)
theorem C5{s:Sel}{oe e:Expr}{es:List Expr}{fs:Yb->R @e}{D m:Str}{k:Nat}{Y4 pos:SL}{F:Tr->List PV->Option ((PV ⊕ PX)×Tr)}(G:ag3 C.X.prog C.X.w C.X.K C.X.mg C.X.base k D m F){kr:Nat}(hr:Yg kr C.X.A)(hT:Thr C)(h0:PE C.X oe @fo)(ha:EA C (e::es) fs){pl:Sem Bool}
  (he:QU (e::es) C.X.env=(Y1,Rj e C.X.env)::QU es C.X.env:=by exact bq rfl) (hpl:(SN pos @dP).any @d=Y1:=by exact fK rfl) (hk:k<=kr:=by decide)
  (ht:Rj (.Call @qM (e::es) [] pos) C.X.env=(do
   let ov<- Rj oe C.X.env
   US Y4.atName
   let (f,first)<- V2 [ov] (Um ov m pl)
   VH pos f first (SN pos (QU (e::es) C.X.env)) (TH pos (SS [] C.X.env))):=by rfl):
  XB C n (.Call @qM (e::es) [] pos) (yg D m s fs F):=by
 replace hr:=hr.mono hk;obtain⟨C0,f,hc0,cl,me,⟨fd,ps,a,b,d,l⟩⟩:=G.ex;sleep 14;unfold yg at q;split at q
 .rename_i c ks ws et
  split at q
  .rename_i hD
   obtain⟨hD,hm⟩:=hD;unfold mx at q;rw[et]at q;obtain⟨ad,r,h1,h2,_⟩:=S.sel et;obtain⟨nd,C',dx,r',vs,hc,er,hi,ho,ek,hf⟩:=id h2;subst hD ek er;rw[hc0]at hc;obtain rfl:C0=C':=by simp_all
   refine vk (pl:=pl) (CX:=CXr C.X.prog C.X.w) (Zd:=[]) (ds:=[]) (E:=λcV dx H'=>∃y B',cV=.ref B'/\ExP C.X.K H' B' dx y/\C.Ac y H') h0 cl me a hr d .nil (λJ' σ H s v s' I1 hq=>A1 hT I1 hq) ha he hpl ht J' st σ H Q I ⟨ad,h1,ad,dx,vs,rfl,hi,kG vs hm,ρ,S.vw,(RX.rd S q.bind).imp λqs _ q1 us H1 s1 r1=>?_⟩;obtain⟨r2,_,h2',h3⟩:=eY S et s1 h1;rw[Rh];split at q1
   .exact QS q1
   .rename_i p t' ef
    split at q1
    .rename_i ρ' ep
     exact⟨by rw[QV,<-r1.length];grind,s1.tabs S.vw.tb,ad,r2,us,_,qs,.inl p,t',rfl,h2',r1,ef,λp' e' v H' s' ht rp=>by
      cases e';exact q1 v H' @jI rp,λy e'=>by cases e'⟩
    .exact QS q1
   .rename_i y t' ef
    split at q1
    .rename_i ρ' ep
     exact⟨by rw[QV,<-r1.length];grind,s1.tabs S.vw.tb,ad,r2,us,_,qs,.inr y,t',rfl,h2',r1,ef,λp' e'=>(by cases e'),λy' e' H' B' dx' s' ht exp=>by
      cases e';exact@ni⟩
    .exact QS q1
  .exact QS q
 .exact QS q
theorem Yc.ai4{H:Hp}{l l':List Addr}(h:∀c∈l,c∈l'):Yc (Yz H l') (Yz H l):=.of λb o e=>by
 grind[eJ,b6]
theorem YC.ag4{K:QO}{Z:Zs}{H:Hp}{σ:L2.St}{ρ:Yb}{i j k:Nat}{T U t u:Tr}{m:Int}(S:YC K n Z H σ ρ)(ei:ρ[i]?=Z' (.tree T))(ej:ρ[j]?=Z' (.tree U))(ek:ρ[k]?=Z' (.val (.int m)))(hij:i≠j)(e1:pe m T=Z' t)(e2:pe m U=Z' u):
  ∃a r b q,Ic K H σ (.ZU i k) a/\Ic K H σ (.ZU j k) b/\aA K H a r t/\aA K H b q u/\(∀c∈a::r,c∉b::q)/\
   ∀(H':Hp)(t' u' T' U':Tr),qE m t' T=Z' T'->qE m u' U=Z' U'->Yc (Yz H ((a::r)++(b::q))) H'->aA K H' a r t'->aA K H' b q u'->YC K n Z H' σ @nN:=by
 obtain⟨a0,r0,b0,q0,s1,s2,h1,h2,ZN,sw⟩:=S.aa5 ei ej hij;obtain⟨a,r,xs,ha,hx,sub1,na,ht,up1⟩:=h1.sub e1;obtain⟨b,q,ys,hb,hy,ag4,nb,hu,up2⟩:=h2.sub e2;obtain⟨v,ev,rv⟩:=S.vw k _ ek;cases (show v=.int m from rv);have c1:∀c∈a::r,c∈a0::r0:=λc hc=>R6 _ (sub1 c hc);have c2:∀c∈b::q,c∈b0::q0:=λc hc=>R6 _ (ag4 c hc);refine⟨a,r,b,q,⟨a0,xs,m,s1,ha,ev,hx⟩,⟨b0,ys,m,s2,hb,ev,hy⟩,ht,hu,λc hc z=>ZN c (c1 c hc) (c2 c z),λH' t' u' T' U' p1 p2 hs h1' h2'=>?_⟩
 have st:∀c,c∉a::r->c∉b::q->∀w,H c=Z' w->su w=Y1->H' c=H c:=λc n1 n2 w e f=>by
  rw[e];exact hs.at_ c w (by rw[b6 λz=>(Ra.mp z).elim n1 n2];exact e) f
 have kp:Kp H H':=λc w e f=>by
  have no:∀w',H c=Z' w'->rG w'=Y1->False:=λw' e' f'=>by
   rw[e]at e';cases e';rw[f]at f';cases f'
  rw[st c (λz=>by obtain⟨w',e',f',_⟩:=ht.obj c z;exact no w' e' f') (λz=>by obtain⟨w',e',f',_⟩:=hu.obj c z;exact no w' e' f') w e (by cases w<;>first|rfl|cases f)]
  exact e
 refine sw H' T' U' ((Yc.ai4 λc hc=>?_).trans hs) (up1 H' t' T' p1 kp (λc hc n1=>?_) h1') (up2 H' u' U' p2 kp (λc hc n2=>?_) h2')
 .rcases Ra.mp hc with z|z
  .exact SD _ (c1 c z)
  .exact RN _ (c2 c z)
 .obtain⟨w,e,_,f⟩:=h1.obj c hc
  exact st c n1 (λz=>ZN c hc (c2 c z)) w e f
 .obtain⟨w,e,_,f⟩:=h2.obj c hc
  exact st c (λz=>ZN c (c1 c z) hc) n2 w e f
theorem yO{es:List Expr}{fs:Yb->R @e}{x:Str}{o1 o2:Expr}{kk:Nat}{p pos:SL}(i j k:Nat){F:G2}(G:PFD C.X.prog C.X.w C.X.K C.X.mg C.X.base kk x F){kr:Nat}(hr:Yg kr C.X.A)(h1:PE C.X o1 @qr)(h2:PE C.X o2 (z6 C.X.K (.ZU j k)))(ha:EA C es fs)
  (hdb:(x==("__debug__":Str))=Y1:=by decide)
  (s1:QU (o1::o2::es) C.X.env=(Y1,Rj o1 C.X.env)::QU (o2::es) C.X.env:=by exact bq rfl) (s2:QU (o2::es) C.X.env=(Y1,Rj o2 C.X.env)::QU es C.X.env:=by exact bq rfl)
  (hpl:(SN pos (QU (o2::es) C.X.env)).any @d=Y1:=by exact fK rfl) (hk:kk<=kr:=by decide) (hg:Gl C.X x:=by exact rfl):
  XB C n (.Call @bl (o1::o2::es) [] pos) (xw i j k fs F):=by
 replace hr:=hr.mono hk;obtain⟨f,fd,ps,a0,b0,c0,d0,l⟩:=G.ex;sleep 14;unfold xw at q;split at q
 .rename_i T U m ei ej ek
  split at q
  .rename_i t u et eu
   split at q
   .rename_i hij
    obtain⟨a,r,b,q0,ea,eb,_⟩:=S.ag4 ei ej ek hij et eu;refine o3 (Zd:=[]) (ds:=[]) (E:=E0) a0 hr hg b0 c0 d0 .nil y9 (bh h1 (bh h2 ha s2) s1) hdb s1 hpl J' st σ H Q I ⟨a,ea,b,eb,ρ,S.vw,(RX.rd S q.bind).imp λqs _ q1 vs H1 g1 r1=>?_⟩;obtain⟨a',r',b',q',ea',eb',ta,tb,ZN,sw⟩:=(S.grow g1).ag4 ei ej ek hij et eu
    have ua:a'=a:=by
     obtain⟨a1,xs,m1,y1,y2,y3,y4⟩:=ea;obtain⟨a2,xs',m2,z1,z2,z3,z4⟩:=ea';rw[y1]at z1;cases z1;rw[y3]at z3;cases z3;rw[g1 _ _ y2]at z2;cases z2;rw[y4]at z4;cases z4;rfl
    have ub:b'=b:=by
     obtain⟨a1,xs,m1,y1,y2,y3,y4⟩:=eb;obtain⟨a2,xs',m2,z1,z2,z3,z4⟩:=eb';rw[y1]at z1;cases z1;rw[y3]at z3;cases z3;rw[g1 _ _ y2]at z2;cases z2;rw[y4]at z4;cases z4;rfl
    subst ua ub;split at q1
    .exact QS q1
    .rename_i p t' u' ef
     split at q1
     .rename_i T' U' eT eU
      rw[Rh];exact⟨by rw[QV,QV,<-r1.length];exact l t u qs _ ef,g1.tabs S.vw.tb,a',r',b',q',vs,t,u,qs,p,t',u',rfl,ta,tb,ZN,r1,ef,λv H' s' h1 h2 rp=>q1 v H' (sw H' t' u' T' U' eT eU s' h1 h2) rp⟩
     .exact QS q1
   .exact QS q
  .exact QS q
 .exact QS q
end
end PU
namespace PU
open PySem PySem.Spec PyProof.Rows L2
noncomputable def Kg:PV->PV->Option PV
|.int 2,.int 10=>Z' (.int 1024)
|_,_=>Y'
variable[TW]
theorem Mw{X:Cx}:YH X (TV .Pow) (rP X.K Kg):=by
 sleep 9;unfold Kg at e;split at e
 .cases e
  cases (show x=.int 2 from hp);cases (show y=.int 10 from hq);sleep 3;sleep 7;exact AutoIntOps.pow_4 @h @h @h @h @h ⟨.int 1024,H,I.tok _,@O,k _ H @p rfl⟩
 .cases e
end PU
namespace PU
open PySem PySem.Spec PyProof.Rows L2
noncomputable def MG(n:Nat)(h:vS):YT:=λp ρ=>match p with
|.lst ps=>if ps.length=n then h ps ρ else Y'
|_=>Y'
@[simp]theorem NZ{n:Nat}{h:vS}{ρ:Yb}(ps:List PV):MG n h @X ρ=if ps.length=n then h ps ρ else Y':=by rfl
section
variable{P:R8}{w:RH}{A:RV}{E:Value->QR->Prop}
theorem Kt{j a:Addr}{us:Array Value}(ne:a≠j):∀(m k:Nat)(s:QR)(Q:List Value->QR->Prop),s.heap.IsListIter j a k->s.heap.IsList a us->k+m<=us.size->
  (∀g,g.IsListIter j a (k+m)->T9 j s.heap g->Q ((us.toList.drop k).take m) {s with heap:=g})->QZ @bo A (draw (.ref j) m) Q E s
| 0,k,s,Q,h1,_,_,q=>QW (by simpa using q s.heap h1 (Heap.SameBut.refl ..))
|m+1,k,s,Q,h1,h2,le,q=>by
  have lt:k<us.size:=by grind
  refine QQ (Xi h1 h2 (x:=us[k]) (by simp[lt]) λg1 i1 b1=>?_);refine QQ (SZ (Kt ne m (k+1) _ _ i1 (h2.extBut b1.extBut ne) @b λg2 i2 b2=>QW ?_));have q:=q g2 (by rw[show k+(m+1)=k+1+m by grind];exact i2) (b1.trans b2);rw[show us.toList.drop k=us[k]::us.toList.drop (k+1) by simp[Wi,lt],List.take_succ_cons]at q;exact q
theorem P7{a:Addr}{us:Array Value}{s:QR}{Q:List Value->QR->Prop}(hh:A.handled=Y')(h:s.heap.IsList a us)
  (q:∀g,Heap.ExtBut s.heap.objs.size s.heap g->Q us.toList {s with heap:=g}):QZ @bo A (unpackItems @m us.size Y') Q E s:=by
 have ne:a≠s.heap.objs.size:=by obtain⟨o,e,_⟩:=h;exact RY @bI
 unfold unpackItems notIterableAtAll;refine QQ (QQ (Ua h.typeIs slot_list_iter.lookup (QW ?_)));simp only[Tu,if_false];refine QQ (SZ (Sm h ?_));refine QQ (SZ (Kt ne us.size 0 _ _ @cD (h.push _) @a λg1 i1 b1=>?_));rw[WU,So @a,if_neg @a];refine QQ (SZ (wpAny_pyNext_list_end hh i1 ((h.push _).extBut b1.extBut ne) @a λg2 e2=>?_));simp only[Option.isSome_none,Tu,if_false];exact QW (q g2 λb o hb e=>e2 b o hb (b1.extBut b o hb @iA))
end
variable[TW]
theorem IZ{C:Cn}{pos:SL}{es:List Expr}{k n:Nat}{h:List PV->Yb->Option Yb}(hc:C.X.calm=Y2)(hh:Ia C es h)
  (hn:(SJ es C.X.env).length=n:=by rfl) (hst:(SJ es C.X.env).findIdx? @d=Y':=by rfl):TGt C @e3 (MG n h):=by
 intro J' s σ H v u Q I r ⟨ρ,B,p,ρ',S,rp,e,k⟩;cases p with
|lst ps=>
  have e:(if ps.length=n then h ps ρ else Y')=Z' ρ':=e;split at e
  .rename_i hl
   obtain⟨a,xs,rfl,g,r1⟩:=di.lst_inv rp.o;cases r;obtain⟨Xv,rv,pl,_⟩:=I.list g.l;rw[assign_Tuple];refine QQ (Tx ?_);unfold unpack
   have hs:(SJ es C.X.env).length=Xv.toArray.size:=by
    rw[hn,<-hl,r1.length,rv.length];simp
   rw[hs,hst];refine QQ (SZ (P7 @aF pl.isList λh' hx=>?_));have I1:Inv C.X J' σ H {s with heap:=h'}:=I.kept (t':=s.toks) λb o e=>hx b o (RY @bI) e;exact hh J' _ σ H xs _ Q I1 (by simpa using rv) ⟨ρ,B,ps,ρ',S,r1,e,k⟩
  .cases e
|_=>cases e
end PU
namespace K46
open PySem L2 PU
abbrev tw(w:RH):TW:={w:=w}
noncomputable def c_BENEATH:PV:=(.dct [@ld,@fg,@tB] [(.str "key"),@bR,(.str "from")])
noncomputable def c_FIELDS:PV:=(.dct [@df,@dI,@ld,(.inr "key"),@fg,(.inr "name"),@tB,(.inr "from"),(.inr "hand"),(.inr "end")] [(.tup [@bR]),(.tup [(.str "letters key"),@hm]),@m1,(.tup [(.str "key"),(.str "target")]),@m1,(.tup [(.str "word"),@bR]),(.tup [@bR,@bR]),(.tup [(.str "from"),(.str "till"),@bR]),@oP,@oP])
def c_FIGURES:PV:=(.str "0123456789")
noncomputable def c_FORMS:PV:=(.dct [(.inr "house"),(.inr "drop"),(.inr "show"),(.inr "call"),(.inr "press"),(.inr "hang"),(.inr "row"),(.inr "least"),(.inr "traps"),(.inr "compare"),@fg] [(.tup [(.str "new")]),(.tup [@bP]),(.tup [@bP]),@jn,(.tup [(.str "call"),(.str "signs")]),(.tup [(.str "call")]),(.tup [@bP,@lb,(.str "out")]),@jn,@jn,(.tup [@bP,@bP,@lb]),(.tup [@bP,@dV])])
noncomputable def c_HEARD:PV:=(.dct [@ld,@fg,(.inr "hand"),(.inr "end")] [@kX,@kX,@cG,@cJ])
def c_HOURS_OF_A_DAY:PV:=(.int 24)
def c_KEYS:PV:=(.str "0123456789*#")
def c_MOST_BENEATH:PV:=(.int 12)
def c_MOST_ROOMS:PV:=(.int 12)
def c_PER_CENT:PV:=(.int 37)
noncomputable def c_ROOM_FORMS:PV:=(.dct [(.inr "out"),@fg] [(.tup [@cG,@cJ]),(.tup [@dV])])
noncomputable def c_ROOM_KINDS:PV:=(.tup [@d2,@dV,@tx,@cG,@cJ])
def c_SIGNS:PV:=(.str "0123456789*#w")
def c_SMALL_LETTERS:PV:=(.str "abcdefghijklmnopqrstuvwxyz")
def fU:Yb->R Fl:=(bL (bN 9 (a9 @ey (YG (a9 (Y9 8) @V Yp) Lp) BP)) (bN 7 (a9 @ex (a9 @j (a9 (a9 (a9 @g (a9 (Y9 8) @am bt) lg) (Y9 9) bt) (kI 24) i5) Yh) bt)))
def fT:Yb->R Fl:=(bL (bN 7 @bq) (bL (sA (zx @w) (ar 8) fU) (yC 5 @ex)))
def jQ:Yb->R Fl:=(bL (bN 2 (kS "acdefghijlmnopqrstuvwxyz")) (bL (bN 3 (a9 @T (a9 @g @eq i5) bt)) (bL (bN 4 (a9 (a9 @g @eq lg) @w i5)) (bL (vo 5 @cY) (bL (sA (zx @f) (ar 6) fT) (EX 5 (bu @bH)))))))
def cR:List PV->Option PV:=f9 2 10 jQ
def jR:Yb->R Fl:=(bu (a9 (a9 (a9 @g @sz i5) @f BP) @sz i5))
def cj:List PV->Option PV:=f9 2 2 jR
def jn:Yb->R Fl:=(bL (YF (u5 @pc) noF br) (bL (bN 1 (fF @g @aP j9)) (bL (bN 2 (a9 (fF @g (kS "\n") jt) @S Yh)) (bL (YF (aW (a9 (a9 @rI @S Yh) @li Yp)) (bN 1 (ifV (aW (a9 @j @g Zh)) @rI @cY)) br) (bL (YF (orB @s1 (orB (aW (a9 @bM @lj cO)) (aW (a9 (YG @f jT) (a9 (YG @jb jT) @T bt) Zh)))) noF br) @ii)))))
def bU:List PV->Option PV:=f9 1 3 jn
def cq:Yb->XO Fb:=(bM (YS (bX @nI) (qR "NoName" (kS "no house stands by this name")) cy) (aJ (bu (a9 @pY @f Yh))))
def dU:Tr->List PV->Option ((PV ⊕ PX)×Tr):=qQ 2 2 cq
def eR:Yb->R PV:=(a9 @g (kP c_FIGURES) YQ)
def fq:Yb->R Fl:=(bL (YF (orB (aW (a9 @g @bq Yp)) (u5 (aW (YG (dY @eg @Z iF eR 1 []) EU)))) @bx br) (bu (orV (a9 @g (kS "0") Yp) (a9 @c5 (kS "0") Zh))))
def jg:List PV->Option PV:=f9 1 1 fq
def bP:Yb->R Fl:=(bL (YF (orB (u5 (aW (aN @bU jg))) (aW (a9 @dW (YG (YG @j jS) jT) gGt))) (bu kN) br) (bL (bN 3 (YG @g GT)) (bu (ifV (aW (l7 @f @w @j gLe gLe)) @w kN))))
def bf:List PV->Option PV:=f9 3 4 bP
def oE:Yb->R Fl:=(bL (bN 1 (aN (a7 @g @pe) bf)) (bL (YF @qD noF br) @ii))
def kU:List PV->Option PV:=f9 1 2 oE
def gQ:Yb->R PV:=(a9 @g (kP c_SMALL_LETTERS) YQ)
def fm:Yb->R Fl:=(bu (yD (l7 @T @dW @f gLe gLe) (YG (dY @eg @Z iF gQ 1 []) EU)))
def cA:List PV->Option PV:=f9 2 2 fm
def kQ:Yb->R Fl:=(bu (yD (aN (a7 @g (a7 @eq aE)) cA) (a9 @g @lG Zh)))
def gp:List PV->Option PV:=f9 1 1 kQ
def yv:Yb->R PV:=(a9 @g (kP c_SIGNS) YQ)
def x4:Yb->R Fl:=(bu (YG (dY @eg @Z iF yv 1 []) EU))
def xf:List PV->Option PV:=f9 1 1 x4
def ba:Yb->XO Fb:=(bM (YS (bX @ov) (v8 (o8 "Desk" "house_by" 0 @bv dU)) cy) (bM (aJ (YF (aW (a9 @f (kS "hour") Yp)) (bu (aN @bv kU)) br)) (bM (YS (bX (aW (a9 @f (kP c_ROOM_FORMS) YQ))) noB cy) (bM (YS (bX (F8 (aW (a9 @f (kS "new") Yp)) (u5 (aW (aN @bv gp))))) (qR "NoName" (kS "no name for a house")) cy) (bM (YS (bX (F8 (aW (a9 @f (kS "call") Yp)) (aW (a9 @j (BU "Desk" 0 "calls") cO)))) noB cy) (bM (YS (bX (F8 (aW (a9 @f (kS "signs") Yp)) (u5 (aW (aN @bv xf))))) noB cy) @kS))))))
def aK:F2:=zr 4 4 ba
def b7:Yb->XO Fb:=(Ny 2 (yh "Desk" "value_of" 0 2 @w @V aK))
def dB:Yb->XO Fb:=(bM (qF 2 (vv @cY)) (bM (x5 @s2 @cM b7) (FZ 2)))
def bV:Tr->List PV->Option ((PV ⊕ PX)×Tr):=qQ 2 5 dB
def dH:Yb->R PV:=(YG @g jS)
def eF:Yb->R Fl:=(bu (fF @aP (a9 (hU @bU) (dY @mi @Z iF dH 1 []) bt) ja))
def aT:List PV->Option PV:=f9 2 2 eF
def jD:Yb->R Fl:=(bL (YF @jh (bu @dL) br) (bu (ifV (aW (a9 @c5 @fd YQ)) @eW (i8 aE))))
def eP:List PV->Option PV:=f9 1 1 jD
def kO:Yb->R Fl:=(bL (YF (aW (a9 @bM @fq Yp)) (bu (hU (a7 @g (a7 @km aE)))) br) (bL (YF (aW (a9 @bM @fd YQ)) (bu (hU (a7 @g (a7 (a9 @kl @S Yh) (a7 (a9 @kl @T Yh) (a7 (a9 @j7 @S Yh) (a7 (a9 @j7 @T Yh) @g3))))))) br) (bu (hU @tf))))
def ij:List PV->Option PV:=f9 2 2 kO
def gS:Yb->R Fl:=(yC 1 (aN (a7 @dO @bv) aT))
def eV:Yb->R Fl:=(yC 1 (aN (a7 (a9 @fd @kk Yh) (a7 @bH aE)) aT))
def eS:Yb->R Fl:=(bL (yC 1 (aN (a7 @kk (a7 (aN (a7 @w @fr) ij) aE)) aT)) (sA (Z7 (aN @fr eP)) (ar 5) eV))
def j4:Yb->R Fl:=(bL (vo 1 (hU (a7 (aN (a7 @ko (a7 (hU (a7 @jx aE)) aE)) aT) aE))) (bL (sA (Z7 @rR) @cZ gS) (bL (sA @ib @cM eS) (bu (fF (kS "\n") (kL 1) ja)))))
def fA:List PV->Option PV:=f9 1 6 j4
def rQ:Yb->R Fl:=(bL (bN 2 @bM) (bL (YF (aW (a9 @g (kS "show") Yp)) (bu (aN @bv fA)) br) (bL (YF (aW (a9 @g (kS "row") Yp)) noF br) (bL (YF (aW (a9 @g (kS "least") Yp)) noF br) (bL (YF (aW (a9 @g (kS "traps") Yp)) noF br) (bL (YF (aW (a9 @g (kS "compare") Yp)) noF br) noF))))))
def n5:List PV->Option PV:=f9 2 3 rQ
def dD:Yb->R Fl:=(bL (bN 3 @m5) (YF (F8 (aW (fF @j (kS "names ") lM)) (u5 (aW (fF @w (kS "name ") lM)))) @ii br))
def gK:Yb->R Fl:=(bL (sA (mr @g) (fV 2 @jr) dD) (bu @S))
def gL:List PV->Option PV:=f9 1 4 gK
def cP:Yb->R Fl:=(bu (yD (l7 @aP @g (kS "~") gLe gLe) (a9 (YG @g Lo) (kP c_PER_CENT) Zh)))
def gn:List PV->Option PV:=f9 1 1 cP
def ji:Yb->R PV:=(aN @bU gn)
def hV:Yb->R Fl:=(bu (yD (l7 @T @dW (kI 80) gLe gLe) (YG (dY @eg @Z iF ji 1 []) EU)))
def lO:List PV->Option PV:=f9 1 1 hV
def oC:Yb->R Fl:=(bu (aN (a7 @g (a7 (kI 12) aE)) cA))
def oJ:List PV->Option PV:=f9 1 1 oC
def kR:Yb->R Fl:=(bu (yD (a9 @dW @T Yp) (a9 @g @lH YQ)))
def mZ:List PV->Option PV:=f9 1 1 kR
def j8:Yb->R Fl:=(bL (YF @ox (bu (aN @aL gp)) br) (bL (YF (aW (a9 @g (kS "target") Yp)) (bu (orV (aN @aL gp) (a9 @f @lG Yp))) br) (bL (YF (aW (a9 @g (kS "word") Yp)) (bu (aN @aL oJ)) br) (bL (YF (aW (a9 @g (kS "key") Yp)) (bu (aN @aL mZ)) br) (bL (YF (aW (a9 @g (kS "letters key") Yp)) (bu (yD (aN @aL mZ) (a9 @f (kS "#") Zh))) br) (bL (YF (aW (a9 @g @dO Yp)) (bu (aN (a7 @f (a7 (kI 26) aE)) cA)) br) (bu (aN @aL lO))))))))
def AZ:List PV->Option PV:=f9 2 2 j8
def d7:Yb->R Fl:=(bL (YF (aW (a9 @g (kS "many") Yp)) (bu (aN (a7 @f (a7 @T (a7 (kI 9) aE))) bf)) br) (bL (YF @oy (bu (aN (a7 @f @pe) bf)) br) (bL (YF (aW (a9 @g (kS "till") Yp)) (bu (aN (a7 @f (a7 @T (a7 (kI 24) aE))) bf)) br) (bu (ifV (aW (aN @fe AZ)) @f kN)))))
def ik:List PV->Option PV:=f9 2 2 d7
def eQ:Yb->R PV:=(aN @fe ik)
def fh:Yb->R Fl:=(bL (YF (aW (a9 @g (kP c_FIELDS) cO)) (bu kN) br) (bL (bN 2 (a9 (kP c_FIELDS) @g Yh)) (bL (bN 3 (eX (Dc @f @aP (YG @j jT) rR) @ie iw)) (bL (YF (aW (a9 (YG @w jT) (YG @j jT) ZJ)) (bu kN) br) (bL (bN 4 (dY (sD @j @w) @a7 iF eQ 2 [])) (bu (ifV (aW (a9 kN @V YQ)) kN @V)))))))
def jd:List PV->Option PV:=f9 2 5 fh
def oA:Yb->R Fl:=(bL (YF @jh (bu (i8 (a7 @c5 (a7 @f (a7 @eW aE))))) br) (bu (i8 (a7 @c5 (a7 @dL (a7 @f (a7 @rQ (a7 @q8 aE))))))))
def gj:List PV->Option PV:=f9 2 2 oA
def eG:Yb->R Fl:=(bL (YF @oy (bu (a9 @bi @cE ZJ)) br) (bL (YF @s1 @ll br) (bL (YF @ox (bu (a9 @nT @bi ZJ)) br) (bu (a9 (fF @lH @nT qu) (fF @lH @bi qu) ZJ)))))
def bQ:List PV->Option PV:=f9 3 3 eG
def cJ:Yb->XO Fb:=(bM (aJ (YF (u5 (aW (kL 0))) @bx br)) (bM (aJ (bN 3 (a9 (YG (kL 0) ml) (YG @T Kh) Yh))) (bM (aJ (bN 4 (a9 (kL 0) @w Yh))) (bM (aJ (YF (aW (a9 (D9 @fd @kk I9) @f Zh)) @bx br)) (bM (aJ (bN 5 (aN @fr eP))) (bM (aJ (YF (orB (aW (a9 (YG @bH jT) (kP c_MOST_BENEATH) Yp)) (u5 (aW (aN (a7 @f (a7 @bH @bv)) bQ)))) @bx br)) (bM (nj @cm @w (aN @nb gj)) @dN)))))))
def dz:Tr->List PV->Option @bp:=zt 3 6 cJ
def fH:Yb->R PV:=@f
def dC:Yb->R PV:=(a9 (fF @f @g uv) @T gGt)
def cI:Yb->XO Fb:=(bM (YS (Df 0 (orB @ij @f9)) @ik cy) (bM (aJ (bN 2 (a9 (fF @bq (dY @rG @a7 iF fH 2 []) ja) @dE bt))) (bM (aJ (YF (aW @tD) @bx br)) (bM (KC @le (i8 @te)) @dN))))
def dy:Tr->List PV->Option @bp:=zt 2 3 cI
def oG:Yb->R Fl:=(bL (YF (aW (a9 @g @fq Yp)) (bu (i8 (a7 @g (a7 (i8 aE) @g3)))) br) (bL (YF (aW (a9 @g @fd YQ)) (bu (i8 (a7 @g (a7 (a9 @f (kI 5) Yh) (a7 (i8 aE) (a7 (i8 (a7 @dE (a7 @km aE))) (a7 (i8 (a7 @kl (a7 @j7 aE))) aE))))))) br) (bu (i8 @tf))))
def gq:List PV->Option PV:=f9 2 2 oG
def gi:Yb->XO Fb:=(bM (aJ (YF (orB (aW (a9 (YG (kL 0) jT) (kP c_MOST_ROOMS) Yp)) (aW (a9 @bi (kL 0) YQ))) @bx br)) (bM (nj @cm @bi (aN @g5 gq)) @dN))
def gk:Tr->List PV->Option @bp:=zt 3 3 gi
def cH:Yb->XO Fb:=(bM (aJ (bN 2 (a9 (fF @f @aP jt) @S Yh))) (bM (aJ (bN 3 (aN (a7 @j @aL) jd))) (bM (aJ (YF (orB (aW (a9 @w kN BQ)) (aW (a9 @rN (a9 (BR 0 @df) @bq Yp) Zh))) @bx br)) (bM (YS (bX (aW @rN)) (bM (AS 0 @df @hb) @dN) cy) (bM (YS (bX (aW (a9 @j @dO Yp))) (v8 (jk @cm @cb dy)) cy) (bM (YS (bX (aW (a9 @j (kP c_ROOM_KINDS) YQ))) (v8 (jk @hI @g4 gk)) cy) (v8 (jk @hI @g4 dz))))))))
def jo:Tr->List PV->Option @bp:=zt 2 4 cH
def cK:Yb->XO Fb:=(YS (D3 (BJ (jk (.whole 2) @fr jo))) noB cy)
def j5:Yb->XO Fb:=(bM (YS (D3 (bX @pc)) noB cy) (bM (aJ (bN 1 (fF @g (kS "\n") j9))) (bM (qF 2 (D5 @iL)) (bM (x5 (mr @f) @cM cK) (bM (YS (D3 (bX (aW (BR 2 @dK)))) noB cy) (bM (aJ (bN 5 (aN @aL gL))) (bM (YS (bX (aW (a9 @bH @S gGt))) noB cy) (Cw 2))))))))
def cQ:List PV->Option Tr:=FX 1 6 j5
def jq:Yb->R Fl:=(YF (aW (l7 @j @f @w gLe ZJ)) (bu @V) br)
def kT:Yb->R Fl:=(bL (sA (Z7 @dL) (fV 3 @kq) jq) (bu @eW))
def kW:List PV->Option PV:=f9 2 5 kT
def eW:Yb->R Fl:=(bL (YF (orB (aW (a9 @w @g cO)) (aW (a9 (a9 @rP @S Yh) @fq Zh))) @bx br) (bL (bN 3 (aN (a7 @rP @aL) kW)) (YF (aW (a9 @w @j Yp)) @ll br)))
def gD:Yb->R Fl:=(bL (bN 3 @j) (bL (sA (zx @dW) (ar 4) eW) @bx))
def jf:List PV->Option PV:=f9 3 5 gD
def uE:Yb->R PV:=(i8 (a7 (kS "ring") @hw))
def k7:Yb->R Bool:=(aW (aN (a7 @pd @hw) jf))
def oX:Yb->R Fl:=(DG 1 (dY (Z7 @eD) @Z k7 uE 1 [2,0]))
def vC:Yb->R Fl:=(bL @hu (bL (sA (zx (kP c_HOURS_OF_A_DAY)) @cZ oX) @hk))
def vF:List PV->Option PV:=f9 1 3 vC
def yB:Yb->R Fl:=(YF (aW (a9 @f @w YQ)) (bu @j) br)
def x3:Yb->R Fl:=(bL (sA @eg @fz yB) (bu kN))
def xb:List PV->Option PV:=f9 2 4 x3
def vK:Yb->R PV:=(aN @hw xb)
def uu:Yb->R Fl:=(bL (bN 2 (dY @mi @Z iF vK 1 [0])) (bu (ifV (aW (a9 kN @j YQ)) kN (fF @bq @j ja))))
def kX:List PV->Option PV:=f9 2 3 uu
def jj:Yb->R PV:=(i8 (a7 @g (a7 (aN (a7 (a9 @j @dO Yh) @bU) kX) aE)))
def fP:Yb->R Fl:=(bL (YF (aW (a9 @bM (kS "names") Zh)) (bu @cY) br) (bu (dY (Z7 @km) @a7 iF jj 2 [0])))
def fR:List PV->Option PV:=f9 2 2 fP
def oQ:Yb->R PV:=(i8 (a7 @bM (a7 @c5 aE)))
def nv:Yb->R Bool:=(aW (a9 @dL @dE Yp))
def oW:Yb->R Fl:=(DG 1 (dY (Z7 (eX @g (gU (a9 @j @T bt)) iw)) @Z nv oQ 1 [3]))
def kM:Yb->R Fl:=(bL @hu (bL (sA (yu @g) @fz oW) @hk))
def fQ:List PV->Option PV:=f9 1 4 kM
def gN:Yb->R PV:=@g
def gH:Yb->R Bool:=(aW (a9 @dL kN yq))
def pJ:Yb->R PV:=(i8 (a7 (kS "twins") (a7 @j @fe)))
def gR:Yb->R Fl:=(bL (bN 4 (dY @oK @Z gH gN 1 [])) (DG 1 (dY (Z7 (aN @fr fQ)) @a7 iF pJ 2 [2])))
def iZ:Yb->R Fl:=(bL @hu (bL (sA @ib @fz gR) @hk))
def jc:List PV->Option PV:=f9 1 5 iZ
def pK:Yb->R PV:=@j
def gO:Yb->R PV:=@f
def j3:Yb->R Fl:=(bL (YF @jh (bu (a9 (hU (a7 @eW aE)) (dY (Z7 @dL) (fV 3 (aG @Z @jr)) iF pK 3 []) bt)) br) (bL (YF (aW (a9 @c5 (i8 (a7 (kS "menu") (a7 (kS "names") aE))) YQ)) (bu (a9 (hU (a7 (a9 @rQ @T Yh) (a7 (a9 @q8 @T Yh) aE))) (dY (Z7 @eW) @a7 iF gO 2 []) bt)) br) (bu @cY)))
def fw:List PV->Option PV:=f9 1 1 j3
def gP:Yb->R PV:=(i8 @hw)
def gT:Yb->R Fl:=(DG 1 (dY (Z7 (aN @cb fw)) @Z iF gP 1 [2]))
def jE:Yb->R PV:=(i8 (a7 (kS "lost") @fe))
def dk:Yb->R Bool:=(F8 (aW (a9 @f @lG Zh)) (aW (a9 @f @pd cO)))
def j6:Yb->R Fl:=(bL (vo 1 (hU (a7 (i8 (a7 @bq (a7 @jx aE))) aE))) (bL (sA @ib @fz gT) (EX 1 (bu (dY @mi @a7 dk jE 2 [0])))))
def je:List PV->Option PV:=f9 1 4 j6
def eA:Yb->R PV:=(i8 (a7 (kS "letter") (a7 @j @bU)))
def cL:Yb->R Bool:=@qD
def cM:Yb->R Fl:=(DG 1 (dY @oK @a7 cL eA 2 [2]))
def df:Yb->R Fl:=(bL @hu (bL (sA @ib @fz cM) @hk))
def dh:List PV->Option PV:=f9 1 4 df
def rO:Yb->R Fl:=(bu (a9 (a9 (a9 (aN @bU je) (aN @bU dh) bt) (aN @bU jc) bt) (aN @bU vF) bt))
def n0:List PV->Option PV:=f9 1 1 rO
def d8:Yb->XO Fb:=(bM (aJ @ps) (bM (aJ @q2) (bM (YS (bX (aW @V)) noB cy) (bM (nj @eR @f @w) @kR))))
def cv:Tr->List PV->Option ((PV ⊕ PX)×Tr):=qQ 3 5 d8
def oZ:Yb->R Fl:=(bN 3 (aN (a7 @rM @aL) kW))
def oF:Yb->R Fl:=(bL (bN 3 @j) (bL (whS 300 (aW @iV) oZ) (bu @w)))
def oK:List PV->Option PV:=f9 3 4 oF
def oI:Yb->R Fl:=(bu (i8 (a7 (aN (a7 @g @g5) oK) (a7 @w (a7 @S (a7 @S (a7 @bq aE)))))))
def oM:List PV->Option PV:=f9 4 4 oI
def vE:Yb->R Fl:=(bu (aN (a7 @g (a7 @f (a7 @jx (a7 @bq aE)))) oM))
def lP:List PV->Option PV:=f9 2 2 vE
def rN:Yb->R Fl:=(bL (bN 2 (a9 @eD @bM Yh)) (bu (i8 (a7 (a9 (kP c_HEARD) @bi Yh) (a7 @cE aE)))))
def vG:List PV->Option PV:=f9 2 3 rN
def j7:Yb->R Fl:=(bu (fF @aP (aN @fe vG) ja))
def gF:List PV->Option PV:=f9 2 2 j7
def d9:Yb->XO Fb:=(bM (aJ @q3) (bM (Ls "Desk" 0 "greatest" 1) (bM (aJ @nO) (bM (nj @gJ @V @qY) (aJ (bu (a9 (a9 @V @aP bt) (aN (a7 @f @cb) gF) bt)))))))
def bK:Tr->List PV->Option ((PV ⊕ PX)×Tr):=qQ 3 5 d9
def qr:Yb->XO Fb:=(bM (aJ @j4) (bM @nM (bM (YS (bX @jg) (v8 (o8 "Desk" "keep_house" 0 (a7 @cE (a7 (a9 (fF @f (kS "\n") jt) @am Yh) aE)) cv)) cy) @my)))
def b8:Tr->List PV->Option ((PV ⊕ PX)×Tr):=qQ 2 4 qr
def qq:Yb->XO Fb:=(bM (aJ @mg) (bM (HM "Desk" "say" 0 2 @aL b8 (Ln (Le [("NoName",Y2)]) 3 @mz GM)) @kS))
def aS:Tr->List PV->Option @bp:=zt 2 5 qq
def eL:Yb->XO Fb:=(bM (aJ @nX) (bM (aJ @mZ) (bM (aJ @n4) (YS (BJ (BS @ot @ex Zh)) @ik cy))))
def ur:Yb->XO Fb:=(bM @oV @dN)
def dS:G2:=zq 4 8 ur
def fO:Yb->R Fl:=(bL (YF @pT (bu @rS) br) (bu @S))
def bY:List PV->Option PV:=f9 2 2 fO
def lL:Yb->R Fl:=(bL (Ld @g (MG 3 @kq)) (bL (bN 5 (a9 (a9 (a9 @aP (YG (a9 @T (a9 @f (kI 9) i5) bt) jS) bt) @aP bt) @w bt)) (bL (bN 5 (a9 (a9 (a9 (a9 (a9 @bH @aP bt) (YG (a9 @T (a9 (a9 @f (kI 9) lg) (kI 9) i5) bt) jS) bt) @aP bt) @j bt) @aP bt)) (bL (vo 6 (hU (a7 (a9 (kS "first ") (a9 (hU @g4) (a9 (a9 @f @am lg) @am i5) Yh) bt) aE))) (bL (YF (aW (a9 (a9 @rT @am i5) @S Yp)) (bL (yC 6 (a9 (a9 (a9 (kS "letters ") (a9 (hU (a7 (kS "2") (a7 (kS "*") aE))) (a9 (a9 @f (kI 5) lg) @am i5) Yh) bt) @aP bt) (a9 (hU (a7 (kS "abc") (a7 (kS "cba") aE))) (a9 (a9 @f (kI 7) lg) @am i5) Yh) bt)) (vo 6 (a9 (kL 6) (hU (a7 (a9 (a9 (a9 (kS "names ") @V bt) @bH bt) (kS "Who is it?  ") bt) (a7 (a9 (kS "name ab ") @j bt) (a7 (a9 (kS "name c ") @w bt) aE)))) GU))) br) (bL (vo 6 (a9 (kL 6) (hU (a7 (a9 (a9 (a9 (kS "menu ") @j bt) @bH bt) (a9 (hU (a7 (kS "So?") (a7 (kS " Press 0, or #.") aE))) (a9 (a9 @f (kI 4) lg) @am i5) Yh) bt) aE)) GU)) (bL (yC 6 (a9 (hU (a7 (kS "key 0 back") (a7 (a9 (kS "key 7 ") @w bt) (a7 (a9 (kS "key # ") @j bt) aE)))) (a9 @rT @bd i5) Yh)) (bL (yC 6 (a9 (a9 (a9 (a9 (hU (a7 (kS "hand ") (a7 (kS "end ") aE))) (a9 (a9 @f @eq lg) @am i5) Yh) @w bt) (kS " It's ") bt) (YG (a9 @f (kI 1000) i5) jS) bt)) (bL (YF (aW (a9 (a9 (a9 @f (kI 6) lg) @bd i5) @S Yp)) (vo 6 (a9 (kL 6) (hU (a7 (a9 (a9 (a9 (kS "hours ") @w bt) (kS "x ") bt) @j bt) (a7 (a9 (a9 (a9 (kS "from ") (YG (a9 @f (kI 24) i5) jS) bt) (kS " 24 ") bt) @w bt) aE))) GU)) br) (bu (fF (kS "\n") (kL 6) ja)))))))))))
def hW:List PV->Option PV:=f9 2 7 lL
def fW:Yb->XO Fb:=(bM (YS (bX @jA) (bM (nj @hP @j @w) (v8 (BS (jk @cm (a7 (a9 (a9 @js (kS "\n") bt) @w bt) aE) aS) @fx Yp))) cy) (bM (aJ @oi) (bM (aJ (bN 6 @fx)) (bM (aJ @f7) (bM (YS @gt @hj @gb) (v8 (BS (jk @cm (a7 @bH aE) aS) @ey Yp)))))))
def eI:G2:=zq 5 7 fW
def oY:Yb->XO Fb:=(bM (aJ @m7) (bM (aJ @mT) (bM (aJ @mF) (bM (YS (D3 (BJ (xw 4 5 8 (a7 @np @nP) eI))) @ik cy) (YS (D3 (BJ (Bt 4 5 (a7 @f @oJ) dS))) @ik cy)))))
def vP:Yb->XO Fb:=(bM (FN 11 @nx) (aJ (YF (aW (a9 (a9 (fF (Y9 11) @aP jt) @S Yh) @j Zh)) @bx br)))
def vO:Yb->XO Fb:=(x5 (Z7 @iX) (ar 10) vP)
def sj:Yb->XO Fb:=(x5 (zx @am) (ar 6) vO)
def Dy:Yb->XO Fb:=(bM (aJ @mG) (bM (aJ @mW) (bM (aJ @mH) (bM (qF 4 @tr) (bM (qF 5 @pu) (bM (x5 (yu @gm) (fV 2 @jq) oY) (bM (x5 @nJ @cZ sj) (v8 (Bt 4 5 (a7 @f @lm) dS)))))))))
def AY:List PV->Option PV:=Mb 1 12 Dy
end K46
namespace PU
open PySem L2
noncomputable def Am(ρ:Yb):R Fl->XO Fb
|.ok (.next ρ')=>.ok .next ρ'
|.ok (.brk ρ')=>.ok .brk ρ'
|.ok (.cont ρ')=>.ok .cont ρ'
|.ok (.ret p)=>.ok @au ρ
|.er x=>.YV x ρ
|.no=>.no
noncomputable def uP(g':Yb->XO Fb):XO Fb->XO Fb
|.ok .next ρ=>g' ρ
|.ok fl ρ=>.ok fl ρ
|.YV x ρ=>.YV x ρ
|.no=>.no
noncomputable def Ik(g g':Yb->XO Fb):XO Bool->XO Fb
|.ok Y2 ρ=>g ρ
|.ok Y1 ρ=>g' ρ
|.YV x ρ=>.YV x ρ
|.no=>.no
noncomputable def C4{α β:Type}(f:α->β):XO α->XO β
|.ok a ρ=>.ok (f a) ρ
|.YV x ρ=>.YV x ρ
|.no=>.no
noncomputable def Fp:XO PV->XO Bool
|.ok (.bl b) ρ=>.ok b ρ
|.ok _ _=>.no
|.YV x ρ=>.YV x ρ
|.no=>.no
section
variable{α β:Type}{ρ ρ':Yb}{g g':Yb->XO Fb}{t:Yb->XO Bool}{f:Yb->XO PV}{i:Nat}
@[simp]theorem GG:Am ρ (.ok @cO)=.ok .next ρ':=by unfold Am;exact UZ _
@[simp]theorem HZ(p:PV):Am ρ (.ok @au)=.ok @au ρ:=by unfold Am;exact UZ _
@[simp]theorem yR{h:Yb->R Fl}:aJ h ρ=Am ρ (h ρ):=by
 unfold aJ;cases h ρ with
|ok fl=>cases fl<;>rfl
|er x=>rfl
|no=>rfl
@[simp]theorem QK(a:α):XO.rd ρ @f2=.ok a ρ:=by unfold XO.rd;exact UZ _
@[simp]theorem LG{h:Yb->R α}:bX h ρ=XO.rd ρ (h ρ):=by unfold bX;exact UZ _
@[simp]theorem au:uP g' (.ok .next ρ)=g' ρ:=by unfold uP;exact UZ _
@[simp]theorem HW(p:PV):uP g' (.ok @au ρ)=.ok @au ρ:=by unfold uP;exact UZ _
@[simp]theorem b9:bM g g' ρ=uP g' @er:=by
 unfold bM;cases g ρ with
|ok fl ρ=>cases fl<;>rfl
|YV x ρ=>rfl
|no=>rfl
@[simp]theorem LA:cy ρ=.ok .next ρ:=by unfold cy;exact UZ _
@[simp]theorem jN:Ik g g' (.ok Y2 ρ)=g ρ:=by unfold Ik;exact UZ _
@[simp]theorem rC:Ik g g' (.ok Y1 ρ)=g' ρ:=by unfold Ik;exact UZ _
@[simp]theorem jH:YS t g g' ρ=Ik g g' @dx:=by
 unfold YS;cases t ρ with
|ok b ρ=>cases b<;>rfl
|YV x ρ=>rfl
|no=>rfl
@[simp]theorem Oq(h:α->β)(a:α):C4 h (.ok a ρ)=.ok (h a) ρ:=by unfold C4;exact UZ _
@[simp]theorem pL:v8 f ρ=C4 Fb.ret @u:=by unfold v8;cases f ρ<;>rfl
@[simp]theorem Iu:D3 t ρ=C4 not @dx:=by unfold D3;cases t ρ<;>rfl
@[simp]theorem Oo(b:Bool):Fp (.ok @bG ρ)=.ok b ρ:=by unfold Fp;exact UZ _
@[simp]theorem Ip:BJ f ρ=Fp @u:=by
 unfold BJ;cases f ρ with
|ok p ρ=>cases p<;>rfl
|YV x ρ=>rfl
|no=>rfl
end
theorem aI{m n:Nat}{g:Yb->R Fl}{ps:List PV}{p:PV}(hl:ps.length=m)(h:g (PU.start n ps)=.ok @au):f9 m n g ps=Z' p:=by
 unfold f9;rw[if_pos hl,h]
theorem DZ{α:Type}{xs:List α}{i:Int}(d:α)(h0:0<=i)(h1:i<xs.length):Yu xs i=Z' (xs.getD i.toNat d):=by
 have h2:i.toNat<xs.length:=by simp[*]
 exact aX (n:=i.toNat) @b (by simp[h2])
def Yd(l:List Nat):Str:=@sl
theorem cE(a b:List Nat):Yd a++Yd b=Yd @cy:=by
 show Str.mk (a.toArray++b.toArray)=_;simp[Yd]
@[simp]theorem MC(a:List Nat):(Yd a).length=a.length:=by rfl
@[simp]theorem bO(a:List Nat):(Yd a).cps.toList=a:=by simp[Yd]
theorem Gx(c:Nat):(⟨#[c]⟩:Str)=Yd [c]:=rfl
theorem mi(x:Str):Yd x.cps.toList=x:=by rfl
theorem xj:("":Str)=Yd []:=by rfl
theorem Dj(l:List Nat)(z:Int)(h0:0<=z)(h1:z<l.length)(hl:l.length<=16777216):Yh @dg @dv=Z' (.str ⟨#[l.getD z.toNat 0]⟩):=
 vV @i (by rw[bO];exact DZ 0 h0 h1)
theorem E1(x:List Nat)(c:Nat)(hx:x.length<=1000):bt @F (.str ⟨#[c]⟩)=Z' (.str (Yd (x++[c]))):=by
 rw[Gx,nh (by simp;grind),cE]
theorem yE(xs:List Str):mz @fh=Z' xs:=by
 induction xs with
|nil=>rfl
|cons x r ih=>simp[mz,ih]
theorem yV{s:Str}{xs:List Str}(h:(xs.map (·.length)).sum+xs.length*s.length<=16777216):ja @aQ (.lst @fh)=Z' (.str (TL s xs)):=by
 show (mz (xs.map PV.str)).bind (λys=>if (ys.map (·.length)).sum+ys.length*s.length<=16777216 then Z' (PV.str (Txt.join s ys))else Y')=_;rw[yE,Vp,if_pos h,wX]
theorem J4{α:Type}{l:List α}{f:α->Nat}{b:Nat}(h:∀x∈l,f x<=b):(l.map f).sum<=l.length*b:=by
 induction l with
|nil=>simp
|cons x r ih=>
  grind[RZ,R6,QV,Nat.succ_mul]
end PU
namespace MT
open PySem L2 PU
inductive Yg where
|menu (text:Str) (keys:List (Str×Str)) (wrong waits:Int×Str)
|names (text:Str) (words:List (Str×Str)) (wrong waits:Int×Str)
|hours (spans:List (Int×Int×Str)) (last:Str)
|hand (text:Str)
|fin (text:Str)
structure Yi where
 first:Str
 letters:List @K
 rooms:List @ak
def Yt(p:Str×Str):PV:=.tup [.str p.1,.str p.2]
def pvI(p:Int×Str):PV:=.tup [.int p.1,.str p.2]
noncomputable def pv3(p:Int×Int×Str):PV:=.tup [.int p.1,.int p.2.1,.str p.2.2]
def Yg.pv:Yg->PV
|.menu t ks wr wa=>.tup [.str "menu",.str t,.tup @lF,pvI wr,pvI wa]
|.names t ks wr wa=>.tup [.str "names",.str t,.tup @lF,pvI wr,pvI wa]
|.hours sp l=>.tup [.str "hours",.tup (sp.map pv3),.str l]
|.hand t=>.tup [.str "hand",.str t]
|.fin t=>.tup [.str "end",.str t]
def ay(rs:List @ak):PV:=.dct @eQ @c7
def Yi.pv (h:Yi):PV:=.dct @eJ [.str h.first,.lst @g1,ay h.rooms]
def num(i:Int):Str:=UT i
abbrev sp:Str:=" "
noncomputable def EE(kind name:Str)(wr wa:Int×Str)(t:Str):Str:=kind++(sp++(name++(sp++(num wr.1++(sp++(wr.2++(sp++(num wa.1++(sp++(wa.2++(sp++t)))))))))))
def sr(a b c:Str):Str:=a++(sp++(b++(sp++c)))
def Pr(a b c d:Str):Str:=a++(sp++(b++(sp++(c++(sp++d)))))
def Cr(name:Str):Yg->List Str
|.menu t ks wr wa=>EE "menu" name wr wa t::ks.map λk=>sr "key" k.1 k.2
|.names t ks wr wa=>EE "names" name wr wa t::ks.map λk=>sr "name" k.1 k.2
|.hours sp l=>sr "hours" name l::sp.map λs=>Pr "from" (num s.1) (num s.2.1) s.2.2
|.hand t=>[sr "hand" name t]
|.fin t=>[sr "end" name t]
def Yi.rows (h:Yi):List Str:=("first"++(sp++h.first):Str)::(h.letters.map (λl=>sr "letters" l.1 l.2)++h.rooms.flatMap λr=>Cr r.1 r.2)
def Yi.text (h:Yi):Str:=TL "\n" h.rows
end MT
namespace PU
open PySem L2
def chZ(fc:Yb->R PV)(g':PV->PV->Option PV)(ρ:Yb)(q:PV):PV->R PV
|.bl Y2=>iA (opP g' q) (fc ρ)
|.bl Y1=>.ok @B
|_=>.no
def chQ(fc:Yb->R PV)(g g':PV->PV->Option PV)(ρ:Yb)(p q:PV):R PV:=iA @sa (R.Yn @en)
@[simp]theorem MV(fc:Yb->R PV)(g':PV->PV->Option PV)(ρ:Yb)(q:PV):chZ fc g' ρ q @L=iA (opP g' q) (fc ρ):=by rfl
@[simp]theorem Qe(fc:Yb->R PV)(g':PV->PV->Option PV)(ρ:Yb)(q:PV):chZ fc g' ρ q @B=.ok @B:=by rfl
@[simp]theorem MW(fc:Yb->R PV)(g g':PV->PV->Option PV)(ρ:Yb)(p q:PV):chQ fc g g' ρ p q=iA @sa (R.Yn @en):=by rfl
@[simp]theorem KW{fa fb fc:Yb->R PV}{g g':PV->PV->Option PV}{ρ:Yb}:l7 fa fb fc g g' ρ=xD (chQ fc g g' ρ) (fa ρ) (fb ρ):=by
 unfold l7;cases fa ρ with
|ok p=>
  cases fb ρ with
  |ok q=>
   simp only[R.Ym,GF,MW];cases g p q with
   |none=>rfl
   |some z=>
    simp only[R.YR,R.Ym,pE];cases z with
    |bl b=>
     cases b with
     |true=>
      rw[MV];cases fc ρ<;>rfl
     |false=>rfl
    |_=>rfl
  |_=>rfl
|_=>cases fb ρ<;>rfl
theorem CV(ps:List PV)(i:Nat):(A8 ps)[i]?=ps[i]?.map λp=>[.int i,p]:=by
 grind[A8,Th,Up,UD]
theorem mv{α:Type}{enc:α->PV}{h:YT}{t:Yb->R Bool}{fe:Yb->R PV}{ρ:Yb}(P:α->Bool)(F:α->PV):∀(xs:List α),
  (∀x∈xs,∃ρ1,h @eo ρ=Z' ρ1/\t ρ1=.ok (P x)/\(P x=Y2->fe ρ1=.ok (F x)))->cm h t fe ρ @d3=.ok ((xs.filter P).map F)
|[],_=>rfl
|x::xs,hs=>by
  obtain⟨ρ1,e1,e2,e3⟩:=hs x (RZ ..);have ih:=mv P F xs λy hy=>hs y (R6 _ hy)
  grind[cm,R.YR,R.Ym,Ww,Wx]
@[simp]theorem OY{n:Nat}{t:Yb->R Bool}{g:Yb->R Fl}{ρ:Yb}:whS n t g ρ=whF t g n ρ:=by rfl
def mdK(fe:Yb->R PV)(g:PV->PV->Option PV)(ρ:Yb)(p:PV):R PV:=if vz p=Y2 then iA (opP g p) (fe ρ)else .no
@[simp]theorem Qa(fe:Yb->R PV)(g:PV->PV->Option PV)(ρ:Yb)(ks:List Key)(ps:List PV):mdK fe g ρ @aD=iA (opP g @aD) @dw:=by rfl
@[simp]theorem LD{fo fe:Yb->R PV}{g:PV->PV->Option PV}{ρ:Yb}:D9 fo fe g ρ=iA (mdK fe g ρ) (fo ρ):=by
 unfold D9;cases fo ρ with
|ok p=>
  rw[R.Ym,pE];unfold mdK
  split
  .cases fe ρ<;>rfl
  .rfl
|_=>rfl
end PU
namespace WO
open PySem L2 PU MT
def sg(c:Nat):PV:=.str ⟨#[c]⟩
theorem ad6(l:List Nat):iW @dg=Z' (l.map sg):=by rfl
theorem ac1(c:Nat)(l:List Nat):YQ (sg c) @dg=some (.bl (decide (c∈l))):=by
 show Z' (PV.bl (inS ⟨#[c]⟩ @dz))=_;have e:=PySem.StrLaws.found_one @dz c;rw[bO]at e;unfold inS;rw[e]
theorem Yw{α:Type}{enc:α->PV}{h:YT}{fe:Yb->R PV}{ρ:Yb}(F:α->PV)(xs:List α)
  (hs:∀x∈xs,∃ρ1,h @eo ρ=Z' ρ1/\fe ρ1=.ok (F x)):cm h iF fe ρ @d3=.ok (xs.map F):=by
 have e:=mv (t:=iF) (λ_=>Y2) F xs λx hx=>by
  obtain⟨ρ1,a,b⟩:=hs x hx;exact⟨ρ1,a,Io,λ_=>b⟩
 rw[List.filter_eq_self.mpr @dS]at e;exact e
end WO
namespace PU
open PySem
section
variable{p:PV}{l:Sl}{ρ:Yb}{i:Nat}
noncomputable def Hb(i:Nat)(ρ:Yb)(p:PV):R Yb:=match ρ[i]? with
|some (.own (.lst ps))=>(match p with
  |.lst qs=>if ps.length+qs.length<=16777216 then .ok (ρ.set i (.own @fb))else .no
  |_=>.no)
|_=>.no
@[simp]theorem ON(ps qs:List PV):Hb 0 (.own @X::ρ) @cp=if ps.length+qs.length<=16777216 then .ok (.own @fb::ρ)else .no:=by rfl
@[simp]theorem OL:Hb (i+1) (l::ρ) p=uc (Hu l) @lM:=by
 unfold Hb;rw[Rf];cases ρ[i]? with
|none=>rfl
|some x=>
  cases x with
  |own q=>
   cases q with
   |lst ps=>
    cases p with
    |lst qs=>dsimp only;split<;>rfl
    |_=>rfl
   |_=>rfl
  |_=>rfl
def Nh(i:Nat)(ρ:Yb)(p:PV):R Fl:=uc .next @lM
@[simp]theorem JZ:Nh i ρ p=uc .next @lM:=by rfl
def Ni(b:Bool)(i:Nat)(ρ:Yb)(r:R PV):R Fl:=if b=Y2 then iA (Nh i ρ) r else .no
@[simp]theorem OM(r:R PV):Ni Y2 i ρ r=iA (Nh i ρ) r:=by rfl
@[simp]theorem O7(f:Yb->R PV):DG i f ρ=Ni (Du i ρ) i ρ @u:=by
 unfold DG Ni Du;cases e:ρ[i]? with
|none=>rfl
|some x=>
  cases x with
  |own q=>
   cases q with
   |lst ps=>
    dsimp only;rw[if_pos rfl];cases f ρ with
    |ok p=>
     simp only[R.Ym,pE,JZ];unfold Hb;rw[e];cases p with
     |lst qs=>dsimp only;split<;>rfl
     |_=>rfl
    |er x=>rfl
    |no=>rfl
   |_=>rfl
  |_=>rfl
end
end PU
namespace FA
open PySem L2 PU MT
@[simp]theorem Cz:(QP "menu"=QP "hours")=False:=by decide +kernel
@[simp]theorem BM:(QP "names"=QP "hours")=False:=by decide +kernel
@[simp]theorem CA:(QP "hand"=QP "hours")=False:=by decide +kernel
@[simp]theorem Ej:(QP "end"=QP "hours")=False:=by decide +kernel
@[simp]theorem yI:(QP "first"=QP "letters")=False:=by decide +kernel
@[simp]theorem BN:(QP "first"=QP "rooms")=False:=by decide +kernel
@[simp]theorem yH:(QP "letters"=QP "rooms")=False:=by decide +kernel
noncomputable def holds(hour:Int)(s:Int×Int×Str):Bool:=decide (s.1<=hour)&&decide (hour<s.2.1)
noncomputable def targets:Yg->List Str
|.menu _ ks wr wa=>wr.2::wa.2::ks.map @s
|.names _ ks wr wa=>wr.2::wa.2::ks.map @s
|.hours sp l=>l::sp.map (·.2.2)
|.hand _=>[]
|.fin _=>[]
abbrev vT:=List @ak
noncomputable def Z5(rs:vT)(n:Str):Option Yg:=(rs.find? λr=>decide (r.1=n)).map @s
def names(rs:vT):List Str:=rs.map @d
theorem qf(n:Str):∀rs:vT,bT @eQ @c7 (.inr n)=(Z5 rs n).map Yg.pv
|[]=>rfl
|r::rs=>by
  have ih:=qf n rs
  grind[Z5,sL,List.find?_cons_of_neg]
theorem aa9(rs:vT)(n:Str):Yh @b4 @bm=(Z5 rs n).map Yg.pv:=qf n rs
theorem Bx(n:Str):∀rs:vT,((rs.map λr=>(Rp r.1:Key)).any λj=>decide (j=.inr n))=decide (n∈names rs)
|[]=>by simp[names]
|r::rs=>by
  grind[names,decide,decide_eq_true,RZ,R6,decide_eq_false]
theorem YZ(rs:vT)(n:Str):YQ @bm @b4=some (.bl (decide (n∈names rs))):=by
 have e:YQ @bm @b4=Z' (.bl ((rs.map λr=>(Rp r.1:Key)).any λj=>decide (j=.inr n))):=rfl;rw[e,Bx]
theorem ae1(rs:vT):jT @b4=Z' @sg:=by
 grind[jT,ay,RB]
def lost (h:Yi):List PV:=((((QP "",h.first)::h.rooms.flatMap λr=>(targets r.2).map λt=>(r.1,t)).filter λt=>!decide (t.2=QP "back")&&!decide (t.2∈names h.rooms))).map λt=>.tup [.str "lost",.str t.1,.str t.2]
noncomputable def On(ls:List @K)(c:Nat):Option Str:=(ls.find? λl=>decide (c∈l.2.cps.toList)).map @d
def Nt (ls:List @K) (w:Str):Option Str:=if w.cps.toList.all (λc=>(On ls c).isSome)=Y2 then Z' (TL "" (w.cps.toList.map λc=>(On ls c).getD ""))else Y'
theorem join_le (xs:List Str) (b:Nat) (h:∀x∈xs,x.length<=b) (hb:xs.length*b<=16777216):ja @fM (.lst @fh)=Z' (.str (TL "" xs)):=by
 apply yV;have e:("":Str).length=0:=by rfl
 rw[e,Nat.mul_zero,Nat.add_zero];exact Rg (J4 h) hb
def coded(ls:List @K):Yg->List (Str×Option Str)
|.names _ ks _ _=>ks.map λk=>(k.1,Nt ls k.1)
|_=>[]
theorem ag1{α:Type}(xs:List α)(i:Nat)(h:i<xs.length):qy xs (Z' ((i:Int)+1)) Y'=xs.drop (i+1):=by
 grind[qy,HT.YB,Nat.min_eq_left,So]
end FA
namespace MT
open PySem L2 PU
mutual
noncomputable def flat:PV->Bool
|.tup ps=>GZ ps
|.lst ps=>GZ ps
|.dct _ _=>Y1
|.ZC _ _=>Y1
|.fn _ _=>Y1
|_=>Y2
noncomputable def GZ:List PV->Bool
|[]=>Y2
|p::ps=>flat p&&GZ ps
end
noncomputable def HU(rs:List @ak)(k:Str)(r:Yg):List @ak:=if k∈rs.map (·.1)then rs.map (λx=>if x.1=k then (x.1,r)else x)else rs++[(k,r)]
theorem zE(rs:List @ak)(k:Str)(r:Yg):nR @eQ @c7 @iF r.pv=ay (HU rs k r):=by
 unfold nR HU
 by_cases h:k∈rs.map @d
 .rw[if_pos h,if_pos (by
   simp_all)]
  have e1:(rs.map λx=>if x.1=k then (x.1,r)else x).map (λr=>(Rp r.1:Key))=rs.map λr=>.inr r.1:=by grind[Rm,Sy]
  have e2:nQ @eQ @c7 @iF r.pv=(rs.map λx=>if x.1=k then (x.1,r)else x).map λr=>r.2.pv:=by
   unfold nQ;clear h e1
   induction rs with
   |nil=>rfl
   |cons x rs ih=>
    grind[V4,Sum.inr.injEq]
  unfold ay;rw[e1,e2]
 grind[W7,ay]
end MT
namespace NM
open PySem L2 PU MT
noncomputable def c24:List Nat:=@mI
theorem F7:("acdefghijlmnopqrstuvwxyz":Str)=Yd c24:=by rfl
def JG(n:Int):Nat:=(1+n%8).toNat
def PR(n:Int):Int:=n/8%(1+n%8)
def JH(n:Int)(t k:Nat):Nat:=c24.getD ((n/((k:Int)+2)+(t:Int)*(if (k:Int)=PR n then 1 else 0))%24).toNat 0
def Gp(n:Int)(t i:Nat):List Nat:=(S7 i).map (JH n t)
def nm(n:Int)(t:Nat):Str:=Yd (Gp n t (JG n))
end NM
namespace PU
def Pv:PV->R @e
|.lst ps=>.ok ps.reverse
|_=>.no
@[simp]theorem Ov(ps:List PV):Pv @X=.ok ps.reverse:=by rfl
open PySem L2
def Pp(p:PV)(lh:Option Int×Option Int):R PV:=R.Yn (N5 p lh.1 lh.2)
@[simp]theorem Q1(p:PV)(a b:Option Int):Pp p (a,b)=R.Yn (N5 p a b):=by rfl
@[simp]theorem II(ps:List PV)(lo hi:Option Int):N5 @X lo hi=Z' @lR:=rfl
open MT
@[simp]theorem uA{α:Type}(f:α->Str)(l:List α):(l.map λx=>PV.str (f x)).all iD=Y2:=by induction l<;>simp_all[iD]
def MF(fe fd:Yb->R PV)(g:PV->PV->PV->Option PV)(ρ:Yb)(p:PV):R PV:=if vz p=Y2 then xD @o9 @dw (fd ρ)else .no
@[simp]theorem OF(fe fd:Yb->R PV)(g:PV->PV->PV->Option PV)(ρ:Yb)(ks:List Key)(ps:List PV):MF fe fd g ρ @aD=xD (λq y=>R.Yn (g @aD q y)) @dw (fd ρ):=by rfl
@[simp]theorem KQ{fo fe fd:Yb->R PV}{g:PV->PV->PV->Option PV}{ρ:Yb}:iV fo fe fd g ρ=iA (MF fe fd g ρ) (fo ρ):=by
 unfold iV;cases fo ρ with
|ok p=>
  rw[R.Ym,pE];unfold MF
  split
  .cases fe ρ with
   |ok q=>cases fd ρ<;>rfl
   |er x=>rfl
   |no=>rfl
  .rfl
|er x=>rfl
|no=>rfl
end PU
namespace BG
open PySem L2 PU MT
abbrev W:=List Nat
def pre(p c:W):Bool:=p.isPrefixOf c
def many(cs:List W)(p:W):Nat:=(cs.filter (pre p)).length
noncomputable def own(cs:List W)(c:W):W:=match (S7 (c.length-1)).find? (λi=>decide (many cs (c.take (i+1))=1))with
|some i=>c.take (i+1)
|none=>c
def Code(c:W):Prop:=∃x:W,c=x++[35]/\35∉x
theorem ad5{a b:W}(h:Yd a=Yd b):a=b:=by
 have:=congrArg (λs:Str=>s.cps.toList) h;simpa using this
theorem kF(ks:List Key)(ps:List PV)(k:Key)(v:PV)(hl:ks.length=ps.length):∃ks' ps',nR ks ps k v=.dct ks' ps'/\ks'.length=ps'.length/\ks'.length<=ks.length+1/\∀j,bT ks' ps' j=if k=j then Z' v else bT ks ps j:=by
 unfold nR
 by_cases hk:@dG=Y2
 .rw[if_pos hk]
  refine⟨ks,nQ ks ps k v,rfl,by simp[nQ,hl],by simp,λj=>?_⟩
  induction ks generalizing ps with
  |nil=>simp at hk
  |cons a ks ih=>
   cases ps with
   |nil=>simp at hl
   |cons b ps=>
    have hl':ks.length=ps.length:=by simp_all
    have e:nQ (a::ks) (b::ps) k v=(if a=k then v else b)::nQ ks ps k v:=rfl;rw[e];simp only[sL]
    by_cases haj:a=j
    .grind
    .rw[if_neg haj,if_neg haj]
     by_cases hk2:@dG=Y2
     .simp_all
     .have hak:a=k:=by simp_all
      have hkj:¬ k=j:=λz=>haj (hak.trans z);rw[if_neg hkj]
      have:nQ ks ps k v=ps:=by
       clear ih hk e hl
       induction ks generalizing ps with
       |nil=>cases ps with
        |nil=>rfl
        |cons=>simp at hl'
       |cons c ks ih=>
        cases ps with
        |nil=>simp at hl'
        |cons d ps=>
         simp_all[nQ,Sv]
      rw[this]
 .rw[if_neg hk]
  refine⟨ks++[k],ps++[v],rfl,by simp[hl],by simp,λj=>?_⟩
  induction ks generalizing ps with
  |nil=>
   grind[bT]
  |cons a ks ih=>
   cases ps with
   |nil=>simp at hl
   |cons b ps=>
    grind[sL]
end BG
namespace PU
def Pu:PV->R @e
|.tup ps=>.ok ps.reverse
|_=>.no
@[simp]theorem Ou(ps:List PV):Pu @aq=.ok ps.reverse:=by rfl
end PU
namespace NW
open PySem L2 PU MT BG
theorem Zv{k:Key}:∀(ks:List Key)(ps:List PV),ks.length=ps.length->@dG=(bT ks ps k).isSome
|[],[],_=>rfl
|[],_::_,h=>by simp at h
|_::_,[],h=>by simp at h
|j::ks,p::ps,h=>by
  rw[sL,Sv]
  by_cases e:j=k
  .simp[e]
  .rw[if_neg e,Zv ks ps @i]
   simp[e]
end NW
namespace PU
open PySem L2
@[simp]theorem Ly(p:PV)(ρ:Yb):Mc 0 (.own p::ρ)=.ok @au:=by rfl
@[simp]theorem Lx(i:Nat)(l:Sl)(ρ:Yb):Mc (i+1) (l::ρ)=Mc i ρ:=by rfl
open MT
def Fo:PV->PV->R @e
|.tup ps,.lst qs=>if (ps.all iD ||qs.all iD)=Y2 then .ok ((xB ps qs).map .tup)else .no
|_,_=>.no
@[simp]theorem Au(ps qs:List PV)(h:(ps.all iD ||qs.all iD)=Y2):Fo @aq @cp=.ok @qi:=by unfold Fo;exact if_pos h
@[simp]theorem Fu{f g:Yb->R PV}{ρ:Yb}:sD f g ρ=xD Fo @u @er:=by
 unfold sD;cases f ρ with
|ok p=>
  cases g ρ with
  |ok q=>rw[R.Ym,R.Ym,GF];cases p<;>cases q<;>rfl
  |er x=>rfl
  |no=>rfl
|er x=>rfl
|no=>rfl
def JL(fe fd:Yb->R PV)(g:PV->PV->PV->Option PV)(ρ:Yb)(p:PV):R PV:=if uk p=Y2 then xD @o9 @dw (fd ρ)else .no
@[simp]theorem OC(fe fd:Yb->R PV)(g:PV->PV->PV->Option PV)(ρ:Yb)(x:Str):JL fe fd g ρ @H=xD (λq y=>R.Yn (g @H q y)) @dw (fd ρ):=by unfold JL;exact if_pos rfl
@[simp]theorem LF{fo fe fd:Yb->R PV}{g:PV->PV->PV->Option PV}{ρ:Yb}:Dc fo fe fd g ρ=iA (JL fe fd g ρ) (fo ρ):=by
 unfold Dc;cases fo ρ with
|ok p=>
  show (if uk p=Y2 then _ else _)=JL fe fd g ρ p;unfold JL
  split
  .cases fe ρ with
   |ok a=>cases fd ρ<;>rfl
   |er x=>rfl
   |no=>rfl
  .rfl
|er x=>rfl
|no=>rfl
def JM(fe:Yb->R PV)(g:PV->PV->Option PV)(ρ:Yb)(p:PV):R PV:=if uk p=Y2 then iA (opP g p) (fe ρ)else .no
@[simp]theorem OD(fe:Yb->R PV)(g:PV->PV->Option PV)(ρ:Yb)(x:Str):JM fe g ρ @H=iA (opP g @H) @dw:=by unfold JM;exact if_pos rfl
@[simp]theorem KR{fo fe:Yb->R PV}{g:PV->PV->Option PV}{ρ:Yb}:fF fo fe g ρ=iA (JM fe g ρ) (fo ρ):=by
 unfold fF;cases fo ρ with
|ok p=>
  show (if uk p=Y2 then _ else _)=JM fe g ρ p;unfold JM
  split
  .cases fe ρ<;>rfl
  .rfl
|er x=>rfl
|no=>rfl
end PU
namespace TX
open PySem PySem.Builtin PySem.Builtin.Str
noncomputable def pos(c:Nat):Nat->List Nat->List Nat
|_,[]=>[]
|i,y::r=>if y=c then i::pos c (i+1) r else pos c (i+1) r
noncomputable def YW(c:Nat):Nat->List Nat->List @y
| 0,x=>[x]
|k+1,x=>match x.dropWhile (· != c)with
  |[]=>[x]
  |_::r=>x.takeWhile (· != c)::YW c k r
theorem A6(x:Str)(c i:Nat):(i+(⟨#[c]⟩:Str).length<=x.length/\subAt x ⟨#[c]⟩ i=Y2)↔x.cps.toList[i]?=Z' c:=StrLaws.subAt_one x c i
theorem qP(x:Str)(c limit:Nat):∀(l:List Nat)(i:Nat)(f:Array Nat)(free:Nat),free<=i->(∀j,x.cps.toList[i+j]?=l[j]?)->f.size<=limit->
  (forIn (List.range' i (l.length+1)) (f,free) (UH x ⟨#[c]⟩ x.length limit)).run.fst.toList=f.toList++(pos c i l).take (limit-f.size)
|[],i,f,free,hf,hl,hs=>by
  have h0:x.cps.toList[i]?=Y':=by simpa using hl 0
  grind[subAt,A6,UH,pos,W4]
|y::r,i,f,free,hf,hl,hs=>by
  have h0:x.cps.toList[i]?=Z' y:=by simpa using hl 0
  have hr:∀j,x.cps.toList[i+1+j]?=r[j]?:=λj=>by
   have:=hl (j+1)
   grind
  rw[QV,W4,VD]
  by_cases hy:y=c
  .subst hy
   obtain⟨h1,h2⟩:=(A6 x y i).mpr h0
   by_cases hz:f.size<limit
   .have e:UH x ⟨#[y]⟩ x.length limit i (f,free)=pure (.yield (f.push i,i+1)):=if_pos ⟨⟨⟨hz,hf⟩,h1⟩,h2⟩
    have ih:=qP x y limit r (i+1) (f.push i) (i+1) @C hr @b;rw[e];simp only[pure_bind];rw[ih,pos,if_pos rfl,Array.size_push,Array.toList_push];have:limit-f.size=(limit-(f.size+1))+1:=by grind
    simp_all
   .have hn:¬ (((f.size<limit/\free<=i)/\i+(⟨#[y]⟩:Str).length<=x.length)/\subAt x ⟨#[y]⟩ i=Y2):=λz=>hz z.1.1.1
    have e:UH x ⟨#[y]⟩ x.length limit i (f,free)=pure (.yield (f,free)):=if_neg hn;have ih:=qP x y limit r (i+1) f free @b hr hs
    simp_all
  .have hn:¬ (((f.size<limit/\free<=i)/\i+(⟨#[c]⟩:Str).length<=x.length)/\subAt x ⟨#[c]⟩ i=Y2):=λz=>by
    grind[A6]
   have e:UH x ⟨#[c]⟩ x.length limit i (f,free)=pure (.yield (f,free)):=if_neg hn;have ih:=qP x c limit r (i+1) f free @b hr hs
   grind[pure_bind,pos]
theorem Za(x:Str)(c limit:Nat):occurrences x ⟨#[c]⟩ 0 x.length limit=(pos c 0 x.cps.toList).take limit:=by
 rw[StrLaws.occ_eq];have:=qP x c limit x.cps.toList 0 #[] 0 @C (λj=>by rw[Vx]) (UL _)
 grind[Ub]
abbrev mk(l:List Nat):Str:=@sl
theorem zM(c:Nat):∀(l:List Nat)(a:Nat),pos c a l=match l.dropWhile (· != c)with
  |[]=>[]
  |_::r=>(a+(l.takeWhile (· != c)).length)::pos c (a+(l.takeWhile (· != c)).length+1) r
|[],_=>rfl
|y::l,a=>by
  by_cases h:y=c
  .subst h
   simp[pos]
  .have ih:=zM c l (a+1)
   grind[pos,List.dropWhile_cons_of_pos,List.takeWhile_cons_of_pos,QV,List.takeWhile]
theorem sO(x:Str)(a b:Nat)(l:List Nat)(h:(x.cps.toList.drop a).take (b-a)=l):strSub x a b=mk l:=by
 have:=StrLaws.strSub_toList x a b;rw[h]at this;exact Str.ext' (by rw[<-this])
theorem kx(x:Str)(c:Nat):∀(k a:Nat)(l:List Nat),x.cps.toList.drop a=l->XE x 1 a ((pos c a l).take k)=(YW c k l).map mk
| 0,a,l,h=>by
  show [strSub x a x.length]=[mk l]
  grind[sO,So,SY,Uy,Ub]
|k+1,a,l,h=>by
  rw[zM];have e:x.cps.toList.length=x.length:=by rfl
  have hl:=congrArg SY h;rw[Uy]at hl;have ht:=W0 (p:=(· != c)) (l:=l);unfold YW;cases hd:l.dropWhile (· != c)with
  |nil=>
   show [strSub x a x.length]=[mk l]
   grind[sO,So]
  |cons z r=>
   rw[hd]at ht;show strSub x a (a+_)::XE x 1 (a+_+1) ((pos c (a+_+1) r).take k)=mk _::(YW c k r).map mk;clear hd;generalize l.takeWhile (· != c)=tw at ht ⊢
   have h2:x.cps.toList.drop (a+tw.length+1)=r:=by
    rw[UK,<-List.drop_drop,h,<-ht,List.drop_append];simp
   rw[kx x c k _ r h2]
   grind[sO,V1]
theorem wR{c:Nat}(h:c<256)(x:Str):decide (Sf x<Sf (⟨#[c]⟩:Str))=Y1:=by
 grind[Sf,decide_eq_false]
theorem ad4(x:Str):mk x.cps.toList=x:=Str.ext' @a
theorem qJ{c:Nat}{x:Str}{k:Nat}(h:(pos c 0 x.cps.toList).take k=[]):(YW c k x.cps.toList).map mk=[x]:=by
 have:=kx x c k 0 x.cps.toList rfl;rw[h]at this;rw[<-this];show [strSub x 0 x.length]=[x];rw[StrLaws.sub_whole]
theorem aa7{c:Nat}(h:c<256)(x:Str)(k:Nat):Txt.splitMax x ⟨#[c]⟩ (k:Int)=(YW c k x.cps.toList).map mk:=by
 have e:Xk x (k:Int)=k:=by rfl
 unfold Txt.splitMax;rw[wR h,Ur,e,Za]
 split
 .rename_i hl
  have hl:x.length<1:=of_decide_eq_true hl
  grind[T8,Ub,qJ,pos]
 .split
  .grind[qJ]
  .rw[WR]
   exact kx x c k 0 x.cps.toList rfl
theorem Zq{c:Nat}(h:c<256)(x:Str):Txt.split x ⟨#[c]⟩=(YW c (x.length+1) x.cps.toList).map mk:=by
 unfold Txt.split;rw[wR h,Ur,Za]
 split
 .grind[T8,Ub,qJ,pos]
 .split
  .grind[qJ]
  .rw[WR]
   exact kx x c _ 0 x.cps.toList rfl
theorem ZS(c:Nat)(x:Str):(Txt.partition x ⟨#[c]⟩).1=mk (x.cps.toList.takeWhile (· != c))/\(Txt.partition x ⟨#[c]⟩).2.2=mk ((x.cps.toList.dropWhile (· != c)).drop 1):=by
 have e:x.cps.toList.length=x.length:=by rfl
 have ht:=W0 (p:=(· != c)) (l:=x.cps.toList);unfold Txt.partition;rw[Za,zM];cases hd:x.cps.toList.dropWhile (· != c)with
|nil=>
  rw[hd,Rh]at ht;exact⟨by simp_all,rfl⟩
|cons z r=>
  rw[hd]at ht;have hl:=congrArg SY ht;generalize x.cps.toList.takeWhile (· != c)=tw at ht hl ⊢;rw[RF,QV]at hl;refine⟨sO x 0 _ _ ?_,sO x _ _ _ ?_⟩
  .grind
  .rw[<-ht,List.drop_append]
   show List.take _ _=r;simp only[Vx];rw[List.drop_eq_nil_of_le @a,List.nil_append,show tw.length+(⟨#[c]⟩:Str).length-tw.length=1 by show tw.length+1-tw.length=1;simp,List.drop_succ_cons,WU];refine So ?_;show r.length<=x.length-(tw.length+1);omega
noncomputable def glue(c:Nat):List @y->List Nat->List Nat
|[],t=>t
|w::ws,t=>w++c::glue c ws t
theorem drop_free{c:Nat}{w:List Nat}(h:c∉w)(r:List Nat):(w++c::r).dropWhile (· != c)=c::r/\(w++c::r).takeWhile (· != c)=w:=by
 have hw:∀y∈w,(y != c)=Y2:=λy hy=>by
  grind
 simp_all
theorem aa8{c:Nat}(t:List Nat):∀ws:List @y,(∀w∈ws,c∉w)->YW c ws.length @dY=ws++[t]
|[],_=>rfl
|w::ws,h=>by
  obtain⟨h1,h2⟩:=drop_free (h w @a) @dY;show YW c (ws.length+1) (w++c::glue c ws t)=_;unfold YW;rw[h1,h2];show w::YW c ws.length @dY=w::@ia;rw[aa8 t ws λw' hw=>h w' (by simp[hw])]
theorem Zr{c:Nat}{t:List Nat}(ht:c∉t):∀(ws:List @y)(k:Nat),ws.length<=k->(∀w∈ws,c∉w)->YW c k @dY=ws++[t]
|[],0,_,_=>rfl
|[],k+1,_,_=>by
  show YW c (k+1) t=[t];unfold YW
  have hw:∀y∈t,(y != c)=Y2:=λy hy=>by
   grind
  have:=List.dropWhile_append_of_pos (l₂:=[]) hw
  simp_all
|w::ws,0,hk,_=>by simp at hk
|w::ws,k+1,hk,h=>by
  obtain⟨h1,h2⟩:=drop_free (h w @a) @dY;show YW c (k+1) (w++c::glue c ws t)=_;unfold YW;rw[h1,h2];show w::YW c k @dY=w::@ia;rw[Zr ht ws k @i λw' hw=>h w' (by simp[hw])]
end TX
namespace K46
open PySem L2 PU MT
abbrev sgn(c:Nat):PV:=.str ⟨#[c]⟩
noncomputable def gf(m:Nat)(x:List Nat):Bool:=decide (1<=x.length)&&decide (x.length<=m)&&x.all λc=>decide (97<=c)&&decide (c<=122)
theorem dw(x:List Nat):(Yd x).length=x.length:=by rfl
theorem gW{x:List Nat}(h:x.length<=16777216):jT @F=Z' @sP:=by rw[yU @i,dw]
theorem By{α:Type}(p:α->Bool):∀xs:List α,EU @oj=Z' (.bl (xs.all p)):=λxs=>by
 have:∀l:List α,p8 @pn=Z' (l.map p):=by
  intro l
  induction l with
  |nil=>rfl
  |cons a l ih=>grind[p8]
 show ((p8 _).bind λbs=>Z' (PV.bl (bs.all id)))=_
 simp_all
theorem KD{α:Type}(p:α->Bool):∀xs:List α,Kj @oj=Z' (.bl (xs.any p)):=λxs=>by
 have:∀l:List α,p8 @pn=Z' (l.map p):=by
  intro l
  induction l with
  |nil=>rfl
  |cons a l ih=>grind[p8]
 show ((p8 _).bind λbs=>Z' (PV.bl (bs.any id)))=_
 simp_all
noncomputable def Al:List Nat:=[97,98,99,100,101,102,103,104,105,106,107,108,109,110,111,112,113,114,115,116,117,118,119,120,121,122]
theorem Ci:(QP "abcdefghijklmnopqrstuvwxyz")=Yd Al:=by rfl
theorem JO(c:Nat):decide (c∈Al)=(decide (97<=c)&&decide (c<=122)):=by
 by_cases h:c<123
 .exact(by decide +kernel:∀c<123,decide (c∈Al)=(decide (97<=c)&&decide (c<=122))) c h
 .have e:c∉Al:=λm=>h ((by decide +kernel:∀d∈Al,d<123) c m)
  rw[decide_eq_false e,decide_eq_false (p:=c<=122) λz=>h (Nat.lt_succ_of_le z),VW]
theorem ow(x:List Nat)(m:Nat)(hx:x.length<=16777216):cA [.str @n,.int m]=Z' (.bl (gf m x)):=by
 sleep 2;have e1:iW @F=Z' @d9:=WO.ad6 x
 have e2:∀ρ:Yb,cm @Z iF gQ (.no::ρ) @d9=.ok (x.map λc=>.bl (decide (c∈Al))):=fun ρ=>WO.Yw _ x λc _=>⟨.val @cv::ρ,rfl,by
  have:=WO.ac1 c Al;simp[gQ,c_SMALL_LETTERS,Ci];rw[show YQ (.str ⟨#[c]⟩) (.str (Yd Al))=_ from this];rfl⟩
 have e3:=By (λc=>decide (c∈Al)) x;have e4:(x.map λc=>PV.bl (decide (c∈Al))).length<=16777216:=by simp_all
 have e5:(x.all λc=>decide (c∈Al))=x.all λc=>decide (97<=c)&&decide (c<=122):=by congr 1;funext c;exact JO c
 unfold gf
 by_cases h1:1<=x.length
 .have i1:decide ((1:Int)<=(x.length:Int))=Y2:=decide_eq_true @q
  by_cases h2:x.length<=m
  .have i2:decide ((x.length:Int)<=(m:Int))=Y2:=decide_eq_true @q
   simp_all[decide_eq_true,fm,PU.start,gW,dE]
  .have i2:decide ((x.length:Int)<=(m:Int))=Y1:=decide_eq_false @q
   simp_all[decide_eq_true,decide_eq_false,fm,PU.start,gW]
 .have i1:decide ((1:Int)<=(x.length:Int))=Y1:=decide_eq_false @q
  simp_all[decide_eq_false,fm,PU.start,gW]
theorem qe{x y:List Nat}:(Yd x=Yd y)=(x=y):=by
 refine propext ⟨λh=>?_,λh=>by rw[h]⟩;have:=congrArg (λs:Str=>s.cps.toList) h;simpa using this
def fG(x:List Nat):Bool:=gf 8 x&&!decide @iu
theorem Bw:QP "back"=Yd @eT:=by rfl
theorem EL(x:List Nat)(hx:x.length<=16777216):gp [.str @n]=Z' (.bl (fG x)):=by
 sleep 2;have e:cA [.str @n,.int 8]=_:=ow x 8 hx;unfold fG;cases h:gf 8 x with
|true=>simp_all[kQ,PU.start,Bw,qe]
|false=>simp_all[kQ,PU.start]
theorem K9(x:List Nat)(hx:x.length<=16777216):oJ [.str @n]=Z' (.bl @mc):=by
 sleep 2;have e:cA [.str @n,.int 12]=_:=ow x 12 hx;simp[oC,PU.start,e]
def iy:List Nat:=[48,49,50,51,52,53,54,55,56,57,42,35]
theorem Ap:QP "0123456789*#"=Yd iy:=by rfl
def rF:List Nat->Bool
|[c]=>decide (c∈iy)
|_=>Y1
theorem MZ(x:List Nat)(hx:x.length<=16777216):mZ [.str @n]=Z' (.bl (rF x)):=by
 sleep 2
 match x,hx with
|[],hx=>simp[kR,PU.start,gW hx,rF]
|[c],hx=>
  have e:YQ (.str (Yd [c])) (.str (Yd iy))=_:=WO.ac1 c iy;simp[kR,PU.start,gW hx,rF,c_KEYS,Ap,e]
|c::d::r,hx=>
  have h:¬ ((r.length:Int)+1+1=1):=by omega
  simp[kR,PU.start,gW hx,rF,h]
noncomputable def I8(c:Nat):Bool:=decide (32<=c)&&decide (c<=126)&&!decide (c=37)
theorem Et(a b:Nat):decide (([a]:List Nat)<[b])=decide (a<b):=by rw[StrLaws.lt_cons_cons,StrLaws.lt_nil_nil,VW,Ur]
theorem vy(c:Nat):gn [sgn c]=Z' (.bl (I8 c)):=by
 sleep 2
 have b1:gLe @bA @cv=some (.bl (decide (32<=c))):=by
  show Z' (PV.bl (!decide (([c]:List Nat)<(QP " ").cps.toList)))=_;rw[show (QP " ").cps.toList=[32] by rfl];rw[Et]
  congr 2
  by_cases h:32<=c
  .simp_all
  .simp_all
 have b2:gLe @cv (.str "~")=some (.bl (decide (c<=126))):=by
  show Z' (PV.bl (!decide ((QP "~").cps.toList<([c]:List Nat))))=_;rw[show (QP "~").cps.toList=[126] by rfl];rw[Et]
  congr 2
  by_cases h:c<=126
  .simp_all
  .simp_all
 have b3:Lo @cv=Z' (.int c):=rfl;have b4:((c:Int)=37)=(c=37):=propext ⟨λh=>by omega,λh=>by omega⟩;unfold I8;cases h1:decide (32<=c)with
|false=>simp_all[cP,PU.start]
|true=>
  rw[h1]at b1;cases h2:decide (c<=126)with
  |false=>simp_all[cP,PU.start]
  |true=>simp_all[cP,PU.start,c_PER_CENT]
noncomputable def qk(x:List Nat):Bool:=decide (1<=x.length)&&decide (x.length<=80)&&x.all I8
theorem GL(x:List Nat)(hx:x.length<=16777216):lO [.str @n]=Z' (.bl (qk x)):=by
 sleep 2;have e1:iW @F=Z' @d9:=WO.ad6 x;have e2:∀ρ:Yb,cm @Z iF ji (.no::ρ) @d9=.ok (x.map λc=>.bl (I8 c)):=fun ρ=>WO.Yw _ x λc _=>⟨.val @cv::ρ,rfl,by simp[ji,vy c]⟩;have e3:=By I8 x;unfold qk
 by_cases h1:1<=x.length
 .have i1:decide ((1:Int)<=(x.length:Int))=Y2:=decide_eq_true @q
  by_cases h2:x.length<=80
  .have i2:decide ((x.length:Int)<=80)=Y2:=decide_eq_true @q
   simp_all[decide_eq_true,hV,PU.start,gW,dE]
  .have i2:decide ((x.length:Int)<=80)=Y1:=decide_eq_false @q
   simp_all[decide_eq_true,decide_eq_false,hV,PU.start,gW]
 .have i1:decide ((1:Int)<=(x.length:Int))=Y1:=decide_eq_false @q
  simp_all[decide_eq_false,hV,PU.start,gW]
def mM:List Nat:=[48,49,50,51,52,53,54,55,56,57]
theorem Ha:QP "0123456789"=Yd mM:=by rfl
theorem Gz{c:Nat}:c∈mM↔48<=c/\c<=57:=by
 constructor
 .intro h
  have:∀d∈mM,48<=d/\d<=57:=by decide
  simp_all
 .intro ⟨h1,h2⟩
  have:c=48\/c=49\/c=50\/c=51\/c=52\/c=53\/c=54\/c=55\/c=56\/c=57:=by grind
  simp_all[mM,R7,Rx]
noncomputable def rH(x:List Nat):Bool:=!x.isEmpty&&(x.all λc=>decide (c∈mM))&&(decide (x=[48])||!decide (x.head?=some 48))
theorem n6:QP ""=Yd []:=by rfl
theorem u4:QP "0"=Yd [48]:=by rfl
theorem AD(x:List Nat)(hx:x.length<=16777216):jg [.str @n]=Z' (.bl (rH x)):=by
 sleep 2;have e1:iW @F=Z' @d9:=WO.ad6 x
 have e2:∀ρ:Yb,cm @Z iF eR (.no::ρ) @d9=.ok (x.map λc=>.bl (decide (c∈mM))):=fun ρ=>WO.Yw _ x λc _=>⟨.val @cv::ρ,rfl,by
  have:=WO.ac1 c mM;simp[eR,c_FIGURES,Ha];rw[show YQ (.str ⟨#[c]⟩) (.str (Yd mM))=_ from this];rfl⟩
 have e3:=By (λc=>decide (c∈mM)) x
 have ec:∀ρ:Yb,YG (dY @eg @Z iF eR 1 []) EU (.val @F::ρ)=.ok (.bl (x.all λc=>decide (c∈mM))):=fun ρ=>by
  simp[e1,e2,e3,dE,hx]
 clear e1 e2 e3;unfold rH;cases x with
|nil=>rfl
|cons c r=>
  have e4:Yh (.str (Yd (c::r))) @bE=Z' @cv:=vV @i @i;have e5:(⟨#[c]⟩:Str)=Yd [c]:=rfl;cases ha:((c::r).all λc=>decide (c∈mM))with
  |false=>
   simp_all[yP,fq,PU.start,n6,qe]
  |true=>
   rw[ha]at ec;cases h0:decide (c::r=[48])with
   |true=>
    simp_all[yP,fq,PU.start,n6,u4,qe]
   |false=>
    have h1:¬ (c=48/\r=[]):=by simp_all
    simp[-yP,fq,PU.start,n6,u4,qe,ec,e4,e5,h1]
open PySem.NumText in
def nw(lo hi L:Nat)(x:List Nat):PV:=if rH x=Y2/\x.length<=L then (if lo<=digitsVal x/\digitsVal x<=hi then .int (digitsVal x)else .Yj)else .Yj
open PySem.NumText in
theorem gC(x:List Nat)(lo hi L:Nat)(t:Str)(hx:x.length<=16777216)(h1:jS (.int hi)=Z' (.str t))(h2:jT (.str t)=Z' (.int L))(h3:L<=600):bf [.str @n,.int lo,.int hi]=Z' (nw lo hi L x):=by
 sleep 2;have e:=AD x hx;unfold nw;cases hf:rH x with
|false=>
  simp_all[bP,PU.start]
|true=>
  rw[hf]at e
  by_cases hl:x.length<=L
  .have g1:¬ ((L:Int)<(x.length:Int)):=by simp[*]
   have hd:AllDigits x:=by
    have hf:=hf;unfold rH at hf;simp only[S5]at hf;intro c hc;exact Gz.mp (of_decide_eq_true (T4.mp hf.1.2 c hc))
   have hne:x≠[]:=λz=>by subst z;cases hf
   have ei:GT @F=Z' (.int (digitsVal x:Nat)):=by
    show (if (Yd x).length<=640 then (WE @n).map PV.int else Y')=_;rw[if_pos (by rw[dw];grind),intText_digits (x:=Yd x) @i @i (by rw[dw];grind),bO];rfl
   rw[if_pos ⟨rfl,hl⟩]
   by_cases a1:lo<=digitsVal x
   .have i1:decide ((lo:Int)<=(digitsVal x:Int))=Y2:=decide_eq_true (by simp[*])
    by_cases a2:digitsVal x<=hi
    .have i2:decide ((digitsVal x:Int)<=(hi:Int))=Y2:=decide_eq_true (by simp[*])
     simp[bP,PU.start,e,gW hx,h1,h2,VB.mpr hl,ei,a1,a2]
    .simp[bP,PU.start,e,gW hx,h1,h2,VB.mpr hl,ei,a1,a2]
   .simp[bP,PU.start,e,gW hx,h1,h2,VB.mpr hl,ei,a1]
  .rw[if_neg λz=>hl z.2]
   simp_all[bP,PU.start,gW,Nat.lt_of_not_le]
inductive Fd where
|name|target|word|key|ZT|letters|text|many|from_|till
deriving DecidableEq
def Fd.s:Fd->Str
|.name=>"name"|.target=>"target"|.word=>"word"|.key=>"key"|.ZT=>"letters key"|.letters=>"letters"|.text=>"text"|.many=>"many"|.from_=>"from"|.till=>"till"
noncomputable def okB(b:Bool)(x:List Nat):PV:=if b=Y2 then .str (Yd x)else .Yj
def fv:Fd->List Nat->PV
|.name,x=>okB (fG x) x
|.target,x=>okB (fG x ||decide @iu) x
|.word,x=>okB @mc x
|.key,x=>okB (rF x) x
|.ZT,x=>okB (rF x&&!decide (x=[35])) x
|.letters,x=>okB (gf 26 x) x
|.text,x=>okB (qk x) x
|.many,x=>nw 1 9 1 x
|.from_,x=>nw 0 23 2 x
|.till,x=>nw 1 24 2 x
theorem DF(f t:Fd):@ig=(f=t):=by
 refine propext ⟨λh=>?_,λh=>by rw[h]⟩;have:∀f t:Fd,decide @ig=Y2->f=t:=by intro f t;cases f<;>cases t<;>decide +kernel
 grind
theorem rV (f:Fd):(f.s=QP "many")=(f=.many):=DF f .many
theorem rX (f:Fd):(f.s=QP "from")=(f=.from_):=DF f .from_
theorem AX (f:Fd):(f.s=QP "till")=(f=.till):=DF f .till
theorem ig (f:Fd):(f.s=QP "name")=(f=.name):=DF f .name
theorem fu (f:Fd):(f.s=QP "target")=(f=.target):=DF f .target
theorem lN (f:Fd):(f.s=QP "word")=(f=.word):=DF f .word
theorem uB (f:Fd):(f.s=QP "key")=(f=.key):=DF f .key
theorem rW (f:Fd):(f.s=QP "letters key")=(f=.ZT):=DF f .ZT
theorem qx (f:Fd):(f.s=QP "letters")=(f=.letters):=DF f .letters
def fB(f:Fd)(x:List Nat):Bool:=match f with
|.name=>fG x
|.target=>fG x ||decide @iu
|.word=>gf 12 x
|.key=>rF x
|.ZT=>rF x&&!decide (x=[35])
|.letters=>gf 26 x
|_=>qk x
theorem fits(f:Fd)(x:List Nat)(hx:x.length<=16777216)(h:f≠.many/\f≠.from_/\f≠.till):AZ @qq=Z' (.bl (fB f x)):=by
 sleep 2;have hb:QP "#"=Yd [35]:=by rfl
 have e26:cA [.str @n,.int 26]=_:=ow x 26 hx;have e1:=EL x hx;have e2:=K9 x hx;have e3:=MZ x hx;have e4:=GL x hx;cases f with
|many=>simp_all
|from_=>simp_all
|till=>simp_all
|name=>simp[j8,fB,PU.start,ig,e1]
|target=>
  cases hn:fG x with
  |true=>simp_all[j8,fB,PU.start,ig,fu]
  |false=>simp_all[j8,fB,PU.start,ig,fu,Bw,qe]
|word=>simp[j8,fB,PU.start,ig,fu,lN,e2]
|key=>simp[j8,fB,PU.start,ig,fu,lN,uB,e3]
|ZT=>
  cases hn:rF x with
  |true=>rw[hn]at e3;simp[j8,fB,PU.start,ig,fu,lN,uB,rW,e3,hb,qe,hn]
  |false=>simp_all[j8,fB,PU.start,ig,fu,lN,uB,rW]
|letters=>simp[j8,fB,PU.start,ig,fu,lN,uB,rW,qx,e26]
|text=>simp[j8,fB,PU.start,ig,fu,lN,uB,rW,qx,e4]
theorem yt(f:Fd)(x:List Nat)(hx:x.length<=16777216):ik @qq=Z' (fv f x):=by
 sleep 2;have e1:bf [.str @n,.int 1,.int 9]=_:=gC x 1 9 1 (UT (9:Int)) hx rfl ↑29 @h;have e2:bf [.str @n,.int 0,.int 23]=_:=gC x 0 23 2 (UT (23:Int)) hx rfl ↑29 @h;have e3:bf [.str @n,.int 1,.int 24]=_:=gC x 1 24 2 (UT (24:Int)) hx rfl ↑29 @h
 by_cases a1:f=.many
 .simp_all[d7,PU.start,rV,fv]
 by_cases a2:f=.from_
 .simp_all[d7,PU.start,rV,rX,fv]
 by_cases a3:f=.till
 .simp_all[d7,PU.start,rV,rX,AX,fv]
 have ef:=fits f x hx ⟨a1,a2,a3⟩;generalize hb:fB f x=b at ef
 have hv:fv f x=okB b x:=by
  cases f<;>first|(rw[<-hb];rfl)|simp_all|simp_all|simp_all
 rw[hv];cases b<;>simp_all[d7,PU.start,rV,rX,AX,okB]
inductive Kd where
|first|letters|menu|key|names|name|hours|from_|hand|fin
deriving DecidableEq
noncomputable def Kd.c:Kd->List Nat
|.first=>[102,105,114,115,116]|.letters=>[108,101,116,116,101,114,115]|.menu=>[109,101,110,117]|.key=>[107,101,121]|.names=>[110,97,109,101,115]
|.name=>[110,97,109,101]|.hours=>[104,111,117,114,115]|.from_=>[102,114,111,109]|.hand=>[104,97,110,100]|.fin=>[101,110,100]
noncomputable def Kd.s:Kd->Str
|.first=>"first"|.letters=>"letters"|.menu=>"menu"|.key=>"key"|.names=>"names"|.name=>"name"|.hours=>"hours"|.from_=>"from"|.hand=>"hand"|.fin=>"end"
def Kd.fs:Kd->List Fd
|.first=>[.name]|.letters=>[.ZT,.letters]|.menu=>[.name,.many,.name,.many,.name,.text]|.key=>[.key,.target]|.names=>[.name,.many,.name,.many,.name,.text]
|.name=>[.word,.name]|.hours=>[.name,.name]|.from_=>[.from_,.till,.name]|.hand=>[.name,.text]|.fin=>[.name,.text]
theorem JV(k:Kd):k.s=Yd k.c:=by cases k<;>rfl
theorem As(k:Kd):32∉k.c:=by cases k<;>decide
def fvs(fs:List Fd)(xs:List @y):List PV:=List.zipWith fv fs xs
def mI:PV->Bool
|.Yj=>Y2
|_=>Y1
def rv(k:Kd)(x:List Nat):PV:=if ((TX.YW 32 k.fs.length x).drop 1).length<k.fs.length then .Yj else if (fvs k.fs @of).any mI=Y2 then .Yj else .lst (fvs k.fs @of)
theorem N9(f:Fd)(x:List Nat):lJ (fv f x)=Y2:=by
 have h1:∀b,lJ (okB b x)=Y2:=λb=>by unfold okB;split<;>rfl
 have h2:∀a b c,lJ (nw a b c x)=Y2:=λa b c=>by unfold nw;split<;>(try split)<;>rfl
 cases f<;>first|exact h1 _|exact h2 _ _ _
theorem JF:∀vs:List PV,(∀v∈vs,lJ v=Y2)->YQ .Yj (.lst vs)=Z' (.bl (vs.any mI)):=λvs h=>by
 show (if lJ PV.Yj=Y2/\vs.all lJ=Y2 then Z' (PV.bl (inV (Z8 .Yj) (vs.map Z8)))else Y')=_;rw[if_pos ⟨rfl,T4.mpr h⟩]
 congr 2
 induction vs with
|nil=>rfl
|cons v vs ih=>
  have:=ih λv hv=>h v (R6 _ hv);have hv:=h v RZ
  have go:∀v:PV,inV (Z8 .Yj) [Z8 v]=mI v->inV (Z8 .Yj) ((v::vs).map Z8)=(v::vs).any mI:=λv e=>by
   grind[Sv,RG,inV]
  cases v with
  |Yj=>rfl
  |bl b=>exact go _ rfl
  |int i=>exact go _ rfl
  |str x=>exact go _ rfl
  |_=>cases hv
theorem uZ(c:Nat):∀(k:Nat)(l:List Nat),(TX.YW c k l).length<=k+1
| 0,l=>by simp[TX.YW]
|k+1,l=>by
  unfold TX.YW
  split
  .simp
  .have:=uZ c k ‹_›
   simp;omega
theorem w6(c:Nat):∀(k:Nat)(l:List Nat),∀y∈TX.YW c k l,y.length<=l.length
| 0,l=>by simp[TX.YW]
|k+1,l=>by
  unfold TX.YW
  split
  .simp
  .rename_i d r e
   intro y hy;rcases R7.mp hy with rfl|hy
   .grind[List.takeWhile_sublist]
   .have h1:=w6 c k r y hy
    grind[List.dropWhile_sublist]
theorem Cg:QP " "=(⟨#[32]⟩:Str):=by rfl
theorem J6 (x:List Nat) (n:Nat) (hx:x.length<=16777216) (hn:n<=100):rR @F @bA @iD=Z' (.lst ((TX.YW 32 n x).map λy=>.str @ew)):=by
 have e:=TX.aa7 (c:=32) @h @n n;rw[bO]at e;show (if _/\_/\_/\(Txt.splitMax @n @aZ n).length<=16777216 then Z' (PV.lst ((Txt.splitMax @n @aZ n).map .str))else Y')=_;rw[Cg,e];have hl:=uZ 32 n x;rw[if_pos ⟨by rfl,by simp_all,by omega,by grind⟩,Rm];rfl
theorem MM(k:Kd):cO @ef c_FIELDS=Z' @B:=by cases k<;>rfl
theorem ML(k:Kd):Yh c_FIELDS @ef=Z' (.tup @gy):=by cases k<;>rfl
theorem Ii(fs:List Fd)(ps:List @y):(xB (fs.map λf=>.str f.s) @jm).map PV.tup=(fs.zip ps).map λq=>.tup @oS:=by
 simp_all[xB,List.zipWith_map,List.zip,W5]
theorem H8(fs:List Fd)(q:Bool):((fs.map λf=>PV.str f.s).all iD ||q)=Y2:=by rw[uA];rfl
theorem zv(k:Kd)(x:List Nat)(hx:x.length<=16777216):jd [.str k.s,.str @n]=Z' (rv k x):=by
 sleep 2;have hf:k.fs.length<=6:=by cases k<;>decide
 have e1:=MM k;have e2:=ML k;have e3:=J6 x k.fs.length hx @b;have e4:jT (.tup @gy)=Z' (.int k.fs.length):=by simp_all
 have hs:=w6 32 k.fs.length x;have hl:=uZ 32 k.fs.length x
 have e5:qy ((TX.YW 32 k.fs.length x).map λy=>PV.str @ew) (Z' 1) Y'=((TX.YW 32 k.fs.length x).drop 1).map λy=>.str @ew:=by
  unfold qy;generalize TX.YW 32 k.fs.length x=l;cases l with
  |nil=>rfl
  |cons a l=>grind[HT.YB,So]
 unfold rv;generalize hps:(TX.YW 32 k.fs.length x).drop 1=ps at *;have hs:∀y∈ps,y.length<=16777216:=λy hy=>Rg (hs y (List.mem_of_mem_drop (hps▸hy))) hx;have hl:ps.length<=k.fs.length:=by grind
 have e6:cm @a7 iF eQ @l7 ((xB @gy @jm).map PV.tup)=.ok (fvs k.fs ps):=by
  rw[Ii]
  have:=WO.Yw (enc:=λq:Fd×List Nat=>PV.tup @oS) (h:=fV 2 @dC) (fe:=eQ) (ρ:=@l7) (λq=>fv q.1 q.2) (k.fs.zip ps) λq hq=>⟨[.val (.str q.1.s),.val (.str (Yd q.2))],rfl,by
   have:=yt q.1 q.2 (hs _ (VC hq).2);simp[eQ,this]⟩
  rw[this];unfold fvs;rw[List.zip,W5]
 have e7:=JF (fvs k.fs ps) λv hv=>by
  unfold fvs at hv;rw[show List.zipWith fv k.fs ps=(k.fs.zip ps).map λq=>fv q.1 q.2 by rw[List.zip,W5]]at hv
  grind[N9]
 have e8:(fvs k.fs ps).length<=16777216:=by grind[fvs,Vb]
 have e9:=H8 k.fs ((ps.map λy=>PV.str @ew).all iD);have eb:=Au _ _ e9;have ea:(xB @gy @jm).length<=16777216:=by grind[xB,Vb,RB]
 by_cases h1:ps.length<k.fs.length
 .simp_all[fh,PU.start]
 .rw[if_neg h1]
  cases h2:(fvs k.fs ps).any mI with
  |true=>rw[h2]at e7;simp[fh,PU.start,e1,e2,e3,e4,e5,h1,e6,e7,e8,eb,ea,dE]
  |false=>rw[h2]at e7;simp[fh,PU.start,e1,e2,e3,e4,e5,h1,e6,e7,e8,eb,ea,dE]
def KyS(s:Str):Prop:=∃c∈iy,s=Yd [c]
def kix(s:Str):Nat:=(TX.pos (s.cps.toList.headD 0) 0 iy).headD 0
theorem Ay{s:Str}(h:KyS s):qu c_KEYS @aQ=Z' (.int (kix s)):=by
 obtain⟨c,hc,rfl⟩:=h;have e:=TX.Za (Yd iy) c 1
 show (match RI (QP "0123456789*#") (Yd [c]) 0 (QP "0123456789*#").length 1 with
  |i::_=>Z' (PV.int i)
  |[]=>Y')=_
 rw[Ap,show Yd [c]=(⟨#[c]⟩:Str)from rfl,e,bO];unfold kix;have:(⟨#[c]⟩:Str).cps.toList.headD 0=c:=rfl;rw[this];have:∀c∈iy,TX.pos c 0 iy≠[]:=by decide
 have h:=this c hc;generalize TX.pos c 0 iy=l at h;cases l with
|nil=>simp_all
|cons a l=>rfl
def BL(xs:List @K)(k:Str):Bool:=match xs.getLast? with
|none=>Y2
|some z=>decide (kix z.1<kix k)
noncomputable def HS(xs:List @K)(w:Str):Bool:=match xs.getLast? with
|none=>Y2
|some z=>decide (z.1.cps.toList<w.cps.toList)
theorem Gr:Kh @cU=Z' (.int (-1)):=rfl
theorem om{α:Type}(xs:List α):xs=[]\/∃ys z,xs=ys++[z]:=by
 rcases List.eq_nil_or_concat xs with h|⟨ys,z,h⟩
 .exact .inl h
 simp_all
theorem wq (kd:Str) (hkd:kd="letters"\/kd="key") (xs:List @K) (H:PV) (hH:H=.lst @lA\/H=.tup @lA) (k:Str) (v:PV) (hx:∀z∈xs,KyS z.1) (hk:KyS k):bQ [.str kd,H,.lst [.str k,v]]=Z' (.bl (BL xs k)):=by
 sleep 2;have a1:kd≠QP "from":=by rcases hkd with rfl|rfl<;>decide +kernel
 have a2:kd≠QP "name":=by rcases hkd with rfl|rfl<;>decide +kernel
 have b0:∀a b:PV,Yu [a,b] 0=Z' a:=λa b=>aX (n:=0) rfl rfl;rcases om xs with rfl|⟨ys,z,rfl⟩
 .rcases hH with rfl|rfl<;>simp[eG,PU.start,a1,BL,pk]
 .have e1:Yu @eZ (-1)=Z' (Yt z):=by grind[SX,sk]
  have e2:=Ay (hx z @a);have e3:=Ay hk;have e4:BL (ys++[z]) k=decide (kix z.1<kix k):=by grind[BL,Ta]
  have e5:((kix z.1:Int)<(kix k:Int))=(kix z.1<kix k):=propext ⟨λh=>by simp_all,λh=>by simp[*]⟩;have e6:pk (.lst @eZ)=Z' Y2:=by simp_all
  have e7:pk (.tup @eZ)=Z' Y2:=by simp[pk]
  have e8:c_KEYS=.str (QP "0123456789*#"):=rfl;rw[e8]at e2 e3;rw[e4];generalize (ys++[z]).map Yt=l at *;rcases hH with rfl|rfl
  .simp[eG,PU.start,a1,a2,e1,e2,e3,e5,e6,Gr,Yt,e8]
  simp_all[eG,PU.start,Gr,Yt]
theorem Cs (xs:List @K) (w:Str) (v:PV):bQ [.str "name",.tup @lA,.lst [.str w,v]]=Z' (.bl (HS xs w)):=by
 sleep 2;have a1:QP "name"≠QP "from":=by decide +kernel
 rcases om xs with rfl|⟨ys,z,rfl⟩
 .rfl
 .have e1:Yu @eZ (-1)=Z' (Yt z):=by grind[SX,sk]
  have e4:HS (ys++[z]) w=decide (z.1.cps.toList<w.cps.toList):=by grind[HS,Ta]
  have e7:pk (.tup @eZ)=Z' Y2:=by simp[pk]
  have e9:ZJ (.str z.1) (.str w)=some (.bl (decide (z.1.cps.toList<w.cps.toList))):=rfl
  simp_all[Yt,eG,PU.start,Gr]
theorem Ct (H v:PV) (a b:Int):bQ [.str "from",H,.lst [.int a,.int b,v]]=some (.bl (decide (a<b))):=by
 rfl
noncomputable def Yg.kd:Yg->Kd
|.menu ..=>.menu|.names ..=>.names|.hours ..=>.hours|.hand _=>.hand|.fin _=>.fin
def bg:Yg->List PV
|.menu _ ks _ _=>ks.map Yt|.names _ ks _ _=>ks.map Yt|.hours sp _=>sp.map pv3|_=>[]
theorem AI(r:Yg):eP [r.pv]=Z' @k9:=by
 sleep 2;have n1:QP "menu"≠QP "hours":=by simp_all
 have n2:QP "names"≠QP "hours":=by simp_all
 have n3:QP "hand"≠QP "hours":=by simp_all
 have n4:QP "end"≠QP "hours":=by simp_all
 have i1:YQ @d2 c_BENEATH=Z' @L:=rfl;have i2:YQ @dV c_BENEATH=Z' @L:=rfl;have i3:YQ @cG c_BENEATH=Z' @B:=rfl;have i4:YQ @cJ c_BENEATH=Z' @B:=rfl;cases r<;>rfl
noncomputable def mP:Yg->List PV->PV
|.menu t _ a b,h=>.tup [.str "menu",.str t,.tup h,pvI a,pvI b]
|.names t _ a b,h=>.tup [.str "names",.str t,.tup h,pvI a,pvI b]
|.hours _ l,h=>.tup [.str "hours",.tup h,.str l]
|_,_=>.Yj
theorem uS(r:Yg)(h:List PV)(hr:(∀t,r≠.hand t)/\∀t,r≠.fin t):gj [r.pv,.tup h]=Z' (mP r h):=by
 sleep 2;have n1:QP "menu"≠QP "hours":=by simp_all
 have n2:QP "names"≠QP "hours":=by simp_all
 have a3:∀a b c d e:PV,Yu [a,b,c,d,e] 3=Z' d:=λ_ _ _ _ _=>aX (n:=3) rfl rfl;have a4:∀a b c d e:PV,Yu [a,b,c,d,e] 4=Z' e:=λ_ _ _ _ _=>aX (n:=4) rfl rfl;cases r with
|hand t=>simp_all
|fin t=>simp_all
|menu t ks a b=>rfl
|names t ks a b=>rfl
|hours sp l=>rfl
theorem bG{m n:Nat}{g:Yb->XO Fb}{t t':Tr}{qs:List PV}{p:PV}{ρ:Yb}(hm:qs.length+1=m)(e:g (.tree t::PU.start (n-1) qs)=.ok @au (.tree t'::ρ)):zt m n g t qs=Z' (p,t'):=by
 unfold zt;rw[if_pos hm,e];rfl
@[simp]theorem LH{p:PV}{ρ:Yb}:kL 0 (.tree @fO::ρ)=.ok p:=by rfl
theorem yQ{ks:List Key}{ps:List PV}{ρ:Yb}{fk fv:Yb->R PV}{p x:PV}{k:Key}(e1:fv (.tree @fv::ρ)=.ok p)(e2:fk (.tree @fv::ρ)=.ok x)(e3:iG x=Z' k)(hl:ks.length<16777216):
  nj @cm fk fv (.tree @fv::ρ)=.ok .next (.tree (.leaf @fc)::ρ):=by
 show (XO.rd _ (fv _)).bind _=_;rw[e1];show (XO.rd _ (fk _)).bind _=_;rw[e2]
 show (match iG x with
  |none=>_
  |some k=>_)=_
 rw[e3];show (if ks.length<16777216 then _ else _)=_;rw[if_pos hl];rfl
def aO (h:Yi):Tr:=.node @eJ @on
theorem CD(rs:List @ak)(n:Str)(r:Yg)(h:n∉FA.names rs):HU rs n r=rs++[(n,r)]:=by unfold HU;exact if_neg h
theorem zF(ys:List @ak)(n:Str)(r r':Yg)(h:n∉FA.names ys):HU (ys++[(n,r)]) n r'=ys++[(n,r')]:=by
 unfold HU;rw[if_pos @a,SX]
 congr 1
 .conv=>rhs;rw[<-List.map_id ys]
  apply Sy;intro x hx;rw[if_neg λe=>h (by rw[<-e];exact UR hx)];rfl
 .simp
theorem Ai(ys:List @ak)(n:Str)(r:Yg)(h:n∉FA.names ys):FA.Z5 (ys++[(n,r)]) n=Z' r:=by
 unfold FA.Z5;rw[List.find?_append]
 have:ys.find? (λr=>decide (r.1=n))=Y':=List.find?_eq_none.mpr λx hx=>by
  have:x.1≠n:=λe=>h (by rw[<-e];exact UR hx)
  simp_all
 grind
theorem take_room(rs:List @ak)(k:Kd)(n:Str)(vs:List PV)(room:Yg)(hv:Yu vs 0=Z' @bm)(hb:gq @re=Z' room.pv)(hl:rs.length<=1000000):
  gk (.leaf @b4) @re=Z' (if rs.length=12\/n∈FA.names rs then (.bl Y1,.leaf @b4)else (.bl Y2,.leaf (ay (rs++[(n,room)])))):=by
 have e1:jT @b4=Z' @sg:=FA.ae1 rs;have e2:=FA.YZ rs n;have e3:((rs.length:Int)=12)=(rs.length=12):=propext ⟨λh=>by grind,λh=>by simp[*]⟩
 by_cases h1:rs.length=12
 .rw[if_pos (.inl h1)]
  refine bG rfl (ρ:=@gn) ?_
  simp_all[gi,PU.start,c_MOST_ROOMS]
 .by_cases h2:n∈FA.names rs
  .rw[if_pos (.inr h2)]
   rw[decide_eq_true h2]at e2;refine bG rfl (ρ:=@gn) ?_
   simp_all[gi,PU.start,c_MOST_ROOMS]
  .rw[if_neg λz=>z.elim h1 h2]
   rw[decide_eq_false h2]at e2;refine bG rfl (ρ:=@gn) ?_
   have e4:=yQ (ks:=rs.map λr=>.inr r.1) (ps:=rs.map λr=>r.2.pv) (ρ:=@gn) (fk:=a9 @j @S Yh) (fv:=aN @g5 gq) (p:=room.pv) (x:=.str n) (k:=.inr n)
    (by simp[hb]) (by simp[hv]) rfl @b
   rw[zE,CD rs n room h2]at e4;have e5:ay rs=.dct @eQ @c7:=rfl;rw[<-e5]at e4;simp[gi,PU.start,e1,c_MOST_ROOMS,e3,h1,hv,e2,e4]
inductive Bn where
|key (k t:Str)|name (w t:Str)|span (a b:Int) (t:Str)
noncomputable def Bn.kd:Bn->Kd
|.key ..=>.key|.name ..=>.name|.span ..=>.from_
noncomputable def Bn.vals:Bn->List PV
|.key k t=>[.str k,.str t]|.name w t=>[.str w,.str t]|.span a b t=>[.int a,.int b,.str t]
noncomputable def xy:Yg->Bn->Option Yg
|.menu t ks a b,.key k g=>if ks.length≠12/\BL ks k=Y2 then Z' (.menu t (ks++[(k,g)]) a b)else Y'
|.names t ks a b,.name w g=>if ks.length≠12/\HS ks w=Y2 then Z' (.names t (ks++[(w,g)]) a b)else Y'
|.hours sp l,.span a b g=>if sp.length≠12/\a<b then Z' (.hours (sp++[(a,b,g)]) l)else Y'
|_,_=>Y'
def yG:Yg->Prop
|.menu _ ks _ _=>ks.length<=1000000/\∀k∈ks,KyS k.1
|.names _ ks _ _=>ks.length<=1000000
|.hours sp _=>sp.length<=1000000
|_=>True
def BnI:Bn->Prop
|.key k _=>KyS k
|_=>True
noncomputable def YX:Yg->Option Kd
|.menu ..=>Z' .key|.names ..=>Z' .name|.hours ..=>Z' .from_|_=>Y'
def Ol:Option Kd->PV
|some k=>.str k.s
|none=>.Yj
theorem MK(f t:Kd):@ig=(f=t):=by
 refine propext ⟨λh=>?_,λh=>by rw[h]⟩;have:∀f t:Kd,decide @ig=Y2->f=t:=by intro f t;cases f<;>cases t<;>decide +kernel
 grind
theorem Hw(r:Yg):∃s,r.pv=.tup (.str s::(match r.pv with|.tup l=>l.drop 1|_=>[]))/\I9 c_BENEATH @aQ=Z' (Ol (YX r)):=by
 cases r<;>exact⟨_,rfl,rfl⟩
theorem JJ(o:Option Kd)(k:Kd):Zh (Ol o) @ef=Z' (.bl (!decide (o=Z' k))):=by
 cases o with
|none=>rfl
|some j=>
  show Zh (.str j.s) @ef=_
  simp_all[Ca,MK,decide_eq_false]
theorem Ds(r:Yg):jT @k9=Z' (.int (bg r).length):=rfl
theorem E3(r:Yg)(x:Bn)(h:YX r≠Z' x.kd):xy r x=Y':=by
 cases r<;>cases x<;>first|rfl|exact absurd rfl h
theorem DY(r:Yg){s:Str}{l:List PV}(h:r.pv=.tup (.str s::l)):Yh r.pv @bE=Z' @aQ:=by
 simp_all
theorem Cu(r:Yg)(x:Bn)(hr:yG r)(hx:BnI x)(h:YX r=Z' x.kd)(hl:(bg r).length≠12):
  (bQ @nW=Z' @L/\∃r',xy r x=Z' r'/\gj [r.pv,.tup (bg r++[.tup x.vals])]=Z' r'.pv/\(bg r).length+1<=16777216) ∨
  (bQ @nW=Z' @B/\xy r x=Y'):=by
 cases r with
|hand t=>cases x<;>cases h
|fin t=>cases x<;>cases h
|menu t ks a b=>
  cases x with
  |name w g=>cases h
  |span c d g=>cases h
  |key k g=>
   have e:=wq "key" @cn ks (.tup @lF) @cn k (.str g) hr.2 hx;have hl:ks.length≠12:=by simpa[bg]using hl
   cases hk:BL ks k with
   |true=>
    rw[hk]at e;refine .inl ⟨e,_,if_pos @ly,?_,by have:=hr.1;simp[bg];grind⟩
    grind[uS,mP,bg,Yg.pv,Yt,Bn.vals]
   |false=>
    rw[hk]at e;exact .inr ⟨e,if_neg λz=>by simp_all⟩
|names t ks a b=>
  cases x with
  |key w g=>cases h
  |span c d g=>cases h
  |name k g=>
   have e:=Cs ks k (.str g);have hl:ks.length≠12:=by simpa[bg]using hl
   cases hk:HS ks k with
   |true=>
    rw[hk]at e;refine .inl ⟨e,_,if_pos @ly,?_,by have:ks.length<=1000000:=hr;simp[bg];grind⟩
    grind[uS,mP,bg,Yg.pv,Yt,Bn.vals]
   |false=>
    rw[hk]at e;exact .inr ⟨e,if_neg λz=>by simp_all⟩
|hours sp l=>
  cases x with
  |key w g=>cases h
  |name c g=>cases h
  |span c d g=>
   have e:=Ct (.tup (sp.map pv3)) (.str g) c d;have hl:sp.length≠12:=by simpa[bg]using hl
   by_cases hk:c<d
   .rw[decide_eq_true hk]at e
    refine .inl ⟨e,_,if_pos @ly,?_,by have:sp.length<=1000000:=hr;simp[bg];grind⟩
    grind[uS,mP,bg,Yg.pv,pv3,Bn.vals]
   .rw[decide_eq_false hk]at e
    exact .inr ⟨e,if_neg λz=>hk z.2⟩
theorem Bz(r:Yg)(x:Bn)(h:(bg r).length=12):xy r x=Y':=by
 have hm:∀{α β:Type}{f:α->β}{l:List α},(l.map f).length=12->l.length=12:=λh=>by rwa [RB]at h
 cases r<;>cases x<;>first|rfl|exact if_neg λz=>z.1 (hm h)
theorem take_beneath(ys:List @ak)(n:Str)(r:Yg)(x:Bn)(hn:n∉FA.names ys)(hy:ys.length<=1000000)(hr:yG r)(hx:BnI x):
  dz (.leaf (ay (ys++[(n,r)]))) @o4=Z' (match xy r x with
   |some r'=>(.bl Y2,.leaf (ay (ys++[(n,r')])))
   |none=>(.bl Y1,.leaf (ay (ys++[(n,r)])))):=by
 have e1:pk (ay (ys++[(n,r)]))=Z' Y2:=by simp[ay,pk]
 have e2:ml (ay (ys++[(n,r)]))=Z' (.lst (@oU++[.str n])):=by
  show Z' (PV.lst (((ys++[(n,r)]).map λr=>(Rp r.1:Key)).map wV))=_;simp[wV,Vd]
 have e3:Yu (@oU++[PV.str n]) (-1)=Z' @bm:=sk _ _;have e4:Yh (ay (ys++[(n,r)])) @bm=Z' r.pv:=by grind[FA.aa9,Ai]
 obtain⟨s,es,e5⟩:=Hw r;have e6:=DY r es;have e7:=JJ (YX r) x.kd;have e8:=AI r;have e9:vz c_BENEATH=Y2:=rfl;have ea:∀fe (g:PV->PV->Option PV) ρ,mdK fe g ρ c_BENEATH=iA (opP g c_BENEATH) @dw:=λfe g ρ=>by rfl
 have eb:=Ds r;have ec:(((bg r).length:Int)=12)=((bg r).length=12):=propext ⟨λh=>by grind,λh=>by simp[*]⟩;have ed:qt @lc=Z' @hH:=rfl;have hz:x.vals.length<=3:=by cases x<;>simp[Bn.vals]
 generalize hR:ay (ys++[(n,r)])=R at *
 by_cases h1:YX r=Z' x.kd
 .rw[decide_eq_true h1]at e7
  by_cases h2:(bg r).length=12
  .rw[Bz r x h2]
   refine bG rfl (ρ:=@ga) ?_;simp[cJ,PU.start,e1,e2,e3,e4,Gr,e5,e6,e7,e8,ea,eb,ec,h2,c_MOST_BENEATH]
  .rcases Cu r x hr hx h1 h2 with⟨f1,r',f2,f3,f4⟩|⟨f1,f2⟩
   .rw[f2]
    refine bG rfl (ρ:=@ga) ?_
    have g1:=yQ (ks:=(ys++[(n,r)]).map λr=>.inr r.1) (ps:=(ys++[(n,r)]).map λr=>r.2.pv) (ρ:=@ga) (fk:=Y9 3)
     (fv:=aN @nb gj) (p:=r'.pv) (x:=.str n) (k:=.inr n) (by simp[ed,f3,f4]) @a rfl @b
    rw[zE,zF ys n r r' hn]at g1;have g2:R=.dct ((ys++[(n,r)]).map λr=>.inr r.1) ((ys++[(n,r)]).map λr=>r.2.pv):=hR.symm;rw[<-g2]at g1;simp[cJ,PU.start,e1,e2,e3,e4,Gr,e5,e6,e7,e8,ea,eb,ec,h2,c_MOST_BENEATH,f1,g1]
   .rw[f2]
    refine bG rfl (ρ:=@ga) ?_;simp[cJ,PU.start,e1,e2,e3,e4,Gr,e5,e6,e7,e8,ea,eb,ec,h2,c_MOST_BENEATH,f1]
 .rw[decide_eq_false h1]at e7
  rw[E3 r x h1];refine bG rfl (ρ:=[.val @la,.val @lc,.val @bm,.val r.pv,.no]) ?_;simp[cJ,PU.start,e1,e2,e3,e4,Gr,e5,e6,e7,ea]
theorem vc(c:Nat):∀(l:List Nat)(i:Nat),(TX.pos c i l).length=l.count c
|[],_=>rfl
|y::r,i=>by
  unfold TX.pos;rw[List.count_cons]
  by_cases h:y=c
  .rw[if_pos h,QV,vc c r,if_pos (by simp[h])]
  .rw[if_neg h,vc c r,if_neg @i,Nat.add_zero]
theorem DS(l:List Nat)(c:Nat):uv @dg @cv=Z' (.int (l.count c)):=by
 show Z' (PV.int (((RI @dz ⟨#[c]⟩ 0 (Yd l).length ((Yd l).length+1)).length:Nat):Int))=_;rw[TX.Za,bO,Tc,vc,dw,Nat.min_eq_right (TR List.count_le_length)]
noncomputable def cx(ls:List @K):List Nat:=ls.flatMap λl=>l.2.cps.toList
theorem Ag(s:Str):s=Yd s.cps.toList:=(TX.ad4 s).symm
theorem qh:∀ls:List @K,TL "" (ls.map @s)=Yd (cx ls)
|[]=>by
  rfl
|[a]=>by
  show a.2=Yd (a.2.cps.toList++[])
  grind[Rh,Ag]
|a::b::r=>by
  have ih:=qh (b::r)
  grind[TL,cx,Ag,xj,cE,Rh,bO]
def dbl(ls:List @K)(l:List Nat):Bool:=l.any λc=>decide (1<(cx ls++l).count c)
noncomputable def yK(h:Yi)(k:Str)(l:List Nat):Option Yi:=if h.rooms=[]/\BL h.letters k=Y2/\dbl h.letters l=Y1 then Z' {h with letters:=h.letters++[(k,Yd l)]}else Y'
theorem qG(h:Yi):trV @M=h.pv:=rfl
theorem GY (h:Yi) (ρ:Yb):BR 0 @dI (.tree @M::ρ)=.ok @c3:=by
 rfl
theorem FO (h:Yi) (ρ:Yb):mS @le (.tree @M::ρ)=Z' (.leaf @c3):=by
 rfl
theorem G4 (h:Yi) (ρ:Yb) (ls:List @K):dJ @le (.leaf (.lst (ls.map Yt))) (.tree @M::ρ)=Z' (.tree (aO {h with letters:=ls})::ρ):=by
 rfl
theorem LR{s:Sel}{f:Yb->R PV}{ρ ρ':Yb}{ps:List PV}{p:PV}(e1:mS s ρ=Z' (.leaf @X))(e2:f ρ=.ok p)(e3:ps.length<16777216)(e4:dJ s @lv ρ=Z' ρ'):KC s f ρ=.ok .next ρ':=by
 unfold KC;rw[e1];show (XO.rd ρ @u).bind _=_;rw[e2];show (if ps.length<16777216 then _ else _)=_;rw[if_pos e3,e4]
theorem uQ{α:Type}{f:Yb->R α}{t:Tr}{ρ:Yb}{a:α}(e:f (.val @cV::ρ)=.ok a)(ho:t.isObj=Y1:=by rfl):Df 0 f (.tree t::ρ)=.ok a (.tree t::ρ):=by
 show (if t.isObj=Y2 then XO.no else XO.rd _ (Ex (f _)))=_
 simp_all
theorem take_letters(h:Yi)(k:Str)(l:List Nat)(hk:KyS k)(hl:l.length<=100)(hL:h.letters.length<=100000)(hc:∀z∈h.letters,KyS z.1/\z.2.length<=100):
  dy @M [.lst @jQ]=Z' (match yK h k l with
   |some h'=>(.bl Y2,aO h')
   |none=>(.bl Y1,aO h)):=by
 have b1:∀a b:PV,Yu [a,b] 1=Z' b:=λa b=>aX (n:=1) rfl rfl;have r1:Yh h.pv @kW=Z' @cg:=by rfl
 have r2:Yh h.pv @hm=Z' @c3:=by rfl
 have r3:pk @cg=Z' (!h.rooms.isEmpty):=by
  show Z' (!(h.rooms.map λr=>(Rp r.1:Key)).isEmpty)=_;cases h.rooms<;>rfl
 have e1:=wq "letters" @ad h.letters @c3 @ad k @dg (λz hz=>(hc z hz).1) hk
 by_cases h1:h.rooms=[]
 .have r3:pk @cg=Z' Y1:=by simp_all
  cases h2:BL h.letters k with
  |false=>
   rw[h2]at e1;have:yK h k l=Y':=if_neg λz=>by simp_all
   rw[this];refine bG rfl (ρ:=@e7) ?_;have:=uQ (t:=aO h) (ρ:=@e7) (f:=orB @ij @f9) (a:=Y2) (by rw[qG];simp_all);simp[cI,PU.start,this]
  |true=>
   rw[h2]at e1;have c1:=uQ (t:=aO h) (ρ:=@e7) (f:=orB @ij @f9) (a:=Y1) (by rw[qG];simp_all)
   have c2:∀ρ:Yb,cm @a7 iF fH (.no::.no::ρ) @g1=.ok @op:=fun ρ=>
    WO.Yw (λl:Str×Str=>PV.str l.2) h.letters λx _=>⟨.val (.str x.1)::.val (.str x.2)::ρ,rfl,by rfl⟩
   have c3:=FA.join_le (h.letters.map @s) 100 (λx hx=>by
    grind) @b
   rw[qh,Rm]at c3;have c3:ja @fM (.lst @op)=Z' @o1:=c3
   have c4:(Yd @ta).length<=10000000:=by
    rw[dw];unfold cx;rw[List.length_flatMap]
    have:∀ls:List @K,(∀z∈ls,z.2.length<=100)->(ls.map λl=>l.2.cps.toList.length).sum<=ls.length*100:=λls hz=>by
     induction ls with
     |nil=>simp
     |cons a ls ih=>
      grind[R6,RZ,Ub,RG,Uo,QV]
    have:=this h.letters λz hz=>(hc z hz).2
    grind
   have c5:bt @o1 @dg=Z' @c2:=by grind[nh,dw,cE]
   have c6:iW @dg=Z' (l.map sgn):=WO.ad6 l
   have c7:∀ρ:Yb,cm @Z iF dC (.no::.val @c2::ρ) (l.map sgn)=.ok (l.map λc=>.bl (decide (1<(cx h.letters++l).count c))):=fun ρ=>
    WO.Yw (λc=>PV.bl (decide (1<(cx h.letters++l).count c))) l λc _=>⟨.val @cv::.val @c2::ρ,rfl,by
     have:=DS @rJ c;generalize cx h.letters++l=q at *
     have g:gGt (.int (q.count c:Nat)) @cU=some (.bl (decide (1<q.count c))):=by
      show some (PV.bl (decide ((1:Int)<(q.count c:Nat))))=_
      congr 2
      exact decide_eq_decide.mpr ⟨λz=>by grind,λz=>by omega⟩
     simp[dC,this,g]⟩
   have c8:=KD (λc=>decide (1<(cx h.letters++l).count c)) l;have c9:h.letters.length<=16777216:=by grind
   have ca:l.length<=16777216:=by grind
   have cb:=GY h;have cc:AA @c3=Z' @g1:=rfl
   have st1:aJ (bN 2 (a9 (fF @bq (dY @rG @a7 iF fH 2 []) ja) @dE bt)) (.tree @M::[.val @cB,.no]) =
     .ok .next (.tree @M::[.val @cB,.val @c2]):=by simp_all[itL,BR,aO,Yd,Yt,dE]
   have st2:↑1259 (.tree @M::[.val @cB,.val @c2])=.ok (.bl (dbl h.letters l)):=by simp_all[List.count_append,dE,dbl]
   cases h3:dbl h.letters l with
   |true=>
    rw[h3]at st2;have:yK h k l=Y':=if_neg λz=>by simp_all
    rw[this];refine bG rfl (ρ:=@p4) ?_
    simp_all[cI,PU.start,b9,yR,yP]
   |false=>
    rw[h3]at st2;have:yK h k l=Z' {h with letters:=h.letters++[(k,Yd l)]}:=if_pos @sT;rw[this];refine bG rfl (ρ:=@p4) ?_
    have ap:=LR (s:=.fld 0 @dI) (f:=i8 @te) (ρ:=.tree @M::[.val @cB,.val @c2]) (p:=Yt (k,Yd l)) (FO h _) @D @b
     (by rw[show h.letters.map Yt++[Yt (k,Yd l)]=(h.letters++[(k,Yd l)]).map Yt by simp];exact G4 h _ _)
    simp_all[cI,PU.start,b9,yR,yP]
 .have:yK h k l=Y':=if_neg λz=>h1 z.1
  rw[this];have r4:h.rooms.isEmpty=Y1:=by simp_all
  rw[r4]at r3;refine bG rfl (ρ:=@e7) ?_;have:=uQ (t:=aO h) (ρ:=@e7) (f:=orB @ij @f9) (a:=Y2) (by rw[qG];simp_all);simp[cI,PU.start,this]
inductive Rw where
|first (n:Str)|letters (k:Str) (l:List Nat)|room (n:Str) (r:Yg)|YX (x:Bn)
noncomputable def lQ(n:Str):Yg->List PV
|.menu t _ wr wa=>[.str n,.int wr.1,.str wr.2,.int wa.1,.str wa.2,.str t]
|.names t _ wr wa=>[.str n,.int wr.1,.str wr.2,.int wa.1,.str wa.2,.str t]
|.hours _ l=>[.str n,.str l]
|.hand t=>[.str n,.str t]
|.fin t=>[.str n,.str t]
def um:Yg->Prop
|.menu _ ks _ _=>ks=[]
|.names _ ks _ _=>ks=[]
|.hours sp _=>sp=[]
|_=>True
def Rw.kd:Rw->Kd
|.first _=>.first|.letters ..=>.letters|.room _ r=>Yg.kd r|.YX x=>x.kd
def Rw.vals:Rw->List PV
|.first n=>[.str n]|.letters k l=>[.str k,.str @dz]|.room n r=>lQ n r|.YX x=>x.vals
def RwI:Rw->Prop
|.letters k l=>KyS k/\l.length<=100
|.room _ r=>um r
|.YX x=>BnI x
|_=>True
def p9(h:Yi)(x:Bn):Option Yi:=match h.rooms.getLast? with
|none=>Y'
|some (n,r)=>(xy r x).map λr'=>{h with rooms:=h.rooms.dropLast++[(n,r')]}
def dm(h:Yi):Rw->Option Yi
|.first n=>if h.first="" then Z' {h with first:=n}else Y'
|.letters k l=>if h.first="" then Y' else yK h k l
|.room n r=>if h.first="" then Y' else if h.rooms.length=12\/n∈FA.names h.rooms then Y' else Z' {h with rooms:=h.rooms++[(n,r)]}
|.YX x=>if h.first="" then Y' else p9 h x
structure HI(N:Nat)(h:Yi):Prop where
 nl:h.letters.length<=N
 ls:∀z∈h.letters,KyS z.1/\z.2.length<=100
 nr:h.rooms.length<=12
 rs:∀z∈h.rooms,yG z.2
 nd:(FA.names h.rooms).Nodup
def Jw(h:Yi):Option Yi->PV×Tr
|some h'=>(.bl Y2,aO h')
|none=>(.bl Y1,aO h)
theorem qD{s:Sel}{fs:Yb->R @e}{F:Tr->List PV->Option @bp}{ρ ρ':Yb}{t t':Tr}{ps:List PV}{p:PV}(e1:mS s ρ=Z' t)(e2:fs ρ=.ok ps)(e3:F t ps=Z' (p,t'))(e4:dJ s t' ρ=Z' ρ'):jk s fs F ρ=.ok p ρ':=by
 unfold jk;rw[e1];show (XO.rd ρ @bF).bind _=_;rw[e2]
 show (match F t ps with
  |none=>_
  |some (p,t')=>_)=_
 simp_all
theorem sV (h:Yi) (ρ:Yb):mS @hI (.tree @M::ρ)=Z' (.leaf @cg):=by
 rfl
theorem tP (h:Yi) (ρ:Yb) (rs:List @ak):dJ @hI (.leaf @b4) (.tree @M::ρ)=Z' (.tree (aO {h with rooms:=rs})::ρ):=by
 rfl
theorem AW (h:Yi) (ρ:Yb):BR 0 @df (.tree @M::ρ)=.ok @g7:=by
 rfl
theorem zD (h:Yi) (ρ:Yb) (f:Yb->R PV) (n:Str) (e:f (.tree @M::ρ)=.ok @bm):AS 0 @df f (.tree @M::ρ)=.ok .next (.tree (aO {h with first:=n})::ρ):=by
 have l:iB @eJ @on @df=Z' (.val @g7):=by rfl
 have nd:(@eJ:List Key).Nodup/\(@eJ:List Key).length<16777216:=⟨by simp_all,by decide⟩;unfold AS;simp only[SM];rw[e];rfl
theorem Gg (x:List Nat) (hx:x.length<=16777216):∃a b,jt @F @bA=Z' (.tup [.str (Yd (x.takeWhile (· != 32))),a,b]):=by
 have e:=(TX.ZS 32 @n).1;rw[bO]at e;refine⟨.str (Txt.partition @n ⟨#[32]⟩).2.1,.str (Txt.partition @n ⟨#[32]⟩).2.2,?_⟩;show (if _/\_ then Z' (PV.tup [.str (Txt.partition @n @aZ).1,.str (Txt.partition @n @aZ).2.1,.str (Txt.partition @n @aZ).2.2])else Y')=_;rw[Cg,if_pos ⟨by rfl,by simp_all⟩,e];rfl
theorem wQ(k:Kd):YQ @ef c_ROOM_KINDS=some (.bl (decide (k=.menu\/k=.names\/k=.hours\/k=.hand\/k=.fin))):=by cases k<;>rfl
theorem gE (k:Kd):(k.s=QP "first")=(k=.first):=MK k .first
theorem lG (k:Kd):(k.s=QP "letters")=(k=.letters):=MK k .letters
theorem MB(a b:Bool):Zh (.bl a) @bG=Z' (.bl (a != b)):=by cases a<;>cases b<;>rfl
theorem Hy(n:Str)(r:Yg)(h:um r):gq [.str (Yg.kd r).s,.lst @fS]=Z' r.pv:=by
 cases r with
|menu t ks wr wa=>cases (show ks=[]from h);rfl
|names t ks wr wa=>cases (show ks=[]from h);rfl
|hours sp l=>cases (show sp=[]from h);rfl
|hand t=>rfl
|fin t=>rfl
theorem Bv(n:Str)(r:Yg):Yu @fS 0=Z' @bm:=by cases r<;>rfl
theorem FY(r:Yg):Yg.kd r=.menu\/Yg.kd r=.names\/Yg.kd r=.hours\/Yg.kd r=.hand\/Yg.kd r=.fin:=by cases r<;>simp[Yg.kd]
theorem Bu(h:Yi)(N:Nat)(hi:HI N h)(x:Bn)(hx:BnI x):∃b rs,dz (.leaf @cg) @o4=Z' (.bl b,.leaf @b4)/\Jw h (p9 h x)=(.bl b,aO {h with rooms:=rs}):=by
 rcases om h.rooms with e|⟨ys,⟨n,r⟩,e⟩
 .refine⟨Y1,[],?_,?_⟩
  .rw[e];rfl
  .unfold p9
   rw[e];show (PV.bl Y1,aO h)=_;rw[<-e]
 .have nd:=hi.nd
  rw[e]at nd;unfold FA.names at nd;rw[SX,TQ]at nd;have hn:n∉FA.names ys:=λz=>nd.2.2 n z n @a rfl;have nr:=hi.nr;rw[e,RF]at nr;have t:=take_beneath ys n r x hn @b (hi.rs (n,r) (by rw[e];simp)) hx;unfold p9;rw[e,t,Ta];dsimp only;cases ha:xy r x with
  |none=>
   refine⟨Y1,ys++[(n,r)],rfl,?_⟩;show (PV.bl Y1,aO h)=_;rw[<-e]
  |some r'=>
   refine⟨Y2,ys++[(n,r')],rfl,?_⟩;show (PV.bl Y2,aO {h with rooms:=(ys++[(n,r)]).dropLast++[(n,r')]})=_;rw[VU]
theorem take_row(h:Yi)(N:Nat)(hN:N<=100000)(hi:HI N h)(r:Rw)(hr:RwI r)(x:List Nat)(hx:x.length<=16777216)(hk:x.takeWhile (· != 32)=r.kd.c)(hv:rv r.kd x=.lst r.vals):
  jo @M [.str @n]=Z' (Jw h (dm h r)):=by
 obtain⟨a,b,e1⟩:=Gg x hx;rw[hk,<-JV]at e1;have e2:=zv r.kd x hx;rw[hv]at e2;have e3:=AW h;have b0:∀a b c:PV,Yu @em 0=Z' a:=λa b c=>aX (n:=0) rfl rfl;have em:h.first=QP "" ↔ decide (h.first=QP "")=Y2:=by simp
 have en:BQ (.lst r.vals) .Yj=Z' @B:=rfl;have ne:=λa b=>MB a b;cases r with
|first n=>
  by_cases h1:h.first=QP ""
  .have:dm h (.first n)=Z' {h with first:=n}:=if_pos h1
   rw[this];refine bG rfl (ρ:=@iT) ?_;have p:=zD h @iT @hb n @a
   simp_all[Rw.kd,Rw.vals,cH,PU.start,gE]
  .have:dm h (.first n)=Y':=if_neg h1
   rw[this];refine bG rfl (ρ:=@iT) ?_
   simp_all[Rw.kd,Rw.vals,cH,PU.start,gE]
|letters k l=>
  by_cases h1:h.first=QP ""
  .have:dm h @tz=Y':=if_pos h1
   rw[this];refine bG rfl (ρ:=@nr) ?_
   simp_all[Rw.kd,Rw.vals,cH,PU.start,gE]
  .have:dm h @tz=yK h k l:=if_neg h1
   rw[this];have t:=take_letters h k l hr.1 hr.2 (by have:=hi.nl;grind) hi.ls;have t:dy @M [.lst @jQ]=Z' (Jw h (yK h k l)):=by rw[t];cases yK h k l<;>rfl
   generalize Jw h (yK h k l)=o at *;obtain⟨p,t'⟩:=o;refine bG rfl (ρ:=@nr) ?_;have c:=qD (s:=.whole 0) (fs:=a7 @w aE) (F:=dy) (ρ:=.tree @M::[.val @F,.val @ra,.val @cB]) rfl ↑0 t rfl
   simp_all[Rw.kd,Rw.vals,cH,PU.start,gE,lG]
|room n r=>
  have kk:=FY r;have k1:Yg.kd r≠.first:=by grind
  have k2:Yg.kd r≠.letters:=by grind
  have k3:=wQ (Yg.kd r);rw[decide_eq_true kk]at k3
  by_cases h1:h.first=QP ""
  .have:dm h (.room n r)=Y':=if_pos h1
   rw[this];refine bG rfl (ρ:=@nB) ?_
   simp_all[Rw.kd,Rw.vals,cH,PU.start,gE]
  .have t:=take_room h.rooms (Yg.kd r) n @fS r (Bv n r) (Hy n r hr) (by have:=hi.nr;grind)
   obtain⟨b,rs,t1,t2⟩:∃b rs,gk (.leaf (ay h.rooms)) [.str (Yg.kd r).s,.lst (lQ n r)]=Z' (.bl b,.leaf (ay rs))/\Jw h (dm h (.room n r))=(.bl b,aO {h with rooms:=rs}):=by
    have s1:dm h (.room n r)=if h.rooms.length=12\/n∈FA.names h.rooms then Y' else Z' {h with rooms:=h.rooms++[(n,r)]}:=if_neg h1
    rw[s1,t]
    by_cases h2:h.rooms.length=12\/n∈FA.names h.rooms
    .rw[if_pos h2,if_pos h2]
     exact⟨Y1,h.rooms,rfl,rfl⟩
    .rw[if_neg h2,if_neg h2]
     exact⟨Y2,_,rfl,rfl⟩
   rw[t2];refine bG rfl (ρ:=@nB) ?_;have c:=qD (s:=.fld 0 @dK) (fs:=a7 @j @cb) (F:=gk) (ρ:=.tree @M::[.val @F,.val @gL,.val (.lst @fS)]) (sV h _) @a t1 (tP h _ _)
   simp_all[Rw.kd,Rw.vals,cH,PU.start,gE,lG]
|YX y=>
  have kk:y.kd=.key\/y.kd=.name\/y.kd=.from_:=by cases y<;>simp[Bn.kd]
  have k1:y.kd≠.first:=by grind
  have k2:y.kd≠.letters:=by grind
  have k3:=wQ y.kd;rw[decide_eq_false (by rcases kk with h|h|h<;>rw[h]<;>decide)]at k3
  by_cases h1:h.first=QP ""
  .have:dm h (.YX y)=Y':=if_pos h1
   rw[this];refine bG rfl (ρ:=@nm) ?_
   simp_all[Rw.kd,Rw.vals,cH,PU.start,gE]
  .have:dm h (.YX y)=p9 h y:=if_neg h1
   rw[this];obtain⟨b,rs,t1,t2⟩:=Bu h N hi y hr;rw[t2];refine bG rfl (ρ:=@nm) ?_;have c:=qD (s:=.fld 0 @dK) (fs:=a7 @j @cb) (F:=dz) (ρ:=.tree @M::[.val @F,.val (.str y.kd.s),.val (.lst y.vals)]) (sV h _) @a t1 (tP h _ _)
   simp_all[Rw.kd,Rw.vals,cH,PU.start,gE,lG]
theorem KG{r r':Yg}{x:Bn}(hr:yG r)(hx:BnI x)(h:xy r x=Z' r')(hz:(bg r).length<=12):yG r'/\(bg r').length<=12:=by
 cases r with
|hand t=>cases x<;>cases h
|fin t=>cases x<;>cases h
|menu t ks a b=>
  cases x with
  |name w g=>cases h
  |span c d g=>cases h
  |key k g=>
   have h:(if ks.length≠12/\BL ks k=Y2 then Z' (Yg.menu t (ks++[(k,g)]) a b)else Y')=Z' r':=h
   split  at h
   .rename_i hc
    cases h;have hz:ks.length<=12:=by simpa[bg]using hz
    have h1:=hc.1;refine⟨⟨by simp;grind,λz hm=>?_⟩,by simp[bg];grind⟩;rcases Ra.mp hm with hm|hm
    .exact hr.2 z hm
    .have:z=(k,g):=by simp_all
     subst this;exact hx
   .cases h
|names t ks a b=>
  cases x with
  |key w g=>cases h
  |span c d g=>cases h
  |name k g=>
   have h:(if ks.length≠12/\HS ks k=Y2 then Z' (Yg.names t (ks++[(k,g)]) a b)else Y')=Z' r':=h
   split  at h
   .rename_i hc
    cases h;have hz:ks.length<=12:=by simpa[bg]using hz
    have h1:=hc.1;exact⟨by show (ks++[(k,g)]).length<=1000000;simp;grind,by simp[bg];grind⟩
   .cases h
|hours sp l=>
  cases x with
  |key w g=>cases h
  |name c g=>cases h
  |span c d g=>
   have h:(if sp.length≠12/\c<d then Z' (Yg.hours (sp++[(c,d,g)]) l)else Y')=Z' r':=h
   split  at h
   .rename_i hc
    cases h;have hz:sp.length<=12:=by simpa[bg]using hz
    have h1:=hc.1;exact⟨by show (sp++[(c,d,g)]).length<=1000000;simp;grind,by simp[bg];grind⟩
   .cases h
structure HJ(N:Nat)(h:Yi):Prop extends HI N h where
 hz:∀z∈h.rooms,(bg z.2).length<=12
theorem KB(r:Yg)(h:um r):yG r/\(bg r).length<=12:=by
 cases r with
|menu t ks a b=>cases (show ks=[]from h);exact⟨⟨by simp,by simp⟩,by simp[bg]⟩
|names t ks a b=>cases (show ks=[]from h);exact⟨by show ([]:List @K).length<=_;simp,by simp[bg]⟩
|hours sp l=>cases (show sp=[]from h);exact⟨by show ([]:List (Int×Int×Str)).length<=_;simp,by simp[bg]⟩
|hand t=>exact⟨trivial,by simp[bg]⟩
|fin t=>exact⟨trivial,by simp[bg]⟩
theorem J5{N:Nat}{h h':Yi}{r:Rw}(hi:HJ N h)(hr:RwI r)(e:dm h r=Z' h'):HJ (N+1) h':=by
 have nl:=hi.nl;cases r with
|first n=>
  simp only[dm]at e;split at e
  .cases e
   exact⟨⟨by grind,hi.ls,hi.nr,hi.rs,hi.nd⟩,hi.hz⟩
  .cases e
|letters k l=>
  simp only[dm]at e;split at e
  .cases e
  .simp only[yK]at e
   split at e
   .cases e
    refine⟨⟨by simp;omega,λz hm=>?_,hi.nr,hi.rs,hi.nd⟩,hi.hz⟩;rcases Ra.mp hm with hm|hm
    .exact hi.ls z hm
    .have:z=(k,Yd l):=by simp_all
     subst this;exact⟨hr.1,by rw[dw];exact hr.2⟩
   .cases e
|room n r=>
  simp only[dm]at e;split at e
  .cases e
  .split at e
   .cases e
   .rename_i hc
    cases e;have hb:=KB r hr;have hn:n∉FA.names h.rooms:=λz=>hc (.inr z);have hl:h.rooms.length≠12:=λz=>hc (.inl z);have nr:=hi.nr;refine⟨⟨by grind,hi.ls,by simp;grind,λz hm=>?_,?_⟩,λz hm=>?_⟩
    .rcases Ra.mp hm with hm|hm
     .exact hi.rs z hm
     simp_all
    .have nd:=hi.nd
     grind[FA.names,SX,TQ]
    .rcases Ra.mp hm with hm|hm
     .exact hi.hz z hm
     simp_all
|YX x=>
  simp only[dm]at e;split at e
  .cases e
  .unfold p9 at e
   rcases om h.rooms with e2|⟨ys,⟨n,r⟩,e2⟩
   .simp_all
   .rw[e2,Ta]at e
    have e:(xy r x).map (λr'=>{h with rooms:=(ys++[(n,r)]).dropLast++[(n,r')]})=Z' h':=e;cases ha:xy r x with
    |none=>simp_all
    |some r'=>
     rw[ha,VU]at e;cases e;have hm:(n,r)∈h.rooms:=by simp_all
     obtain⟨i1,i2⟩:=KG (hi.rs _ hm) hr ha (hi.hz _ hm);have nr:=hi.nr;rw[e2,RF]at nr;refine⟨⟨by grind,hi.ls,by simp_all,λz hm=>?_,?_⟩,λz hm=>?_⟩
     .rcases Ra.mp hm with hm|hm
      .exact hi.rs z @i
      simp_all
     .have nd:=hi.nd
      grind[FA.names]
     .rcases Ra.mp hm with hm|hm
      .exact hi.hz z @i
      simp_all
structure RTx(r:Rw)(x:List Nat):Prop where
 ok:RwI r
 sz:x.length<=16777216
 kd:x.takeWhile (· != 32)=r.kd.c
 vs:rv r.kd x=.lst r.vals
def ie:Yi->List Rw->Option Yi
|h,[]=>Z' h
|h,r::rs=>(dm h r).bind λh'=>ie h' rs
noncomputable def eO(k:Nat):List @y->List PV
|[]=>[]
|x::xs=>.tup [.int ((k+1:Nat):Int),.str @n]::eO (k+1) xs
theorem Aa(xs:List @y):(u3 @eC).map PV.tup=eO 0 xs:=by
 have:∀(xs:List @y)(k:Nat),((List.range' k xs.length).zipWith (λ(i:Nat) p=>[PV.int ((i+1:Nat):Int),p]) @eC).map PV.tup=eO k xs:=by
  intro xs
  induction xs with
  |nil=>intro k;rfl
  |cons x xs ih=>
   intro k;rw[QV,W4,RG,V4,RG,ih];rfl
 grind[u3,RB,List.range_eq_range']
theorem tJ(v0 v1:Sl):∀(rs:List Rw)(xs:List @y)(k N:Nat)(h h':Yi)(a b:Sl),rs.length=xs.length->(∀(i:Nat)(r:Rw)(x:List Nat),rs[i]?=Z' r->xs[i]?=Z' x->RTx r x)->ie h rs=Z' h'->HJ N h->N+rs.length<=100000->
  ∃a' b',ux @cM cK (eO k xs) [v0,v1,.tree @M,a,b,.no]=.ok .next [v0,v1,.tree (aO h'),a',b',.no]
|[],[],k,N,h,h',a,b,_,_,e,_,_=>by cases e;exact⟨a,b,rfl⟩
|[],_::_,_,_,_,_,_,_,hl,_,_,_,_=>by cases hl
|_::_,[],_,_,_,_,_,_,hl,_,_,_,_=>by cases hl
|r::rs,x::xs,k,N,h,h',a,b,hl,hx,e,hi,hN=>by
  have t:=hx 0 r x rfl rfl;rw[QV]at hN;have e1:=take_row h N @b hi.toHI r t.ok x t.sz t.kd t.vs;unfold ie at e;cases hs:dm h r with
  |none=>simp_all
  |some h1=>
   rw[hs]at e1 e;have c:=qD (s:=.whole 2) (fs:=a7 @V aE) (F:=jo) (ρ:=[v0,v1,.tree @M,.val (.int ((k+1:Nat):Int)),.val @F,.no]) (t:=aO h) (t':=aO h1) (p:=.bl Y2) (ρ':=[v0,v1,.tree (aO h1),.val (.int ((k+1:Nat):Int)),.val @F,.no]) rfl ↑0 e1 rfl;obtain⟨a',b',e2⟩:=tJ v0 v1 rs xs (k+1) (N+1) h1 h' (.val (.int ((k+1:Nat):Int))) (.val @F) @i (λi r x h1 h2=>hx (i+1) r x @i @i) e (J5 hi t.ok hs) @b;refine⟨a',b',?_⟩;have e3:cK [v0,v1,.tree @M,.val (.int ((k+1:Nat):Int)),.val @F,.no]=.ok .next [v0,v1,.tree (aO h1),.val (.int ((k+1:Nat):Int)),.val @F,.no]:=by simp_all[cK,jH,Iu,Ip]
   show ((cK [v0,v1,.tree @M,.val (.int ((k+1:Nat):Int)),.val @F,.no]).bind _)=_;rw[e3];exact e2
def stw(p x:List Nat):Bool:=decide (x.take p.length=p)
theorem sP(p x:List Nat):lM @F (.str (Yd p))=Z' (.bl (stw p x)):=by
 show some (PV.bl (decide (0+(Yd p).length<=(Yd x).length)&&Builtin.Str.subAt @n (Yd p) 0))=_
 grind[StrLaws.subAt_eq,bO,dw,WU,stw,SY,Tc,decide_eq_true]
def my:List Nat:=@pA
def yA:List Nat:=[110,97,109,101,32]
theorem wM:QP "names "=Yd my:=by rfl
theorem Gs:QP "name "=Yd yA:=by rfl
theorem CY(xs:List @y):∀(k i:Nat)(p:PV),(eO k xs)[i]?=Z' p->∃x,xs[i]?=Z' x/\p=.tup [.int ((k+i+1:Nat):Int),.str @n]:=by
 induction xs with
|nil=>intro k i p h;simp[eO]at h
|cons x xs ih=>
  grind[eO]
theorem wordless(xs:List @y)(hl:xs.length<=1000000)(hw:∀(i:Nat)(x:List Nat),xs[i]?=Z' x->stw my x=Y2->∃y,xs[i+1]?=Z' y/\stw yA y=Y2):gL [.lst @eC]=Z' @bE:=by
 sleep 2
 have hE:∀ρ:Yb,mr @g (.val @cl::ρ)=.ok (eO 0 xs):=fun ρ=>by
  show (Y9 0 _>>=λp=>R.Yn (xi p))=_;rw[yS];show R.Yn (Z' ((u3 @gv).map PV.tup))=_;rw[Aa];rfl
 have hG:jT (.lst @gv)=Z' @ku:=by simp_all
 obtain⟨ρ',e,a,b,c,rfl⟩:=x6 (ps:=eO 0 xs) (h:=fV 2 @jr) (g:=dD) (ρ:=[.val @cl,.no,.no,.no])
  (I:=λi ρ=>∃a b c,ρ=[.val @cl,a,b,c]) @so (by
   rintro i p ρ hp ⟨a,b,c,rfl⟩;obtain⟨x,hx,rfl⟩:=CY xs 0 i p hp;rw[Vx]
   obtain⟨bel,hb,hs⟩:∃bel:List Nat,ifV (aW (a9 (Y9 1) (YG (Y9 0) jT) ZJ)) (a9 (Y9 0) (Y9 1) Yh) (kS "") [.val (.lst (xs.map λx=>.str (Yd x))),.val (.int ((i+1:Nat):Int)),.val (.str (Yd x)),c]=.ok (.str (Yd bel))/\(stw my x=Y2->stw yA bel=Y2):=by
    by_cases hi:i+1<xs.length
    .have e1:xs[i+1]?=Z' xs[i+1]:=by simp[hi]
     refine⟨xs[i+1],?_,λh=>?_⟩
     .have e2:Yu @gv ((i+1:Nat):Int)=Z' (.str (Yd xs[i+1])):=aX (n:=i+1) rfl @i
      have e3:ZJ (.int ((i+1:Nat):Int)) @ku=some (.bl true):=by show some (PV.bl (decide (((i+1:Nat):Int)<(xs.length:Int))))=_;rw[decide_eq_true @q]
      simp_all
     grind
    .refine⟨[],?_,λh=>?_⟩
     .have e3:ZJ (.int ((i+1:Nat):Int)) @ku=some (.bl false):=by show some (PV.bl (decide (((i+1:Nat):Int)<(xs.length:Int))))=_;rw[decide_eq_false @q]
      generalize ((i+1:Nat):Int)=j at *;simp[hG,e3,n6]
     grind
   refine⟨_,_,rfl,.inl ?_,.val (.int ((i+1:Nat):Int)),.val @F,.val @sN,rfl⟩;have s1:=sP my x;have s2:=sP yA bel;have st:bN 3 @m5 [.val @cl,.val (.int ((i+1:Nat):Int)),.val @F,c]=.ok (.next [.val @cl,.val (.int ((i+1:Nat):Int)),.val @F,.val @sN]):=by simp_all
   show dD [.val @cl,.val (.int ((i+1:Nat):Int)),.val @F,c]=_;unfold dD;rw[E9,st];cases hh:stw my x with
   |false=>rw[hh]at s1;simp[wM,s1]
   |true=>
    simp_all[wM,Gs])
 simp_all[gK,PU.start,E9,sA,mr,Y9,fV,aG]
noncomputable def cn:List @y->List Nat
|[]=>[]
|[x]=>x
|x::y::r=>x++10::cn (y::r)
theorem qi(t:List Nat):∀ws:List @y,cn @ia=TX.glue 10 ws t
|[]=>rfl
|[w]=>rfl
|w::v::ws=>by
  have ih:=qi t (v::ws)
  grind[cn,TX.glue]
theorem D6:QP "\n"=(⟨#[10]⟩:Str):=by rfl
theorem Aw:∀xs:List @y,TL "\n" (xs.map Yd)=Yd (cn xs)
|[]=>rfl
|[x]=>rfl
|x::y::r=>by
  have ih:=Aw (y::r);have e:TL "\n" ((x::y::r).map Yd)=Yd x++"\n"++TL "\n" ((y::r).map Yd):=rfl;rw[e,ih,D6,show (⟨#[10]⟩:Str)=Yd [10]from rfl,cE,cE]
  grind[Yd,cn,Ul]
theorem Cf(xs:List @y)(hne:xs≠[])(hf:∀x∈xs,10∉x)(k:Nat)(hk:xs.length<=k+1):TX.YW 10 k (cn xs)=xs:=by
 rcases om xs with rfl|⟨ws,t,rfl⟩
 .simp_all
 grind[qi,TX.Zr]
theorem uh:∀xs:List @y,xs.length<=(cn xs).length+1
|[]=>by simp
|[x]=>by simp
|x::y::r=>by
  have:=uh (y::r)
  grind[cn,QV,RF]
theorem Ce (xs:List @y) (hne:xs≠[]) (hf:∀x∈xs,10∉x) (hs:(cn xs).length<=16000000):j9 @b8 (.str "\n")=Z' @cl:=by
 have e:=TX.Zq (c:=10) @h @fs;have hl:=uh xs;rw[bO,dw,Cf xs hne hf _ @b]at e;show (if _/\_/\(Txt.split @fs (QP "\n")).length<=16777216 then Z' (PV.lst ((Txt.split @fs (QP "\n")).map .str))else Y')=_;rw[D6,e,if_pos ⟨by rfl,by rw[dw];grind,by grind⟩,Rm];rfl
def iX:Yi:=⟨"",[],[]⟩
theorem Cq{m n:Nat}{g:Yb->XO Fb}{qs:List PV}{t:Tr}{ρ:Yb}(hm:qs.length=m)(e:g (PU.start n qs)=.ok @f3 ρ):FX m n g qs=Z' t:=by
 unfold FX;rw[if_pos hm,e]
theorem Fx{a b:Sl}{t:Tr}{ρ:Yb}:Cw 2 (a::b::.tree t::ρ)=.ok @f3 (a::b::.tree t::ρ):=by rfl
theorem read_house(rs:List Rw)(xs:List @y)(h:Yi)(hl:rs.length=xs.length)(hn:rs.length<=99999)(hne:xs≠[])(hx:∀(i:Nat)(r:Rw)(x:List Nat),rs[i]?=Z' r->xs[i]?=Z' x->RTx r x)(hf:∀x∈xs,10∉x)
  (hs:(cn xs).length<=16000000) (he:ie iX rs=Z' h) (hr:h.rooms≠[]) (hw:∀(i:Nat)(x:List Nat),xs[i]?=Z' x->stw my x=Y2->∃y,xs[i+1]?=Z' y/\stw yA y=Y2):cQ [.str @fs]=Z' @M:=by
 have e1:=Ce xs hne hf hs;have hj:HJ 0 iX:=⟨⟨R9 _,λz hz=>(by cases hz),UL _,λz hz=>(by cases hz),List.nodup_nil⟩,λz hz=>(by cases hz)⟩;obtain⟨a,b,e2⟩:=tJ (.val @b8) (.val @cl) rs xs 0 0 iX h .no .no hl hx he hj @b;have e3:=wordless xs @b hw;generalize hR:@gv=L at *
 have e4:mr @f @iY=.ok (eO 0 xs):=by
  show (Y9 1 _>>=λp=>R.Yn (xi p))=_;rw[Fy,yS];show R.Yn (Z' ((u3 L).map PV.tup))=_;rw[<-hR,Aa];rfl
 have e5:x5 (mr @f) @cM cK @iY=.ok .next @nF:=by
  show (XO.rd _ (mr @f _)).bind _=_;rw[e4];exact e2
 have e6:D5 @iL @nV=.ok (aO iX):=by rfl
 have e7:BR 2 @dK @nF=.ok @cg:=by rfl
 have e8:pk @cg=Z' Y2:=by
  show Z' (!(h.rooms.map λr=>(Rp r.1:Key)).isEmpty)=_;cases hq:h.rooms with
  |nil=>simp_all
  |cons a b=>rfl
 have e9:ES "str" @b8=Z' @L:=rfl;have ts:qF 2 (D5 @iL) @nV=.ok .next @iY:=by rfl
 refine Cq rfl (ρ:=[.val @b8,.val @bn,.tree @M,a,b,.val @bE]) ?_
 simp_all[Yd,cn,j5,PU.start,Fx]
abbrev cd(s:Str):List Nat:=s.cps.toList
def dg(i:Int):List Nat:=cd @fZ
def wD:Bn->List @y×List Nat
|.key k t=>([cd k],cd t)
|.name w t=>([cd w],cd t)
|.span a b t=>([dg a,dg b],cd t)
def wC(n:Str):Yg->List @y×List Nat
|.menu t _ wr wa=>(@nR,cd t)
|.names t _ wr wa=>(@nR,cd t)
|.hours _ l=>([cd n],cd l)
|.hand t=>([cd n],cd t)
|.fin t=>([cd n],cd t)
def Rw.parts:Rw->List @y×List Nat
|.first n=>([],cd n)
|.letters k l=>([cd k],l)
|.room n r=>wC n r
|.YX x=>wD x
def jW(r:Rw):List Nat:=TX.glue 32 (r.kd.c::r.parts.1) r.parts.2
theorem FW(k:Kd)(ws:List @y)(t:List Nat)(hl:ws.length+1=k.fs.length)(hf:∀w∈ws,32∉w)(vs:List PV)(hv:fvs k.fs @ia=vs)(hn:vs.any mI=Y1):rv k (TX.glue 32 (k.c::ws) t)=.lst vs:=by
 have e:TX.YW 32 k.fs.length (TX.glue 32 (k.c::ws) t)=k.c::ws++[t]:=by
  rw[<-hl,show ws.length+1=(k.c::ws).length from rfl]
  exact TX.aa8 t (k.c::ws) λw hw=>by
   grind[As]
 grind[rv,RF,X8,fvs,mI]
theorem GE(k:Kd)(ws:List @y)(t:List Nat):(TX.glue 32 (k.c::ws) t).takeWhile (· != 32)=k.c:=(TX.drop_free (As k) _).2
theorem mY{m:Nat}{x:List Nat}{c:Nat}(h:gf m x=Y2)(hc:c<97):c∉x:=λz=>by
 grind[gf]
theorem lH{m:Nat}{x:List Nat}(h:gf m x=Y2):x.length<=m:=by
 grind[gf]
theorem qd{x:List Nat}(h:fG x=Y2):gf 8 x=Y2:=by
 grind[fG]
theorem EG{x:List Nat}(h:rF x=Y2):∃c∈iy,x=[c]:=by
 match x,h with
|[c],h=>exact⟨c,of_decide_eq_true h,rfl⟩
theorem Di:∀c∈iy,c≠32/\c≠10:=by decide
theorem G8{x:List Nat}(h:qk x=Y2):10∉x:=λz=>by
 grind[qk,I8]
theorem Eo{x:List Nat}(h:qk x=Y2):x.length<=80:=by
 grind[qk]
open PySem.NumText in
theorem Ku:∀n:Nat,n<25->rH (dg (n:Int))=Y2/\(dg (n:Int)).length<=2/\digitsVal (dg (n:Int))=n/\(n<10->(dg (n:Int)).length<=1)/\32∉dg (n:Int)/\10∉dg (n:Int):=by decide +kernel
open PySem.NumText in
theorem iq{i:Int}(h0:0<=i)(h1:i<=24):rH @dy=Y2/\(dg i).length<=2/\digitsVal @dy=i.toNat/\(i<10->(dg i).length<=1)/\32∉dg i/\10∉dg i:=by
 grind[Int.eq_ofNat_of_zero_le,Ku]
theorem CU{i:Int}{lo hi L:Nat}(h0:0<=i)(h1:i<=24)(ha:(lo:Int)<=i)(hb:i<=(hi:Int))(hL:(dg i).length<=L):nw lo hi L @dy=.int i:=by
 grind[iq,nw]
def Fh(p:Int×Str):Prop:=1<=p.1/\p.1<=9/\fG (cd p.2)=Y2
def GBn:Bn->Prop
|.key k t=>rF (cd k)=Y2/\(fG @aA=Y2\/cd t=@eT)
|.name w t=>gf 12 (cd w)=Y2/\fG @aA=Y2
|.span a b t=>0<=a/\a<=23/\1<=b/\b<=24/\fG @aA=Y2
def E7:Yg->Prop
|.menu t _ wr wa=>qk @aA=Y2/\Fh wr/\Fh wa
|.names t _ wr wa=>qk @aA=Y2/\Fh wr/\Fh wa
|.hours _ l=>fG (cd l)=Y2
|.hand t=>qk @aA=Y2
|.fin t=>qk @aA=Y2
def GRw:Rw->Prop
|.first n=>fG @et=Y2
|.letters k l=>rF (cd k)=Y2/\cd k≠[35]/\gf 26 l=Y2
|.room n r=>fG @et=Y2/\E7 r/\um r
|.YX x=>GBn x
theorem pH{x:List Nat}(h:fG x=Y2):fv .name x=.str @n:=by show okB (fG x) x=_;rw[h];rfl
theorem GV{x:List Nat}(h:qk x=Y2):fv .text x=.str @n:=by show okB (qk x) x=_;rw[h];rfl
theorem N7{x:List Nat}(h:gf 12 x=Y2):fv .word x=.str @n:=by show okB @mc x=_;rw[h];rfl
theorem Nc{x:List Nat}(h:rF x=Y2):fv .key x=.str @n:=by show okB (rF x) x=_;rw[h];rfl
theorem Nb{x:List Nat}(h:rF x=Y2)(h2:x≠[35]):fv .ZT x=.str @n:=by show okB (rF x&&!decide (x=[35])) x=_;rw[h,decide_eq_false h2];rfl
theorem Na{x:List Nat}(h:gf 26 x=Y2):fv .letters x=.str @n:=by show okB (gf 26 x) x=_;rw[h];rfl
theorem N8{x:List Nat}(h:fG x=Y2\/x=@eT):fv .target x=.str @n:=by
 show okB (fG x ||decide @iu) x=_;rcases h with h|h
 .rw[h];rfl
 .rw[decide_eq_true h,Bool.or_true];rfl
theorem da(s:Str):Yd (cd s)=s:=TX.ad4 s
theorem AO{i:Int}(h0:1<=i)(h1:i<=9):fv .many @dy=.int i:=CU @b @q @q @q ((iq @b @q).2.2.2.1 @q)
theorem GX{i:Int}(h0:0<=i)(h1:i<=23):fv .from_ @dy=.int i:=CU @q @q @q @q (iq @q @q).2.1
theorem GW{i:Int}(h0:1<=i)(h1:i<=24):fv .till @dy=.int i:=CU @b @q @q @q (iq @b @q).2.1
structure ah2(r:Rw):Prop where
 len:r.parts.1.length+1=r.kd.fs.length
 free:∀w∈r.parts.1,32∉w/\10∉w/\w.length<=100
 last:10∉r.parts.2/\r.parts.2.length<=100
 vals:fvs r.kd.fs (r.parts.1++[r.parts.2])=r.vals
theorem lE{x:List Nat}(h:fG x=Y2):32∉x/\10∉x/\x.length<=100:=⟨mY (qd h) @h,mY (qd h) @h,Rg (lH (qd h)) @h⟩
theorem Iz{m:Nat}{x:List Nat}(h:gf m x=Y2)(hm:m<=100):32∉x/\10∉x/\x.length<=100:=⟨mY h @h,mY h @h,Rg (lH h) hm⟩
theorem JQ{x:List Nat}(h:rF x=Y2):32∉x/\10∉x/\x.length<=100:=by
 grind[EG,Di]
theorem Ht{i:Int}(h0:0<=i)(h1:i<=24):32∉dg i/\10∉dg i/\(dg i).length<=100:=⟨(iq h0 h1).2.2.2.2.1,(iq h0 h1).2.2.2.2.2,Rg (iq h0 h1).2.1 @h⟩
theorem LV{x:List Nat}(h:fG x=Y2\/x=@eT):32∉x/\10∉x/\x.length<=100:=by
 grind[lE]
theorem CI{x:List Nat}(h:qk x=Y2):10∉x/\x.length<=100:=⟨G8 h,Rg (Eo h) @h⟩
theorem all1{P:List Nat->Prop}{a:List Nat}(h:P a):∀w∈[a],P w:=λw hw=>by simp_all
theorem CS(r:Rw)(g:GRw r):ah2 r:=by
 cases r with
|first n=>exact⟨rfl,λw hw=>(by cases hw),(lE g).2,by show [fv .name @et]=[PV.str n];rw[pH g,da]⟩
|letters k l=>
  exact⟨rfl,all1 (JQ g.1),(Iz g.2.2 @h).2,by show [fv .ZT (cd k),fv .letters l]=[PV.str k,PV.str @dz];rw[Nb g.1 g.2.1,Na g.2.2,da]⟩
|YX x=>
  cases x with
  |key k t=>exact⟨rfl,all1 (JQ g.1),(LV g.2).2,by show [fv .key (cd k),fv .target @aA]=[PV.str k,PV.str t];rw[Nc g.1,N8 g.2,da,da]⟩
  |name w t=>exact⟨rfl,all1 (Iz g.1 @h),(lE g.2).2,by show [fv .word (cd w),fv .name @aA]=[PV.str w,PV.str t];rw[N7 g.1,pH g.2,da,da]⟩
  |span a b t=>
   obtain⟨a0,a1,b0,b1,ht⟩:=g;refine⟨rfl,λw hw=>?_,(lE ht).2,by show [fv .from_ (dg a),fv .till (dg b),fv .name @aA]=[PV.int a,PV.int b,PV.str t];rw[GX a0 a1,GW b0 b1,pH ht,da]⟩
   grind[dg,Rw.parts,wD,Ht]
|room n r=>
  obtain⟨hn,hr,hb⟩:=g
  have lim:∀(t:Str)(wr wa:Int×Str),qk @aA=Y2->Fh wr->Fh wa->(∀w∈[cd n,dg wr.1,cd wr.2,dg wa.1,cd wa.2],32∉w/\10∉w/\w.length<=100)/\[fv .name @et,fv .many (dg wr.1),fv .name (cd wr.2),fv .many (dg wa.1),fv .name (cd wa.2),fv .text @aA]=[PV.str n,.int wr.1,.str wr.2,.int wa.1,.str wa.2,.str t]:=λt wr wa ht h1 h2=>by
   refine⟨λw hw=>?_,?_⟩
   .have hw:w=cd n\/w=dg wr.1\/w=cd wr.2\/w=dg wa.1\/w=cd wa.2:=by simp_all
    have l1:=h1.1;have l2:=h1.2.1;have l3:=h2.1;have l4:=h2.2.1;rcases hw with rfl|rfl|rfl|rfl|rfl
    .exact lE hn
    .exact Ht @b @q
    .exact lE h1.2.2
    .exact Ht @b @b
    .exact lE h2.2.2
   .rw[pH hn,AO h1.1 h1.2.1,pH h1.2.2,AO h2.1 h2.2.1,pH h2.2.2,GV ht,da,da,da,da]
  cases r with
  |menu t ks wr wa=>exact@mL
  |names t ks wr wa=>exact@mL
  |hours sp l=>exact⟨rfl,all1 (lE hn),(lE hr).2,by show [fv .name @et,fv .name (cd l)]=[PV.str n,PV.str l];rw[pH hn,pH hr,da,da]⟩
  |hand t=>exact⟨rfl,all1 (lE hn),CI hr,by show @om=@qT;rw[pH hn,GV hr,da,da]⟩
  |fin t=>exact⟨rfl,all1 (lE hn),CI hr,by show @om=@qT;rw[pH hn,GV hr,da,da]⟩
theorem wZ(c:Nat)(t:List Nat)(ht:t.length<=100):∀ws:List @y,(∀w∈ws,w.length<=100)->(TX.glue c ws t).length<=ws.length*101+100
|[],_=>by simpa[TX.glue]using ht
|w::ws,h=>by
  have ih:=wZ c t ht ws λw hw=>h w @io
  grind[RZ,TX.glue,RF,QV]
theorem uq{c d:Nat}(hcd:d≠c)(t:List Nat)(ht:d∉t):∀ws:List @y,(∀w∈ws,d∉w)->d∉TX.glue c ws t
|[],_=>ht
|w::ws,h=>by
  have ih:=uq hcd t ht ws λw hw=>h w @io
  grind[RZ,TX.glue,Ra,R7]
theorem EK(k:Kd):10∉k.c/\k.c.length<=100:=by cases k<;>decide
theorem C7(r:Rw):r.vals.any mI=Y1:=by
 cases r with
|first n=>rfl
|letters k l=>rfl
|room n r=>cases r<;>rfl
|YX x=>cases x<;>rfl
theorem Om{s:Str}(h:rF (cd s)=Y2):KyS s:=by
 obtain⟨c,hc,e⟩:=EG h;exact⟨c,hc,by rw[<-e,da]⟩
theorem pZ(r:Rw)(g:GRw r):RTx r (jW r)/\10∉jW r/\(jW r).length<=1000:=by
 have p:=CS r g;have l6:r.kd.fs.length<=6:=by cases r.kd<;>decide
 have hl:(jW r).length<=1000:=by
  have:=wZ 32 r.parts.2 p.last.2 (r.kd.c::r.parts.1) λw hw=>by
   rcases R7.mp hw with rfl|hw
   .exact(EK _).2
   .exact(p.free w hw).2.2
  have q:=p.len;rw[QV]at this;unfold jW
  grind
 refine⟨⟨?_,by grind,GE _ _ _,FW _ _ _ p.len (λw hw=>(p.free w hw).1) _ p.vals (C7 r)⟩,uq @h _ p.last.1 _ λw hw=>?_,hl⟩
 .cases r with
  |first n=>trivial
  |letters k l=>exact⟨Om g.1,Rg (lH g.2.2) @h⟩
  |room n r=>exact g.2.2
  |YX x=>
   cases x with
   |key k t=>exact Om g.1
   |name w t=>trivial
   |span a b t=>trivial
 .rcases R7.mp hw with rfl|hw
  .exact(EK _).1
  .exact(p.free w hw).2.1
noncomputable def dX:Yg->Yg
|.menu t _ a b=>.menu t [] a b|.names t _ a b=>.names t [] a b|.hours _ l=>.hours [] l|.hand t=>.hand t|.fin t=>.fin t
def bS:Yg->List Bn
|.menu _ ks _ _=>ks.map λk=>.key k.1 k.2|.names _ ks _ _=>ks.map λk=>.name k.1 k.2|.hours sp _=>sp.map λs=>.span s.1 s.2.1 s.2.2|_=>[]
def DB:Yg->List Bn->Option Yg
|r,[]=>Z' r
|r,x::xs=>(xy r x).bind λr'=>DB r' xs
def eD(r:Str×Yg):List Rw:=.room r.1 (dX r.2)::(bS r.2).map .YX
def g9(h:Yi):List Rw:=.first h.first::((h.letters.map λl=>.letters l.1 @a8)++h.rooms.flatMap eD)
def qg:List @K->List @K->Bool
|_,[]=>Y2
|p,z::s=>BL p z.1&&!dbl p (cd z.2)&&qg (p++[z]) s
structure YI(r:Yg):Prop where
 g:E7 r
 bs:∀x∈bS r,GBn x
 fb:DB @bs (bS r)=Z' r
 nw:∀t ks a b,r=.names t ks a b->ks≠[]
 nb:(bS r).length<=12
structure ZP(h:Yi):Prop where
 fst:fG (cd h.first)=Y2
 ls:∀l∈h.letters,GRw @j9
 lo:qg [] h.letters=Y2
 ln:h.letters.length<=100
 rn:h.rooms.length<=12
 re:h.rooms≠[]
 nd:(FA.names h.rooms).Nodup
 rs:∀r∈h.rooms,fG (cd r.1)=Y2/\YI r.2
theorem uy(a b:List Rw):∀h:Yi,ie h @cy=(ie h a).bind λh'=>ie h' b:=by
 induction a with
|nil=>intro h;rfl
|cons r a ih=>
  intro h;show ((dm h r).bind λh'=>ie h' @cy)=((dm h r).bind λh'=>ie h' a).bind _;cases dm h r with
  |none=>rfl
  |some h'=>exact ih h'
theorem x8 (f:Str) (hf:f≠QP ""):∀(s p:List @K),qg p s=Y2->ie ⟨f,p,[]⟩ (s.map λl=>.letters l.1 @a8)=Z' ⟨f,p++s,[]⟩
|[],p,_=>by rw[Rh];rfl
|z::s,p,h=>by
  simp only[qg,S5,Vt]at h;have ih:=x8 f hf s (p++[z]) h.2
  have e:dm ⟨f,p,[]⟩ @pG=Z' ⟨f,p++[z],[]⟩:=by
   simp only[dm,yK];rw[if_neg hf,if_pos ⟨trivial,h.1.1,h.1.2⟩];simp only[da]
  show ((dm ⟨f,p,[]⟩ @pG).bind _)=_;rw[e];show ie ⟨f,p++[z],[]⟩ _=_;rw[ih,Ul];rfl
theorem x9 (f:Str) (hf:f≠QP "") (ls:List @K) (ys:List @ak) (n:Str):∀(bs:List Bn) (r r':Yg),DB r bs=Z' r'->ie ⟨f,ls,ys++[(n,r)]⟩ (bs.map .YX)=Z' ⟨f,ls,ys++[(n,r')]⟩
|[],r,r',h=>by cases h;rfl
|x::bs,r,r',h=>by
  unfold DB at h;cases ha:xy r x with
  |none=>rw[ha]at h;cases h
  |some r1=>
   rw[ha]at h;have ih:=x9 f hf ls ys n bs r1 r' h
   have e:dm ⟨f,ls,ys++[(n,r)]⟩ @f4=Z' ⟨f,ls,ys++[(n,r1)]⟩:=by
    simp only[dm,p9];rw[if_neg hf,Ta];simp only[ha];show Z' (Yi.mk f ls ((ys++[(n,r)]).dropLast++[(n,r1)]))=_;rw[VU]
   show ((dm ⟨f,ls,ys++[(n,r)]⟩ @f4).bind _)=_;rw[e];exact ih
theorem qv (f:Str) (hf:f≠QP "") (ls:List @K):∀(rs ys:List @ak),(ys++rs).length<=12->(FA.names (ys++rs)).Nodup->(∀r∈rs,YI r.2)->ie @hD @sx=Z' ⟨f,ls,ys++rs⟩
|[],ys,_,_,_=>by rw[Rh];rfl
|(n,r)::rs,ys,hl,nd,hg=>by
  have g:=hg (n,r) RZ
  have hn:n∉FA.names ys:=λz=>by
   unfold FA.names at nd z;rw[SX,TQ]at nd;exact nd.2.2 n z n @a rfl
  have hl2:ys.length≠12:=by
   rw[RF,QV]at hl
   grind
  have e:dm @hD @e6=Z' ⟨f,ls,ys++[(n,dX r)]⟩:=by
   simp only[dm];rw[if_neg hf,if_neg λz=>z.elim hl2 hn]
  have e2:=x9 f hf ls ys n (bS r) @bs r g.fb;have ih:=qv f hf ls rs (ys++[(n,r)]) (by simpa using hl) (by simpa using nd) λr hr=>hg r @mo;rw[Vs,uy]
  have e3:ie @hD (eD (n,r))=Z' ⟨f,ls,ys++[(n,r)]⟩:=by
   show ((dm @hD @e6).bind λh'=>ie h' ((bS r).map .YX))=_;rw[e];exact e2
  rw[e3];show ie ⟨f,ls,ys++[(n,r)]⟩ _=_;rw[ih];simp
theorem Mz {s:Str} (h:fG (cd s)=Y2):s≠QP "":=λz=>by subst z;revert h;decide +kernel
theorem yr(h:Yi)(g:ZP h):ie iX (g9 h)=Z' h:=by
 have hf:=Mz g.fst;have e1:dm iX @gH=Z' ⟨h.first,[],[]⟩:=by simp only[dm,iX];exact if_pos trivial
 show ((dm iX @gH).bind _)=_;rw[e1];show ie ⟨h.first,[],[]⟩ _=_;rw[uy,x8 h.first hf h.letters [] g.lo];show ie ⟨h.first,[]++h.letters,[]⟩ _=_;rw[qv h.first hf ([]++h.letters) h.rooms [] (by simpa using g.rn) (by simpa using g.nd) λr hr=>(g.rs r hr).2];rfl
theorem Hx(r:Yg):um @bs:=by cases r<;>first|rfl|trivial
theorem KA(r:Yg)(g:E7 r):E7 @bs:=by cases r<;>exact g
theorem nM(h:Yi)(g:ZP h):∀r∈g9 h,GRw r:=λr hr=>by
 rcases R7.mp hr with rfl|hr
 .exact g.fst
 .rcases Ra.mp hr with hr|hr
  .obtain⟨l,hl,rfl⟩:=SU.mp hr
   exact g.ls l hl
  .obtain⟨z,hz,hr⟩:=List.mem_flatMap.mp hr
   obtain⟨hn,gr⟩:=g.rs z hz;rcases R7.mp hr with rfl|hr
   .exact⟨hn,KA _ gr.g,Hx _⟩
   .obtain⟨x,hx,rfl⟩:=SU.mp hr
    exact gr.bs x hx
def NW:List Rw->Prop
|[]=>True
|r::s=>(r.kd=.names->∃r' s',s=r'::s'/\r'.kd=.name)/\NW s
theorem Fe:∀rs:List Rw,NW rs->∀(i:Nat)(r:Rw),rs[i]?=Z' r->r.kd=.names->∃r',rs[i+1]?=Z' r'/\r'.kd=.name
|[],_,i,r,h,_=>by simp at h
|q::s,hw,0,r,h,hk=>by
  have h:q=r:=by simpa using h
  subst h;obtain⟨r',s',rfl,h2⟩:=hw.1 hk;exact⟨r',rfl,h2⟩
|q::s,hw,i+1,r,h,hk=>by
  obtain⟨r',e1,e2⟩:=Fe s hw.2 i r (by simpa using h) hk;exact⟨r',by simpa using e1,e2⟩
theorem Ff(s:List Rw)(hs:NW s):∀bs:List Bn,NW (bs.map .YX++s)
|[]=>hs
|x::bs=>⟨λh=>(by cases x<;>cases h),Ff s hs bs⟩
theorem xA:∀rs:List @ak,(∀r∈rs,YI r.2)->NW @sx
|[],_=>trivial
|(n,r)::rs,hg=>by
  have ih:=xA rs λr hr=>hg r @mo;have g:=hg (n,r) RZ;rw[Vs];refine⟨λh=>?_,Ff _ ih _⟩;cases r with
  |names t ks a b=>
   have hk:=g.nw t ks a b rfl;cases ks with
   |nil=>exact absurd rfl hk
   |cons k ks=>exact⟨.YX (.name k.1 k.2),_,rfl,rfl⟩
  |menu t ks a b=>cases h
  |hours sp l=>cases h
  |hand t=>cases h
  |fin t=>cases h
theorem E4(h:Yi)(g:ZP h):NW (g9 h):=by
 refine⟨λh=>(by cases h),?_⟩;have hr:=xA h.rooms λr hr=>(g.rs r hr).2
 have:∀(ls:List @K)(s:List Rw),NW s->NW ((ls.map λl=>Rw.letters l.1 @a8)++s):=λls s hs=>by
  induction ls with
  |nil=>exact hs
  |cons l ls ih=>exact⟨λh=>(by cases h),ih⟩
 exact this h.letters _ hr
theorem z9(r:Rw)(h:stw my (jW r)=Y2):r.kd=.names:=by
 have h:=of_decide_eq_true h;have e:jW r=r.kd.c++32::TX.glue 32 r.parts.1 r.parts.2:=rfl;rw[e]at h;generalize TX.glue 32 r.parts.1 r.parts.2=q at h;generalize r.kd=k at h ⊢;cases k<;>first|rfl|(simp[Kd.c,my]at h)
theorem Cd(r:Rw)(h:r.kd=.name):stw yA (jW r)=Y2:=by
 have e:jW r=r.kd.c++32::TX.glue 32 r.parts.1 r.parts.2:=rfl;unfold stw;rw[e,h];rfl
def aH(h:Yi):Str:=Yd (cn @hs)
theorem kK:∀xs:List @y,(∀x∈xs,x.length<=1000)->(cn xs).length<=xs.length*1001
|[],_=>by simp[cn]
|[x],h=>by have:=h x @a;simp[cn];grind
|x::y::r,h=>by
  have ih:=kK (y::r) λz hz=>h z @im;have:=h x @a;simp only[cn,RF,QV]at ih ⊢
  grind
theorem wo(h:Yi)(g:ZP h):(g9 h).length<=300:=by
 have:∀rs:List @ak,(∀r∈rs,YI r.2)->(rs.flatMap eD).length<=rs.length*13:=λrs hg=>by
  induction rs with
  |nil=>simp
  |cons r rs ih=>
   have h1:=ih λr hr=>hg r @mo;have h2:=(hg r RZ).nb;rw[Vs,RF,QV];have:(eD r).length=(bS r.2).length+1:=by simp[eD]
   grind
 have h1:=this h.rooms λr hr=>(g.rs r hr).2;have h2:=g.rn;have h3:=g.ln;show (_::_).length<=_;rw[QV,RF,RB]
 grind
theorem zA(h:Yi)(g:ZP h):cQ [.str (aH h)]=Z' @M:=by
 have hr:=nM h g;have hl:=wo h g;refine read_house (g9 h) @hs h (by rw[RB]) @b (by simp[g9]) (λi r x h1 h2=>?_) (λx hx=>?_) ?_ (yr h g) g.re λi x hx hs=>?_
 .rw[RC,h1]at h2
  cases h2;exact(pZ r (hr r (VS h1))).1
 .obtain⟨r,hm,rfl⟩:=SU.mp hx
  exact(pZ r (hr r hm)).2.1
 .have:=kK @hs λx hx=>by
   obtain⟨r,hm,rfl⟩:=SU.mp hx;exact(pZ r (hr r hm)).2.2
  rw[RB]at this
  grind
 .rw[RC]at hx
  cases e:(g9 h)[i]? with
  |none=>rw[e]at hx;cases hx
  |some r=>
   rw[e]at hx;cases hx;obtain⟨r',e1,e2⟩:=Fe _ (E4 h g) i r e (z9 r hs);exact⟨jW r',by rw[RC,e1];rfl,Cd r' e2⟩
theorem Av (t:List Nat):∀ws:List @y,TL " " ((ws++[t]).map Yd)=Yd @rV
|[]=>rfl
|[w]=>by
  show Yd w++" "++Yd t=Yd (w++32::t);rw[Cg,show (⟨#[32]⟩:Str)=Yd [32]from rfl,cE,cE,Ul];rfl
|w::v::ws=>by
  have ih:=Av t (v::ws);have e:TL " " ((w::v::ws++[t]).map Yd)=Yd w++" "++TL " " ((v::ws++[t]).map Yd):=rfl;rw[e,ih,Cg,show (⟨#[32]⟩:Str)=Yd [32]from rfl,cE,cE,Ul];rfl
def Rw.ps(r:Rw):List @y:=r.parts.1++[r.parts.2]
theorem GR(s:Str):jS @aQ=Z' @aQ:=rfl
theorem Ak:∀n:Nat,n<25->n.log2<1920:=by decide +kernel
theorem lr{i:Int}(h0:0<=i)(h1:i<=24):jS @I=Z' (.str (Yd @dy)):=by
 show (if i.natAbs.log2<1920 then Z' (PV.str (UT i))else Y')=_;rw[if_pos (Ak _ @b)];rfl
theorem FB(r:Rw)(g:GRw r):r.vals.map jS=r.ps.map λx=>Z' @F:=by
 cases r with
|first n=>rfl
|letters k l=>rfl
|room n r=>
  obtain⟨_,g,_⟩:=g;cases r with
  |menu t ks wr wa=>
   obtain⟨_,⟨a1,a2,_⟩,b1,b2,_⟩:=g;simp[Rw.vals,Rw.ps,Rw.parts,GR,da,lQ,wC,lr (i:=wr.1) @b @q,lr (i:=wa.1) @b @b]
  |names t ks wr wa=>
   obtain⟨_,⟨a1,a2,_⟩,b1,b2,_⟩:=g;simp[Rw.vals,Rw.ps,Rw.parts,GR,da,lQ,wC,lr (i:=wr.1) @b @q,lr (i:=wa.1) @b @b]
  |hours sp l=>rfl
  |hand t=>rfl
  |fin t=>rfl
|YX x=>
  cases x with
  |key k t=>rfl
  |name w t=>rfl
  |span a b t=>
   obtain⟨a1,a2,b1,b2,_⟩:=g;simp[Rw.vals,Rw.ps,Rw.parts,GR,da,Bn.vals,wD,lr (i:=a) @q @q,lr (i:=b) @b @q]
theorem xr:∀(vs:List PV)(xs:List @y),(vs.map jS=xs.map λx=>Z' @F)->cm @Z iF dH [.no] vs=.ok @eC
|[],[],_=>rfl
|[],x::xs,h=>by cases h
|v::vs,[],h=>by cases h
|v::vs,x::xs,h=>by
  simp only[RG,Uq]at h;have ih:=xr vs xs h.2
  simp_all[dH,Yd,cm,ar,iF]
theorem Mj(r:Rw):((r.ps.map λx=>x.length).sum)<=(jW r).length:=by
 have:∀(ws:List @y)(t:List Nat),((ws++[t]).map λx=>x.length).sum<=(TX.glue 32 ws t).length:=λws t=>by
  induction ws with
  |nil=>simp[TX.glue]
  |cons w ws ih=>
   grind[TX.glue,Uo,RF,QV,List.map]
 have h:=this (r.kd.c::r.parts.1) r.parts.2;rw[List.cons_append,RG,Uo]at h;show _<=(TX.glue 32 (r.kd.c::r.parts.1) r.parts.2).length;unfold Rw.ps
 grind
theorem PL(r:Rw):r.ps.length<=6:=by
 cases r with
|room n r=>cases r<;>simp[Rw.ps,Rw.parts,wC]
|YX x=>cases x<;>simp[Rw.ps,Rw.parts,wD]
|_=>simp[Rw.ps,Rw.parts]
theorem row_text(r:Rw)(g:GRw r)(c:List PV->PV)(hc:c=.lst\/c=.tup):aT [.str r.kd.s,c r.vals]=Z' (.str @hX):=by
 have h1:=FB r g;have hl:=(pZ r g).2.2;have hs:=Mj r;have hn:=PL r;have e1:=xr _ _ h1
 have hj:ja @bA (.lst (.str r.kd.s::r.ps.map λx=>.str @n))=Z' (.str @hX):=by
  have e:=yV (s:=" ") (xs:=(r.kd.c::r.ps).map Yd) (by
   have l1:(QP " ").length=1:=by rfl
   have l2:r.kd.c.length<=10:=by cases r.kd<;>decide
   rw[l1,Rm,RB];have:(r.ps.map ((λx:Str=>x.length)∘Yd)).sum=(r.ps.map λx=>x.length).sum:=by rfl
   grind[RG,Uo,QV,dw])
  rw[Rm]at e;have e2:=Av r.parts.2 (r.kd.c::r.parts.1);rw[show (r.kd.c::r.parts.1++[r.parts.2])=r.kd.c::r.ps from rfl]at e2;rw[e2]at e;rw[JV];exact e
 have hi:iW (c r.vals)=Z' r.vals:=by rcases hc with rfl|rfl<;>rfl
 have a1:bt (.lst [.str r.kd.s]) (.lst (r.ps.map λx=>.str @n))=Z' (.lst (.str r.kd.s::r.ps.map λx=>.str @n)):=sM (by simp;grind);have hg:(r.ps.map λx=>PV.str @n).length<=16777216:=by grind
 generalize (r.ps.map λx=>PV.str @n)=L at *;generalize r.vals=V at *;generalize r.kd.s=s at *;sleep 2
 simp_all[eF,PU.start,dE]
theorem room_values(n:Str)(r:Yg):ij [.str n,r.pv]=Z' (.lst (lQ n @bs)):=by
 sleep 2;have n1:QP "menu"≠QP "hours":=by simp_all
 have n2:QP "names"≠QP "hours":=by simp_all
 have n3:QP "hand"≠QP "hours":=by simp_all
 have n4:QP "end"≠QP "hours":=by simp_all
 have i1:YQ @d2 c_BENEATH=Z' @L:=rfl;have i2:YQ @dV c_BENEATH=Z' @L:=rfl;have i3:YQ @cG c_BENEATH=Z' @B:=rfl;have i4:YQ @cJ c_BENEATH=Z' @B:=rfl;cases r<;>rfl
theorem Dt(r:Yg):bg r=(bS r).map λx=>.tup x.vals:=by
 cases r<;>simp[bg,bS,Bn.vals,Yt,pv3,Vd]
theorem K5(r:Yg):Yh r.pv @bE=Z' @gL:=by cases r<;>rfl
theorem K6(r:Yg)(x:Bn)(hx:x∈bS r):Yh c_BENEATH @gL=Z' @la:=by
 cases r with
|menu t ks a b=>obtain⟨k,_,rfl⟩:=SU.mp hx;rfl
|names t ks a b=>obtain⟨k,_,rfl⟩:=SU.mp hx;rfl
|hours sp l=>obtain⟨k,_,rfl⟩:=SU.mp hx;rfl
|hand t=>cases hx
|fin t=>cases hx
theorem wW:∀xs:List @y,((xs.map Yd).map (·.length)).sum+xs.length<=(cn xs).length+1
|[]=>by simp[cn]
|[x]=>by simp[cn,dw]
|x::y::r=>by
  have:=wW (y::r)
  grind[RG,Uo,QV,cn,RF,dw]
theorem ug (xs:List @y) (hs:(cn xs).length<=16000000):ja (.str "\n") @cl=Z' @b8:=by
 have:=yV (s:=QP "\n") (xs:=xs.map Yd) (by
  have:=wW xs;rw[RB,show (QP "\n").length=1 from by decide]
  grind)
 rw[Rm]at this;rw[<-Aw];exact this
def iP(rows:List Rw):List PV:=rows.map λr=>.str @hX
abbrev hst(H:PV)(rows:List Rw)(a b c d:Sl):Yb:=[.val H,.own (.lst (iP rows)),a,b,c,d]
theorem v5(T:List Rw):(iP T).length=T.length:=by unfold iP;rw[RB]
theorem v7(T:List Rw)(r:Rw):iP T++[.str @hX]=iP (T++[r]):=by simp[iP]
theorem M8(H:PV)(rows:List Rw)(a b:Sl)(r:Yg)(x:Bn)(hr:rows.length<=1000)(hx:x∈bS r)(g:GBn x):
  eV (hst H rows a b @ec (.val @hH))=.ok (.next (hst H (rows++[.YX x]) a b @ec (.val @hH))):=by
 have hl:(iP rows).length<16777216:=by rw[v5];omega
 have e1:=K5 r;have e2:=K6 r x hx;have e3:aT [.str x.kd.s,.tup x.vals]=Z' (.str (Yd (jW @f4))):=row_text @f4 g .tup @cn
 simp_all[v7,YX,iP,Yd,jW,Yg.kd,eV]
theorem M7(H:PV)(rows:List Rw)(a d:Sl)(n:Str)(r:Yg)(hr:rows.length+(bS r).length<=900)(g:GRw @e6)(gb:∀x∈bS r,GBn x):∃d',
  eS (hst H rows a @h0 @ec d)=.ok (.next (hst H (rows++eD (n,r)) a @h0 @ec d')):=by
 obtain⟨ρ',e,d',rfl⟩:=forM (enc:=λx:Bn=>PV.tup x.vals) (xs:=bS r) (h:=ar 5) (g:=eV) (ρ:=hst H (rows++[.room n @bs]) a @h0 @ec d)
  (I:=λpre ρ=>∃d',ρ=hst H (rows++[.room n @bs]++pre.map .YX) a @h0 @ec d') ⟨d,by simp⟩ (by
   rintro pre x post ρ e ⟨d',rfl⟩;have hx:x∈bS r:=by simp_all
   have hl2:pre.length<=(bS r).length:=by simp_all
   refine⟨_,_,rfl,.inl (M8 H _ a _ r x (by simp;grind) hx (gb x hx)),.val @hH,?_⟩;simp)
 refine⟨d',?_⟩;have hl:(iP rows).length<16777216:=by rw[v5];grind
 have e1:=K5 r;have hv:=room_values n r;have hw:=AI r;rw[Dt]at hw
 have hx:aT [.str (Yg.kd r).s,.lst (lQ n @bs)]=Z' (.str (Yd (jW @e6))):=by
  have:=row_text @e6 g .lst @ad;rw[show (Rw.room n @bs).kd=Yg.kd r by cases r<;>rfl]at this
  exact this
 rw[show rows++eD (n,r)=rows++[.room n @bs]++(bS r).map .YX by simp[eD]];unfold hst at e ⊢;rw[<-v7]at e;generalize iP (rows++[Rw.room n @bs]++(bS r).map .YX)=L' at *
 simp_all[iP,Yd,jW,dX,lQ,Yg.kd,bS,eS]
def kn(r:Str×Yg):PV:=.tup [.str r.1,r.2.pv]
theorem A3(rs:List @ak):o4 @pS @c7=rs.map λr=>[.str r.1,r.2.pv]:=by
 simp_all[RG,o4]
theorem jO(rs:List @ak):uj @b4=Z' (rs.map kn):=by
 show (if (rs.map λr=>(Rp r.1:Key)).length=(rs.map λr=>r.2.pv).length then Z' ((o4 @pS @c7).map PV.tup)else Y')=_;rw[if_pos @a,A3,Rm];rfl
theorem show_house(h:Yi)(hl:(g9 h).length<=900)(hg:∀r∈g9 h,GRw r):fA [h.pv]=Z' (.str (aH h)):=by
 have e1:aT [.str "first",.lst [.str h.first]]=Z' (.str (Yd @mb)):=row_text @gH (hg _ (by simp[g9])) .lst @ad;have hln:1+h.letters.length+(h.rooms.flatMap eD).length<=900:=by grind[g9,eD]
 obtain⟨ρ1,f1,a,rfl⟩:=forM (enc:=Yt) (xs:=h.letters) (h:=ar 2) (g:=gS) (ρ:=hst h.pv [.first h.first] .no .no .no .no)
  (I:=λpre ρ=>∃a,ρ=hst h.pv (.first h.first::pre.map λl=>.letters l.1 @a8) a .no .no .no) @O (by
   rintro pre l post ρ e ⟨a,rfl⟩;have hp:pre.length<=h.letters.length:=by simp_all
   have gl:=hg @j9 (by grind[g9,R7,Ra,SU]);have e2:=row_text @j9 gl .tup @cn;rw[show PV.tup (Rw.letters l.1 @a8).vals=Yt l by rfl]at e2;have e2:aT [.str "letters",Yt l]=_:=e2;have hl:(iP (.first h.first::pre.map λl=>.letters l.1 @a8)).length<16777216:=by rw[v5];simp;grind
   simp_all[v7,Yt,iP,gS])
 obtain⟨ρ2,f2,b,c,d,rfl⟩:=forM (enc:=kn) (xs:=h.rooms) (h:=fV 2 @iH) (g:=eS) (ρ:=hst h.pv (.first h.first::h.letters.map λl=>.letters l.1 @a8) a .no .no .no)
  (I:=λpre ρ=>∃b c d,ρ=hst h.pv ((.first h.first::h.letters.map λl=>.letters l.1 @a8)++pre.flatMap eD) a b c d) ⟨.no,.no,.no,by simp⟩ (by
   rintro pre r post ρ e ⟨b,c,d,rfl⟩;have hm:r∈h.rooms:=by simp_all
   have hsub:∀q∈eD r,GRw q:=λq hq=>hg q (by grind[g9,R7,Ra,List.mem_flatMap]);have hlr:(pre.flatMap eD).length+(eD r).length<=(h.rooms.flatMap eD).length:=by simp_all
   have hlr2:(eD r).length=(bS r.2).length+1:=by simp[eD]
   obtain⟨d',e3⟩:=M7 h.pv ((.first h.first::h.letters.map λl=>.letters l.1 @a8)++pre.flatMap eD) a d r.1 r.2 @b (hsub _ (by simp[eD])) λx hx=>hsub @f4 (by grind[eD,R7,SU]);refine⟨_,_,rfl,.inl e3,.val @h8,.val r.2.pv,d',?_⟩;simp)
 have ej:=ug @hs (by
  grind[kK,g9,jW,pZ,RB])
 rw[Rm]at ej;have ej:ja (.str "\n") (.lst (iP ((.first h.first::h.letters.map λl=>.letters l.1 @a8)++h.rooms.flatMap eD)))=Z' (.str (aH h)):=ej;have i1:Yh h.pv @ty=Z' @g7:=by rfl
 have i2:Yh h.pv @hm=Z' @c3:=by rfl
 have i3:Yh h.pv @kW=Z' @cg:=by rfl
 have it:=jO h.rooms;have r1:iP [.first h.first]=[.str (Yd @mb)]:=rfl;unfold hst at f1 f2;rw[r1]at f1;generalize iP ((.first h.first::h.letters.map λl=>.letters l.1 @a8)++h.rooms.flatMap eD)=L2 at *;generalize iP (.first h.first::h.letters.map λl=>.letters l.1 @a8)=L1 at *;generalize Yd @mb=T at *;generalize aH h=TT at *;generalize h.letters.map Yt=LL at *;generalize h.rooms.map kn=RR at *;generalize ay h.rooms=RP at *;generalize h.pv=HP at *;sleep 2
 simp_all[j4,PU.start]
open NM BG NW
theorem Bq(ns:List Int)(k:Nat):bY [.lst @dX,.int k]=Z' (.int (ns.getD k 0)):=by
 sleep 2
 by_cases hk:k<ns.length
 .have h2:(k:Int)<ns.length:=by simp[*]
  have h3:Yu @kC (k:Int)=Z' (.int ns[k]):=aX rfl (by simp[hk])
  simp_all[fO,PU.start]
 .have h2:¬ (k:Int)<ns.length:=by simp[*]
  simp[fO,PU.start,h2,hk]
def mix(c b:Int):Int:=c%2147483647*b%2147483647
theorem mixed(c b:Int)(hb:b.natAbs<18446744073709551616):cj [.int c,.int b]=Z' (.int (mix c b)):=by
 sleep 2;have m:BP (.int (c%2147483647)) @aH=Z' (.int (c%2147483647*b)):=FD (.inr hb);simp (disch:=simp) [jR,PU.start,sJ,m,mix]
noncomputable def c24:List Nat:=@mI
theorem F7:("acdefghijlmnopqrstuvwxyz":Str)=Yd c24:=by rfl
theorem DX:∀i:Fin 24,∀j:Fin 24,c24.getD i.1 0=c24.getD j.1 0->i.1=j.1:=by decide +kernel
theorem Hv(i j:Nat)(hi:i<24)(hj:j<24)(e:c24.getD i 0=c24.getD j 0):i=j:=DX ⟨i,hi⟩ ⟨j,hj⟩ e
def Ee(N at_:Int)(t k:Nat):Nat:=c24.getD ((N/((k:Int)+2)+(t:Int)*(if (k:Int)=at_ then 1 else 0))%24).toNat 0
def cds(N at_:Int)(t i:Nat):List Nat:=(S7 i).map (Ee N at_ t)
abbrev nst(n:Nat)(N size at_:Int)(done:List PV)(a b c d:Sl):Yb:=
 [.val (.int N),.val @iD,.val @sM,.val (.int size),.val (.int at_),.own (.lst done),a,b,c,d]
theorem D8(n:Nat)(N size at_:Int)(done:List PV)(t k:Nat)(x:List Nat)(e:Sl)(hk:k<8)(hx:x.length<=100):∃e',
  fU (nst n N size at_ done @dQ (.val @F) @bj e)=.ok (.next (nst n N size at_ done @dQ (.val (.str (Yd (x++[Ee N at_ t k])))) @bj e')):=by
 have hq:(if (k:Int)=at_ then (1:Int)else 0).natAbs<18446744073709551616:=by split<;>decide
 have m2:BP (.int (t:Int)) (.int (if (k:Int)=at_ then 1 else 0))=Z' (.int ((t:Int)*(if (k:Int)=at_ then 1 else 0))):=FD (.inr hq);have dv:lg (.int N) (.int ((k:Int)+2))=Z' (.int (N/((k:Int)+2))):=xC ⟨by grind,by omega⟩;have h3:∀z:Int,Yh @sM (.int (z%24))=Z' (.str ⟨#[c24.getD (z%24).toNat 0]⟩):=λz=>Dj c24 (z%24) @b (by show _<(24:Int);grind) @h;have h4:=E1 x (Ee N at_ t k) @b;refine⟨.val (.int ((t:Int)*(if (k:Int)=at_ then 1 else 0))),?_⟩
 simp_all[Ee,Sr,fU,sJ]
theorem D7(n:Nat)(N:Int)(size:Nat)(at_:Int)(done:List PV)(t:Nat)(b d e:Sl)(hs:size<=8)(hd:done.length<=100):∃d' e',
  fT (nst n N size at_ done @dQ b d e)=.ok (.next (nst n N size at_ (done++[.str @gs]) @dQ (.val (.str @gs)) d' e')):=by
 obtain⟨ρ',f1,d',e',rfl⟩:=forR (n:=size) (lo:=0) (h:=ar 8) (g:=fU) (ρ:=nst n N size at_ done @dQ (.val (.str (Yd []))) d e)
  (I:=λi ρ=>∃d e,ρ=nst n N size at_ done @dQ (.val (.str (Yd @sD))) d e) ⟨d,e,rfl⟩ (by
   rintro i ρ hi ⟨d,e,rfl⟩;obtain⟨e',h⟩:=D8 n N size at_ done t i @sD e @b (by simp[cds];grind);have:cds N at_ t (i+1)=cds N at_ t i++[Ee N at_ t i]:=by simp[cds,List.range_succ]
   rw[XA,this];exact⟨_,_,rfl,.inl h,_,_,rfl⟩)
 refine⟨d',e',?_⟩;have hq:done.length<16777216:=by omega
 simp (disch:=omega) [fT,xj,C9];rw[f1];simp[hq]
def Nm(k:Nat)(x:Str):Prop:=(cd x).length=k/\∀y∈cd x,y∈c24
theorem Nm.nm{k:Nat}{x:Str}(h:Nm k x)(h1:1<=k)(h8:k<=8):fG @es=Y2:=by
 obtain⟨hl,hc⟩:=h;unfold fG gf;simp only[S5,decide_eq_true_eq,T4,Vt,decide_eq_false_iff_not];refine⟨⟨⟨by simp[*],by simp[*]⟩,λy hy=>(by decide:∀y∈c24,97<=y/\y<=122) y (hc y hy)⟩,λe=>?_⟩;exact absurd (hc 98 (by rw[e];simp)) @h
theorem names(N:Int)(n:Nat)(hn:n<=6):∃Xu:List Str,Xu.length=n/\Xu.Nodup/\(∀x∈Xu,Nm (1+N%8).toNat x)/\cR [.int N,.int n]=Z' (.lst (Xu.map .str)):=by
 obtain⟨size,hsz,h1,h8⟩:∃size:Nat,(1+N%8)=(size:Int)/\1<=size/\size<=8:=⟨(1+N%8).toNat,by grind,by grind,by grind⟩;obtain⟨at_,hat,ha0,ha1⟩:∃at_:Int,N/8%(size:Int)=at_/\0<=at_/\at_<size:=⟨N/8%(size:Int),rfl,Int.emod_nonneg _ @b,Int.emod_lt_of_pos _ @b⟩
 obtain⟨ρ',f1,a,b,c,d,rfl⟩:=forR (n:=n) (lo:=0) (h:=ar 6) (g:=fT) (ρ:=nst n N size at_ [] .no .no .no .no)
  (I:=λi ρ=>∃a b c d,ρ=nst n N size at_ @oA a b c d) @ry (by
   rintro i ρ hi ⟨a,b,c,d,rfl⟩;obtain⟨d',e',e⟩:=D7 n N size at_ @oA i b c d h8 (by simp;grind);rw[XA,List.range_succ,SX];exact⟨_,_,rfl,.inl e,_,_,_,_,rfl⟩)
 refine⟨(S7 n).map λt=>Yd @rm,by simp,?_,?_,aI rfl ?_⟩
 .unfold List.Nodup
  rw[Xs];refine List.Pairwise.imp_of_mem (R:=λa b=>a<b) (λ{i j} hi hj hij e=>?_) List.pairwise_lt_range;rw[WT]at hi hj;have e:=BG.ad5 e;have hs:at_.toNat<size:=by simp[*]
  have e2:=congrArg (λl:List Nat=>l[at_.toNat]?) e;simp only[cds,RC,Th hs,Option.map_some]at e2;have e3:Ee N at_ i at_.toNat=Ee N at_ j at_.toNat:=SG e2;unfold Ee at e3;rw[if_pos @b]at e3;generalize N/(((at_.toNat:Nat):Int)+2)=q at e3;have e4:=Hv _ _ @b @b e3
  grind
 .intro x hx
  obtain⟨t,_,rfl⟩:=SU.mp hx;have hd:cd @gs=cds N at_ t size:=bO _;refine⟨by rw[hd,hsz];simp[cds],λy hy=>?_⟩;rw[hd]at hy;obtain⟨k,_,rfl⟩:=SU.mp hy;have:∀z:Nat,z<24->c24.getD z 0∈c24:=by decide +kernel
  exact this _ @b
 .simp only[nst]at f1
  have hsz0:(0:Int)<size:=by grind
  simp (disch:=omega) [-Rm,jQ,PU.start,F7,sJ,xC,hsz,hat,C9];rw[f1];simp
structure HD where
 (a b c fst lk t tx ky tg:Str) (nm hh en:Bool) (m1 m2 s:Int)
def HD.bx(d:HD):Str:=Yd (cd d.b++[120])
noncomputable def HD.R1 (d:HD):Yg:=.names "Who is it?  " [("ab",d.a),("c",d.b)] (d.m1,d.b) (d.m2,d.a)
noncomputable def HD.R2(d:HD):Yg:=.menu d.t [(d.ky,d.tg)] (d.m1,d.b) (d.m2,d.a)
def HD.R3(d:HD):Yg:=if d.en then .fin d.tx else .hand d.tx
def HD.R4(d:HD):Yg:=.hours [(d.s,24,d.b)] d.a
def HD.rooms(d:HD):List @ak:=(if d.nm then [(d.c,d.R1)]else [])++((d.a,d.R2)::(d.b,d.R3)::if d.hh then [(d.bx,d.R4)]else [])
def HD.h (d:HD):Yi:=⟨d.fst,if d.nm then [(d.lk,"cba")]else [],d.rooms⟩
def hd(a b c:Str):Nat->HD
| 1=>⟨a,b,c,a,"2"," Press 0, or #.","It's 621","#",a,Y1,Y1,Y1,7,5,21⟩
| 2=>⟨a,b,c,b,"2","So?","It's 242","7",b,Y2,Y1,Y2,4,1,18⟩
| 3=>⟨a,b,c,b,"2"," Press 0, or #.","It's 863","0","back",Y1,Y1,Y2,1,6,15⟩
| 4=>⟨a,b,c,a,"2"," Press 0, or #.","It's 484","#",a,Y2,Y1,Y1,7,1,12⟩
| 5=>⟨a,b,c,a,"*","So?","It's 105","7",b,Y1,Y2,Y2,4,6,9⟩
|_=>⟨a,b,c,b,"*"," Press 0, or #.","It's 726","0","back",Y2,Y2,Y2,1,2,6⟩
class LB (x:List Nat) (n:outParam Nat):Prop where
 h:x.length<=n
instance:LB [] 0:=⟨R9 0⟩
instance {a:Nat} {x:List Nat} {n:Nat} [i:LB x n]:LB (a::x) (n+1):=⟨Nat.succ_le_succ i.h⟩
instance {x y:List Nat} {n m:Nat} [i:LB x n] [j:LB y m]:LB (x++y) (n+m):=⟨by rw[RF];exact Nat.add_le_add i.h j.h⟩
theorem KF{x y:List Nat}{n m:Nat}[i:LB x n][j:LB y m](h:Nat.ble (n+m) 1000=Y2):bt @F (.str @ew)=Z' (.str (Yd (x++y))):=by
 have:=XH h;have:=i.h;have:=j.h;rw[nh (by rw[dw,dw];omega),cE]
theorem Nu{ps qs:List PV}(h:Nat.ble (ps.length+qs.length) 1000=Y2):GU @X @cp=Z' @fb:=if_pos (by have:=XH h;omega)
theorem lits:QP " "=Yd [32]/\QP "first "=Yd [102,105,114,115,116,32]/\QP "letters "=Yd [108,101,116,116,101,114,115,32]/\QP "2"=Yd [50]/\QP "*"=Yd [42]/\QP "abc"=Yd [97,98,99]/\QP "cba"=Yd [99,98,97]/\
  QP "names "=Yd @pA/\QP "Who is it?  "=Yd [87,104,111,32,105,115,32,105,116,63,32,32]/\QP "name ab "=Yd [110,97,109,101,32,97,98,32]/\QP "name c "=Yd [110,97,109,101,32,99,32]/\QP "menu "=Yd [109,101,110,117,32]/\
  QP "So?"=Yd [83,111,63]/\QP " Press 0, or #."=Yd [32,80,114,101,115,115,32,48,44,32,111,114,32,35,46]/\QP "key 0 back"=Yd [107,101,121,32,48,32,98,97,99,107]/\QP "key 7 "=Yd [107,101,121,32,55,32]/\QP "key # "=Yd [107,101,121,32,35,32]/\
  QP "hand "=Yd [104,97,110,100,32]/\QP "end "=Yd [101,110,100,32]/\QP " It's "=Yd [32,73,116,39,115,32]/\QP "hours "=Yd [104,111,117,114,115,32]/\QP "x "=Yd [120,32]/\QP "from "=Yd [102,114,111,109,32]/\QP " 24 "=Yd [32,50,52,32]:=by decide +kernel
theorem Y8:jS (.int 7)=Z' (.str (Yd [55]))/\jS (.int 5)=Z' (.str (Yd [53]))/\jS (.int 4)=Z' (.str (Yd [52]))/\jS @cU=Z' (.str (Yd [49]))/\jS (.int 6)=Z' (.str (Yd [54]))/\jS @iE=Z' (.str (Yd [50]))/\jS (.int 9)=Z' (.str (Yd [57]))/\
  jS (.int 621)=Z' (.str (Yd [54,50,49]))/\jS (.int 242)=Z' (.str (Yd [50,52,50]))/\jS (.int 863)=Z' (.str (Yd [56,54,51]))/\jS (.int 484)=Z' (.str (Yd [52,56,52]))/\jS (.int 105)=Z' (.str (Yd [49,48,53]))/\jS (.int 726)=Z' (.str (Yd [55,50,54])):=by
 refine⟨?_,?_,?_,?_,?_,?_,?_,?_,?_,?_,?_,?_,?_⟩<;>rfl
theorem DD {L:List PV} {xs:List @y} (e:L=xs.map λx=>.str @n) (h:(cn xs).length<=16000000):uc Fl.ret (R.Yn (ja (.str (QP "\n")) @bn))=.ok (.ret @b8):=by
 rw[e,ug xs h];rfl
theorem FG(A B C:List Nat)(ha:A.length<=8)(hb:B.length<=8)(hc:C.length<=8)(i:Nat)(h1:1<=i)(h6:i<=6)(hs:(cn ((g9 (hd (Yd A) (Yd B) (Yd C) i).h).map jW)).length<=16000000):hW [.lst [.str (Yd A),.str (Yd B),.str (Yd C)],.int (69621*i)]=Z' (.str (aH (hd (Yd A) (Yd B) (Yd C) i).h)):=by
 have hl:=lits;have hn:=Y8;have a2:∀x y:PV,Yu [x,y] 0=Z' x/\Yu [x,y] 1=Z' y:=λx y=>⟨aX (n:=0) rfl rfl,aX (n:=1) rfl rfl⟩;have a3:∀x y z:PV,Yu @b3 0=Z' x/\Yu @b3 1=Z' y/\Yu @b3 2=Z' z:=λx y z=>⟨aX (n:=0) rfl rfl,aX (n:=1) rfl rfl,aX (n:=2) rfl rfl⟩;have as:∀X:List Nat,B++120::X=(B++[120])++X:=λX=>by simp
 sleep 2;have:LB A 8:=⟨ha⟩;have:LB B 8:=⟨hb⟩;have:LB C 8:=⟨hc⟩;obtain rfl|rfl|rfl|rfl|rfl|rfl:i=1\/i=2\/i=3\/i=4\/i=5\/i=6:=by omega
 all_goals
  simp (disch:=first|decide|(simp only[QV,WD];decide)) [lL,PU.start,aG,ar,fN,sJ,xC,hl,hn,a2,a3,KF,Nu]
  try rw[as]
  exact DD @aM hs
end K46
namespace K46
open PySem L2 PU MT NM BG
structure HD.Ok(d:HD):Prop where
 nd:[d.a,d.b,d.c,d.bx].Nodup
 nm:∀x∈[d.a,d.b,d.c,d.bx],fG @es=Y2
 f:d.fst=d.a\/d.fst=d.b
 lk:d.lk=QP "2"\/d.lk=QP "*"
 t:qk (cd d.t)=Y2
 tx:qk (cd d.tx)=Y2
 k:(d.ky=QP "0"/\d.tg=QP "back")\/(d.ky=QP "7"/\d.tg=d.b)\/(d.ky=QP "#"/\d.tg=d.a)
 m1:1<=d.m1/\d.m1<=9
 m2:1<=d.m2/\d.m2<=9
 s:0<=d.s/\d.s<=23
theorem Nm.x{k:Nat}{x:Str}(h:Nm k x):Nm (k+1) @rn:=by
 obtain⟨h1,h2⟩:=h;have e:cd @rn=cd x++[120]:=bO _;refine⟨by rw[e];simp[h1],λy hy=>?_⟩;rw[e]at hy;rcases Ra.mp hy with z|z
 .exact h2 y z
 .rw[Sd.mp z];decide
theorem N2{k:Nat}(h1:1<=k)(h7:k<=7){a b c:Str}(ha:Nm k a)(hb:Nm k b)(hc:Nm k c)(nd:[a,b,c].Nodup)(i:Nat):(hd a b c i).Ok:=by
 have hx:=hb.x
 have ne:∀z:Str,Nm k z->z≠Yd @k5:=λz hz e=>by
  have:=hz.1;rw[e,hx.1]at this
  grind
 have n1:=ne a ha;have n2:=ne b hb;have n3:=ne c hc
 have N:∀x∈[a,b,c,Yd @k5],fG @es=Y2:=λx hx'=>by
  simp only[R7,Rx,or_false]at hx';rcases hx' with rfl|rfl|rfl|rfl
  .exact ha.nm h1 @b
  .exact hb.nm h1 @b
  .exact hc.nm h1 @b
  .exact hx.nm @a @i
 have D:[a,b,c,Yd @k5].Nodup:=by simp_all
 match i with
| 0 | 1 | 2 | 3 | 4 | 5|_+6=>exact⟨D,N,by simp[hd],by simp[hd],by rfl,by rfl,by simp[hd],by simp[hd],by simp[hd],by simp[hd]⟩
variable{d:HD}
theorem Dw(o:d.Ok):ZP d.h:=by
 have hN:=o.nm;have na:=hN d.a @a;have nb:=hN d.b @a;have nc:=hN d.c @a;have nx:=hN d.bx @a;have W1:Fh (d.m1,d.b):=⟨o.m1.1,o.m1.2,nb⟩;have W2:Fh (d.m2,d.a):=⟨o.m2.1,o.m2.2,na⟩
 have g1:fG (cd d.c)=Y2/\YI d.R1:=⟨nc,⟨⟨by rfl,W1,W2⟩,λx hx=>by
  simp[HD.R1,bS]at hx;rcases hx with rfl|rfl
  .exact⟨by rfl,na⟩
  .exact⟨by rfl,nb⟩,by rfl,λt ks a b e=>by cases e;simp,by simp[HD.R1,bS]⟩⟩
 have g2:fG (cd d.a)=Y2/\YI d.R2:=⟨na,⟨⟨o.t,W1,W2⟩,λx hx=>by
  simp[HD.R2,bS]at hx;subst hx;rcases o.k with⟨h,h'⟩|⟨h,h'⟩|⟨h,h'⟩
  .exact⟨by rw[h];rfl,.inr (by rw[h'];rfl)⟩
  .exact⟨by rw[h];rfl,.inl (by rw[h'];exact nb)⟩
  .exact⟨by rw[h];rfl,.inl (by rw[h'];exact na)⟩,by rfl,nofun,by simp[HD.R2,bS]⟩⟩
 have g3:fG (cd d.b)=Y2/\YI d.R3:=⟨nb,by
  unfold HD.R3
  split
  .exact⟨o.tx,nofun,rfl,nofun,by simp[bS]⟩
  .exact⟨o.tx,nofun,rfl,nofun,by simp[bS]⟩⟩
 have g4:fG (cd d.bx)=Y2/\YI d.R4:=⟨nx,⟨na,λx hx=>by
  simp[HD.R4,bS]at hx;subst hx;exact⟨o.s.1,o.s.2,by decide,by decide,nb⟩,by
  show (xy (.hours [] d.a) @rr).bind _=_;rw[show xy (.hours [] d.a) @rr=Z' (.hours [(d.s,24,d.b)] d.a)from if_pos ⟨by simp,by have:=o.s;omega⟩];rfl,nofun,by simp[HD.R4,bS]⟩⟩
 have L:∀l,l=QP "2"\/l=QP "*"->rF (cd l)=Y2/\cd l≠[35]/\qg [] [(l,QP "cba")]=Y2:=by
  rintro l (rfl|rfl)<;>decide +kernel
 obtain⟨l1,l2,l3⟩:=L _ o.lk;have cb:gf 26 (cd (QP "cba"))=Y2:=by rfl
 have nd:=o.nd;have q1:d.c≠d.a:=λe=>by simp[e]at nd
 have q2:d.c≠d.b:=λe=>by simp[e]at nd
 have ff:fG (cd d.fst)=Y2:=by rcases o.f with h|h<;>rw[h]<;>assumption
 cases hn:d.nm<;>cases hh:d.hh
 all_goals
  refine⟨ff,?_,?_,?_,?_,?_,?_,?_⟩
  .simp_all[HD.h,GRw]
  .simp_all[HD.h,qg]
  .simp_all[HD.h]
  .simp_all[HD.h,HD.rooms]
  .simp_all[HD.h,HD.rooms]
  .simp_all[HD.h,HD.rooms,FA.names]
  .simp_all[HD.h,HD.rooms]
variable{d:HD}
def HD.N(d:HD):List Str:=d.rooms.map @d
theorem tG{P:Str×Yg->Prop}(h1:P (d.c,d.R1))(h2:P (d.a,d.R2))(h3:P (d.b,d.R3))(h4:P (d.bx,d.R4)):∀r∈d.rooms,P r:=by
 intro r hr;unfold HD.rooms at hr;cases d.nm<;>cases d.hh<;>simp at hr<;>grind
theorem OW:d.a∈d.N/\d.b∈d.N:=by
 unfold HD.N HD.rooms;cases d.nm<;>cases d.hh<;>simp
theorem rM:Yh d.h.pv @kW=Z' @cj:=by rfl
theorem AM:Yh d.h.pv @ty=Z' @fu:=by rfl
theorem Kf:Yh d.h.pv @hm=Z' (.lst ((if d.nm then [(d.lk,QP "cba")]else []).map Yt)):=by rfl
theorem GC(o:d.Ok):FA.Z5 d.rooms d.a=Z' d.R2/\FA.Z5 d.rooms d.b=Z' d.R3/\(d.nm=Y2->FA.Z5 d.rooms d.c=Z' d.R1)/\(d.hh=Y2->FA.Z5 d.rooms d.bx=Z' d.R4):=by
 have nd:=o.nd;have q1:d.c≠d.a:=λe=>by simp[e]at nd
 have q2:d.c≠d.b:=λe=>by simp[e]at nd
 unfold HD.rooms;cases d.nm<;>cases d.hh<;>simp_all[FA.Z5]
theorem GH(o:d.Ok):Yh @cj (.str d.a)=Z' d.R2.pv/\Yh @cj (.str d.b)=Z' d.R3.pv/\(d.nm=Y2->Yh @cj (.str d.c)=Z' d.R1.pv)/\(d.hh=Y2->Yh @cj (.str d.bx)=Z' d.R4.pv):=by
 obtain⟨a0,a1,a2,a3⟩:=GC o;simp only[FA.aa9,a0,a1];exact⟨rfl,rfl,λh=>by rw[a2 h];rfl,λh=>by rw[a3 h];rfl⟩
theorem pd:∃k,Yh d.R3.pv @bE=Z' @fX/\Yh d.R3.pv @cU=Z' (.str d.tx)/\(k=QP "hand"\/k=QP "end")/\d.R3.pv=.tup [.str k,.str d.tx]:=by
 unfold HD.R3;cases d.en
 .exact⟨"hand",rfl,rfl,.inl rfl,rfl⟩
 .exact⟨"end",rfl,rfl,.inr rfl,rfl⟩
def AB(d:HD)(x:Str):Prop:=x=d.a\/x=d.b
theorem AB.N{x:Str}(h:AB d x):x∈d.N:=by
 rcases h with rfl|rfl
 .exact OW.1
 .exact OW.2
theorem EH (o:d.Ok) {x:Str} (h:AB d x\/x=d.c/\d.nm=Y2):∃R k,Yh @cj @H=Z' R/\Yh R @bE=Z' @fX/\k≠QP "hours":=by
 obtain⟨i0,i1,i2,-⟩:=GH o;rcases h with (rfl|rfl)|⟨rfl,hn⟩
 .exact⟨_,"menu",i0,rfl,by decide +kernel⟩
 .obtain⟨k,e,-,hk,-⟩:=pd (d:=d)
  exact⟨_,k,i1,e,by rcases hk with h|h<;>rw[h]<;>decide +kernel⟩
 .exact⟨_,"names",i2 hn,rfl,by decide +kernel⟩
theorem YZ{x:Str}(h:x∈d.N):cO @H @cj=Z' @B:=by
 have:((d.rooms.map λr=>(Rp r.1:Key)).any λj=>decide (j=.inr x))=Y2:=by
  unfold HD.N at h
  grind
 show Z' (PV.bl (!((d.rooms.map λr=>(Rp r.1:Key)).any λj=>decide (j=.inr x))))=_
 simp_all
theorem HF(x:Str)(h:x∈d.N):(AB d x\/x=d.c/\d.nm=Y2)\/x=d.bx/\d.hh=Y2:=by
 unfold HD.N HD.rooms at h;simp at h;unfold AB
 grind
theorem AK(hour:Int):∃y,AB d y/\kW [d.R4.pv,.int hour]=Z' @fW:=by
 have a3:∀x y z:PV,Yu @b3 1=Z' y/\Yu @b3 2=Z' z:=λx y z=>⟨aX (n:=1) rfl rfl,aX (n:=2) rfl rfl⟩;have it:∀l:List PV,iW (.tup l)=Z' l:=λ_=>rfl;have tt:∀ρ:Yb,fV 3 @kq (.tup @oH) ρ=Z' (((ρ.set 2 (.val (.int d.s))).set 3 (.val (.int 24))).set 4 (.val (.str d.b))):=fun ρ=>rfl;show ∃y,AB d y/\kW [.tup [.str "hours",.tup [.tup @oH],.str d.a],.int hour]=Z' @fW
 by_cases h:d.s<=hour/\hour<24
 .refine⟨d.b,.inr rfl,aI rfl ?_⟩
  simp_all[kT,PU.start,rS,jq]
 .refine⟨d.a,.inl rfl,aI rfl ?_⟩
  by_cases h1:d.s<=hour
  .have h2:¬ hour<24:=λz=>h ⟨h1,z⟩
   simp[kT,PU.start,a3,it,rS,tt,jq,h1,h2]
  .simp[kT,PU.start,a3,it,rS,tt,jq,h1]
theorem Cv(o:d.Ok):vF [d.h.pv]=Z' (.lst []):=by
 have hR:=rM (d:=d)
 have g:∀(hour:Int)(x:Str),x∈d.N->jf [ay d.rooms,.int hour,.str x]=Z' @B:=λhour x hx=>by
  obtain⟨n,l,h2,h9⟩:∃n:Int,jT (ay d.rooms)=Z' (.int n)/\2<=n/\n<=9:=⟨(d.rooms.map λr=>(Rp r.1:Key)).length,rfl,by unfold HD.rooms;cases d.nm<;>cases d.hh<;>simp,by unfold HD.rooms;cases d.nm<;>cases d.hh<;>simp⟩
  obtain⟨rest,r⟩:∃rest,Jd (.int n)=.ok (.int 0::.int 1::rest):=by
   obtain rfl|rfl|rfl|rfl|rfl|rfl|rfl|rfl:n=2\/n=3\/n=4\/n=5\/n=6\/n=7\/n=8\/n=9:=by grind
   all_goals exact⟨_,C9 @h @h⟩
  have b0:∀(z:Str)(a:Sl),AB d z\/z=d.c/\d.nm=Y2->z∈d.N->eW [.val @cj,.val @aU,.val @H,.val (.str z),a]=.ok (.ret @B):=λz a hz hN=>by
   obtain⟨R0,k,e1,e2,e3⟩:=EH o hz;have n:=YZ hN
   simp_all[ay,RM,vW,eW]
  sleep 2;rcases HF x hx with e|⟨rfl,hh⟩
  .have b:=λa=>b0 x a e hx
   generalize ay d.rooms=RM at *
   simp_all[gD,PU.start,rS]
  .obtain⟨y,hy,ey⟩:=AK (d:=d) hour
   have ne:y≠d.bx:=λz=>by
    have nd:=o.nd;rcases hy with rfl|rfl<;>simp[z]at nd
   have i2:=(GH o).2.2.2 hh;have n:=YZ hx;have b:=λa=>b0 y a (.inl hy) hy.N;have k0:Yh d.R4.pv @bE=Z' @tx:=rfl;generalize d.R4.pv=R4 at *;generalize ay d.rooms=RM at *
   simp_all[eW,gD,PU.start,rS]
 obtain⟨ρ',f,a,rfl⟩:=forR (n:=24) (lo:=0) (h:=ar 2) (g:=oX) (ρ:=[.val d.h.pv,.own (.lst []),.no])
  (I:=λi ρ=>∃a,ρ=[.val d.h.pv,.own (.lst []),a]) @O (by
   rintro i ρ hi ⟨a,rfl⟩;rw[XA];refine⟨_,[.val d.h.pv,.own (.lst []),.val @I],rfl,.inl ?_,_,rfl⟩
   have t:∀x∈d.N,k7 [.val @H,.val @I,.val d.h.pv]=.ok Y1:=λx hx=>by
    simp_all[ay,RM,k7]
   have cl:∀xs:List Str,(∀x∈xs,x∈d.N)->cm @Z k7 uE [.no,.val @I,.val d.h.pv] @fh=.ok []:=λxs=>by
    induction xs with
    |nil=>exact λ_=>rfl
    |cons x xs ih=>
     intro h;have:=t x (h x @a);have:=ih λz hz=>h z @im
     simp_all[cm,ar]
   have cl:=cl d.N λ_ h=>h
   have it:iW @cj=Z' (d.N.map .str):=by
    unfold HD.N;simp[ay,iW]
   simp_all[ay,RM,oX,dE])
 sleep 2
 simp_all[Jd,c_HOURS_OF_A_DAY,gd,C9,vC,PU.start]
def CW(d:HD)(R:PV):Prop:=∃cs:List @K,cs.length<=2/\fR [d.h.pv,R]=Z' (.lst @eb)/\fQ [.lst @eb]=Z' (.lst [])
theorem cw_all(o:d.Ok):∀r∈d.rooms,CW d r.2.pv:=by
 have hL:=Kf (d:=d)
 have nil:∀(R:PV) (k:Str),Yh R @bE=Z' @fX->k≠QP "names"->CW d R:=λR k e h=>by
  refine⟨[],by simp,aI rfl ?_,by kernel_rfl⟩
  simp_all[fP,PU.start]
 intro r hr
 by_cases hn:d.nm=Y2
 .revert r
  refine tG ?_ (nil _ "menu" rfl @bf) ?_ (nil _ "hours" rfl @bf)
  .rw[hn]at hL
   obtain⟨c1,c2,k1,k2,tw⟩:∃c1 c2:Str,kX [.lst ([(d.lk,QP "cba")].map Yt),.str "ab"]=Z' (.str c1)/\kX [.lst ([(d.lk,QP "cba")].map Yt),.str "c"]=Z' (.str c2)/\fQ [.lst [.tup [.str "ab",.str c1],.tup [.str "c",.str c2]]]=Z' (.lst []):=by
    rcases o.lk with h|h<;>rw[h]
    .exact⟨"22","2",by kernel_rfl,by kernel_rfl,by kernel_rfl⟩
    .exact⟨"**","*",by kernel_rfl,by kernel_rfl,by kernel_rfl⟩
   have a5:∀x y z u v:PV,Yu @d8 0=Z' x/\Yu @d8 2=Z' z:=λx y z u v=>⟨aX (n:=0) rfl rfl,aX (n:=2) rfl rfl⟩;have it:∀l:List PV,iW (.tup l)=Z' l:=λ_=>rfl;have tt:∀(x y:PV)(ρ:Yb),fV 2 @dC @hR ρ=Z' @gh:=λ_ _ _=>rfl;show CW d (.tup [.str "names",.str "Who is it?  ",.tup [.tup [.str "ab",.str d.a],.tup [.str "c",.str d.b]],.tup [.int d.m1,.str d.b],.tup [.int d.m2,.str d.a]]);refine⟨[("ab",c1),("c",c2)],by simp,aI rfl ?_,tw⟩
   simp_all[Yt,fP,PU.start,dE,cm,iF,jj]
  .obtain⟨k,e,-,hk,-⟩:=pd (d:=d)
   exact nil _ k e (by rcases hk with h|h<;>rw[h]<;>decide +kernel)
 .have:r.2=d.R2\/r.2=d.R3\/r.2=d.R4:=by
   unfold HD.rooms at hr;cases hh:d.hh<;>simp_all<;>grind
  rcases this with h|h|h<;>rw[h]
  .exact nil _ "menu" rfl @bf
  .obtain⟨k,e,-,hk,-⟩:=pd (d:=d)
   exact nil _ k e (by rcases hk with h|h<;>rw[h]<;>decide +kernel)
  .exact nil _ "hours" rfl @bf
theorem DT(o:d.Ok):dh [d.h.pv]=Z' (.lst [])/\jc [d.h.pv]=Z' (.lst []):=by
 have hR:=rM (d:=d);have it:=jO d.rooms;have tt:∀(x y:PV)(ρ:Yb),fV 2 @dC @hR ρ=Z' @gh:=λ_ _ _=>rfl;have nn:∀s:Str,BQ @aQ .Yj=Z' @B/\yq @aQ .Yj=Z' @L:=λ_=>@aT
 have c1:∀(cs:List @K)(x:Sl),cm @a7 cL eA [.no,.no,x] @eb=.ok []:=λcs x=>by
  induction cs with
  |nil=>rfl
  |cons c cs ih=>simp_all[cm,Yt,cL]
 have d2':∀a b:PV,Yu [a,b] 1=Z' b:=λa b=>aX (n:=1) rfl rfl
 have c2:∀cs:List @K,cm @Z gH gN [.no] @eb=.ok @eb:=λcs=>by
  induction cs with
  |nil=>rfl
  |cons c cs ih=>simp_all[cm,ar,Yt,gH,gN]
 constructor
 .obtain⟨ρ',f,a,b,rfl⟩:=forM (enc:=kn) (xs:=d.rooms) (h:=fV 2 @gc) (g:=cM) (ρ:=[.val d.h.pv,.own (.lst []),.no,.no])
   (I:=λ_ ρ=>∃a b,ρ=[.val d.h.pv,.own (.lst []),a,b]) ⟨_,_,rfl⟩ (by
    rintro pre r post ρ e ⟨a,b,rfl⟩;obtain⟨cs,hl,e1,-⟩:=cw_all o r (by rw[e];simp);refine⟨_,[.val d.h.pv,.own (.lst []),.val @h8,.val r.2.pv],rfl,.inl ?_,_,_,rfl⟩
    simp_all[Yt,cM,dE])
  sleep 2
  simp_all[kn,ay,RM,df,PU.start]
 .obtain⟨ρ',f,a,b,c,rfl⟩:=forM (enc:=kn) (xs:=d.rooms) (h:=fV 2 @gc) (g:=gR) (ρ:=[.val d.h.pv,.own (.lst []),.no,.no,.no])
   (I:=λ_ ρ=>∃a b c,ρ=[.val d.h.pv,.own (.lst []),a,b,c]) @so (by
    rintro pre r post ρ e ⟨a,b,c,rfl⟩;obtain⟨cs,hl,e1,e2⟩:=cw_all o r (by rw[e];simp);refine⟨_,[.val d.h.pv,.own (.lst []),.val @h8,.val r.2.pv,.val (.lst @eb)],rfl,.inl ?_,_,_,_,rfl⟩;have c:=c2 cs;have hz:(cs.map Yt).length<=16777216:=by grind
    simp_all[Yt,gR,dE,cm])
  sleep 2
  simp_all[kn,ay,RM,iZ,PU.start]
def TgN (d:HD) (t:Str):Prop:=AB d t\/t=QP "back"
theorem uW(o:d.Ok):∀r∈d.rooms,∃ts:List Str,ts.length<=14/\(∀t∈ts,TgN d t)/\fw [r.2.pv]=Z' (.lst (ts.map .str)):=by
 have q:QP "menu"≠QP "hours"/\QP "names"≠QP "hours"/\QP "hand"≠QP "hours"/\QP "end"≠QP "hours":=by simp_all
 obtain⟨q1,q2,q3,q4⟩:=q;have i1:YQ @d2 @eN=Z' @L:=by rfl
 have i2:YQ @dV @eN=Z' @L:=by rfl
 have i3:YQ @cG @eN=Z' @B:=by rfl
 have i4:YQ @cJ @eN=Z' @B:=by rfl
 have tt:∀(x y:PV)(ρ:Yb),fV 2 @dC @hR ρ=Z' @gh:=λ_ _ _=>rfl
 have c2:∀l:List @K,cm @a7 iF gO @l7 (l.map Yt)=.ok @pN:=λl=>by
  induction l with
  |nil=>rfl
  |cons c l ih=>simp_all[cm,Yt,iF,gO]
 have a5:∀x y z u v:PV,Yu @d8 0=Z' x/\Yu @d8 2=Z' z/\Yu @d8 3=Z' u/\Yu @d8 4=Z' v:=λx y z u v=>⟨aX (n:=0) rfl rfl,aX (n:=2) rfl rfl,aX (n:=3) rfl rfl,aX (n:=4) rfl rfl⟩;have a2:∀x y:PV,Yu [x,y] 0=Z' x/\Yu [x,y] 1=Z' y:=λx y=>⟨aX (n:=0) rfl rfl,aX (n:=1) rfl rfl⟩;have a3:∀x y z:PV,Yu @b3 0=Z' x/\Yu @b3 1=Z' y/\Yu @b3 2=Z' z:=λx y z=>⟨aX (n:=0) rfl rfl,aX (n:=1) rfl rfl,aX (n:=2) rfl rfl⟩;have it:∀l:List PV,iW (.tup l)=Z' l:=λ_=>rfl
 have two:∀(k t:Str) (l:List @K) (m1 m2:Int) (x y:Str),k≠QP "hours"->YQ @fX @eN=Z' @L->l.length<=12->fw [.tup [.str k,.str t,.tup (l.map Yt),.tup [.int m1,.str x],.tup [.int m2,.str y]]]=Z' (.lst ((x::y::l.map @s).map .str)):=λk t l m1 m2 x y h1 h2 h3=>by
  sleep 2;have c:=c2 l;have hz:((l.map @s).map PV.str).length<=16777216:=by grind
  have ad:bt (.lst [.str x,.str y]) (.lst @pN)=Z' (.lst (.str x::.str y::(l.map @s).map .str)):=sM (by simp;grind)
  simp_all[RG,Yt,j3,PU.start,dE]
 refine tG ?_ ?_ ?_ ?_
 .exact⟨_,by simp,λt ht=>by simp at ht;unfold TgN AB;grind,two "names" "Who is it?  " [(QP "ab",d.a),(QP "c",d.b)] d.m1 d.m2 d.b d.a q2 i2 @a⟩
 .exact⟨_,by simp,λt ht=>by have:=o.k;simp at ht;unfold TgN AB;grind,two "menu" d.t [(d.ky,d.tg)] d.m1 d.m2 d.b d.a q1 i1 @a⟩
 .obtain⟨k,-,-,hk,e⟩:=pd (d:=d)
  refine⟨[],by simp,nofun,?_⟩;show fw [d.R3.pv]=_;rw[e];rcases hk with h|h<;>rw[h]
  .exact aI rfl @D
  .exact aI rfl @D
 .exact⟨[d.a,d.b],by simp,λt ht=>by simp at ht;unfold TgN AB;grind,aI rfl @D⟩
theorem GB(o:d.Ok):je [d.h.pv]=Z' (.lst []):=by
 have hR:=rM (d:=d);have hF:=AM (d:=d);have it:=jO d.rooms;have tt:∀(x y:PV)(ρ:Yb),fV 2 @dC @hR ρ=Z' @gh:=λ_ _ _=>rfl
 have c1:∀(ts:List Str)(n:Str),cm @Z iF gP [.no,.val @bm] (ts.map .str)=.ok ((ts.map λt=>(n,t)).map Yt):=λts n=>by
  induction ts with
  |nil=>rfl
  |cons c l ih=>simp_all[cm,ar,iF,gP,Yt]
 have c2:∀L:List @K,(∀z∈L,TgN d z.2)->cm @a7 dk jE [.no,.no,.val d.h.pv] (L.map Yt)=.ok []:=λL=>by
  induction L with
  |nil=>exact λ_=>rfl
  |cons c L ih=>
   intro h;have ih:=ih λz hz=>h z @im
   have t:dk [.val (.str c.1),.val (.str c.2),.val d.h.pv]=.ok Y1:=by
    by_cases e:c.2=QP "back"
    .simp[dk,e]
    .have n:=YZ ((h c @a).resolve_right e).N
     simp_all[ay,RM,dk]
   simp_all[cm,Yt]
 obtain⟨ρ',f,L,a,b,rfl,hL,hz⟩:=forM (enc:=kn) (xs:=d.rooms) (h:=fV 2 @gc) (g:=gT) (ρ:=[.val d.h.pv,.own (.lst ([(QP "",d.fst)].map Yt)),.no,.no])
  (I:=λpre ρ=>∃(L:List @K)(a b:Sl),ρ=[.val d.h.pv,.own (.lst (L.map Yt)),a,b]/\(∀z∈L,TgN d z.2)/\L.length<=1+14 * pre.length) ⟨_,_,_,rfl,by simpa using .inl o.f,by simp⟩ (by
   rintro pre r post ρ e ⟨L,a,b,rfl,h,hl⟩;obtain⟨ts,l1,l2,l3⟩:=uW o r (by rw[e];simp)
   have hp:pre.length<=5:=by
    have:=congrArg SY e;have h9:d.rooms.length<=5:=by unfold HD.rooms;cases d.nm<;>cases d.hh<;>simp
    simp at this
    grind
   refine⟨_,[.val d.h.pv,.own (.lst ((L++ts.map λt=>(r.1,t)).map Yt)),.val @h8,.val r.2.pv],rfl,.inl ?_,_,_,_,rfl,λz hz=>?_,by simp;grind⟩
   .have c:=c1 ts r.1
    have z1:((ts.map λt=>(r.1,t)).map Yt).length<=16777216:=by grind
    have z2:(L.map Yt).length+((ts.map λt=>(r.1,t)).map Yt).length<=16777216:=by grind
    simp_all[SX,Yt,gT,dE]
   grind)
 sleep 2;have c:=c2 L hL
 simp_all[QP,Yt,kn,ay,RM,j6,PU.start,dE]
theorem Ad(o:d.Ok):n0 [d.h.pv]=Z' (.lst []):=by
 have e1:=GB o;obtain⟨e2,e3⟩:=DT o;have e4:=Cv o;have e5:bt (.lst []) (.lst [])=Z' (.lst []):=rfl;sleep 2
 simp_all[rO,PU.start]
variable{d:HD}
theorem ym(x:Str):x.length=(cd x).length:=by rfl
theorem Kx(a b:Str):cd @cy=cd a++cd b:=by
 conv=>lhs;rw[<-mi a,<-mi b,cE]
 rfl
theorem jU(a b:Str):(a++b).length=a.length+b.length:=by rw[ym,Kx,RF,<-ym,<-ym]
theorem vN(o:d.Ok)(hour:Int):∃st s,Ub s<=200/\lP @g0=Z' st/\gF [d.h.pv,st]=Z' @aQ:=by
 have hR:=rM (d:=d);have hF:=AM (d:=d);have hx:AB d d.fst:=o.f;obtain⟨R0,k,e1,e2,e3⟩:=EH o (.inl hx)
 have e4:oK [d.h.pv,.int hour,.str d.fst]=Z' @fu:=by
  sleep 2
  have t:aW @iV @iM=.ok Y1:=by
   generalize ay d.rooms=RM at *
   simp_all
  have w:whF (aW @iV) oZ 300 @iM=.ok (.next @iM):=by
   grind[whF,R.Ym,Tu]
  simp_all[oF,PU.start]
 have e5:oM [d.h.pv,.int hour,.str d.fst,.str ""]=Z' @nn:=by
  sleep 2;generalize d.h.pv=H at *;simp[oI,PU.start,e4]
 have e6:lP @g0=Z' @nn:=by
  sleep 2;generalize d.h.pv=H at *;simp[vE,PU.start,hF,e5]
 obtain⟨k',t',h1,h2,h3⟩:∃k t:Str,k.length<=80/\t.length<=80/\vG [d.h.pv,.tup [.str d.fst,.str "",.int 0,.int 0,.str ""]]=Z' (.tup [.str k,.str t]):=by
  obtain⟨i0,i1,-⟩:=GH o;have a0:Yu [PV.str d.fst,.str "",.int 0,.int 0,.str ""] 0=Z' @fu:=aX (n:=0) rfl rfl;have L:∀t:Str,qk @aA=Y2->t.length<=80:=λt h=>Eo h;have c1:Yh c_HEARD @d2=Z' @kX:=rfl;have c3:Yh c_HEARD @cG=Z' @cG:=rfl;have c4:Yh c_HEARD @cJ=Z' @cJ:=rfl;rcases hx with h|h
  .refine⟨"asked",d.t,by decide +kernel,L _ o.t,aI rfl ?_⟩
   have r0:Yh d.R2.pv @bE=Z' @d2:=rfl;have r1:Yh d.R2.pv @cU=Z' (.str d.t):=rfl;generalize d.R2.pv=R at *;generalize ay d.rooms=RM at *;generalize d.h.pv=H at *
   simp_all[rN,PU.start]
  .obtain⟨k,r0,r1,hk,-⟩:=pd (d:=d)
   obtain⟨q,hq,ck⟩:∃q:Str,q.length<=80/\Yh c_HEARD (.str k)=Z' (.str q):=by
    rcases hk with h|h<;>rw[h]
    .exact⟨"hand",by decide +kernel,c3⟩
    .exact⟨"end",by decide +kernel,c4⟩
   refine⟨q,d.tx,hq,L _ o.tx,aI rfl ?_⟩;generalize d.R3.pv=R at *;generalize ay d.rooms=RM at *;generalize d.h.pv=H at *
   simp_all[rN,PU.start]
 have l1:(QP " ").length=1:=by rfl
 have e1:ja @bA (.tup [.str k',.str t'])=Z' (.str (k'++" "++t')):=by
  show (if ([k',t'].map (·.length)).sum+[k',t'].length*(QP " ").length<=16777216 then Z' (PV.str (Txt.join @aZ [k',t']))else Y')=_;rw[if_pos @b,wX];rfl
 refine⟨_,k'++" "++t',by rw[jU,jU];grind,e6,aI rfl ?_⟩;generalize d.h.pv=H at *
 simp_all[j7,PU.start]
theorem w8:QP " "=(⟨#[32]⟩:Str):=by rfl
theorem vZ (ws:List @y) (t:List Nat) (hw:∀w∈ws,32∉w) (ht:32∉t) (hl:(TX.glue 32 ws t).length<=100000) (hn:ws.length<=10):j9 (.str @gM) @bA=Z' (.lst ((ws++[t]).map λx=>.str @n)):=by
 have gl:∀ws:List @y,ws.length<=(TX.glue 32 ws t).length:=λws=>by
  induction ws with
  |nil=>simp_all
  |cons w ws ih=>grind[TX.glue]
 have e:=TX.Zq (c:=32) @h @gM;rw[bO,dw,TX.Zr ht ws _ @b hw]at e;show (if _/\_/\(Txt.split @gM @aZ).length<=16777216 then Z' (PV.lst ((Txt.split @gM @aZ).map .str))else Y')=_;rw[w8,e,if_pos ⟨by rfl,by rw[dw];grind,by simp;grind⟩,Rm];rfl
theorem A2 (x r:List Nat) (hx:10∉x) (b:Bool) (hl:x.length+r.length<=100000):∃m,jt (.str (Yd (if b then x++10::r else x))) (.str "\n")=Z' (.tup [.str @n,.str m,.str (Yd (if b then r else []))]):=by
 obtain⟨e1,e2⟩:=TX.ZS 10 (Yd (if b then x++10::r else x));rw[bO]at e1 e2
 have tw:(if b then x++10::r else x).takeWhile (· != 10)=x/\((if b then x++10::r else x).dropWhile (· != 10)).drop 1=if b then r else []:=by
  cases b
  .have:∀y:List Nat,10∉y->y.takeWhile (· != 10)=y/\y.dropWhile (· != 10)=[]:=λy=>by
    induction y with
    |nil=>simp
    |cons c y ih=>intro h;simp at h;have:=ih h.2;have:c≠10:=λz=>h.1 z.symm;simp[*]
   simp_all
  .grind[TX.drop_free]
 rw[tw.1]at e1;rw[tw.2]at e2;have e1:(Txt.partition (Yd (if b then x++10::r else x)) ⟨#[10]⟩).1=Yd x:=e1;have e2:(Txt.partition (Yd (if b then x++10::r else x)) ⟨#[10]⟩).2.2=Yd (if b then r else []):=e2;refine⟨(Txt.partition (Yd (if b then x++10::r else x)) ⟨#[10]⟩).2.1,?_⟩;show (if _/\_ then Z' (PV.tup [.str (Txt.partition (Yd (if b then x++10::r else x)) (QP "\n")).1,.str (Txt.partition (Yd (if b then x++10::r else x)) (QP "\n")).2.1,.str (Txt.partition (Yd (if b then x++10::r else x)) (QP "\n")).2.2])else Y')=_;rw[D6,e1,e2,if_pos ⟨by rfl,by rw[dw];cases b<;>simp<;>grind⟩]
theorem words_of (w0:List Nat) (ws:List @y) (t:List Nat) (F:List PV) (hw:∀w∈w0::ws,32∉w/\10∉w) (ht:32∉t/\10∉t) (hl:(TX.glue 32 (w0::ws) t).length<=10000) (hn:ws.length<=5) (h0:Yd w0≠QP "house")
  (q1:cO @tw c_FORMS=Z' @B) (q2:Yh c_FORMS @tw=Z' (.tup F)) (hF:F.length=ws.length+1):
  bU [.str (Yd (TX.glue 32 (w0::ws) t))]=Z' (.lst (((w0::ws)++[t]).map λx=>.str @n)):=by
 have e1:=vZ (w0::ws) t (λw h=>(hw w h).1) ht.1 @b (by simp;grind)
 have nf:∀(ws:List @y),(∀w∈ws,10∉w)->10∉TX.glue 32 ws t:=λws=>by
  induction ws with
  |nil=>exact λ_=>ht.2
  |cons w ws ih=>
   grind[TX.glue,R6]
 obtain⟨m,e2⟩:=A2 (TX.glue 32 (w0::ws) t) [] (nf _ λw h=>(hw w h).2) Y1 (by simp;grind);have e2:jt (.str (Yd (TX.glue 32 (w0::ws) t))) (.str "\n")=Z' (.tup [.str (Yd (TX.glue 32 (w0::ws) t)),.str m,.str (Yd [])]):=e2;have a0:∀(x:PV)(l:List PV),Yu (x::l) 0=Z' x:=λx l=>aX (n:=0) rfl rfl;have q0:∀s:Str,ES "str" @aQ=Z' @L:=λ_=>rfl;have lw:(((w0::ws)++[t]).map λx=>PV.str @n).length=ws.length+2:=by simp
 have lq:((ws.length+2:Nat):Int)=(F.length:Int)+1:=by grind
 have lc:(((w0::ws)++[t]).map λx=>PV.str @n)=.str (Yd w0)::((ws++[t]).map λx=>PV.str @n):=rfl;rw[lc]at e1 lw ⊢;sleep 2
 simp_all[Yd,TX.glue,jn,PU.start]
def mU(nm T:List Nat):List Nat:=TX.glue 32 @eI nm++10::T
theorem uR (nm T:List Nat) (hn:fG nm=Y2) (hT:T.length<=90000):bU [.str @dM]=Z' @n8/\∃m,jt @lP (.str "\n")=Z' @nC:=by
 have hs:=lH (qd hn);obtain⟨n1,n2,-⟩:=lE hn;have hg:(TX.glue 32 @eI nm).length=nm.length+6:=by rfl
 have h10:10∉TX.glue 32 @eI nm:=by simp[TX.glue,n2]
 obtain⟨m,e1⟩:=A2 @gA T h10 Y2 @b;have e1:jt @lP (.str "\n")=Z' @nC:=e1;refine⟨?_,m,e1⟩;have e2:=vZ @eI nm @h n1 @b @h;have hh:Yd [104,111,117,115,101]=QP "house":=by rfl
 have e2:j9 (.str (Yd @gA)) @bA=Z' @n8:=by simp_all
 have e3:∃L,j9 @lP @bA=Z' @bn:=by
  have sl:∀(k:Nat)(l:List Nat),(TX.YW 32 k l).length<=k+1:=λk=>by
   induction k with
   |zero=>intro l;simp[TX.YW]
   |succ k ih=>
    grind[TX.YW,QV]
  have e:=TX.Zq (c:=32) @h @dM;have hl:=sl ((Yd @fG).length+1) (Yd @fG).cps.toList;have hz:(Yd @fG).length<=100000:=by rw[dw];simp[mU,hg];grind
  refine⟨(Txt.split @dM @aZ).map .str,?_⟩;show (if _/\_/\(Txt.split @dM @aZ).length<=16777216 then Z' (PV.lst ((Txt.split @dM @aZ).map .str))else Y')=_;rw[w8,e,if_pos ⟨by rfl,by grind,by grind⟩]
 obtain⟨L,e3⟩:=e3
 have ne:Yd @gA≠Yd @fG:=λz=>by
  grind[SY,ad5,mU]
 have q0:∀s:Str,ES "str" @aQ=Z' @L:=λ_=>rfl;have q1:cO @bP c_FORMS=Z' @B:=by rfl
 have q2:Yh c_FORMS @bP=Z' (.tup [.str "new"]):=by rfl
 have d0:∀a b:PV,Yu [a,b] 0=Z' a:=λa b=>aX (n:=0) rfl rfl;have d0':∀a b c:PV,Yu @em 0=Z' a:=λa b c=>aX (n:=0) rfl rfl;sleep 2
 simp_all[Yd,mU,TX.glue,jn,PU.start]
def kD:List Str:=["houses","calls","greatest"]
def Dk (hk:List Key) (hp:List PV) (ck:List Key) (cp:List PV) (g:Int):Tr:=.obj "Desk" kD @eE
noncomputable def zO(ρ:Yb):PV ⊕ PX->XO PV
|.inl p=>.ok p ρ
|.inr x=>.YV x ρ
theorem qC{D m:Str}{i:Nat}{fs:Yb->R @e}{F:Tr->List PV->Option ((PV ⊕ PX)×Tr)}{ρ:Yb}{ks:List Str}{ws:List YU}{ps:List PV}{z:PV ⊕ PX}{t':Tr}(e0:ρ[i]?=Z' (.tree @hC))(hm:m∉ks)(e1:fs ρ=.ok ps)(e2:F @hC ps=Z' (z,t')):
  o8 D m i fs F ρ=zO @jN z:=by
 unfold o8;rw[e0];show (if D=D/\m∉ks then mx @ee fs F ρ else .no)=_;rw[if_pos ⟨rfl,hm⟩];unfold mx;rw[show mS @ee ρ=Z' @hC by simp only[mS,e0]];show (XO.rd ρ @bF).bind _=_;rw[e1]
 show (match F @hC ps with
  |none=>_
  |some (.inl p,t')=>_
  |some (.inr x,t')=>_)=_
 rw[e2];cases z<;>rfl
def inD(ks:List Key)(ps:List PV)(nm:Str):Bool:=(bT ks ps @Q).isSome
section
variable{hk ck:List Key}{hp cp:List PV}{g:Int}
theorem Nx (ρ:Yb):BU "Desk" 0 "houses" (.tree @l::ρ)=.ok @gU:=rfl
theorem JE{ks:List Key}{ps:List PV}(h:ks.length=ps.length)(nm:Str):cO @v @aD=Z' (.bl (!inD ks ps nm)):=by
 show Z' (PV.bl (!(ks.any λj=>decide (j=.inr nm))))=_;rw[_root_.NW.Zv ks ps h];rfl
def xN(c:Str):PX:=⟨c,[]⟩
def byN(ks:List Key)(ps:List PV)(nm:Str):PV ⊕ PX:=match bT ks ps (.inr nm)with
|some H=>.inl H
|none=>.inr @fi
theorem house_by(hl:hk.length=hp.length)(nm:Str):dU @l [.str nm]=Z' (byN hk hp nm,Dk hk hp ck cp g):=by
 have a:=Nx (hk:=hk) (hp:=hp) (ck:=ck) (cp:=cp) (g:=g);have n1:=JE hl nm;have n2:Yh @gU @v=bT hk hp @Q:=rfl
 show (match cq [.tree @l,.val @v]with
  |.ok (.ret p) ρ=>(ZM ρ).map λt'=>((.inl p:PV ⊕ PX),t')
  |.ok .next ρ=>(ZM ρ).map λt'=>(.inl .Yj,t')
  |.YV x ρ=>(ZM ρ).map λt'=>(.inr x,t')
  |_=>Y')=_
 generalize Dk hk hp ck cp g=t at *;unfold byN inD at *;cases e:bT hk hp (.inr nm)with
|some H=>
  rw[e]at n1 n2;rw[show cq @gV=.ok (.ret H) @gV by simp_all[vW,cq]];rfl
|none=>
  rw[e]at n1;unfold cq;rw[b9,jH,show bX @nI @gV=.ok Y2 @gV by simp[a,n1],jN];rfl
theorem uU{t u:Tr}{a b:PV}{z:PV}(e:ba @go=.ok (.ret z) @go):aK t [a,b] u=Z' (.inl z,t,u):=by
 show (match ba [.tree t,.val a,.val b,.tree u]with
  |.ok (.ret p) ρ=>two 0 3 ρ (.inl p)
  |.ok .next ρ=>two 0 3 ρ @l6
  |.YV x ρ=>two 0 3 ρ @b2
  |_=>Y')=_
 rw[e];rfl
theorem FE{t u:Tr}{a b:PV}{x:PX}(e:ba @go=.YV x @go):aK t [a,b] u=Z' (.inr x,t,u):=by
 show (match ba [.tree t,.val a,.val b,.tree u]with
  |.ok (.ret p) ρ=>two 0 3 ρ (.inl p)
  |.ok .next ρ=>two 0 3 ρ @l6
  |.YV x ρ=>two 0 3 ρ @b2
  |_=>Y')=_
 rw[e];rfl
theorem FC {nm:Str} (t u:Tr) (hn:gp [.str nm]=Z' @L):aK t [.str "new",.str nm] u=Z' (.inl @v,t,u):=by
 have q:QP "new"≠QP "house"/\QP "new"≠QP "hour"/\QP "new"≠QP "call"/\QP "new"≠QP "signs":=by decide +kernel
 have q3:YQ (.str "new") c_ROOM_FORMS=Z' @B:=by rfl
 simp_all[uU,ba]
theorem C8 {w:Str} {v:PV} (t u:Tr) (hn:kU [.str w]=Z' v):aK t [.str "hour",.str w] u=Z' (.inl v,t,u):=by
 have q:QP "hour"≠QP "house":=by decide +kernel
 simp_all[uU,ba]
theorem ng (hl:hk.length=hp.length) (nm:Str) (u:Tr):aK @l @pQ u=Z' (byN hk hp nm,Dk hk hp ck cp g,u):=by
 have e:=house_by (ck:=ck) (cp:=cp) (g:=g) hl nm;have m:=qC (D:="Desk") (m:="house_by") (i:=0) (fs:=a7 @j aE) (F:=dU) (ρ:=@i2) (ps:=[.str nm]) rfl ↑119 @a e;have s1:bX @ov @i2=.ok Y2 @i2:=by simp
 cases hz:byN hk hp nm with
|inl H=>rw[hz]at m;exact uU (by unfold ba;rw[b9,jH,s1,jN,pL,m];rfl)
|inr x=>rw[hz]at m;exact FE (by unfold ba;rw[b9,jH,s1,jN,pL,m];rfl)
end
section
variable{ws:List YU}
theorem Fv {ρ:Yb} {W:Sl} {Xx:List PV} {f w:PV} {z:PV ⊕ PX} (v:aK @E [f,w] @hg=Z' (z,.obj "Desk" kD ws,.leaf @ir)):
  yh "Desk" "value_of" 0 2 @w @V aK @cA=zO @cA z:=by
 show (if QP "Desk"=QP "Desk"/\QP "value_of" ∉ kD/\0≠2 then (match aK @E [f,w] (.leaf @ir)with
  |none=>XO.no
  |some (.inl p,t',u')=>.ok p @n3
  |some (.inr x,t',u')=>.YV x @n3)else .no)=_
 rw[if_pos ⟨rfl,by decide +kernel,by decide⟩,v];cases z<;>rfl
noncomputable def DA:List PV->List (PV ⊕ PX)->PV ⊕ PX
|Xx,[]=>.inl @ir
|Xx,.inl p::l=>DA @ml l
|_,.inr x::_=>.inr x
theorem sH (W:Sl):∀(L:List (PV×PV×(PV ⊕ PX))) (Xx:List PV) (a b:Sl),(∀z∈L,∀u,aK @E @hU u=Z' (z.2.2,.obj "Desk" kD ws,u))->Xx.length+L.length<=100->
  ∃acc' a' b',ux @cM b7 @jf [.tree @E,W,.tree @hg,a,b]=match DA Xx (L.map (·.2.2))with
   |.inl p=>.ok .next [.tree @E,W,.tree @fO,a',b']
   |.inr x=>.YV x [.tree @E,W,.tree (.leaf (.lst acc')),a',b']
|[],Xx,a,b,_,_=>⟨Xx,a,b,rfl⟩
|(f,w,z)::L,Xx,a,b,h,hl=>by
  have c:=Fv (ρ:=[]) (W:=W) (h (f,w,z) @a @hg);have ha:Xx.length<16777216:=by grind
  cases z with
  |inl p=>
   obtain⟨acc',a',b',ih⟩:=sH W L @ml (.val f) (.val w) (λz hz=>h z @im) @b;refine⟨acc',a',b',?_⟩
   have bd:b7 @cA=.ok .next [.tree @E,W,.tree (.leaf (.lst @ml)),.val f,.val w]:=by
    show @nd=_;rw[c];exact if_pos ha
   show (b7 @cA).bind _=_;rw[bd];exact ih
  |inr x=>
   refine⟨Xx,.val f,.val w,?_⟩
   have bd:b7 @cA=.YV x @cA:=by
    show @nd=_;rw[c];rfl
   show (b7 @cA).bind _=_;rw[bd];rfl
theorem values_of (kw:Str) (L:List (PV×PV×(PV ⊕ PX))) (q2:Yh c_FORMS @eh=Z' (.tup @lr)) (h:∀z∈L,∀u,aK @E @hU u=Z' (z.2.2,.obj "Desk" kD ws,u)) (hl:L.length<=5) (hf:(L.map @d).all iD=Y2):
  bV @E [.lst (.str kw::L.map (·.2.1))]=Z' (DA [] (L.map (·.2.2)),.obj "Desk" kD ws):=by
 obtain⟨acc',a',b',e⟩:=sH (ws:=ws) (.val (.lst (.str kw::L.map (·.2.1)))) L [] .no .no h (by simp;grind);have a0:Yu (PV.str kw::L.map (·.2.1)) 0=Z' @eh:=aX (n:=0) rfl rfl
 have z1:sD @jb @nH [.tree @E,.val (.lst (.str kw::L.map (·.2.1))),.tree (.leaf (.lst [])),.no,.no]=.ok @jf:=by
  have c1:qy (PV.str kw::L.map (·.2.1)) (Z' 1) Y'=L.map (·.2.1):=FA.ag1 (PV.str kw::L.map (·.2.1)) 0 @a;have a1:a9 @lj @bM Yh [.tree @E,.val (.lst (.str kw::L.map (·.2.1))),.tree (.leaf (.lst [])),.no,.no]=.ok (.tup @lr):=by simp_all
  have a2:eX @f @ie iw [.tree @E,.val (.lst (.str kw::L.map (·.2.1))),.tree (.leaf (.lst [])),.no,.no]=.ok (.lst (L.map (·.2.1))):=by simp_all
  rw[Fu,a1,a2];rw[GF];rw[Au _ _ (by rw[hf];rfl)]
  have zz:∀L:List (PV×PV×(PV ⊕ PX)),(xB @lr (L.map (·.2.1))).map PV.tup=L.map λz=>.tup @hU:=λL=>by
   induction L with
   |nil=>rfl
   |cons z L ih=>exact congrArg (List.cons _) ih
  rw[zz]
 show (match dB [.tree @E,.val (.lst (.str kw::L.map (·.2.1))),.no,.no,.no]with
  |.ok (.ret p) ρ=>(ZM ρ).map λt'=>((.inl p:PV ⊕ PX),t')
  |.ok .next ρ=>(ZM ρ).map λt'=>(.inl .Yj,t')
  |.YV x ρ=>(ZM ρ).map λt'=>(.inr x,t')
  |_=>Y')=_
 have s1:qF 2 (vv @cY) [.tree @E,.val (.lst (.str kw::L.map (·.2.1))),.no,.no,.no]=.ok .next [.tree @E,.val (.lst (.str kw::L.map (·.2.1))),.tree (.leaf (.lst [])),.no,.no]:=rfl
 have s2:x5 @s2 @cM b7 [.tree @E,.val (.lst (.str kw::L.map (·.2.1))),.tree (.leaf (.lst [])),.no,.no]=ux @cM b7 @jf [.tree @E,.val (.lst (.str kw::L.map (·.2.1))),.tree (.leaf (.lst [])),.no,.no]:=by
  show (XO.rd _ (sD _ _ _)).bind _=_;rw[z1];rfl
 unfold dB;rw[b9,s1,au,b9,s2,e];cases DA [] (L.map (·.2.2))with
|inl p=>rfl
|inr x=>rfl
end
end K46
namespace K46
open PySem L2 PU MT NM BG _root_.NW
def BK:Yb->XO Fb:=(bM (YS (bX @jg) (v8 (o8 "Desk" "keep_house" 0 (a7 @cE (a7 (a9 (fF @f (kS "\n") jt) @am Yh) aE)) cv)) cy) @my)
def DE:XO Fb->Option ((PV ⊕ PX)×Tr)
|.ok (.ret p) ρ=>(ZM ρ).map λt'=>((.inl p:PV ⊕ PX),t')
|.ok .next ρ=>(ZM ρ).map λt'=>(.inl .Yj,t')
|.YV x ρ=>(ZM ρ).map λt'=>(.inr x,t')
|_=>Y'
def Pq(D:Tr)(row:Str)(W:List PV):PV ⊕ PX->Option ((PV ⊕ PX)×Tr)
|.inr x=>Z' (.inr x,D)
|.inl V=>DE (BK [.tree D,.val @a6,.val (.lst W),.val V])
section
variable{ws:List YU}
theorem wc {row:Str} {W:List PV} {z:PV ⊕ PX} (hw:bU [.str row]=Z' (.lst W)) (hv:bV @E [.lst W]=Z' (z,.obj "Desk" kD ws)):
  b8 @E [.str row]=Pq @E row W z:=by
 show DE (bM (aJ @j4) (bM @nM BK) @os)=_;have s1:aJ @j4 @os=.ok .next @nG:=by simp_all
 have m:=qC (D:="Desk") (m:="values_of") (i:=0) (fs:=a7 @j aE) (F:=bV) (ρ:=@nG) (ps:=[.lst W]) rfl ↑119 @a hv;rw[b9,s1,au,b9];unfold FN;rw[m];cases z<;>rfl
end
section
variable{hk ck:List Key}{hp cp:List PV}{g:Int}
theorem keep {d:HD} (o:d.Ok) (nm:Str) (hl:hk.length=hp.length) (hz:hk.length<1000):∃hk' Ys,nR hk hp @Q d.h.pv=.dct hk' Ys/\cv @l @qU=Z' (.inl @bY,Dk hk' Ys ck cp g):=by
 obtain⟨hk',Ys,e,-⟩:=kF hk hp @Q d.h.pv hl;refine⟨hk',Ys,e,?_⟩;have e1:=zA d.h (Dw o);have e2:=Ad o
 have e3:HN (Br @bv cQ) @i1=.ok d.h.pv:=by
  unfold HN Br;rw[show a7 @j aE @i1=.ok [.str @dt]from rfl];show (R.Yn (cQ [.str @dt])>>=_)=_;rw[e1];rfl
 have s1:nj @eR @f @w [.tree @l,.val @v,.val @ac,.val d.h.pv,.val (.lst [])]=.ok .next [.tree (Dk hk' Ys ck cp g),.val @v,.val @ac,.val d.h.pv,.val (.lst [])]:=by
  show (if hk.length<16777216 then (match dJ @eR (.leaf (nR hk hp @Q d.h.pv)) [.tree @l,.val @v,.val @ac,.val d.h.pv,.val (.lst [])]with|some ρ'=>XO.ok Fb.next ρ'|none=>.no)else .no)=_;rw[if_pos @b,e];rfl
 show DE (d8 @i1)=_;unfold d8;generalize d.h.pv=H at *;generalize aH d.h=T at *
 rw[b9,show aJ @ps [.tree @l,.val @v,.val @ar,.no,.no]=.ok .next @nw by simp[e3],au,
  b9,show aJ @q2 @nw=.ok .next [.tree @l,.val @v,.val @ar,.val H,.val (.lst [])] by simp[e2],au,
  b9,jH,show bX (aW @V) [.tree @l,.val @v,.val @ar,.val H,.val (.lst [])]=.ok Y1 [.tree @l,.val @v,.val @ar,.val H,.val (.lst [])] by simp,rC]
 show DE (uP _ (XO.ok Fb.next _))=_;rw[au,b9,s1,au];rfl
end
end K46
namespace K46
open PySem L2 PU MT NM BG
theorem Qf{i:Int}(h0:0<=i)(h1:i<=60):jS @I=Z' (.str @fZ):=by
 have:∀n:Nat,n<61->n.log2<1920:=by decide +kernel
 show (if i.natAbs.log2<1920 then Z' (PV.str (UT i))else Y')=_;rw[if_pos (this _ @b)];rfl
theorem Gn:∀n:Nat,n<61->rH (cd (num n))=Y2/\(cd (num n)).length<=3:=by decide +kernel
theorem rh{i:Int}(h0:0<=i)(h1:i<=60):(∀c∈cd @fZ,48<=c/\c<=57)/\(cd @fZ).length<=3:=by
 obtain⟨a,b⟩:=Gn i.toNat @b;rw[Int.toNat_of_nonneg h0]at a b;refine⟨λc hc=>?_,b⟩;unfold rH at a;simp only[S5,T4,decide_eq_true_eq]at a;have:=a.1.2 c hc;simp[mM]at this;omega
theorem so{a b:Str}(h:a.length+b.length<=16777216):bt @iC @iB=Z' (.str @cy):=by
 show (if a.length+b.length<=16777216 then Z' (PV.str @cy)else Y')=_
 simp_all
section
variable{hk ck:List Key}{hp cp:List PV}{g:Int}{d:HD}
theorem begin_call(o:d.Ok)(hour:Int)(hg:0<=g/\g<=50)(hl:ck.length=cp.length)(hz:ck.length<1000){st:PV}{s:Str}(hs:s.length<=200)(e1:lP @g0=Z' st)(e2:gF [d.h.pv,st]=Z' @aQ){YN:List Key}{YM:List PV}(e:nR ck cp (.inr (num (g+1))) @oE=.dct YN YM):
  bK @l @g0=Z' (.inl (.str (num (g+1)++" "++s)),Dk hk hp YN YM (g+1)):=by
 have e3:=Qf (i:=g+1) @q @q;have l1:(QP " ").length=1:=by rfl
 have l2:(num (g+1)).length<=3:=by grind[ym,rh]
 have a1:bt (.str (num (g+1))) @bA=Z' (.str (num (g+1)++" ")):=so @b;have a2:bt (.str (num (g+1)++" ")) @aQ=Z' (.str (num (g+1)++" "++s)):=so (by rw[jU];grind);have s1:Ls "Desk" 0 "greatest" 1 [.tree @l,.val d.h.pv,.val @aU,.val st,.no]=.ok .next [.tree (Dk hk hp ck cp (g+1)),.val d.h.pv,.val @aU,.val st,.no]:=by rfl
 have s2:nj @gJ @V @qY [.tree (Dk hk hp ck cp (g+1)),.val d.h.pv,.val @aU,.val st,.val (.str (num (g+1)))]=.ok .next [.tree (Dk hk hp YN YM (g+1)),.val d.h.pv,.val @aU,.val st,.val (.str (num (g+1)))]:=by
  show (if ck.length<16777216 then (match dJ @gJ (.leaf (nR ck cp (.inr (num (g+1))) @oE)) [.tree (Dk hk hp ck cp (g+1)),.val d.h.pv,.val @aU,.val st,.val (.str (num (g+1)))]with|some ρ'=>XO.ok Fb.next ρ'|none=>.no)else .no)=_;rw[if_pos @b,e];rfl
 have a0:BU "Desk" 0 "greatest" [.tree (Dk hk hp ck cp (g+1)),.val d.h.pv,.val @aU,.val st,.no]=.ok (.int (g+1)):=rfl;show DE (d9 [.tree @l,.val d.h.pv,.val @aU,.no,.no])=_;unfold d9;generalize d.h.pv=H at *;generalize num (g+1)=N at *
 rw[b9,show aJ @q3 [.tree @l,.val H,.val @aU,.no,.no]=.ok .next [.tree @l,.val H,.val @aU,.val st,.no] by simp[e1],au,b9,s1,au,
  b9,show aJ @nO [.tree (Dk hk hp ck cp (g+1)),.val H,.val @aU,.val st,.no]=.ok .next [.tree (Dk hk hp ck cp (g+1)),.val H,.val @aU,.val st,.val (.str N)] by simp_all,au,b9,s2,au]
 generalize Dk hk hp YN YM (g+1)=D;simp[e2,a1,a2];rfl
end
theorem Kc{h:Int}(h0:0<=h)(h1:h<=23):kU [.str (num h)]=Z' (.int h):=by
 have e:bf [.str (Yd (dg h)),.int 0,.int 23]=_:=gC (dg h) 0 23 2 (UT (23:Int)) (by grind[iq]) rfl ↑29 @h;rw[CU h0 @q @q @q (iq h0 @q).2.1,show Yd (dg h)=num h from da _]at e;have n1:BQ (.int h) .Yj=Z' @B:=rfl;sleep 2
 simp_all[num,oE,PU.start]
def jX(k:List Nat)(t:Str):Str:=Yd (TX.glue 32 [k] @aA)
def sr(k:List Nat)(a b:Str):Str:=Yd (TX.glue 32 [k,cd a] (cd b))
theorem zw{s:Str}{k:List Nat}(h:s=Yd (k++[32]))(t:Str):s++t=jX k t:=by
 grind[mi,cE,jX,TX.glue]
def Wd(t:Str):Prop:=32∉cd t/\10∉cd t/\(cd t).length<=1000
theorem Fz{t:Str}(h:fG @aA=Y2):Wd t:=by
 obtain⟨a,b,c⟩:=lE h;exact⟨a,b,by grind⟩
theorem IA{i:Int}(h0:0<=i)(h1:i<=60):Wd @fZ:=by
 obtain⟨a,b⟩:=rh h0 h1;exact⟨λh=>by grind,λh=>by grind,by grind⟩
theorem Eb {k:List Nat} {kw t f:Str} (hk:Yd k=kw) (hf:32∉k/\10∉k/\k.length<=10) (h0:kw≠QP "house") (q1:cO @eh c_FORMS=Z' @B) (q2:Yh c_FORMS @eh=Z' (.tup [.str f])) (ht:Wd t):bU [.str (jX k t)]=Z' (.lst [.str kw,.str t]):=by
 subst hk;have:=words_of k [] @aA _ @i ⟨ht.1,ht.2.1⟩ (by have:=ht.2.2;grind[TX.glue,RF,QV]) @a h0 q1 q2 rfl;simpa[jX,da]using this
theorem Iy {k:List Nat} {kw a b f f':Str} (hk:Yd k=kw) (hf:32∉k/\10∉k/\k.length<=10) (h0:kw≠QP "house") (q1:cO @eh c_FORMS=Z' @B) (q2:Yh c_FORMS @eh=Z' (.tup [.str f,.str f'])) (ha:Wd a) (hb:Wd b):bU [.str (sr k a b)]=Z' (.lst [.str kw,.str a,.str b]):=by
 subst hk
 have:=words_of k [cd a] (cd b) _ (λw hw=>by
  rcases R7.mp hw with rfl|hw
  .simp_all
  .rw[Sd.mp hw];exact⟨ha.1,ha.2.1⟩) ⟨hb.1,hb.2.1⟩ (by have:=ha.2.2;have:=hb.2.2;grind [TX.glue,RF,QV]) @a h0 q1 q2 rfl
 simpa[sr,da]using this
abbrev iC:List Nat:=[100,114,111,112]
abbrev rE:List Nat:=[99,97,108,108]
abbrev pG:List Nat:=[115,104,111,119]
theorem d2(a b:PV):Yu [a,b] 0=Z' a/\Yu [a,b] 1=Z' b:=⟨aX (n:=0) rfl rfl,aX (n:=1) rfl rfl⟩
theorem d3(a b c:PV):Yu @em 0=Z' a/\Yu @em 1=Z' b/\Yu @em 2=Z' c:=⟨aX (n:=0) rfl rfl,aX (n:=1) rfl rfl,aX (n:=2) rfl rfl⟩
section
variable{hk ck:List Key}{hp cp:List PV}{g:Int}
theorem zi {d:HD} (o:d.Ok) {nm:Str} (hn:fG @aI=Y2) (hl:hk.length=hp.length) (hz:hk.length<1000) (hT:(aH d.h).length<=90000):∃hk' Ys,nR hk hp @Q d.h.pv=.dct hk' Ys/\b8 @l [.str @jk]=Z' (.inl @bY,Dk hk' Ys ck cp g):=by
 obtain⟨hk',Ys,e,ek⟩:=keep (ck:=ck) (cp:=cp) (g:=g) o nm hl hz;refine⟨hk',Ys,e,?_⟩;obtain⟨hw,m,hm⟩:=uR @aI (cd @dt) hn (by rw[<-ym];exact hT);rw[da]at hw hm;have is:gp [.str nm]=Z' @L:=by have:=EL @aI (by have:=lH (qd hn);grind);rwa [da,hn]at this
 have hv:=values_of (ws:=@eE) "house" [(.str "new",.str nm,.inl @v)] @aM (λz hz u=>by grind[FC]) @a rfl;sleep 17
 have mm:=qC (D:="Desk") (m:="keep_house") (i:=0) (fs:=a7 @cE (a7 (a9 (fF @f (kS "\n") jt) @am Yh) aE)) (F:=cv) (ρ:=@f6) (ps:=@qU) rfl ↑119 (by
  simp_all) ek
 show DE (BK @f6)=_;unfold BK
 rw[b9,jH,show bX @jg @f6=.ok Y2 @f6 by
  rfl,jN,pL,mm]
 rfl
theorem Ir{s:Sel}{f:Yb->R PV}{ρ ρ':Yb}{ks:List Key}{ps:List PV}{k:Str}(e1:mS s ρ=Z' @fv)(e2:f ρ=.ok @fX)(hl:ks.length=ps.length)(e3:inD ks ps k=Y2)(e4:dJ s @oQ ρ=Z' ρ'):l0 s f ρ=.ok .next ρ':=by
 unfold l0;rw[e1];show (XO.rd ρ @u).bind _=_;rw[e2];show (if (ks.any λj=>decide (j=.inr k))=Y2 then (match dJ s @oQ ρ with|some ρ'=>XO.ok Fb.next ρ'|none=>.no)else .no)=_;rw[_root_.NW.Zv ks ps hl,show (bT ks ps @iF).isSome=Y2 from e3,if_pos rfl,e4]
theorem Ck {nm:Str} (hn:fG @aI=Y2) (hl:hk.length=hp.length):b8 @l [.str @fC]=if inD hk hp nm=Y2 then Z' (.inl @bY,Dk (hk.filter λj=>decide (j≠.inr nm)) @e9 ck cp g)else Z' (.inr @fi,Dk hk hp ck cp g):=by
 have hw:bU [.str @fC]=Z' @i4:=Eb (f:="house") @D @h @bf @aM @aM (Fz hn);have hv:=values_of (ws:=@eE) "drop" [(.str "house",.str nm,byN hk hp nm)] @aM (λz hz u=>by rw[Sd.mp hz];exact ng hl nm u) @a rfl;sleep 17;unfold inD byN;cases e:bT hk hp (.inr nm)with
|none=>rfl
|some H=>
  show DE (BK @no)=_
  have pp:l0 @eR @cE @no=.ok .next [.tree (Dk (hk.filter λj=>decide (j≠.inr nm)) @e9 ck cp g),.val @c6,.val @i4,.val @l5]:=
   Ir rfl ↑29 hl (by unfold inD;rw[e];rfl) rfl
  have q:QP "drop"≠QP "house":=by decide +kernel
  unfold BK;generalize jX iC nm=RW at *;generalize Dk hk hp ck cp g=t at *;generalize Dk (hk.filter λj=>decide (j≠.inr nm)) @e9 ck cp g=t' at *;simp[d2,q,pp];rfl
theorem Cm{nm:Str}(hn:fG @aI=Y2){hour:Int}(h0:0<=hour)(h1:hour<=23)(hl:hk.length=hp.length){H:PV}{s:Str}{t':Tr}(h:∀H',bT hk hp @Q=Z' H'->bK @l [H',.int hour]=Z' (.inl @aQ,t')):
  b8 @l [.str @jO]=if inD hk hp nm=Y2 then Z' (.inl @aQ,t')else Z' (.inr @fi,Dk hk hp ck cp g):=by
 have hw:bU [.str @jO]=Z' @nv:=Iy (f:="house") (f':="hour") @D @h @bf @aM @aM (Fz hn) (IA h0 @q)
 have hv:=values_of (ws:=@eE) "call" [(.str "house",.str nm,byN hk hp nm),(.str "hour",.str @h5,.inl @aU)] @aM (λz hz u=>by
  rcases R7.mp hz with rfl|hz
  .exact ng hl nm u
  grind[C8,Kc]) @a rfl
 sleep 17;unfold inD byN;cases e:bT hk hp (.inr nm)with
|none=>rfl
|some H=>
  have mm:=qC (D:="Desk") (m:="begin_call") (i:=0) (fs:=a7 @hb @pf) (F:=bK) (ρ:=@mC) (ps:=[H,.int hour]) rfl ↑119 (by
   rfl) (h H e)
  show DE (BK @mC)=_;have q:QP "call"≠QP "house"/\QP "call"≠QP "drop":=by decide +kernel
  unfold BK;generalize sr rE nm @h5=RW at *;generalize Dk hk hp ck cp g=t at *;simp[d3,q,mm];rfl
theorem wb{nm:Str}(hn:fG @aI=Y2)(hl:hk.length=hp.length){T:Str}(h:∀H,bT hk hp @Q=Z' H->fA [H]=Z' @ar):
  b8 @l [.str @h6]=if inD hk hp nm=Y2 then Z' (.inl @ar,Dk hk hp ck cp g)else Z' (.inr @fi,Dk hk hp ck cp g):=by
 have hw:bU [.str @h6]=Z' @oF:=Eb (f:="house") @D @h @bf @aM @aM (Fz hn);have hv:=values_of (ws:=@eE) "show" [(.str "house",.str nm,byN hk hp nm)] @aM (λz hz u=>by rw[Sd.mp hz];exact ng hl nm u) @a rfl;sleep 17;unfold inD byN;cases e:bT hk hp (.inr nm)with
|none=>rfl
|some H=>
  have an:n5 [.str "show",.lst [H]]=Z' @ar:=by
   sleep 2;have a0:Yu [H] 0=Z' H:=aX (n:=0) rfl rfl;have:=h H e
   simp_all[rQ,PU.start]
  show DE (BK [.tree @l,.val @hf,.val @oF,.val @l5])=Z' (.inl @ar,Dk hk hp ck cp g);have q:QP "show"≠QP "house"/\QP "show"≠QP "drop"/\QP "show"≠QP "call"/\QP "show"≠QP "press"/\QP "show"≠QP "hang":=by decide +kernel
  unfold BK;generalize jX pG nm=RW at *;generalize Dk hk hp ck cp g=t at *;simp[d2,q,an];rfl
noncomputable def IX:PV ⊕ PX->PV
|.inl p=>p
|.inr _=>.tup @pB
def hhT:PX->Yb->XO Fb:=(Ln (Le [("NoName",Y2)]) 3 @mz GM)
theorem told {ws:List YU} {row:Str} {z:PV ⊕ PX} {t':Tr} (e:b8 @E [.str row]=Z' (z,t')) (hz:(∃p,z=.inl p)\/z=.inr @fi):aS @E [.str row]=Z' (IX z,t'):=by
 obtain⟨a,ah6⟩:∃a,HM "Desk" "say" 0 2 (a7 (Y9 1) aE) b8 hhT [.tree (.obj "Desk" kD ws),.val (.str row),.val .Yj,.no,.no]=.ok .next [.tree t',.val (.str row),.val (IX z),.no,a]:=by
  unfold HM
  show ∃a,(if QP "Desk"=QP "Desk"/\QP "say" ∉ kD then (match b8 @E [.str row]with
   |some (.inl p,t')=>XO.ok Fb.next [.tree t',.val @a6,.val p,.no,.no]
   |some (.inr y,t')=>hhT y [.tree t',.val @a6,.val .Yj,.no,.no]
   |none=>.no)else .no)=_
  rw[if_pos ⟨rfl,by decide +kernel⟩,e];rcases hz with⟨p,rfl⟩|rfl
  .exact@O
  .exact@O
 show (match bM (aJ @mg) (bM (HM "Desk" "say" 0 2 @aL b8 hhT) @kS) [.tree @E,.val @a6,.no,.no,.no]with
  |.ok (.ret p) ρ=>(ZM ρ).map λt'=>(p,t')
  |.ok .next ρ=>(ZM ρ).map λt'=>(.Yj,t')
  |_=>Y')=_
 rw[b9,show aJ @mg [.tree @E,.val @a6,.no,.no,.no]=.ok .next [.tree @E,.val @a6,.val .Yj,.no,.no]from rfl,au,b9,ah6,au];rfl
end
theorem og{k:Key}:∀(ks:List Key)(ps:List PV),ks.length=ps.length->(ks.filter λj=>decide (j≠k)).length=(iE ks ps k).length/\(∀j,bT (ks.filter λj=>decide (j≠k)) (iE ks ps k) j=if k=j then Y' else bT ks ps j)/\∀v∈iE ks ps k,v∈ps
|[],[],_=>⟨rfl,λj=>by simp[iE,bT],by simp[iE]⟩
|[],_::_,h=>by simp at h
|_::_,[],h=>by simp at h
|j::ks,p::ps,h=>by
  obtain⟨a,b,c⟩:=og (k:=k) ks ps @i
  grind[iE,decide,R6,sL]
theorem Ea{f:Yb->XO PV}{f2:Yb->R PV}{g:PV->PV->Option PV}{ρ ρ':Yb}{p q z:PV}(e1:f ρ=.ok p ρ')(e2:f2 ρ'=.ok q)(e3:g p q=Z' z):BS f f2 g ρ=.ok z ρ':=by
 unfold BS;rw[e1];show (XO.rd ρ' (f2 ρ')).bind _=_;rw[e2];show (match g p q with|some z=>XO.ok z ρ'|none=>.no)=_;rw[e3]
theorem rT{α:Type}{h:YT}{g:Yb->XO Fb}{enc:α->PV}{I:Nat->Yb->Prop}:∀(xs:List α)(k:Nat)(ρ:Yb),I k ρ->(∀x∈xs,∀k' ρ,k<=k'->k'<k+xs.length->I k' ρ->∃ρ1 ρ2,h @eo ρ=Z' ρ1/\g ρ1=.ok .next ρ2/\I (k'+1) ρ2)->∃ρ',ux h g @d3 ρ=.ok .next ρ'/\I (k+xs.length) ρ'
|[],k,ρ,i,_=>⟨ρ,rfl,i⟩
|x::xs,k,ρ,i,st=>by
  obtain⟨ρ1,ρ2,e1,e2,i2⟩:=st x @a k ρ @C @a i;obtain⟨ρ',e3,i3⟩:=rT xs (k+1) ρ2 i2 λy hy k' ρ h1 h2=>st y (R6 _ hy) k' ρ @b (by simp;grind);refine⟨ρ',?_,by grind⟩
  show (match h @eo ρ with
   |none=>XO.no
   |some ρ1=>(g ρ1).bind λfl ρ2=>match fl with
    |.next=>ux h g @d3 ρ2
    |.cont=>ux h g @d3 ρ2
    |.brk=>.ok .next ρ2
    |.ret p=>.ok @au ρ2
    |.Zt t=>.ok @f3 ρ2)=_
  rw[e1];show (g ρ1).bind _=_;rw[e2];exact e3
abbrev mh:PV:=.tup @pB
structure J(NN:List Str)(n:Nat)(hk:List Key)(hp:List PV)(ck:List Key)(cp:List PV)(g:Int)(kk:List Key)(kp:List PV):Prop where
 hl:hk.length=hp.length
 hz:hk.length<=n
 kl:kk.length=kp.length
 kz:kk.length<=n
 cl:ck.length=cp.length
 cz:(ck.length:Int)<=g
 g:0<=g/\g<=10
 lk:∀nm:Str,(bT hk hp @Q=Y'/\bT kk kp @Q=Y')\/∃d:HD,d.Ok/\bT hk hp @Q=Z' d.h.pv/\bT kk kp @Q=Z' @ac
 ks:∀k∈kk,∃nm∈NN,k=.inr nm
def due(kk:List Key)(kp:List PV)(nm:Str):PV:=(bT kk kp @Q).getD mh
theorem shown{d:HD}(o:d.Ok):fA [d.h.pv]=Z' @ac:=show_house d.h (by have:=wo d.h (Dw o);grind) (nM d.h (Dw o))
section
variable{NN:List Str}{n:Nat}{hk ck kk:List Key}{hp cp kp:List PV}{g:Int}
theorem nq(j:J NN n hk hp ck cp g kk kp){nm:Str}(hn:fG @aI=Y2):aS @l [.str @h6]=Z' (due kk kp nm,Dk hk hp ck cp g):=by
 rcases j.lk nm with⟨e1,e2⟩|⟨d,o,e1,e2⟩
 .have s:=wb (ck:=ck) (cp:=cp) (g:=g) hn j.hl (T:="") λH h=>by rw[e1]at h;cases h
  rw[show inD hk hp nm=Y1 by unfold inD;rw[e1];rfl,if_neg @h]at s;have:=told s @cn;unfold due;rw[e2];exact this
 .have s:=wb (ck:=ck) (cp:=cp) (g:=g) hn j.hl (T:=aH d.h) λH h=>by rw[e1]at h;cases h;exact shown o
  rw[show inD hk hp nm=Y2 by unfold inD;rw[e1];rfl,if_pos rfl]at s;have:=told s @lS;unfold due;rw[e2];exact this
theorem yZ(j:J NN n hk hp ck cp g kk kp){nm:Str}(hn:fG @aI=Y2):(inD kk kp nm=Y1->aS @l [.str @fC]=Z' (mh,Dk hk hp ck cp g))/\
  (inD kk kp nm=Y2->aS @l [.str @fC]=Z' (.str "ok",Dk (hk.filter λj=>decide (j≠.inr nm)) @e9 ck cp g)):=by
 have s:=Ck (ck:=ck) (cp:=cp) (g:=g) hn j.hl
 have e:inD kk kp nm=inD hk hp nm:=by
  unfold inD;rcases j.lk nm with⟨e1,e2⟩|⟨d,o,e1,e2⟩<;>rw[e1,e2]<;>rfl
 rw[e];constructor
 .intro h
  rw[h,if_neg @h]at s;exact told s @cn
 .intro h
  rw[h,if_pos rfl]at s;exact told s @lS
theorem Bc{nm:Str}(j:J NN n hk hp ck cp g kk kp):Zh @dT @dT=Z' @B/\Yp @dT @dT=Z' @L:=by
 unfold due;rcases j.lk nm with⟨e1,e2⟩|⟨d,o,e1,e2⟩<;>rw[e2]
 .exact⟨by rfl,by rfl⟩
 .simp
theorem CC{ks ks':List Key}{ps ps':List PV}{k:Key}{v:PV}(e:nR ks ps k v=.dct ks' ps'):∀j∈ks',j∈ks\/j=k:=by
 unfold nR at e;split at e
 .cases e;exact λj h=>.inl h
 .cases e;exact λj h=>by simpa using h
theorem rB:QP "show "=Yd (pG++[32])/\QP "drop "=Yd (iC++[32])/\QP "call "=Yd (rE++[32])/\QP "house "=Yd [104,111,117,115,101,32]/\(QP "show ").length=5/\(QP "drop ").length=5/\(QP "call ").length=5/\(QP "house ").length=6/\(QP "\n").length=1/\(QP " 7").length=2:=by decide +kernel
theorem Af{nm:Str}(h:fG @aI=Y2):nm.length<=8:=lH (qd h)
theorem xx {nm:Str} (h:fG @aI=Y2):bt (.str "show ") @v=Z' @hf/\bt (.str "drop ") @v=Z' @c6:=by
 have l:=Af h;obtain⟨a,b,-,-,c,d,-⟩:=rB;exact⟨by rw[so @b,zw a],by rw[so @b,zw b]⟩
end
theorem Iq{fs:Yb->R @e}{D0 D1 D D' T':Tr}{U a b c s k:Sl}{e:List Sl}{w:Int}{row:Str}{p:PV}(h1:pe w @hQ=Z' D)(e1:fs @l8=.ok [.str row])(e2:aS D [.str row]=Z' (p,D'))(h2:qE w D' @hQ=Z' T'):
  jk @mw fs aS @l8=.ok p ([.tree T',U,a,b,c,.val @cs]++e):=by
 show (match pe w (.two D0 D1)with
  |none=>XO.no
  |some t=>_)=_
 rw[h1];show (XO.rd _ (fs @l8)).bind _=_;rw[e1]
 show (match aS D [.str row]with
  |none=>XO.no
  |some (p,t')=>_)=_
 rw[e2]
 show (match (qE w D' @hQ).map λt=>((@mD++e).set 0 @aW)with
  |some ρ'=>XO.ok p ρ'
  |none=>.no)=_
 rw[h2];rfl
section
variable{NN:List Str}{n:Nat}{hk ck kk hk' YN Yx:List Key}{hp cp kp Ys YM YA:List PV}{g g':Int}
theorem F9(j:J NN n hk hp ck cp g kk kp)(j':J NN n hk' Ys YN YM g' Yx YA)(h3:NN.length=3)(hN:∀x∈NN,fG @es=Y2)(s:Int):
  dS @bL @cd [.lst @a4,.int s]=Z' (.bl Y2,.two @l @eU,.two @aa @b7):=by
 obtain⟨ρ',f,a,b,c,d,rfl⟩:=rT (h:=ar 4) (g:=eL) (enc:=λk:Nat=>PV.int k) (I:=λ_ ρ=>∃a b c d,ρ=[.tree @bL,.tree @cd,.val @G,.val @ba,a,b,c,d]) [0,1,2,3,4,5] 0 [.tree @bL,.tree @cd,.val @G,.val @ba,.no,.no,.no,.no] @ry (by
  rintro k-n ρ - hlt ⟨a,b,c,d,rfl⟩
  have hx:∃x∈NN,Yu @sK (((k:Int)+s)/2%3)=Z' @H:=by
   have h:((((k:Int)+s)/2)%3).toNat<NN.length:=by grind
   exact⟨NN[((((k:Int)+s)/2)%3).toNat],Sz h,aX (n:=((((k:Int)+s)/2)%3).toNat) @b @a⟩
  obtain⟨x,hx,ex⟩:=hx;have nx:=hN x hx;have a1:=(xx nx).1;have m2:∀z:Int,i5 @dv @iE=Z' (.int (z%2)):=λz=>sJ @h;have m3:∀z:Int,i5 @dv (.int 3)=Z' (.int (z%3)):=λz=>sJ @h;have d2':∀z:Int,lg @dv @iE=Z' (.int (z/2)):=λz=>xC ⟨by decide,by decide⟩
  have fin:∀(w:Int)(D:Tr)(ks:List Key)(ps:List PV),((k:Int)+s)%2=w->pe w @bL=Z' D->qE w D @bL=Z' @bL->pe w @cd=Z' @fv->aS D [.str (jX pG x)]=Z' (due ks ps x,D)->Zh @dZ @dZ=Z' @B->
    eL [.tree @bL,.tree @cd,.val @G,.val @ba,.val @b1,b,c,d]=.ok .next [.tree @bL,.tree @cd,.val @G,.val @ba,.val @b1,.val @cs,.val @H,.val @dZ]:=λw D ks ps hw t1 t2 t3 t4 t5=>by
   have cb:=Ea (f:=jk @mw (a7 @i5 aE) aS) (f2:=Y9 7) (Iq (fs:=a7 @i5 aE) (U:=.tree @cd) (a:=.val @G) (b:=.val @ba) (c:=.val @b1) (e:=[.val @H,.val @dZ]) (s:=.no) (k:=.no) t1 (by simp[a1]) t4 t2) (q:=due ks ps x) rfl t5
   have io:Az 1 5 [.tree @bL,.tree @cd,.val @G,.val @ba,.val @b1,.val @cs,.val @H,d]=.ok @aD:=by
    show (match pe w (.two @aa @b7)with
     |some (.leaf p)=>R.ok p
     |_=>.no)=_
    rw[t3]
   generalize Tr.two @l @eU=T at *;generalize Tr.two @aa @b7=U at *;generalize NN.map PV.str=L at *
   have md:iV (Az 1 5) @ey @iI mJ @iK=.ok @dZ:=by
    unfold iV;rw[io];rfl
   unfold eL
   rw[b9,show aJ @nX [.tree T,.tree U,.val @bn,.val @ba,.val @b1,b,c,d]=.ok .next @mP by simp[m2,hw],au,
    b9,show aJ @mZ @mP=.ok .next @iK by simp[m3,d2',ex],au,
    b9,show aJ @n4 @iK=.ok .next @mJ by
     show (match (bN 7 _ _:R Fl)with|.ok (.next ρ')=>XO.ok Fb.next ρ'|.ok (.brk ρ')=>.ok .brk ρ'|.ok (.cont ρ')=>.ok .cont ρ'|.ok (.ret p)=>.ok (.ret p) _|.er x=>.YV x _|.no=>.no)=_;unfold bN;rw[md];rfl,au,jH]
   unfold BJ;rw[show BS @ot @ex Zh @mJ=_ from cb];rfl
  rcases (by grind:((k:Int)+s)%2=0\/((k:Int)+s)%2=1)with hw|hw
  .exact⟨_,_,rfl,fin 0 _ kk kp hw rfl rfl rfl (nq j nx) (Bc j).1,_,_,_,_,rfl⟩
  .exact⟨_,_,rfl,fin 1 _ Yx YA hw rfl rfl rfl (nq j' nx) (Bc j').1,_,_,_,_,rfl⟩)
 show (match bM @oV @dN [.tree @bL,.tree @cd,.val @G,.val @ba,.no,.no,.no,.no]with
  |.ok (.ret p) ρ=>duo ρ p
  |.ok .next ρ=>duo ρ .Yj
  |_=>Y')=_
 generalize Tr.two @l @eU=T at *;generalize Tr.two @aa @b7=U at *;generalize NN.map PV.str=L at *;rw[b9,show x5 (zx (kI 6)) (ar 4) eL [.tree T,.tree U,.val @bn,.val @ba,.no,.no,.no,.no]=.ok .next [.tree T,.tree U,.val @bn,.val @ba,a,b,c,d]from f,au];rfl
end
theorem Fw{fs:Yb->R @e}{ρ:Yb}{t t':Tr}{row:Str}{p:PV}(e1:fs (.tree t::ρ)=.ok [.str row])(e2:aS t [.str row]=Z' (p,t')):jk @cm fs aS (.tree t::ρ)=.ok p (.tree t'::ρ):=by
 show (XO.rd _ (fs (.tree t::ρ))).bind _=_;rw[e1]
 show (match aS t [.str row]with
  |none=>XO.no
  |some (p,t')=>_)=_
 rw[e2];rfl
theorem zu {nm T:Str} (h:fG @aI=Y2) (hT:T.length<=90000):bt (.str "house ") @v=Z' @qd/\bt @qd (.str "\n")=Z' (.str ("house "++nm++"\n"))/\bt (.str ("house "++nm++"\n")) @ar=Z' (.str (Yd @r5)):=by
 have l:=Af h;obtain⟨-,-,-,a,-,-,-,b,c,-⟩:=rB;refine⟨so @b,so (by rw[jU];grind),?_⟩;rw[so (by rw[jU,jU];grind),a,D6,show (⟨#[10]⟩:Str)=Yd [10]from rfl]
 conv=>lhs;rw[<-mi nm,<-mi T,cE,cE,cE]
 simp[mU,TX.glue]
section
variable{NN:List Str}{n:Nat}{hk ck kk:List Key}{hp cp kp:List PV}{g:Int}
theorem J.put(j:J NN n hk hp ck cp g kk kp){nm:Str}(hm:nm∈NN){d:HD}(o:d.Ok){hk' Yx:List Key}{Ys YA:List PV}(e1:nR hk hp @Q d.h.pv=.dct hk' Ys)(e2:nR kk kp @Q @ac=.dct Yx YA):J NN (n+1) hk' Ys ck cp g Yx YA:=by
 obtain⟨a,b,q1,q2,q3,q4⟩:=kF hk hp @Q d.h.pv j.hl;rw[e1]at q1;cases q1;obtain⟨a,b,r1,r2,r3,r4⟩:=kF kk kp @Q @ac j.kl;rw[e2]at r1;cases r1;have hz:=j.hz;have kz:=j.kz;refine⟨q2,by grind,r2,by grind,j.cl,j.cz,j.g,λx=>?_,λk hk=>?_⟩
 .rw[q4,r4]
  by_cases h:(Rp nm:Key)=.inr x
  .rw[if_pos h,if_pos h]
   exact .inr ⟨d,o,rfl,rfl⟩
  .rw[if_neg h,if_neg h]
   exact j.lk x
 .rcases CC e2 k hk with h|h
  .exact j.ks k h
  .exact⟨nm,hm,h⟩
theorem J.mono(j:J NN n hk hp ck cp g kk kp):J NN (n+1) hk hp ck cp g kk kp:=⟨j.hl,TR j.hz,j.kl,TR j.kz,j.cl,j.cz,j.g,j.lk,j.ks⟩
theorem J.drop(j:J NN n hk hp ck cp g kk kp)(nm:Str):J NN (n+1) (hk.filter λj=>decide (j≠.inr nm)) @e9 ck cp g (kk.filter λj=>decide (j≠.inr nm)) (iE kk kp @Q):=by
 obtain⟨a1,a2,-⟩:=og (k:=.inr nm) hk hp j.hl;obtain⟨b1,b2,-⟩:=og (k:=.inr nm) kk kp j.kl;have hz:=j.hz;have kz:=j.kz;have l1:=VF (λj=>decide (j≠(Rp nm:Key))) hk;have l2:=VF (λj=>decide (j≠(Rp nm:Key))) kk;refine⟨a1,TR (Rg l1 hz),b1,TR (Rg l2 kz),j.cl,j.cz,j.g,λx=>?_,λk hk=>j.ks k (List.mem_filter.mp hk).1⟩;rw[a2,b2]
 by_cases h:(Rp nm:Key)=.inr x
 .rw[if_pos h,if_pos h]
  exact .inl @aT
 .rw[if_neg h,if_neg h]
  exact j.lk x
theorem wO{t:Yb->R Bool}{ρ:Yb}{b:Bool}(h:t ρ=.ok b):bX t ρ=.ok b ρ:=by
 unfold bX;rw[h];rfl
def Ng:XO Fb->Option @lp
|.ok (.ret p) ρ=>duo ρ p
|.ok .next ρ=>duo ρ .Yj
|_=>Y'
theorem Bf(j:J NN n hk hp ck cp g kk kp)(hn:n<=100){nm:Str}(hm:nm∈NN)(hN:fG @aI=Y2){d:HD}(o:d.Ok)(hT:(aH d.h).length<=90000){how:Int}(h0:0<=how/\how<=4):∃hk' Ys Yx YA,J NN (n+1) hk' Ys ck cp g Yx YA/\
  eI @l @aa [.str nm,.str @dt,.int how]=Z' (.bl Y2,Dk hk' Ys ck cp g,.leaf @d7):=by
 have hz:=j.hz;have kz:=j.kz;have ok:Yp @bY @bY=Z' @L:=by rfl
 have ni:=JE j.kl nm;obtain⟨as,ad⟩:=xx hN
 suffices ∃hk' Ys Yx YA,J NN (n+1) hk' Ys ck cp g Yx YA/\Ng (fW @iP)=Z' (.bl Y2,Dk hk' Ys ck cp g,.leaf @d7) by
  obtain⟨a,b,c,e,h1,h2⟩:=this;exact⟨a,b,c,e,h1,h2⟩
 have rt:∀{f:Yb->R PV}{p q:PV}{t t' u:Tr}{row:Str}{ρ:Yb}{fs:Yb->R @e},fs (.tree t::.tree u::ρ)=.ok [.str row]->aS t [.str row]=Z' (p,t')->f (.tree t'::.tree u::ρ)=.ok q->Yp p q=Z' @L->Ng (v8 (BS (jk @cm fs aS) f Yp) (.tree t::.tree u::ρ))=Z' (.bl Y2,t',u):=λa1 a2 a3 a4=>by
  rw[pL,Ea (Fw a1 a2) a3 a4];rfl
 by_cases c1:how<3
 .obtain⟨hk',Ys,e1,s⟩:=zi (ck:=ck) (cp:=cp) (g:=g) o hN j.hl @b hT
  obtain⟨Yx,YA,e2,-⟩:=kF kk kp @Q @ac j.kl;refine⟨hk',Ys,Yx,YA,j.put hm o e1 e2,?_⟩;have t:aS @l [.str @jk]=Z' (.str "ok",Dk hk' Ys ck cp g):=told s @lS;obtain⟨r1,r2,r3⟩:=zu hN hT
  have tp:nj @hP @j @w @iP=.ok .next [.tree @l,.tree @b7,.val @v,.val @ac,.val @az,.no,.no]:=by
   show (if kk.length<16777216 then (match dJ @hP (.leaf (nR kk kp @Q @ac)) [.tree @l,.tree @aa,.val @v,.val @ac,.val @az,.no,.no]with|some ρ'=>XO.ok Fb.next ρ'|none=>.no)else .no)=_;rw[if_pos @b,e2];rfl
  generalize aH d.h=T at *;generalize Dk hk hp ck cp g=D at *;unfold fW;rw[b9,jH,show bX @jA @dD=.ok Y2 @dD by simp[c1],jN,b9,tp,au];have:=rt (f:=kS "ok") (fs:=a7 (a9 (a9 @js (kS "\n") bt) @w bt) aE) (t:=D) (u:=.leaf @d7) (ρ:=[.val @v,.val @ar,.val @az,.no,.no]) (row:=Yd @r5) (by simp[r1,r2,r3]) t rfl ok;rw[pL]at this ⊢;cases hq:BS (jk @cm (a7 (a9 (a9 @js (kS "\n") bt) @w bt) aE) aS) @fx Yp [.tree D,.tree @b7,.val @v,.val @ar,.val @az,.no,.no]with
  |ok a ρ=>rw[hq]at this;exact this
  |YV x ρ=>rw[hq]at this;exact this
  |no=>rw[hq]at this;exact this
 .have st:∀{hk' Ys Yx YA}(row:Str)(d0 du p:PV),aS @l [.str row]=Z' (p,Dk hk' Ys ck cp g)->Yp p du=Z' @L->J NN (n+1) hk' Ys ck cp g Yx YA->
    aJ @f7 @mN=.ok .next @eB->
    YS @gt @hj @gb @eB=.ok .next [.tree @l,.tree @b7,.val @v,.val @ac,.val @az,.val @a6,.val du]->
    ∃hk' Ys Yx YA,J NN (n+1) hk' Ys ck cp g Yx YA/\Ng (fW @iP)=Z' (.bl Y2,Dk hk' Ys ck cp g,.leaf @d7):=λ{hk' Ys Yx YA} row d0 du p t1 t2 t3 t4 t5=>by
   refine⟨hk',Ys,Yx,YA,t3,?_⟩;have r:=rt (f:=Y9 6) (fs:=a7 @bH aE) (t:=Dk hk hp ck cp g) (u:=.leaf @d7) (ρ:=[.val @v,.val @ac,.val @az,.val @a6,.val du]) rfl t1 rfl t2;generalize aH d.h=T at *;generalize Dk hk hp ck cp g=D at *;unfold fW
   rw[b9,jH,show bX @jA @dD=.ok Y1 @dD by simp[c1],rC,show cy @dD=.ok .next _ from rfl,au,
    b9,show aJ @oi @dD=.ok .next @m3 by simp[ad],au,
    b9,show aJ (bN 6 @fx) @m3=.ok .next [.tree D,.tree @aa,.val @v,.val @ar,.val @az,.val @c6,.val @bY]from rfl,au,
    b9,t4,au,b9,t5,au]
   exact r
  have go:∀ρ:Yb,kL 1 (.tree @l::.tree @aa::ρ)=.ok @fw:=fun ρ=>rfl
  have nf:inD kk kp nm=Y1->∀(row:Str) (d0:PV),YS @gt @hj @gb @eB=.ok .next [.tree @l,.tree @aa,.val @v,.val @ac,.val @az,.val @a6,.val mh]:=λh row d0=>by
   rw[h]at ni;generalize aH d.h=T at *;generalize Dk hk hp ck cp g=D at *;have h:aW @j6 @mY=.ok Y2:=by simp[go,ni]
   rw[jH,wO h,jN];rfl
  have yf:inD kk kp nm=Y2->∀(row:Str) (d0:PV),YS @gt @hj @gb @eB=YS @tc @s4 cy @eB:=λh row d0=>by
   rw[h]at ni;generalize aH d.h=T at *;generalize Dk hk hp ck cp g=D at *;have h:aW @j6 @mY=.ok Y1:=by simp[go,ni]
   rw[jH,wO h,rC]
  by_cases c2:how=3
  .subst c2
   obtain⟨t1,t2⟩:=yZ j hN;have s4:aJ @f7 @iJ=.ok .next @iJ:=by rfl
   cases hi:inD kk kp nm with
   |false=>exact st _ _ mh mh (t1 hi) @D j.mono s4 (nf hi _ _)
   |true=>
    refine st _ _ @bY @bY (t2 hi) ok (j.drop nm) s4 ?_;have h:aW @jo @iJ=.ok Y2:=by simp
    rw[yf hi,jH,wO h,jN];exact Ir (k:=nm) rfl ↑29 j.kl hi rfl
  .have c3:how>3:=by grind
   have s4:aJ @f7 @mN=.ok .next [.tree @l,.tree @aa,.val @v,.val @ac,.val @az,.val @hf,.val @ol]:=by
    have gg:gGt @az (.int 3)=Z' @L:=by simp[c3]
    generalize aH d.h=T at *;have g2:mJ @fw @v @fM=Z' @ol:=rfl;generalize Dk hk hp ck cp g=D at *;simp[gg,as,g2]
   have sh:=nq j hN;have de:=(Bc (nm:=nm) j).2;cases hi:inD kk kp nm with
   |false=>
    have e:bT kk kp @Q=Y':=by simpa[inD]using hi
    have e':due kk kp nm=mh:=by unfold due;rw[e];rfl
    rw[e']at sh;exact st _ _ mh mh sh @D j.mono s4 (nf hi _ _)
   |true=>
    have e':(bT kk kp @Q).getD @fM=due kk kp nm:=by
     unfold due;cases e:bT kk kp (.inr nm)with
     |none=>unfold inD at hi;rw[e]at hi;cases hi
     |some p=>rfl
    rw[e']at s4;refine st _ _ @dT _ sh de j.mono s4 ?_;have h:aW @jo [.tree @l,.tree @aa,.val @v,.val @ac,.val @az,.val @hf,.val @dT]=.ok Y1:=by simp[c2]
    rw[yf hi,jH,wO h,rC];rfl
end
theorem jb{h:YT}{g:Yb->XO Fb}{p:PV}{ps:List PV}{ρ ρ1 ρ2:Yb}(h1:h p ρ=Z' ρ1)(h2:g ρ1=.ok .next ρ2):ux h g (p::ps) ρ=ux h g ps ρ2:=by
 show (match h p ρ with|none=>XO.no|some ρ1=>_)=_;rw[h1];show (g ρ1).bind _=_;rw[h2];rfl
abbrev lst(S NL RL:PV)(T U:Tr)(n k c w t a b:Sl):Yb:=[.val S,.val NL,n,.val RL,.tree T,.tree U,k,c,w,t,a,b]
theorem Iv{S NL RL:PV}{T U D K D' K' T' U':Tr}{n k c t a b:Sl}{w:Int}{fs:Yb->R @e}{ps:List PV}{p:PV}(h1:pe w T=Z' D)(h2:pe w U=Z' K)(e1:fs @i0=.ok ps)(e2:eI D K ps=Z' (p,D',K'))(h3:qE w D' T=Z' T')(h4:qE w K' U=Z' U'):
  xw 4 5 8 fs eI @i0=.ok p @nq:=by
 show (match pe w T,pe w U with
  |some t,Z' u=>_
  |_,_=>XO.no)=_
 rw[h1,h2];show (XO.rd _ (fs @i0)).bind _=_;rw[e1]
 show (match eI D K ps with
  |none=>XO.no
  |some (p,t',u')=>_)=_
 rw[e2]
 show (match qE w D' T,qE w K' U with
  |some T',Z' U'=>XO.ok p @nq
  |_,_=>.no)=_
 rw[h3,h4]
theorem Iw{S NL RL:PV}{T U:Tr}{n k c w t a b:Sl}{fs:Yb->R @e}{ps:List PV}{p:PV}(e1:fs @gp=.ok ps)(e2:dS T U ps=Z' (p,T,U)):Bt 4 5 fs dS @gp=.ok p @gp:=by
 show (XO.rd _ (fs @gp)).bind _=_;rw[e1]
 show (match dS T U ps with
  |none=>XO.no
  |some (p,t',u')=>_)=_
 rw[e2];rfl
theorem Gf (x r:List Nat) (hx:32∉x) (hl:x.length+r.length<=1000):∃m,jt (.str (Yd (x++32::r))) @bA=Z' (.tup [.str @n,.str m,.str (Yd r)]):=by
 obtain⟨e1,e2⟩:=TX.ZS 32 (Yd (x++32::r));rw[bO]at e1 e2;obtain⟨a,b⟩:=TX.drop_free hx r;rw[b]at e1;rw[a]at e2;refine⟨(Txt.partition (Yd (x++32::r)) ⟨#[32]⟩).2.1,?_⟩;show (if _/\_ then Z' (PV.tup [.str (Txt.partition (Yd (x++32::r)) @aZ).1,.str (Txt.partition (Yd (x++32::r)) @aZ).2.1,.str (Txt.partition (Yd (x++32::r)) @aZ).2.2])else Y')=_;rw[w8,e1,e2,if_pos ⟨by rfl,by rw[dw];simp;grind⟩];rfl
section
variable{NN:List Str}{n:Nat}{hk ck kk:List Key}{hp cp kp:List PV}{g:Int}
theorem n17:num 7=Yd [55]/\QP " 7"=Yd [32,55]/\num 1=QP "1"/\num 2=QP "2"/\cd (num 1)=[49]/\cd (num 2)=[50]:=by decide +kernel
theorem E2 {nm:Str} (h:fG @aI=Y2):bt (.str "call ") @v=Z' @qG/\bt @qG (.str " 7")=Z' (.str @kc):=by
 have l:=Af h;obtain⟨-,-,a,-,-,-,b,-,-,c⟩:=rB;obtain⟨d,e,-⟩:=n17;refine⟨so @b,?_⟩;rw[so (by rw[jU];grind),a,e]
 conv=>lhs;rw[<-mi nm,cE,cE]
 rw[d];simp[sr,TX.glue]
theorem calls(j:J NN n hk hp ck cp g kk kp)(hg:g<=1){nm:Str}(hN:fG @aI=Y2)(hk':inD kk kp nm=Y2):∃YN YM T,J NN n hk hp YN YM (g+1) kk kp/\
  b8 @l [.str @kc]=Z' (.inl @ar,Dk hk hp YN YM (g+1))/\∃m r,jt @ar @bA=Z' (.tup [.str (num (g+1)),m,r]):=by
 have g0:=j.g;have cz:=j.cz;rcases j.lk nm with⟨e1,e2⟩|⟨d,o,e1,e2⟩
 .unfold inD at hk'
  rw[e2]at hk';cases hk'
 .obtain⟨st,s,hs,b1,b2⟩:=vN o 7
  obtain⟨YN,YM,q1,q2,q3,-⟩:=kF ck cp (.inr (num (g+1))) (.tup [d.h.pv,.int 7,st]) j.cl;have bc:=begin_call (hk:=hk) (hp:=hp) o 7 @q j.cl @q hs b1 b2 q1
  have sc:=Cm (ck:=ck) (cp:=cp) (g:=g) hN (hour:=7) @h @h j.hl (H:=.Yj) (s:=num (g+1)++" "++s) (t':=Dk hk hp YN YM (g+1)) λH h=>by
   rw[e1]at h;cases h;exact bc
  rw[show inD hk hp nm=Y2 by unfold inD;rw[e1];rfl,if_pos rfl]at sc;refine⟨YN,YM,_,⟨j.hl,j.hz,j.kl,j.kz,q2,by grind,by omega,j.lk,j.ks⟩,sc,?_⟩
  have hx:32∉cd (num (g+1))/\(cd (num (g+1))).length<=3:=by
   obtain⟨a,b⟩:=rh (i:=g+1) @q @b;exact⟨λz=>by have:=a 32 z;trivial,b⟩
  obtain⟨m,e⟩:=Gf (cd (num (g+1))) (cd s) hx.1 (by have:=ym s;grind);refine⟨.str m,.str (Yd (cd s)),?_⟩;rw[da]at e
  have:num (g+1)++" "++s=Yd (cd (num (g+1))++32::cd s):=by
   rw[w8,show (⟨#[32]⟩:Str)=Yd [32]from rfl]
   conv=>lhs;rw[<-mi (num (g+1)),<-mi s,cE,cE]
   simp
  rw[this];exact e
end
theorem Lw {S NL RL:PV} {T U D D' T':Tr} {n c w t a b:Sl} {k:Int} {fs:Yb->R @e} {ps:List PV} {p:PV} {ws:List YU} (hD:D=.obj "Desk" kD ws) (h1:pe k T=Z' D) (e1:fs @gl=.ok ps) (e2:b8 D ps=Z' (.inl p,D')) (h3:qE k D' T=Z' T'):
  yg "Desk" "say" @it fs b8 @gl=.ok p (lst S NL RL T' U n @bj c w t a b):=by
 subst hD;have s:mS @it @gl=Z' @E:=h1;unfold yg;rw[s];show (if QP "Desk"=QP "Desk"/\QP "say" ∉ kD then mx @it fs b8 _ else XO.no)=_;rw[if_pos ⟨rfl,by decide +kernel⟩];unfold mx;rw[s];show (XO.rd _ (fs @gl)).bind _=_;rw[e1]
 show (match b8 @E ps with
  |none=>XO.no
  |some (.inl p,t')=>_
  |some (.inr x,t')=>_)=_
 rw[e2]
 show (match (qE k D' T).map λz=>lst S NL RL z U n @bj c w t a b with
  |some ρ'=>XO.ok p ρ'
  |none=>.no)=_
 rw[h3];rfl
abbrev TT(hk hk':List Key)(hp Ys:List PV)(ck YN:List Key)(cp YM:List PV)(g g':Int):Tr:=.two @l @eU
abbrev UU(kk Yx:List Key)(kp YA:List PV):Tr:=.two @aa @b7
theorem step{NN:List Str}{n:Nat}{S NL RL:PV}{T U D:Tr}{hk ck kk:List Key}{hp cp kp:List PV}{g k:Int}{c w t a b:Sl}(j:J NN n hk hp ck cp g kk kp)(hN:∀x∈NN,fG @es=Y2)(hg:kk=[]\/g<=1)(h1:pe k T=Z' @l)(h2:pe k U=Z' @aa)(h3:∀D',∃T',qE k D' T=Z' T'){number:Str}(hnum:kk=[]\/number=num (g+1)):
  ∃YN YM g' a' b' T',J NN n hk hp YN YM g' kk kp/\(kk=[]\/g'=g+1)/\qE k (Dk hk hp YN YM g') T=Z' T'/\(kk=[]->YN=ck/\YM=cp/\g'=g)/\vO @eA=.ok .next (lst S NL RL (if kk=[]then T else T') U @bu @bj c w t a' b'):=by
 have it:Z7 @iX @eA=.ok ((kk.map wV).take 1):=by
  have io:Az 5 6 @eA=.ok @fw:=by
   show (match pe k U with
    |some (.leaf p)=>R.ok p
    |_=>.no)=_
   rw[h2]
  have cu:qy (kk.map wV) Y' (Z' 1)=(kk.map wV).take 1:=by simp[qy,HT.YB]
  have gl:ml @fw=Z' (.lst (kk.map wV)):=rfl;generalize lst S NL RL T U @bu @bj c w t a b=ρ at *;simp[io,gl,cu]
 cases kk with
|nil=>
  refine⟨ck,cp,g,a,b,(h3 @l).choose,j,.inl rfl,(h3 @l).choose_spec,λ_=>@g8,?_⟩;show (XO.rd _ @tk).bind _=_;rw[it];rfl
|cons k0 rest=>
  obtain⟨nm,hm,rfl⟩:=j.ks k0 @a;have nn:=hN nm hm;have g1:g<=1:=hg.resolve_left @a;have nu:number=num (g+1):=hnum.resolve_left @a
  obtain⟨YN,YM,X,j',sy,m,r,pt⟩:=calls j g1 nn (by
   unfold inD;cases kp with
   |nil=>have:=j.kl;simp at this
   |cons p ps=>simp[bT])
  obtain⟨T',hT'⟩:=h3 (Dk hk hp YN YM (g+1));refine⟨YN,YM,g+1,.val @v,.val (.str X),T',j',.inr rfl,hT',λz=>by simp at z,?_⟩;show (XO.rd _ @tk).bind _=_;rw[it];show ux (ar 10) vP [.str nm] @eA=_;obtain⟨c1,c2⟩:=E2 nn;have sx:=Lw (S:=S) (NL:=NL) (RL:=RL) (T:=T) (U:=U) (n:=.val (.str number)) (c:=c) (w:=w) (t:=t) (a:=.val @v) (b:=b) (k:=k) (fs:=a7 @mK aE) (ps:=[.str @kc]) rfl h1 (by simp[c1,c2]) sy hT';refine jb (ρ1:=lst S NL RL T U @bu @bj c w t @h1 b) (ρ2:=lst S NL RL T' U @bu @bj c w t @h1 @sL) rfl ?_;have a0:∀x y z:PV,Yu @b3 0=Z' x:=λx y z=>aX (n:=0) rfl rfl;unfold vP;rw[b9,show FN 11 @nx (lst S NL RL T U @bu @bj c w t @h1 b)=.ok .next (lst S NL RL T' U @bu @bj c w t @h1 @sL) by unfold FN;rw[sx];rfl,au];subst nu;simp[pt,a0]
theorem vY{d:HD}(o:d.Ok):(cn @r1).length<=20000:=by
 have g:=nM d.h (Dw o)
 have a:=kK @r1 λx hx=>by
  obtain⟨r,hr,rfl⟩:=SU.mp hx;exact(pZ r (g r hr)).2.2
 have b:(g9 d.h).length<=12:=by
  have h3:(eD (d.b,d.R3)).length<=2:=by unfold HD.R3;cases d.en<;>simp[eD,bS]
  unfold g9 HD.h HD.rooms;cases d.nm<;>cases d.hh<;>simp[eD,bS,HD.R1,HD.R2,HD.R4]at h3 ⊢<;>grind
 rw[RB]at a
 grind
def Lq(p:Int×Int):PV:=.tup [.int p.1,.int p.2]
theorem enums(xs:List Int):∃L:List (Int×Int),L.length=xs.length/\(A8 (xs.map .int)).map .tup=L.map Lq:=by
 refine⟨(S7 xs.length).map λi:Nat=>((i:Int),xs.getD i 0),by simp,List.ext_getElem? λi=>?_⟩;rw[RC,CV]
 by_cases h:i<xs.length
 .simp[h,Lq]
 .simp[h]
theorem Gy(c b:Int):0<=mix c b:=by unfold mix;grind
theorem MD(z:Int):mix (z%6+1) 69621=69621*((z%6+1).toNat:Nat):=by
 unfold mix;have h:0<=z%6/\z%6<6:=by grind
 generalize z%6=y at *;have:(((y+1).toNat:Nat):Int)=y+1:=by grind
 rw[this];omega
theorem three{xs:List Str}(h:xs.length=3):∃a b c,xs=@em:=match xs,h with
|[a,b,c],_=>⟨a,b,c,rfl⟩
theorem Dg(ns:List Int):AY [.lst @dX]=Z' @L:=by
 have c0:bY [.lst @dX,.int 0]=Z' (.int (ns.getD 0 0)):=Bq ns 0;have c1:bY [.lst @dX,.int 1]=Z' (.int (ns.getD 1 0)):=Bq ns 1;generalize ns.getD 0 0=C0 at *;generalize ns.getD 1 0=C1 at *;have x0:=mixed C0 16807 @h;have x1:=mixed C1 39373 @h;obtain⟨NN,n3,nd,hNm,en⟩:=names @s3 3 @h;have en:cR [.int @s3,.int 3]=Z' @G:=en;have hN:∀x∈NN,fG @es=Y2:=λx hx=>(hNm x hx).nm @b @b;generalize hR:mix C1 39373=R at *;obtain⟨RR,r3,rd,hRm,er⟩:=names (R/8*8+R%7) 3 @h;have er:cR [.int (R/8*8+R%7),.int 3]=Z' (.lst (RR.map .str)):=er;have rk:1<=(1+(R/8*8+R%7)%8).toNat/\(1+(R/8*8+R%7)%8).toNat<=7:=by grind
 generalize (1+(R/8*8+R%7)%8).toNat=rs at *;obtain⟨ra,rb,rc,rfl⟩:=three r3;have ok:∀i:Nat,(hd ra rb rc i).Ok:=N2 rk.1 rk.2 @lk @lk @lk rd
 have tx:∀z:Int,hW [.lst ([ra,rb,rc].map .str),.int (mix (z%6+1) 69621)]=Z' (.str (aH (hd ra rb rc (z%6+1).toNat).h)):=λz=>by
  rw[MD];have l:∀x∈[ra,rb,rc],(cd x).length<=8:=λx hx=>by have:=(hRm x hx).1;grind
  have e:=FG (cd ra) (cd rb) (cd rc) @lY @lY @lY (z%6+1).toNat @b @b (by
   rw[da,da,da];have:=vY (ok (z%6+1).toNat)
   grind)
  rw[da,da,da]at e;exact e
 have tl:∀i:Nat,(aH (hd ra rb rc i).h).length<=90000:=λi=>by
  have:=vY (ok i);show (Yd _).length<=_;rw[dw]
  grind
 have cut:qy @kC (Z' 2) (Z' 22)=(qy ns (Z' 2) (Z' 22)).map .int:=by grind[qy,List.map_take,List.map_drop]
 have cl:(qy ns (Z' 2) (Z' 22)).length<=22:=by grind[qy,Tc,HT.YB]
 obtain⟨L,l1,l2⟩:=enums (qy ns (Z' 2) (Z' 22));generalize hS:PV.lst @kC=S at *;generalize hRL:PV.lst ([ra,rb,rc].map PV.str)=RL at *;have j0:J NN 0 [] [] [] [] 0 [] []:=⟨rfl,by simp,rfl,by simp,rfl,by simp,by decide,λ_=>.inl @aT,nofun⟩
 have lp:=rT (h:=fV 2 @jq) (g:=oY) (enc:=Lq)
  (I:=λi ρ=>∃hk hk' hp Ys kk Yx kp YA n k c w t,ρ=lst S @G RL (TT hk hk' hp Ys [] [] [] [] 0 0) @aS n k c w t .no .no/\J NN i hk hp [] [] 0 kk kp/\J NN i hk' Ys [] [] 0 Yx YA) L 0 (lst S @G RL (TT [] [] [] [] [] [] [] [] 0 0) (UU [] [] [] []) @hZ .no .no .no .no .no .no)
  ⟨_,_,_,_,_,_,_,_,_,_,_,_,_,rfl,j0,j0⟩ (by
   rintro⟨i,z⟩ - k' ρ - hlt ⟨hk,hk',hp,Ys,kk,Yx,kp,YA,n,k,c,w,t,rfl,j,j'⟩;rw[l1]at hlt;have hk0:k'<=100:=by grind
   have xm:=mixed (z+i) 48271 @h;have np:=Gy (z+i) 48271;generalize mix (z+i) 48271=M at *;have xt:=tx z;have xk:=mixed (z%6+1) 69621 @h
   have hx:∃x∈NN,Yu @sK (M/16%3)=Z' @H:=by
    have h:(M/16%3).toNat<NN.length:=by grind
    exact⟨NN[(M/16%3).toNat],Sz h,aX (n:=(M/16%3).toNat) @b @a⟩
   obtain⟨x,hx,ex⟩:=hx;have nx:=hN x hx;have dv:∀a b:Int,0<b/\b<1073741824->lg @bb @aH=Z' (.int (a/b)):=λa b h=>xC h;have md:∀a b:Int,0<b->i5 @bb @aH=Z' (.int (a%b)):=λa b h=>sJ h;have pw:Kg @iE (.int 10)=Z' (.int 1024):=rfl;have tlz:=tl (z%6+1).toNat;have okz:=ok (z%6+1).toNat;have w01:M/1024%3/2=0\/M/1024%3/2=1:=by grind
   have fin:∀{hk2 ac3 kk2 ab9:List Key}{hp2 ac2 kp2 ab8:List PV}{D K D' K':Tr}(w':Int),M/1024%3/2=w'->pe w' (TT hk hk' hp Ys [] [] [] [] 0 0)=Z' D->pe w' @aS=Z' K->eI D K [.str x,.str (aH (hd ra rb rc (z%6+1).toNat).h),.int (M%5)]=Z' (.bl Y2,D',K')->qE w' D' (TT hk hk' hp Ys [] [] [] [] 0 0)=Z' (TT hk2 ac3 hp2 ac2 [] [] [] [] 0 0)->qE w' K' @aS=Z' @jV->J NN (k'+1) hk2 hp2 [] [] 0 kk2 kp2->J NN (k'+1) ac3 ac2 [] [] 0 ab9 ab8->
     oY (lst S @G RL (TT hk hk' hp Ys [] [] [] [] 0 0) @aS n @dk @db w t .no .no)=.ok .next (lst S @G RL (TT hk2 ac3 hp2 ac2 [] [] [] [] 0 0) @jV @fa @dk @db @hl (.val (.str (aH (hd ra rb rc (z%6+1).toNat).h))) .no .no):=λ{hk2 ac3 kk2 ab9 hp2 ac2 kp2 ab8 D K D' K'} w' hw t1 t2 t3 t4 t5 q1 q2=>by
    have al:dS (TT hk2 ac3 hp2 ac2 [] [] [] [] 0 0) @jV [.lst @a4,.int (M%6)]=Z' (.bl Y2,TT hk2 ac3 hp2 ac2 [] [] [] [] 0 0,UU kk2 ab9 kp2 ab8):=F9 q1 q2 n3 hN (M%6);generalize aH (hd ra rb rc (z%6+1).toNat).h=TX at *;have cc:=Iv (S:=S) (NL:=.lst @a4) (RL:=RL) (n:=.val (.int M)) (k:=.val @I) (c:=.val @dv) (t:=.val @ip) (a:=.no) (b:=.no) (fs:=a7 @np @nP) t1 t2 (by simp[dv,md,ex]) t3 t4 t5;have ca:=Iw (S:=S) (NL:=.lst @a4) (RL:=RL) (n:=.val (.int M)) (k:=.val @I) (c:=.val @dv) (w:=.val (.int w')) (t:=.val @ip) (a:=.no) (b:=.no) (fs:=a7 @f @oJ) (by simp[md]) al;generalize TT hk hk' hp Ys [] [] [] [] 0 0=T at *;generalize UU kk Yx kp YA=U at *;generalize TT hk2 ac3 hp2 ac2 [] [] [] [] 0 0=T2 at *;generalize UU kk2 ab9 kp2 ab8=U2 at *;generalize PV.lst @a4=NL at *;unfold oY
    rw[b9,show aJ @m7 (lst S NL RL T U n @dk @db w t .no .no)=.ok .next @m4 by simp[xm],au,
     b9,show aJ @mT @m4=.ok .next @mQ by simp[pw,dv,md,hw],au,
     b9,show aJ @mF @mQ=.ok .next (lst S NL RL T U @fa @dk @db @hl (.val @ip) .no .no) by simp[md,xk,xt],au,
     b9,jH]
    unfold D3 BJ;rw[cc];show uP _ (cy _)=_;rw[show cy (lst S NL RL T2 U2 @fa @dk @db @hl (.val @ip) .no .no)=.ok .next _ from rfl,au,jH,ca];rfl
   rcases w01 with hw|hw
   .obtain⟨hk2,hp2,kk2,kp2,q,e⟩:=Bf j hk0 hx nx okz tlz (how:=M%5) @b
    exact⟨_,_,rfl,fin 0 hw rfl rfl e rfl rfl q j'.mono,_,_,_,_,_,_,_,_,_,_,_,_,_,rfl,q,j'.mono⟩
   .obtain⟨hk2,hp2,kk2,kp2,q,e⟩:=Bf j' hk0 hx nx okz tlz (how:=M%5) @b
    exact⟨_,_,rfl,fin 1 hw rfl rfl e rfl rfl j.mono q,_,_,_,_,_,_,_,_,_,_,_,_,_,rfl,j.mono,q⟩)
 obtain⟨ρ1,f1,hk,hk',hp,Ys,kk,Yx,kp,YA,n,k,c,w,t,rfl,j,j'⟩:=lp;generalize 0+L.length=m at j j'
 have turn:∀{ck YN:List Key}{cp YM:List PV}{g g' y:Int}{number:Str}{k a b:Sl},J NN m hk hp ck cp g kk kp->J NN m hk' Ys YN YM g' Yx YA->(kk=[]\/g=y)->(Yx=[]\/g'=y)->y<=1->number=num (y+1)->∃ck2 ah1 cp2 ah0 g2 g2' k2 a2 b2,J NN m hk hp ck2 cp2 g2 kk kp/\J NN m hk' Ys ah1 ah0 g2' Yx YA/\(kk=[]\/g2=y+1)/\(Yx=[]\/g2'=y+1)/\
   sj (lst S @G RL @n7 @aS @bu k c w t a b)=.ok .next (lst S @G RL @nL @aS @bu k2 c w t a2 b2):=λ{ck YN cp YM g g' y number k a b} q q' hg hg' hy hnum=>by
  obtain⟨ck2,cp2,g2,a2,b2,T2,z1,z2,z3,z4,z5⟩:=step (S:=S) (NL:=.lst @a4) (RL:=RL) (T:=TT hk hk' hp Ys ck YN cp YM g g') (U:=UU kk Yx kp YA) (D:=.leaf .Yj) (k:=0) (c:=c) (w:=w) (t:=t) (a:=a) (b:=b) q hN (hg.imp_right @i) rfl rfl ↑1260 (number:=number) (hg.imp_right λh=>by rw[hnum,h])
  have e1:(if kk=[]then TT hk hk' hp Ys ck YN cp YM g g' else T2)=TT hk hk' hp Ys ck2 YN cp2 YM g2 g':=by
   split
   .rename_i h
    obtain⟨rfl,rfl,rfl⟩:=z4 h;rfl
   .cases z3
    rfl
  rw[e1]at z5;obtain⟨ck3,cp3,g3,a3,b3,T3,y1,y2,y3,y4,y5⟩:=step (S:=S) (NL:=.lst @a4) (RL:=RL) (T:=TT hk hk' hp Ys ck2 YN cp2 YM g2 g') (U:=UU kk Yx kp YA) (D:=.leaf .Yj) (k:=1) (c:=c) (w:=w) (t:=t) (a:=a2) (b:=b2) q' hN (hg'.imp_right @i) rfl rfl ↑1260 (number:=number) (hg'.imp_right λh=>by rw[hnum,h])
  have e2:(if Yx=[]then TT hk hk' hp Ys ck2 YN cp2 YM g2 g' else T3)=TT hk hk' hp Ys ck2 ck3 cp2 cp3 g2 g3:=by
   split
   .rename_i h
    obtain⟨rfl,rfl,rfl⟩:=y4 h;rfl
   .cases y3
    rfl
  rw[e2]at y5;refine⟨ck2,ck3,cp2,cp3,g2,g3,.val @cU,a3,b3,z1,y1,?_,?_,?_⟩
  .rcases hg with h|h
   .exact .inl h
   .exact z2.imp_right λh'=>by simp[*]
  .rcases hg' with h|h
   .exact .inl h
   .exact y2.imp_right λh'=>by simp[*]
  .show ux (ar 6) vO [.int 0,.int 1] _=_
   rw[jb (ρ1:=lst S @G RL @n7 @aS @bu (.val @bE) c w t a b) rfl z5,jb (ρ1:=lst S @G RL (TT hk hk' hp Ys ck2 YN cp2 YM g2 g') @aS @bu (.val @cU) c w t a2 b2) rfl y5];rfl
 obtain⟨-,-,u1,u2,-⟩:=n17;obtain⟨ck2,ah1,cp2,ah0,g2,g2',k2,a2,b2,q,q',o1,o2,t1⟩:=turn (y:=0) (number:="1") (k:=k) (a:=.no) (b:=.no) j j' @cn @cn @h u1.symm;obtain⟨ck3,ai6,cp3,ai5,g3,g3',k3,a3,b3,p,p',-,-,t2⟩:=turn (y:=1) (number:="2") (k:=k2) (a:=a2) (b:=b2) q q' o1 o2 @h u2.symm;have al:dS @nK @aS [.lst @a4,.int 0]=Z' (.bl Y2,TT hk hk' hp Ys ck3 ai6 cp3 ai5 g3 g3',UU kk Yx kp YA):=F9 p p' n3 hN 0;have ca:=Iw (S:=S) (NL:=.lst @a4) (RL:=RL) (n:=.val (.str "2")) (k:=k3) (c:=c) (w:=w) (t:=t) (a:=a3) (b:=b3) (fs:=a7 @f @lm) rfl al
 have s1:aJ @mG [.val S,.no,.no,.no,.no,.no,.no,.no,.no,.no,.no,.no]=.ok .next @na:=by
  generalize PV.lst @a4=NL at *;simp[c0,x0,en]
 have s2:aJ @mW @na=.ok .next @mX:=by
  generalize PV.lst @a4=NL at *;simp[c1,x1]
 have s3:aJ @mH @mX=.ok .next @mS:=by
  have m1:BP (.int (R/8)) (.int 8)=Z' (.int (R/8*8)):=FD (.inr @h);have m2:lg @dp (.int 8)=Z' (.int (R/8)):=xC ⟨by decide,by decide⟩;have m3:i5 @dp (.int 7)=Z' (.int (R%7)):=sJ @h;generalize PV.lst @a4=NL at *;simp[m1,m2,m3,er]
 have s6:x5 (yu @gm) (fV 2 @jq) oY (lst S @G RL (TT [] [] [] [] [] [] [] [] 0 0) (UU [] [] [] []) @hZ .no .no .no .no .no .no)=.ok .next (lst S @G RL (TT hk hk' hp Ys [] [] [] [] 0 0) @aS n k c w t .no .no):=by
  show (XO.rd _ (yu @gm _)).bind _=_;rw[show yu @gm (lst S @G RL (TT [] [] [] [] [] [] [] [] 0 0) (UU [] [] [] []) @hZ .no .no .no .no .no .no)=.ok (L.map Lq) by rw[<-l2,<-cut,<-hS];rfl];exact f1
 have s7:x5 @nJ @cZ sj (lst S @G RL (TT hk hk' hp Ys [] [] [] [] 0 0) @aS n k c w t .no .no)=.ok .next (lst S @G RL @nK @aS @rW k3 c w t a3 b3):=by
  show ux @cZ sj [.str "1",.str "2"] _=_;rw[jb (ρ1:=lst S @G RL (TT hk hk' hp Ys [] [] [] [] 0 0) @aS (.val (.str "1")) k c w t .no .no) rfl t1,jb (ρ1:=lst S @G RL @nL @aS @rW k2 c w t a2 b2) rfl t2];rfl
 show (match Dy [.val S,.no,.no,.no,.no,.no,.no,.no,.no,.no,.no,.no]with
  |.ok (.ret p) _=>Z' p
  |.ok .next _=>Z' .Yj
  |_=>Y')=_
 unfold Dy
 rw[b9,s1,au,b9,s2,au,b9,s3,au,b9,
  show qF 4 @tr @mS=.ok .next [.val S,.val @G,.val @dp,.val RL,.tree (TT [] [] [] [] [] [] [] [] 0 0),.no,.no,.no,.no,.no,.no,.no]from rfl,au,b9,
  show qF 5 @pu [.val S,.val @G,.val @dp,.val RL,.tree (TT [] [] [] [] [] [] [] [] 0 0),.no,.no,.no,.no,.no,.no,.no]=.ok .next (lst S @G RL (TT [] [] [] [] [] [] [] [] 0 0) (UU [] [] [] []) @hZ .no .no .no .no .no .no)from rfl,au,b9,s6,au,b9,s7,au,pL,ca]
 rfl
end K46
namespace K46
open PySem PySem.Spec PyProof.Rows L2 PU
seal EV EO EN EA ET EW SV SVs TGt Ia TCt KH EI ETs ED EOI ELF EVF ENF ETF SVF EM SVM EDN XB XT SB SBs ENT EDF XW HB
noncomputable def top(i:Nat):Stmt:=PySem.Challenge.pw_menutree_k46_houses_kept.main.body.getD i (.Pass @k1)
abbrev M9:Stmt:=jP @dq 0
abbrev nH:Stmt:=top 116
abbrev nI:Stmt:=top 115
abbrev pS:Stmt:=top 102
abbrev iO:Stmt:=jP @dq 4
abbrev m7:Stmt:=top 37
abbrev iL:Stmt:=top 38
abbrev tq:Stmt:=top 103
abbrev m5:Stmt:=top 30
abbrev tm:Stmt:=top 31
abbrev we:Stmt:=top 34
abbrev iN:Stmt:=jP @dq 3
abbrev iu:Stmt:=jP @dq 2
abbrev gY:Stmt:=top 80
abbrev jy:Stmt:=top 83
abbrev kh:Stmt:=top 82
abbrev lX:Stmt:=top 79
abbrev wm:Stmt:=top 105
abbrev jv:Stmt:=top 85
abbrev iM:Stmt:=top 35
abbrev pX:Stmt:=top 36
abbrev tj:Stmt:=top 32
abbrev wg:Stmt:=top 33
abbrev Eg:Stmt:=top 89
abbrev kj:Stmt:=top 88
abbrev lY:Stmt:=top 87
abbrev nF:Stmt:=top 94
abbrev nJ:Stmt:=top 95
abbrev jx:Stmt:=top 93
abbrev jw:Stmt:=top 90
abbrev nK:Stmt:=top 92
abbrev nG:Stmt:=top 91
abbrev pT:Stmt:=top 86
abbrev lZ:Stmt:=top 84
abbrev wj:Stmt:=top 1
abbrev m6:Stmt:=top 72
abbrev zj:Stmt:=top 71
abbrev wd:Stmt:=top 6
abbrev tD:Stmt:=top 5
abbrev km:Stmt:=top 67
abbrev kg:Stmt:=top 70
abbrev lV:Stmt:=top 69
abbrev lW:Stmt:=top 66
abbrev m4:Stmt:=top 65
abbrev fJ:Stmt:=top 68
abbrev wk:Stmt:=top 64
abbrev gZ:Stmt:=jP @dq 5
abbrev tu:Stmt:=top 2
abbrev tE:Stmt:=top 14
abbrev zm:Stmt:=top 13
abbrev zk:Stmt:=top 23
abbrev m8:Stmt:=top 106
abbrev hJ:Stmt:=jP @dq 6
abbrev pY:Stmt:=jP @dq 1
abbrev pU:Stmt:=top 118
abbrev tf:Stmt:=top 119
abbrev ki:Stmt:=top 114
abbrev pV:Stmt:=top 117
abbrev pW:Stmt:=top 120
abbrev xS:Stmt:=top 121
structure Txt(w:RH)(K:QO)(mg:Str->Option Value):Prop where
 n_ValueError:mg "ValueError"=Y'
 n_all:mg "all"=Y'
 n_any:mg "any"=Y'
 n_enumerate:mg "enumerate"=Y'
 n_int:mg "int"=Y'
 n_isinstance:mg "isinstance"=Y'
 n_len:mg "len"=Y'
 n_list:mg "list"=Y'
 n_ord:mg "ord"=Y'
 n_range:mg "range"=Y'
 n_str:mg "str"=Y'
 n_tuple:mg "tuple"=Y'
 n_zip:mg "zip"=Y'
 c_BENEATH:@ZL @aB K mg "BENEATH" c_BENEATH
 c_FIELDS:@ZL @aB K mg "FIELDS" c_FIELDS
 c_FIGURES:@ZL @aB K mg "FIGURES" c_FIGURES
 c_FORMS:@ZL @aB K mg "FORMS" c_FORMS
 c_HEARD:@ZL @aB K mg "HEARD" c_HEARD
 c_HOURS_OF_A_DAY:@ZL @aB K mg "HOURS_OF_A_DAY" c_HOURS_OF_A_DAY
 c_KEYS:@ZL @aB K mg "KEYS" c_KEYS
 c_MOST_BENEATH:@ZL @aB K mg "MOST_BENEATH" c_MOST_BENEATH
 c_MOST_ROOMS:@ZL @aB K mg "MOST_ROOMS" c_MOST_ROOMS
 c_PER_CENT:@ZL @aB K mg "PER_CENT" c_PER_CENT
 c_ROOM_FORMS:@ZL @aB K mg "ROOM_FORMS" c_ROOM_FORMS
 c_ROOM_KINDS:@ZL @aB K mg "ROOM_KINDS" c_ROOM_KINDS
 c_SIGNS:@ZL @aB K mg "SIGNS" c_SIGNS
 c_SMALL_LETTERS:@ZL @aB K mg "SMALL_LETTERS" c_SMALL_LETTERS
 z_NoName:∃D,ad9 K mg "NoName" D
 t_NoName:Tst K mg "NoName" (Le [("NoName",Y2)])
 o_calls:ObF K "Desk" "calls"
 o_greatest:ObF K "Desk" "greatest"
 o_houses:ObF K "Desk" "houses"
 i_Faulty:IsO K mg "Faulty" @c4
 i_MenuError:IsO K mg "MenuError" @hi
 i_NoCall:IsO K mg "NoCall" @c4
 i_NoHour:IsO K mg "NoHour" @c4
 i_NoHouse:IsO K mg "NoHouse" @c4
 i_NoRow:IsO K mg "NoRow" @c4
 i_NoSigns:IsO K mg "NoSigns" @c4
 i_ValueError:XIs K @hi (.type "ValueError")
 ab1:Hs K mg "_law_names" nH
 ab2:Hs K mg "_law_mixed" nI
 ac5:Hs K mg "words_of" pS
 h_Desk_house_by:HasM K "Desk" "house_by" "Desk.house_by" iO
 aa3:Hs K mg "is_figures" m7
 Zk:Hs K mg "number_within" iL
 ae5:Hs K mg "hour_of" tq
 aa1:Hs K mg "is_letters" m5
 ae4:Hs K mg "is_name" tm
 af7:Hs K mg "is_row" we
 h_Desk_value_of:HasM K "Desk" "value_of" "Desk.value_of" iN
 h_Desk_values_of:HasM K "Desk" "values_of" "Desk.values_of" iu
 h_row_text_houses:HsA K mg "row_text_houses" "row_text" gY
 Zz:Hs K mg "held_beneath" jy
 ZF:Hs K mg "room_values" kh
 ZX:Hs K mg "show_house" lX
 ag0:Hs K mg "answer" wm
 Zw:Hs K mg "wordless_row" jv
 Zl:Hs K mg "is_plain_sign" iM
 ad1:Hs K mg "is_plain" pX
 ae3:Hs K mg "is_word" tj
 af8:Hs K mg "is_key" wg
 ai0:Hs K mg "fits" Eg
 ZH:Hs K mg "field_value" kj
 ZY:Hs K mg "row_values" lY
 aa':Hs K mg "with_held" nF
 ab3:Hs K mg "is_rising" nJ
 Zy:Hs K mg "take_beneath" jx
 Zx:Hs K mg "take_letters" jw
 ab4:Hs K mg "bare_room" nK
 ab0:Hs K mg "take_room" nG
 ac6:Hs K mg "take_row" pT
 ZZ:Hs K mg "read_house" lZ
 af9:Hs K mg "handed" wj
 aa2:Hs K mg "is_in_ring" m6
 ag8:Hs K mg "rings" zj
 af6:Hs K mg "key_of" wd
 ae7:Hs K mg "code_of" tD
 ZI:Hs K mg "coded_words" km
 ZE:Hs K mg "twins_among" kg
 ZV:Hs K mg "twin_words" lV
 ZW:Hs K mg "targets_in" lW
 aa0:Hs K mg "lost_names" m4
 Z0:Hs K mg "words_without_code" fJ
 af':Hs K mg "faults" wk
 h_Desk_keep_house:HasM K "Desk" "keep_house" "Desk.keep_house" gZ
 ae6:Hs K mg "come_to" tu
 ae8:Hs K mg "arrival" tE
 ag':Hs K mg "begin" zm
 ag9:Hs K mg "heard" zk
 aa4:Hs K mg "heard_text" m8
 h_Desk_begin_call:HasM K "Desk" "begin_call" "Desk.begin_call" hJ
 h_Desk_say:HasM K "Desk" "say" "Desk.say" pY
 ac7:Hs K mg "_law_told" pU
 ae2:Hs K mg "_law_all" tf
 ZG:Hs K mg "_law_cell_at" ki
 ac8:Hs K mg "_law_text" pV
 ac9:Hs K mg "_law_done" pW
 h_ini:∀P base,ZO P w K mg base 1 "Desk" "houses" "calls" "greatest" 0
class BB where
 (P:R8) (w:RH) (K:QO) (mg:Str->Option Value) (base:Heap) (T:Txt w K mg)
section
variable[BB]
instance twB:TW:=tw BB.w
def T:Txt BB.w BB.K BB.mg:=BB.T
def zW:ZO BB.P BB.w BB.K BB.mg BB.base 1 "Desk" "houses" "calls" "greatest" 0:=T.h_ini _ _
abbrev pF(n:Nat)(x:Str)(F:List PV->Option PV):Prop:=PF BB.P BB.w BB.K BB.mg BB.base n x F
abbrev pFB(n:Nat)(x:Str)(F:Tr->List PV->Option @bp):Prop:=PFB BB.P BB.w BB.K BB.mg BB.base n x F
abbrev pFD(n:Nat)(x:Str)(F:G2):Prop:=PFD BB.P BB.w BB.K BB.mg BB.base n x F
abbrev pFT(n:Nat)(x:Str)(F:List PV->Option Tr):Prop:=PFT BB.P BB.w BB.K BB.mg BB.base n x F
abbrev pM2(n:Nat)(D m:Str)(F:F2):Prop:=ah3 BB.P BB.w BB.K BB.mg BB.base n D m F
abbrev pMX(n:Nat)(D m:Str)(F:Tr->List PV->Option ((PV ⊕ PX)×Tr)):Prop:=ag3 BB.P BB.w BB.K BB.mg BB.base n D m F
end
def bI:Ye ["_law_number","_law_many","_law_letters","_law_size","_law_at","_law_names_here","_law_turn","_law_name","_law_k","_law_more"] ["_law_number","_law_many"] (a8 nH):=fsc
variable[BB]
def m9:pF 1 "_law_names" cR:=
 gI (g:=jQ) T.ab1 bI λ_ _ _ _ _ _ _ hr=>have hu:=hr.units;(ae (aQ 2 bI.nd b5) (ae (aQ 3 bI.nd (aj bj aa @pX)) (ae (aQ 4 bI.nd (aj fD (EV.o (aj jr @J aa)) @aw)) (ae (iJ 5 bI.nd @cu) (ae (gy (hZ rfl T.n_range @W) (aU 6 bI.nd) (ae (aQ 7 bI.nd b5) (ae (gy (hZ rfl T.n_range @be) (aU 8 bI.nd) (ae (aQ 9 bI.nd (aj Gj (av 6) (EV.o (pI cInt rfl T.n_int rfl (EV.o (dW @Y (av 8) @br)))))) (af (aQ 7 bI.nd (aj bj (av 7) (EV.o (aw @z @N (EV.o (aj fD (EV.o (aj bj (EV.o (aj jr @J (EV.o (aj bj (av 8) aa)))) (av 9))) aa))))))))) (af (fY 5 (aL 7)))))) (af (SV.YL 5 (ao (aL 5)))))))))
def sY:Ye @pC @pC (a8 nI):=fsc
variable[BB]
def gB:pF 1 "_law_mixed" cj:=
 gI (g:=jR) T.ab2 sY λ_ _ _ _ _ _ _ hr=>have hu:=hr.units;(af (ao (aj fD (EV.o (aj Gj @pX @P)) aa)))
def i9:Ye ["row","words","ahead"] ["row"] (a8 pS):=fsc
variable[BB]
def ve:pF 1 "words_of" bU:=
 gI (g:=jn) T.ac5 i9 λ_ _ _ _ _ _ _ hr=>have hu:=hr.units;(ae (bC (jh @m8) @f1 aC) (ae (aQ 1 i9.nd @rj) (ae (aQ 2 i9.nd (aw @z (EV.o (il Co De @al ak)) aa)) (ae (bC (az @Y aM (EV.o (aw @z (EV.o @ri) aa)) ak) (af (aQ 1 i9.nd (vH (az @bc ic @N @J) @ri (EN.v @cu)))) aC) (ae (bC (EW.et (rY @s7 (rY (az @cX eE @ce @nu) (mn (az @bc ic (EV.o (gM vM rfl T.n_len rfl @P)) (EV.o (aj bj (EV.o (gM vM rfl T.n_len rfl (EV.o @q4))) aa))))))) @f1 aC) @kQ)))))
def mE:Ye @sq @sq (a8 iO):=fsc
variable[BB]
def mH:pMX 3 "Desk" "house_by" dU:=
 u9 (g:=cq) T.h_Desk_house_by mE λ_ _ _ _ _ _ _ hr=>have hu:=hr.units;(ah (eZ (cf (az @cX eE @P @rC)) @oz bD) (aD (aB (ao (aw @z @rC @P)))))
def kb:Ye ["text"] ["text"] (a8 m7):=fsc
variable[BB]
def qZ:pF 1 "is_figures" jg:=
 gI (g:=fq) T.aa3 kb λ_ _ _ _ _ _ _ hr=>have hu:=hr.units;(ae (bC (EW.et (rY @a2 (mn (jh (bH (EV.o (gM Lr rfl T.n_all rfl (EN.o (dG (N':=["sign"]) (cok kb) @fH @bt (λ_ _ _ _ _=>(dW @a1 @J (EV.o (cS rfl T.c_FIGURES))))))))))))) @bk aC) (af (ao (Kn (dW @Y @J ak) (kZ (dW @bc @dd ak))))))
def ir:Ye ["text","least","most","number"] ["text","least","most"] (a8 iL):=fsc
variable[BB]
def dA:pF 2 "number_within" bf:=
 gI (g:=bP) T.Zk ir λ_ _ _ _ _ _ _ hr=>have hu:=hr.units;(ae (bC (EW.et (rY (jh (bH (EV.o (ax qZ hr @bQ)))) (mn (az Lg vA @eG (EV.o (gM vM rfl T.n_len rfl (EV.o (pI cStr rfl T.n_str rfl @N)))))))) @hL aC) (ae (aQ 3 ir.nd (pI Nv rfl T.n_int rfl @J)) (af (ao (vH (xg CT CT lK lK @P @aw @N) @be gu)))))
def pQ:Ye ["word","hour"] ["word"] (a8 tq):=fsc
variable[BB]
def xZ:pF 3 "hour_of" kU:=
 gI (g:=oE) T.ae5 pQ λ_ _ _ _ _ _ _ hr=>have hu:=hr.units;(ae (aQ 1 pQ.nd (ax dA hr (a6 @al (a6 bz @cf)))) (ae (bC @qB @f1 aC) @kQ))
def ka:Ye @sp @sp (a8 m5):=fsc
variable[BB]
def ib:pF 1 "is_letters" cA:=
 gI (g:=fm) T.aa1 ka λ_ _ _ _ _ _ _ hr=>have hu:=hr.units;(af (ao (mq (rZ CT CT lK aa @eG @P) (kZ (gM Lr rfl T.n_all rfl (EN.o (dG (N':=["sign"]) (cok ka) @fH @bt (λ_ _ _ _ _=>(dW @a1 @J (EV.o (cS rfl T.c_SMALL_LETTERS)))))))))))
def xQ:Ye ["text"] ["text"] (a8 tm):=fsc
variable[BB]
def lB:pF 2 "is_name" gp:=
 gI (g:=kQ) T.ae4 xQ λ_ _ _ _ _ _ _ hr=>have hu:=hr.units;(af (ao (mq @pb (kZ (dW @bc @J ak)))))
def sZ:Ye ["text"] ["text"] (a8 we):=fsc
variable[BB]
def zS:pF 1 "is_row" xf:=
 gI (g:=x4) T.af7 sZ λ_ _ _ _ _ _ _ hr=>have hu:=hr.units;(af (ao (gM Lr rfl T.n_all rfl (EN.o (dG (N':=["sign"]) (cok sZ) @fH @bt (λ_ _ _ _ _=>(dW @a1 @J (EV.o (cS rfl T.c_SIGNS)))))))))
def mD:Ye @oo @oo (a8 iN):=fsc
variable[BB]
def mG:pM2 4 "Desk" "value_of" aK:=
 JK (g:=ba) T.h_Desk_value_of mD λ_ _ _ _ _ _ _ hr=>have hu:=hr.units;(ah (eZ (cf @eS) (aD (kf (qB 0 mH hr uV @bS))) bD) (ah (aB (bC @eS (af (ao (ax xZ hr @bS))) aC)) (ah (eZ (cf (az @a1 gJ @P (EV.o (cS rfl T.c_ROOM_FORMS)))) @cx bD) (ah (eZ (cf (EW.et (uC @eS (oN (jh (bH (EV.o (ax lB hr @bS)))))))) @oz bD) (ah (eZ (cf (EW.et (uC @eS (oN (az @cX eE @N (xh 0 T.o_calls)))))) @cx bD) (ah (eZ (cf (EW.et (uC @eS (oN (jh (bH (EV.o (ax zS hr @bS)))))))) @cx bD) @q7))))))
def cZ:Ye ["self","words","values","form","word"] ["self","words"] (a8 iu):=fsc
variable[BB]
def lC:pMX 5 "Desk" "values_of" bV:=
 u9 (g:=dB) T.h_Desk_values_of cZ λ_ _ _ _ _ _ _ hr=>have hu:=hr.units;(ah (qO 2 cZ.nd (s9 @cu)) (ah (nE (B9 rfl T.n_zip @q4 (kY @P @f0 qK)) (iH rfl (aZ (aU 3 cZ.nd) (aZ (aU 4 cZ.nd) fC))) (aD (FU 2 (C6 0 2 mG hr uV @be @ev))) (hp:=yM @g8)) (aD (FR 2))))
def gz:Ye @e1 @e1 (a8 gY):=fsc
variable[BB]
def cN:pF 1 "row_text_houses" aT:=
 Mn (g:=eF) T.h_row_text_houses gz λ_ _ _ _ _ _ _ hr=>have hu:=hr.units;(af (ao (il xT yk b5 (EV.o (aj bj (EN.o (bJ @bQ)) (EN.o (dG (N':=["value"]) (cok gz) @me @bt (λ_ _ _ _ _=>(pI cStr rfl T.n_str rfl @J)))))))))
def nB:Ye ["room"] ["room"] (a8 jy):=fsc
variable[BB]
def iR:pF 1 "held_beneath" eP:=
 gI (g:=jD) T.Zz nB λ_ _ _ _ _ _ _ hr=>have hu:=hr.units;(ae (bC @jU @td aC) (af (ao (vH (az @a1 gJ @dd @eP) @b6 (cw ag)))))
def pq:Ye @ss @ss (a8 kh):=fsc
variable[BB]
def pC:pF 1 "room_values" ij:=
 gI (g:=kO) T.ZF pq λ_ _ _ _ _ _ _ hr=>have hu:=hr.units;(ae (bC (az @Y aM @ce ak) @nZ aC) (ae (bC (az @a1 gJ @ce @eP) (af (ao (EN.v (bJ (a6 @al (a6 @ha (a6 @ha (a6 @ha (a6 @ha @gK))))))))) aC) @nZ))
def cW:Ye ["H","rows","pair","name","room","values"] ["H"] (a8 lX):=fsc
variable[BB]
def qU:pF 2 "show_house" fA:=
 gI (g:=j4) T.ZX cW λ_ _ _ _ _ _ _ hr=>have hu:=hr.units;(ae (iJ 1 cW.nd (bJ (a6 (ax cN hr (a6 b5 (a6 (EN.v (bJ (a6 @cC ag))) ag))) ag))) (ae (gy (cT @cC) (aU 2 cW.nd) (af (fY 1 (ax cN hr (a6 b5 @bS))))) (ae (gy @ic (iH rfl (aZ (aU 3 cW.nd) (aZ (aU 4 cW.nd) fC))) (ae (fY 1 (ax cN hr (a6 @j5 (a6 (ax pC hr (a6 @be @g6)) ag)))) (af (gy (cT @sG) (aU 5 cW.nd) (af (fY 1 (ax cN hr (a6 (aw @z @eP (EV.o @j5)) @tj)))))))) (af (ao (il xT yk b5 (yJ 1)))))))
def t8:Ye ["kind","values","house"] @e1 (a8 wm):=fsc
variable[BB]
def zV:pF 3 "answer" n5:=
 gI (g:=rQ) T.ag0 t8 λ_ _ _ _ _ _ _ hr=>have hu:=hr.units;(ae (aQ 2 t8.nd @cz) (ae (bC @a2 (af (ao (ax qU hr @bS))) aC) (ae @gT (ae @gT (ae @gT (ae @gT @f1))))))
def dM:Ye ["rows","number","row","below"] ["rows"] (a8 jv):=fsc
variable[BB]
def nU:pF 1 "wordless_row" gL:=
 gI (g:=gK) T.Zw dM λ_ _ _ _ _ _ _ hr=>have hu:=hr.units;(ae (gy (xl rfl T.n_enumerate @al) (iH rfl (aZ (aU 1 dM.nd) (aZ (aU 2 dM.nd) fC))) (ae (aQ 3 dM.nd (vH @qC @q6 b5)) (af (bC (EW.et (uC (bH (EV.o (il zp Ah @aJ ak))) (oN (jh (bH (EV.o (il zp Ah @be ak))))))) @kQ aC)))) (af (ao bz)))
def mC:Ye ["sign"] ["sign"] (a8 iM):=fsc
variable[BB]
def mF:pF 1 "is_plain_sign" gn:=
 gI (g:=cP) T.Zl mC λ_ _ _ _ _ _ _ hr=>have hu:=hr.units;(af (ao (mq (rZ CT CT lK ak @J ak) (kZ (dW @bc (EV.o (gM Qk rfl T.n_ord rfl @J)) (EV.o (cS rfl T.c_PER_CENT)))))))
def nA:Ye ["text"] ["text"] (a8 pX):=fsc
variable[BB]
def vi:pF 2 "is_plain" lO:=
 gI (g:=hV) T.ad1 nA λ_ _ _ _ _ _ _ hr=>have hu:=hr.units;(af (ao (mq (rZ CT CT lK aa @eG aa) (kZ (gM Lr rfl T.n_all rfl (EN.o (dG (N':=["sign"]) (cok nA) @fH @bt (λ_ _ _ _ _=>(ax mF hr @bQ)))))))))
def xP:Ye ["text"] ["text"] (a8 tj):=fsc
variable[BB]
def xY:pF 2 "is_word" oJ:=
 gI (g:=oC) T.ae3 xP λ_ _ _ _ _ _ _ hr=>have hu:=hr.units;(af (ao @pb))
def ze:Ye ["text"] ["text"] (a8 wg):=fsc
variable[BB]
def tT:pF 1 "is_key" mZ:=
 gI (g:=kR) T.af8 ze λ_ _ _ _ _ _ _ hr=>have hu:=hr.units;(af (ao (mq (dW @Y @eG aa) (kZ (dW @a1 @J (EV.o @kg))))))
def FP:Ye @e5 @e5 (a8 Eg):=fsc
variable[BB]
def Gb:pF 3 "fits" AZ:=
 gI (g:=j8) T.ai0 FP λ_ _ _ _ _ _ _ hr=>have hu:=hr.units;(ae (bC @a2 (af (ao @sF)) aC) (ae (bC @a2 (af (ao (Kn @sF (kZ (dW @Y @P ak))))) aC) (ae (bC @a2 (af (ao (ax xY hr @bh))) aC) (ae (bC @a2 (af (ao @sE)) aC) (ae (bC @a2 (af (ao (mq @sE (kZ (dW @bc @P ak))))) aC) (ae (bC @a2 (af (ao (ax ib hr @ti))) aC) (af (ao (ax vi hr @bh)))))))))
def pA:Ye @e5 @e5 (a8 kj):=fsc
variable[BB]
def pD:pF 4 "field_value" ik:=
 gI (g:=d7) T.ZH pA λ_ _ _ _ _ _ _ hr=>have hu:=hr.units;(ae @iN (ae @iN (ae @iN (af (ao (vH (bH (EV.o (ax Gb hr @ff))) @W gu))))))
def dP:Ye ["kind","row","fields","parts","values"] ["kind","row"] (a8 lY):=fsc
variable[BB]
def qV:pF 5 "row_values" jd:=
 gI (g:=fh) T.ZY dP λ_ _ _ _ _ _ _ hr=>have hu:=hr.units;(ae (bC (az @cX eE @J @o0) @hL aC) (ae (aQ 2 dP.nd (aw @z @o0 @J)) (ae (aQ 3 dP.nd (kY (EV.o (Nj tF GA @W ak @n5)) @f0 qK)) (ae (bC (az Es oy (EV.o (gM vM rfl T.n_len rfl @aw)) @n5) @hL aC) (ae (uX Y1 4 dP.nd (N':=@e5) (cok dP) (B9 rfl T.n_zip @aJ @be) @c1 (λ_ _ _ _ _=>(ax pD hr @ff))) (af (ao (vH (az @a1 gJ @fB @br) gu @ev))))))))
def sW:Ye @sr @sr (a8 nF):=fsc
variable[BB]
def tQ:pF 1 "with_held" gj:=
 gI (g:=oA) T.aa' sW λ_ _ _ _ _ _ _ hr=>have hu:=hr.units;(ae (bC @jU (af (ao (cw (a6 @b6 (a6 @W @hN))))) aC) (af (ao (cw (a6 @b6 (a6 @b6 (a6 @W (a6 @b6 @hN))))))))
def t6:Ye @pl @pl (a8 nJ):=fsc
variable[BB]
def ma:pF 1 "is_rising" bQ:=
 gI (g:=eG) T.ab3 t6 λ_ _ _ _ _ _ _ hr=>have hu:=hr.units;(ae (bC @a2 (af (ao (dW Es @dj @dj))) aC) (ae (bC @s7 @bk aC) (ae (bC @a2 (af (ao (dW Es @ne @dj))) aC) (af (ao (dW Es (EV.o (il Eh EC @kg @ne)) (EV.o (il Eh EC @kg @dj))))))))
def dO:Ye ["rooms","kind","values","name","room","held"] @jt (a8 jx):=fsc
variable[BB]
def nW:pFB 2 "take_beneath" dz:=
 zQ (g:=cJ) (ER T.Zy) dO λ_ _ _ _ _ _ _ hr=>have hu:=hr.units;(ah (aB (bC (jh (bH (yJ 0))) @bk aC)) (ah (aB (aQ 3 dO.nd (aw @z (EN.o (Kr F6 rfl T.n_list rfl (yJ 0))) @tt))) (ah (aB (aQ 4 dO.nd (aw @z (yJ 0) @aw))) (ah (aB (bC (az @bc ic (EV.o (He @eP (EV.o @j5))) @P) @bk aC)) (ah (aB (aQ 5 dO.nd @sG)) (ah (aB (bC (EW.et (rY (az @Y aM (EV.o (gM vM rfl T.n_len rfl @eu)) (EV.o (cS rfl T.c_MOST_BENEATH))) (mn (jh (bH (EV.o (ax ma hr (a6 @W (a6 (aL 5) @bS))))))))) @bk aC)) (ah (t9 hu (iS 0) @be (ax tQ hr (a6 @ev (a6 (aj bj @eu (EV.o (cw (a6 (pI Kz rfl T.n_tuple rfl @N) ag)))) ag)))) @cc)))))))
def dN:Ye ["house","values","told"] ["house","values"] (a8 jw):=fsc
variable[BB]
def nV:pFB 2 "take_letters" dy:=
 zQ (g:=cI) (ER T.Zx) dN λ_ _ _ _ _ _ _ hr=>have hu:=hr.units;(ah (eZ (Fq 0 (EW.et (rY (bH @lO) (mn (jh (bH (EV.o (ax ma hr (a6 b5 (a6 @cC @bh)))))))))) @cc bD) (ah (aB (aQ 2 dN.nd (aj bj (EV.o (il xT yk b5 (EN.o (DK (N':=["key","letters"]) (cok dN) (Ks (B5 0 hu)) @c1 @qa)))) @ce))) (ah (aB (bC (bH (EV.o (gM Qm rfl T.n_any rfl (EN.o (dG (N':=["letter","told"]) (cok dN) (cT @cz) @bt (λ_ _ _ _ _=>(dW Lg (EV.o (il Jc JP @W @J)) aa))))))) @bk aC)) (ah (Ja @l9 @j3) @cc))))
def t7:Ye @e1 @e1 (a8 nK):=fsc
variable[BB]
def tW:pF 1 "bare_room" gq:=
 gI (g:=oG) T.ab4 t7 λ_ _ _ _ _ _ _ hr=>have hu:=hr.units;(ae (bC @a2 (af (ao (cw (a6 @al (a6 (cw ag) @gK))))) aC) (ae (bC (az @a1 gJ @J @eP) (af (ao (cw (a6 @al (a6 @cz (a6 (cw ag) (a6 @j3 (a6 @j3 ag)))))))) aC) (af (ao (cw @tg)))))
def sX:Ye @jt @jt (a8 nG):=fsc
variable[BB]
def tR:pFB 2 "take_room" gk:=
 zQ (g:=gi) (ER T.ab0) sX λ_ _ _ _ _ _ _ hr=>have hu:=hr.units;(ah (aB (bC (EW.et (rY (az @Y aM (EV.o (gM vM rfl T.n_len rfl (yJ 0))) (EV.o (cS rfl T.c_MOST_ROOMS))) (mn (az @a1 gJ @dj (yJ 0))))) @bk aC)) (ah (t9 hu (iS 0) @c0 (ax tW hr @kT)) @cc))
def jI:Ye ["house","row","kind","values"] ["house","row"] (a8 pT):=fsc
variable[BB]
def vf:pFB 6 "take_row" jo:=
 zQ (g:=cH) (ER T.ac6) jI λ_ _ _ _ _ _ _ hr=>have hu:=hr.units;(ah (aB (aQ 2 jI.nd @nS)) (ah (aB (aQ 3 jI.nd (ax qV hr (a6 @aJ @bh)))) (ah (aB (bC (EW.et (rY (az Gk rJ @aw @fB) (mn (az @bc ic (EV.o (dW @Y @N ak)) (EV.o (dW @Y (B5 0 hu) ak)))))) @bk aC)) (ah (eZ @pa (ah (FT 0 hu @kh) @cc) bD) (ah (eZ @pa (aD (kf (jG nV hr (iS 0) @c9))) bD) (ah (eZ (cf (az @a1 gJ @N (EV.o (cS rfl T.c_ROOM_KINDS)))) (aD (kf (jG tR hr @l9 @hx))) bD) (aD (kf (jG nW hr @l9 @hx)))))))))
def cX:Ye ["text","rows","house","number","row","wordless"] ["text"] (a8 lZ):=fsc
variable[BB]
def qW:pFT 7 "read_house" cQ:=
 Ml (g:=j5) (ER T.ZZ) cX λ_ _ _ _ _ _ _ hr=>have hu:=hr.units;(ah (eZ (sE (cf @m8)) @cx bD) (ah (aB (aQ 1 cX.nd @rj)) (ah (qO 2 cX.nd (DI (Hn b5 (Bb @cu (Bb vJ Ho))))) (ah (nE (xl rfl T.n_enumerate @W) (iH rfl (aZ (aU 3 cX.nd) (aZ (aU 4 cX.nd) fC))) (aD (eZ (sE (yL (jG vf hr (iS 2) @g6))) @cx bD))) (ah (eZ (sE (cf (bH (B5 2 hu)))) @cx bD) (ah (aB (aQ 5 cX.nd (ax nU hr @bh))) (ah (eZ (cf (az Lg vA @eu aa)) @cx bD) (aD (FS 2)))))))))
def kc:Ye ["room","hour","since","till","name"] ["room","hour"] (a8 wj):=fsc
variable[BB]
def tU:pF 1 "handed" kW:=
 gI (g:=kT) T.af9 kc λ_ _ _ _ _ _ _ hr=>have hu:=hr.units;(ae (gy @mf (iH rfl (aZ (aU 2 kc.nd) (aZ (aU 3 kc.nd) (aZ (aU 4 kc.nd) fC)))) (af (bC (xg CT Es lK oy @N @P @aw) (af (ao @ev)) aC))) @td)
def fL:Ye ["rooms","hour","name","come","count"] ["rooms","hour","name"] (a8 m6):=fsc
variable[BB]
def qY:pF 2 "is_in_ring" jf:=
 gI (g:=gD) T.aa2 fL λ_ _ _ _ _ _ _ hr=>have hu:=hr.units;(ae (aQ 3 fL.nd @aJ) (ae (gy (hZ rfl T.n_range @oD) (aU 4 fL.nd) (ae (bC (EW.et (rY (az @cX eE @aw @J) (mn (az @bc ic (EV.o (aw @z (EV.o @q5) aa)) ak)))) @bk aC) (ae (aQ 3 fL.nd (ax tU hr (a6 @q5 @bh))) (af (bC (az @Y aM @aw @N) @bk aC))))) @bk))
def mT:Ye ["H","told","hour"] ["H"] (a8 zj):=fsc
variable[BB]
def CK:pF 3 "rings" vF:=
 gI (g:=vC) T.ag8 mT λ_ _ _ _ _ _ _ hr=>have hu:=hr.units;(ae (iJ 1 mT.nd @cu) (ae (gy (hZ rfl T.n_range (cS rfl T.c_HOURS_OF_A_DAY)) (aU 2 mT.nd) (af (iK 1 (EN.v (dG (N':=["name","hour","H"]) (cok mT) (cT @cC) @bt (λ_ _ _ _ _=>(cw (a6 b5 @hy))) (ht:=λ_ _ _ _ _=>(oP (bH (EV.o (ax qY hr (a6 @ki @hy))))))))))) @gE))
def nz:Ye ["letters","letter","key","held"] ["letters","letter"] (a8 wd):=fsc
variable[BB]
def zR:pF 1 "key_of" xb:=
 gI (g:=x3) T.af6 nz λ_ _ _ _ _ _ _ hr=>have hu:=hr.units;(ae (gy @fH (iH rfl (aZ (aU 2 nz.nd) (aZ (aU 3 nz.nd) fC))) (af (bC (az @a1 gJ @P @aw) (af (ao @aJ)) aC))) @hL)
def lA:Ye ["letters","word","keys"] ["letters","word"] (a8 tD):=fsc
variable[BB]
def y6:pF 2 "code_of" kX:=
 gI (g:=uu) T.ae7 lA λ_ _ _ _ _ _ _ hr=>have hu:=hr.units;(ae (uX Y1 2 lA.nd (N':=["letter","letters"]) (cok lA) @me @bt (λ_ _ _ _ _=>(ax zR hr @hy))) (af (ao (vH (az @a1 gJ @fB @N) gu (il xT yk b5 @N)))))
def ju:Ye ["H","room"] ["H","room"] (a8 km):=fsc
variable[BB]
def jA:pF 3 "coded_words" fR:=
 gI (g:=fP) T.ZI ju λ_ _ _ _ _ _ _ hr=>have hu:=hr.units;(ae (bC (az @bc ic @ce ak) @qb aC) (af (ao (EN.v (dG (N':=["word","name","H"]) (cok ju) (cT @cz) @c1 (λ_ _ _ _ _=>(cw (a6 @al (a6 (ax y6 hr (a6 @ki @bQ)) ag)))))))))
def dq:Ye ["coded","pairs","place","one"] ["coded"] (a8 kg):=fsc
variable[BB]
def pB:pF 1 "twins_among" fQ:=
 gI (g:=kM) T.ZE dq λ_ _ _ _ _ _ _ hr=>have hu:=hr.units;(ae (iJ 1 dq.nd @cu) (ae (gy (Ba rfl T.n_enumerate @al) (iH rfl (aZ (aU 2 dq.nd) (aZ (aU 3 dq.nd) fC))) (af (iK 1 (EN.v (dG (N':=["other","one"]) (cok dq) (cT (kY @J (lu (aj bj @N aa)) qK)) @bt (λ_ _ _ _ _=>(cw (a6 @cz @hN))) (ht:=λ_ _ _ _ _=>(oP (az @Y aM @dd @ce)))))))) @gE))
def cD:Ye ["H","told","name","room","coded"] ["H"] (a8 lV):=fsc
variable[BB]
def qS:pF 4 "twin_words" jc:=
 gI (g:=iZ) T.ZV cD λ_ _ _ _ _ _ _ hr=>have hu:=hr.units;(ae (iJ 1 cD.nd @cu) (ae (gy @ic (iH rfl (aZ (aU 2 cD.nd) (aZ (aU 3 cD.nd) fC))) (ae (uX Y1 4 cD.nd (N':=["pair"]) (cok cD) @ou @bt (λ_ _ _ _ _=>@al) (ht:=λ_ _ _ _ _=>(oP (az JB AF @dd @fB)))) (af (iK 1 (EN.v (dG (N':=["word","other","name"]) (cok cD) (cT (ax pB hr @g6)) @c1 (λ_ _ _ _ _=>(cw (a6 b5 (a6 @aJ @ff)))))))))) @gE))
def ia:Ye ["room"] ["room"] (a8 lW):=fsc
variable[BB]
def qT:pF 1 "targets_in" fw:=
 gI (g:=j3) T.ZW ia λ_ _ _ _ _ _ _ hr=>have hu:=hr.units;(ae (bC @jU (af (ao (aj bj (EN.o (bJ @hN)) (EN.o (dG (N':=["since","till","name"]) (cok ia) @mf (λ_ _ _ _ _=>(lT rfl (bW (lb 0) (bW (lb 1) (bW (lb 2) iI))))) (λ_ _ _ _ _=>@aJ)))))) aC) (ae (bC (az @a1 gJ @dd (EV.o (cw @kd))) (af (ao (aj bj (EN.o (bJ (a6 @rK (a6 @rK ag)))) (EN.o (dG (N':=["told","target"]) (cok ia) @mf @c1 @qa))))) aC) @qb))
def cY:Ye ["H","named","name","room"] ["H"] (a8 m4):=fsc
variable[BB]
def qX:pF 2 "lost_names" je:=
 gI (g:=j6) T.aa0 cY λ_ _ _ _ _ _ _ hr=>have hu:=hr.units;(ae (iJ 1 cY.nd (bJ (a6 (cw (a6 b5 (a6 @cC ag))) ag))) (ae (gy @ic (iH rfl (aZ (aU 2 cY.nd) (aZ (aU 3 cY.nd) fC))) (af (iK 1 (EN.v (dG (N':=["target","name"]) (cok cY) (cT (ax qT hr @c9)) @bt (λ_ _ _ _ _=>(cw @hy))))))) (af (SV.YL 1 (ao (EN.v (dG (N':=["name","target","H"]) (cok cY) @me @c1 (λ_ _ _ _ _=>(cw (a6 b5 @ff))) (ht:=λ_ _ _ _ _=>(oP (EW.et (uC (az @bc ic @P ak) (oN (az @cX eE @P (EV.o @ki))))))))))))))
def bw:Ye ["H","told","name","room"] ["H"] (a8 fJ):=fsc
variable[BB]
def iQ:pF 4 "words_without_code" dh:=
 gI (g:=df) T.Z0 bw λ_ _ _ _ _ _ _ hr=>have hu:=hr.units;(ae (iJ 1 bw.nd @cu) (ae (gy @ic (iH rfl (aZ (aU 2 bw.nd) (aZ (aU 3 bw.nd) fC))) (af (iK 1 (EN.v (dG (N':=["word","code","name"]) (cok bw) @ou @c1 (λ_ _ _ _ _=>(cw (a6 b5 (a6 @aJ @bQ)))) (ht:=λ_ _ _ _ _=>(oP @qB))))))) @gE))
def zf:Ye ["H"] ["H"] (a8 wk):=fsc
variable[BB]
def zU:pF 5 "faults" n0:=
 gI (g:=rO) T.af' zf λ_ _ _ _ _ _ _ hr=>have hu:=hr.units;(af (ao (aj bj (EV.o (aj bj (EV.o (aj bj (EV.o (ax qX hr @bQ)) (EV.o (ax iQ hr @bQ)))) (EV.o (ax qS hr @bQ)))) (EV.o (ax CK hr @bQ)))))
def dQ:Ye ["self","name","text","house","told"] ["self","name","text"] (a8 gZ):=fsc
variable[BB]
def ko:pMX 8 "Desk" "keep_house" cv:=
 u9 (g:=d8) T.h_Desk_keep_house dQ λ_ _ _ _ _ _ _ hr=>have hu:=hr.units;(ah (aB (aQ 3 dQ.nd (ENT.v (DJ qW hr @bS)))) (ah (aB (aQ 4 dQ.nd (ax zU hr @c9))) (ah (eZ (cf (bH @br)) @cx bD) (ah (t9 hu @rD @W @be) @kj))))
def ly:Ye ["H","hour","name","come"] ["H","hour","name"] (a8 tu):=fsc
variable[BB]
def y0:pF 2 "come_to" oK:=
 gI (g:=oF) T.ae6 ly λ_ _ _ _ _ _ _ hr=>have hu:=hr.units;(ae (aQ 3 ly.nd @aJ) (ae (Cc 300 (az @Y aM (EV.o (aw @z (EV.o @oY) aa)) ak) (af (aQ 3 ly.nd (ax tU hr (a6 @oY @bh))))) (af (ao @be))))
def xR:Ye @oT @oT (a8 tE):=fsc
variable[BB]
def y7:pF 3 "arrival" oM:=
 gI (g:=oI) T.ae8 xR λ_ _ _ _ _ _ _ hr=>have hu:=hr.units;(af (ao (cw (a6 (ax y0 hr (a6 @al @kT)) (a6 @be (a6 bz (a6 bz @lZ)))))))
def Cj:Ye ["H","hour"] ["H","hour"] (a8 zm):=fsc
variable[BB]
def CM:pF 4 "begin" lP:=
 gI (g:=vE) T.ag' Cj λ_ _ _ _ _ _ _ hr=>have hu:=hr.units;(af (ao (ax y7 hr (a6 @al (a6 @W (a6 @cC @lZ))))))
def w9:Ye ["H","state","room"] ["H","state"] (a8 zk):=fsc
variable[BB]
def CL:pF 1 "heard" vG:=
 gI (g:=rN) T.ag9 w9 λ_ _ _ _ _ _ _ hr=>have hu:=hr.units;(ae (aQ 2 w9.nd (aw @z @lO @ce)) (af (ao (cw (a6 (aw @z (EV.o (cS rfl T.c_HEARD)) @dj) (a6 @c0 ag))))))
def qM:Ye @rA @rA (a8 m8):=fsc
variable[BB]
def r8:pF 2 "heard_text" gF:=
 gI (g:=j7) T.aa4 qM λ_ _ _ _ _ _ _ hr=>have hu:=hr.units;(af (ao (il xT yk b5 (EV.o (ax CL hr @ff)))))
def dR:Ye ["self","house","hour","state","number"] ["self","house","hour"] (a8 hJ):=fsc
variable[BB]
def ku:pMX 5 "Desk" "begin_call" bK:=
 u9 (g:=d9) T.h_Desk_begin_call dR λ_ _ _ _ _ _ _ hr=>have hu:=hr.units;(ah (aB (aQ 3 dR.nd (ax CM hr @kT))) (ah (J9 0 T.o_greatest) (ah (aB (aQ 4 dR.nd (pI cStr rfl T.n_str rfl (xh 0 T.o_greatest)))) (ah (t9 hu @r4 @ev (cw (a6 @W @hx))) (aD (aB (ao (aj bj (EV.o (aj bj @br ak)) (EV.o (ax r8 hr (a6 @W @c9)))))))))))
def jJ:Ye ["self","row","words","values"] ["self","row"] (a8 pY):=fsc
variable[BB]
def nX:pMX 9 "Desk" "say" b8:=
 u9 (g:=qr) T.h_Desk_say jJ λ_ _ _ _ _ _ _ hr=>have hu:=hr.units;(ah (aB (aQ 2 jJ.nd (ax ve hr @bh))) (ah (zg 3 jJ.nd (qB 0 lC hr uV @bS)) (ah (eZ @eL (aD (kf (qB 0 ko hr uV (a6 @c0 (a6 @nS ag))))) bD) (ah (eZ @eL (ah (v3 @rD @c0) @kj) bD) (ah (eZ @eL (aD (kf (qB 0 ku hr uV (a6 @kh (a6 @kh ag))))) bD) (ah (eZ @eL @cx bD) (ah (eZ @eL (ah (v3 @r4 @c0) @kj) bD) (aD (aB (ao (ax zV hr (a6 @c0 @c9))))))))))))
def dF:Ye ["_law_desk","_law_row","_law_found","e","_law_some"] ["_law_desk","_law_row"] (a8 pU):=fsc
variable[BB]
def jK:pFB 10 "_law_told" aS:=
 zQ (g:=qq) (ER T.ac7) dF λ_ _ _ _ _ _ _ hr=>have hu:=hr.units;(ah (aB (aQ 2 dF.nd gu)) (ah (FQ 0 2 nX hr dF.nd @bh (N3 3 dF.nd T.t_NoName (λ_=>(ah (aB (aQ 4 dF.nd (EN.v (bJ (a6 (oO 3 T.i_NoHouse T.n_isinstance) (a6 (oO 3 T.i_NoRow T.n_isinstance) (a6 (oO 3 T.i_NoHour T.n_isinstance) (a6 (oO 3 T.i_NoCall T.n_isinstance) ag)))))))) (ah (aB (aQ 4 dF.nd (aj bj @br (EN.o (bJ (a6 (oO 3 T.i_NoSigns T.n_isinstance) (a6 (oO 3 T.i_Faulty T.n_isinstance) ag))))))) (aD (aB (aQ 2 dF.nd (cw (a6 b5 (a6 (mq (oO 3 T.i_MenuError T.n_isinstance) (mq (Ko 3 T.i_ValueError T.n_ValueError @bf T.n_isinstance) (kZ (dW @cX (EV.o fS) @br)))) ag))))))))) Ke)) @q7))
def gX:Ye ["_law_desks","_law_kept","_law_names_here","_law_start","_law_k","_law_which","_law_name","_law_due"] ["_law_desks","_law_kept","_law_names_here","_law_start"] (a8 tf):=fsc
variable[BB]
def q9:pFD 11 "_law_all" dS:=
 Jn (g:=ur) (ER T.ae2) gX λ_ _ _ _ _ _ _ hr=>have hu:=hr.units;(ah (nE @p8 (aU 4 gX.nd) (ah (aB (aQ 5 gX.nd (aj fD @pv aa))) (ah (aB (aQ 6 gX.nd (aw @z @N (EV.o (aj fD (EV.o (aj jr @pv aa)) aa))))) (ah (aB (aQ 7 gX.nd (B4 (F3 1 5) (aL 6) @pD))) (aD (eZ (Ij @bc ic (jG jK hr (nZ 0 5) (a6 (aj bj ak (av 6)) ag)) (av 7)) @cc bD)))))) @cc)
def pz:Ye @pm @pm (a8 ki):=fsc
variable[BB]
def jz:pF 1 "_law_cell_at" bY:=
 gI (g:=fO) T.ZG pz λ_ _ _ _ _ _ _ hr=>have hu:=hr.units;(ae (bC @qC (af (ao @q6)) aC) (af (ao bz)))
def cg:Ye ["_law_names_here","_law_number","_law_one","_law_other","_law_third","_law_limits","_law_rows"] ["_law_names_here","_law_number"] (a8 pV):=fsc
variable[BB]
def vg:pF 1 "_law_text" hW:=
 gI (g:=lL) T.ac8 cg λ_ _ _ _ _ _ _ hr=>have hu:=hr.units;(ae (z8 @al (IZ rfl (aZ (aU 2 cg.nd) (aZ (aU 3 cg.nd) (aZ (aU 4 cg.nd) fC))))) (ae (aQ 5 cg.nd (aj bj (EV.o (aj bj (EV.o (aj bj ak (EV.o (pI cStr rfl T.n_str rfl (EV.o (aj bj aa @pW)))))) ak)) @aw)) (ae (aQ 5 cg.nd (aj bj (EV.o (aj bj (EV.o (aj bj (EV.o (aj bj (EV.o (aj bj @eu ak)) (EV.o (pI cStr rfl T.n_str rfl (EV.o (aj bj aa @ez)))))) ak)) @N)) ak)) (ae (iJ 6 cg.nd (bJ (a6 (aj bj ak (EV.o (aw @z (EN.o (bJ @hx)) @ez))) ag))) (ae (bC @qA (ae (fY 6 (aj bj (EV.o (aj bj (EV.o (aj bj ak @gd)) ak)) @gd)) (af (iJ 6 cg.nd (B8 (yJ 6) (EN.o (bJ (a6 (aj bj (EV.o (aj bj (EV.o (aj bj ak @br)) @eu)) ak) (a6 @e0 (a6 @kE ag))))))))) aC) (ae (iJ 6 cg.nd (B8 (yJ 6) (EN.o (bJ (a6 (aj bj (EV.o (aj bj (EV.o @e0) @eu)) @gd) ag))))) (ae (fY 6 (aw @z (EN.o (bJ (a6 b5 (a6 @kE (a6 @e0 ag))))) @ez)) (ae (fY 6 (aj bj (EV.o (aj bj (EV.o (aj bj @gd @aw)) ak)) @nf)) (ae (bC @qA (af (iJ 6 cg.nd (B8 (yJ 6) (EN.o (bJ (a6 (aj bj (EV.o (aj bj (EV.o @kE) ak)) @N) (a6 (aj bj (EV.o (aj bj (EV.o (aj bj ak @nf)) ak)) @aw) ag))))))) aC) (af (ao (il xT yk b5 (yJ 6)))))))))))))
def eC:Ye ["_law_desk","_law_kept","_law_name","_law_text_here","_law_how","_law_row","_law_due"] ["_law_desk","_law_kept","_law_name","_law_text_here","_law_how"] (a8 pW):=fsc
variable[BB]
def vh:pFD 11 "_law_done" eI:=
 Jn (g:=fW) (ER T.ac9) eC λ_ _ _ _ _ _ _ hr=>have hu:=hr.units;(ah (eZ (cf (az Es oy @br aa)) (ah (t9 hu (iS 1) @aJ @be) (aD (kf (E8 @Y (jG jK hr (iS 0) (a6 (aj bj (EV.o (aj bj (EV.o @e0) ak)) @aw) ag)) ak)))) bD) (ah (aB @rL) (ah (aB (aQ 6 eC.nd b5)) (ah (aB (bC (az Lg vA @br aa) (ae @rL (af (aQ 6 eC.nd (B4 (yJ 1) @aJ b5)))) aC)) (ah (eZ (cf (az @cX eE @N (yJ 1))) (aD (aB (aQ 6 eC.nd @pD))) (aD (eZ (cf (az @Y aM @br aa)) (aD (v3 (iS 1) @aJ)) bD))) (aD (kf (E8 @Y (jG jK hr (iS 0) @tj) (av 6)))))))))
def fZ:Ye @mA ["_law_script"] (a8 xS):=fsc
variable[BB]
def JD {f:Addr} {fd:FuncData} (F:Fun BB.K "law" "law" xS f fd):YO BB.P BB.w BB.K BB.mg BB.base CX0 12 f fd ["_law_script"] (spP BB.K 1 AY):=
 JC (N:=@mA) (ps:=["_law_script"]) (k:=11) (g:=Dy) F fZ λ_ _ _ _ _ _ hr=>have hu:=hr.units;(ah (aB (aQ 1 fZ.nd (ax m9 hr (a6 @nt @cf)))) (ah (aB (aQ 2 fZ.nd @nt)) (ah (aB (aQ 3 fZ.nd (ax m9 hr (a6 (aj bj (EV.o (aj Gj @pV aa)) (EV.o @kD)) @cf)))) (ah (qO 4 fZ.nd (B6 (B7 zW hr) (B7 zW hr))) (ah (qO 5 fZ.nd (B6 (s9 vJ) (s9 vJ))) (ah (nE (Ba rfl T.n_enumerate (kY @J @f0 @f0)) (iH rfl (aZ (aU 6 fZ.nd) (aZ (aU 7 fZ.nd) fC))) (ah (aB (aQ 2 fZ.nd (ax gB hr (a6 (aj bj (av 7) (av 6)) @cf)))) (ah (aB (aQ 8 fZ.nd (aj jr (EV.o (aj fD (EV.o (aj jr @N (EV.o (aj Mw aa aa)))) aa)) aa))) (ah (aB (aQ 9 fZ.nd (ax vg hr (a6 @be (a6 (ax gB hr (a6 (aj bj (EV.o (aj fD (av 7) aa)) aa) @cf)) ag))))) (ah (eZ (sE (yL (yO 4 5 8 vh hr (nZ 4 8) (nZ 5 8) (a6 (aw @z @P (EV.o (aj fD @pV aa))) (a6 (aL 9) (a6 @kD ag)))))) @cc bD) (aD (eZ (sE (yL (vU 4 5 q9 hr (a6 @W (a6 @kD ag))))) @cc bD))))))) (ah (nE (cT (EN.v (bJ @kd))) (aU 2 fZ.nd) (aD (nE @p8 (aU 6 fZ.nd) (aD (nE (cT (kY (EN.o (Kr F6 rfl T.n_list rfl (F3 5 6))) qK @f0)) (aU 10 fZ.nd) (ah (zg 11 fZ.nd (C5 nX hr IY (nZ 4 6) (a6 (aj bj (EV.o (aj bj ak (av 10))) ak) ag))) (aD (aB (bC (az @bc ic (EV.o (aw @z (EV.o (il Co De (aL 11) ak)) aa)) @N) @bk aC))))))))) (aD (kf (vU 4 5 q9 hr @ti))))))))))
def all_mk {l:Vw} {w:RH} {K:QO} {h:Heap} {mg:Str->Option Value} {fa f:Addr} {od an:Option Addr} {sl:Array @bz} {oc kV dc pm cd ct:Value} (X:K.In h) (G:h.Ns R5 mg) (hfa:mg "law"=Z' @ds)
  (a:RK K R5 "law"=Z' @bC) (b:K.lookup f=Z' ⟨oc,od,.func (Rr "law" "law" (cU xS) (aY xS) (a8 xS) .none kV dc pm an cd ct),sl⟩) (c:Se K cd "law"=Y2) (d:Rl K @x=Y2) (T:Txt w K mg)
  : ∃fd:FuncData,(∀(s:QR) (v:Value),X0 s fd ⟨[v],[]⟩ [("_law_script",v)])/\∀base:Heap,K.In base->base.Ns R5 mg->YO l.prog w K mg base CX0 12 fa fd ["_law_script"] (@spP @aB K 1 AY):=by
 have e:=hfa.symm.trans (Sa X G a);cases e;have F:=uw (st:=xS) b c d;exact⟨_,λs v=>.of_eq rfl,λbase _ _=>@JD ⟨l.prog,w,K,mg,base,T⟩ _ _ F⟩
def ini_mk {w:RH} {K:QO} {h:Heap} {mg:Str->Option Value} (X:K.In h) (G:h.Ns R5 mg) (hh:HasI K "Desk" "Desk.__init__" "houses" "calls" "greatest" M9):∀P base,ZO P w K mg base 1 "Desk" "houses" "calls" "greatest" 0:=λ_ _=>letI:TW:=tw w;N0 X G hh fsc rfl
def walk{l:Vw}{q:R8}{loose:List Str}{XP:(Str->Option Value)->Heap->Prop}{YP:RH->Heap->Prop}{d:DefRec}{K:Params->QO}(hn:l.most=Z' 63)(hdf:d.params.defaults=[])
  (hY:∀(w:RH)(h:Heap),YP w h->(K w.params).In h)
  (F:∀(w:RH)(mg:Str->Option Value)(fa:Addr)(h:Heap),(K w.params).In h->h.Ns R5 mg->mg d.name=Z' @ds->
   ∃fd:FuncData,(∀(s:QR) (u:Value),X0 s fd ⟨[u],[]⟩ [("_law_script",u)])/\∀base:Heap,(K w.params).In base->base.Ns R5 mg->YO l.prog w @ft mg base CX0 12 fa fd ["_law_script"] (@spP @aB @ft 1 AY)):
  PySem.W.WalkO q loose XP YP l.row.toRowW d [] @j1:=
 L2.ae' (n:=63) (k:=12) (x:="_law_script") (CX:=λ_=>CX0) (sp:=λw=>@spP @aB @ft 1 AY) hn @h hdf ⟨rfl,by decide,by decide⟩ hY F
  (λw _ a ns hl _ hS=>letI:TW:=tw w;⟨rfl,LW (ts:=[]) rfl (λP h=>nomatch h),_,_,xO hS,Dg ns,λv _ _ r=>r⟩) λ_ _ _ _ _ z=>z
end K46
end
end
namespace PySem.W.Fast
def tw10171797193327018672:=0
def tw10070879411858447002:=0
def tw1394856920102382111:=0
def tw8867950068484749271:=0
def tw2377397633115518184:=0
def tw7310529981655832895:=0
def tw8808783063721891339:=0
def tw13414988599229415545:=0
def tw13748380060673847868:=0
def tw6328820036677879888:=0
def tw4165162276356018124:=0
def tw17743832763932217446:=0
def tw3467132672455860131:=0
def tw6426885629547879387:=0
def tw5115580854930510470:=0
def tw14606396984107235198:=0
def tw8927669839209035358:=0
def tw5383375430263352059:=0
def tw18131244607328890339:=0
def tw7865408429369885201:=0
def tw11581742090532857522:=0
def tw7117687710515826649:=0
def tw10501918289840147246:=0
def tw15339395055824799810:=0
def tw11759683939180248383:=0
def tw4327230982857033987:=0
def tw17416709930582845226:=0
def tw10728977750059478575:=0
def tw10902468161219290862:=0
def tw12509853531257998013:=0
def tw16619356006335865247:=0
def tw11800326096761626299:=0
def tw9893453724255456276:=0
def tw2125560999768466927:=0
def tw11861827725723265294:=0
def tw15819097561617514438:=0
def tw3050264623751971818:=0
def tw12668267668317819490:=0
def tw12192877124579697533:=0
def tw17657003074703688914:=0
def tw3443997697919804622:=0
def tw14653691168565879468:=0
def tw10768324246088866179:=0
def tw6275569130703577391:=0
def tw18338529680278781795:=0
def tw17465479198832372883:=0
def tw16925966143614216731:=0
def tw11952072115222947855:=0
def tw6470051240492396347:=0
def tw13433246593645831787:=0
def tw6649528880336531182:=0
def tw11644696218584233580:=0
def tw15771900582107283004:=0
def tw9873388199290100324:=0
def tw4906102240138684907:=0
def tw8626956465968689331:=0
def tw10380515377615052126:=0
def tw6304858008202868651:=0
def tw9446570822253277292:=0
def tw17783244819708291584:=0
def tw10012737647376695727:=0
def tw10991255414277759992:=0
def tw13214515200066260304:=0
def tw5379537630312615556:=0
def tw14816255258248928551:=0
def tw4261542239130700582:=0
def tw6295153412271090041:=0
def tw1516285564477776043:=0
def tw8430801789580579695:=0
def tw9573767223216459037:=0
def tw1580294189197154299:=0
def tw12999701596881254426:=0
def tw10258974748545944957:=0
def tw14143264782347500724:=0
def tw4848257514073079237:=0
def tw11490184540533868296:=0
def tw3455135087093193816:=0
def tw5791998293058195274:=0
def tw4224050738503306524:=0
def tw11883802755121262374:=0
def tw4313705114449410719:=0
def tw5896298599403521054:=0
def tw8002920790920803800:=0
def tw15331391672973419333:=0
def tw12356537388309416816:=0
def tw10144065794752022478:=0
def tw8150402169741567054:=0
def tw9488890107129733560:=0
def tw9091536539563254982:=0
def tw8766886767024242383:=0
def tw14450551835507151905:=0
def tw6801443833120221906:=0
def tw8513711978166092284:=0
def tw6244003991919716944:=0
def tw10055230272396791833:=0
def tw2092581810092355580:=0
def tw23544963553610677:=0
def tw4644680326021798033:=0
def tw15086718662399288242:=0
def tw5329596473766647835:=0
def tw4283734756592338809:=0
def tw15777322524153455823:=0
def tw3361425693974426558:=0
def tw17421844253191027460:=0
def tw10365205031459087689:=0
def tw547582122224741973:=0
def tw9262042989673774146:=0
def tw15038583702912102815:=0
def tw15001998104152493655:=0
def tw7187157974752674560:=0
def tw14221812051673196576:=0
def tw13032358947581934327:=0
def tw8470435534892528766:=0
def tw11895151842941504195:=0
def tw8270798113405815883:=0
def tw10509533034568772010:=0
def tw16871342156241385477:=0
def tw5403065517229055976:=0
def tw2206168483569653288:=0
def tw8281845910773345341:=0
def tw6250635564501210870:=0
def tw16941802411736513258:=0
def tw16319703365644009103:=0
def tw16070664186514816348:=0
def tw14732768371776824111:=0
def tw10153865961323062124:=0
def tw1272550612856310750:=0
def tw4172447160493647310:=0
def tw5043317610546975195:=0
def tw14287733681489038684:=0
def tw10460080499988470717:=0
def tw5647704519801769484:=0
def tw2358903450296093482:=0
def tw17443825389969435295:=0
def tw8242652259601918343:=0
def tw16321464087208887983:=0
def tw12887767412602455926:=0
def tw493464652024362166:=0
def tw9852907332775616067:=0
def tw6852305729589914200:=0
def tw12121795449979221940:=0
def tw1095082173196384934:=0
def tw1709228050565373872:=0
def tw7386400897584880692:=0
def tw723511525198801838:=0
def tw10880864772132568504:=0
def tw18264625463325565160:=0
def tw18302084087594863115:=0
def tw11153223892286385097:=0
def tw17581304461060936875:=0
def tw476734174527670431:=0
def tw10850693309828332775:=0
def tw6651652403964292386:=0
def tw17387441140582992814:=0
def tw3508771196571109806:=0
def tw1997296018376895431:=0
def tw1298299140036671305:=0
def tw5362611500301167134:=0
def tw15508946474036989551:=0
def tw6427283573104490903:=0
def tw9945587745864553404:=0
def tw425590335525435222:=0
def tw11173902089514094453:=0
def tw16504281310976144904:=0
def tw16469435531736399326:=0
def tw6925273788860942118:=0
def tw13667614337510835214:=0
def tw14380633657518945138:=0
def tw936846008656023120:=0
def tw16484435141802262398:=0
def tw7673136482717582337:=0
def tw14283608986950702824:=0
def tw9447085734719770121:=0
def tw11057416032997443256:=0
def tw9228414204005742856:=0
def tw13084092502817295863:=0
def tw11789008380107199961:=0
def tw2368576806861272219:=0
def tw3177837689368105663:=0
def tw4134079733116929442:=0
def tw12987018770308736887:=0
def tw1153302189828006220:=0
def tw4808905070055725663:=0
def tw196320392154505373:=0
def tw1892411312674209741:=0
def tw11532229721143249542:=0
def tw14507393469487643772:=0
def tw9489275454059270415:=0
def tw11735432056872947028:=0
def tw9906447756875945658:=0
def tw16708925023406708225:=0
def tw4446346561232587434:=0
def tw1493135013592597775:=0
def tw4144950150138260232:=0
def tw11070890310471936921:=0
def tw16098497040601954887:=0
def tw14322267720023937779:=0
def tw224010077940304685:=0
def tw10117028985564509582:=0
def tw13029832851431397325:=0
def tw18249305015715816030:=0
def tw5206798702234518906:=0
def tw4294089726648757508:=0
def tw16907034986570234767:=0
def tw16995250348829470170:=0
def tw12459339968624629786:=0
def tw11328732086123687810:=0
def tw14727127769781057343:=0
def tw10798104581181712667:=0
def tw10131792514663007409:=0
def tw12719026540401156385:=0
def tw2644594759617578538:=0
def tw2873131692410139028:=0
def tw6711032513047377384:=0
def tw17532181599424867639:=0
def tw14042912649238206916:=0
def tw8179534046542266931:=0
def tw15166666073978123049:=0
def tw14241866228797070664:=0
def tw9102812724924409083:=0
def tw1310203252372323035:=0
def tw9009260765912965350:=0
def tw6529271467375667335:=0
def tw522520090878706429:=0
def tw13211290807375813036:=0
def tw7087370771144120115:=0
def tw2857853198574849319:=0
def tw11634667381979825153:=0
def tw16208002404808803887:=0
def tw12225365022253560052:=0
def tw17504199771032752484:=0
def tw14469110569482194985:=0
def tw16717834331010380824:=0
def tw16179940045301085743:=0
def tw3036656051322837993:=0
def tw1466585138229817860:=0
def tw3179432803035142832:=0
def tw18282857103536470307:=0
def tw15715273989175484444:=0
def tw16383882300127071801:=0
def tw8907396894313144997:=0
def tw12009951604343942373:=0
def tw1147003522057019434:=0
def tw1140240321910377433:=0
def tw14613139721671985731:=0
def tw11083901561063587352:=0
def tw6807983389481595858:=0
def tw4715444695288275171:=0
def tw17150889259463973423:=0
def tw7859795015468047103:=0
def tw6312593003855446491:=0
def tw11657687153119974233:=0
def tw8504217502315756570:=0
def tw13270922744140479155:=0
def tw7384352778580790191:=0
def tw8523197058649454595:=0
def tw3147648962176073393:=0
def tw41151113434962464:=0
def tw10012668377259003213:=0
def tw14343513775224785063:=0
def tw15339720707738217690:=0
def tw3048904370773620894:=0
def tw1629556669469563560:=0
def tw9048925209484593422:=0
def tw8340583885462404918:=0
def tw11234451986404149953:=0
def tw2211600421476274622:=0
def tw17019764489957885165:=0
def tw14311316005897843858:=0
def tw8179109214981104841:=0
def tw10255745645850260667:=0
def tw14044846169607111983:=0
def tw5839225265292955819:=0
def tw8302481836509888167:=0
def tw17510081749705361220:=0
def tw7040773125659223203:=0
def tw15153063843944657365:=0
def tw16156430799643969234:=0
def tw14421257102826458712:=0
def tw1965257503115504050:=0
def tw3540029732879037242:=0
def tw1228305657046756321:=0
def tw12984918816522879241:=0
def tw2567501047594801733:=0
def tw17303333946586912073:=0
def tw7210114425356340028:=0
def tw12527940941826500001:=0
def tw15050473845021245984:=0
def tw5857800149939571714:=0
def tw8995892589301373849:=0
def tw17401511988605667849:=0
def tw1205857865793651385:=0
def tw5061089103668814460:=0
def tw12748692634534936430:=0
def tw4988593098133067407:=0
def tw17057893047640523798:=0
def tw1687074655311102100:=0
def tw15276804748271881701:=0
def tw6855173869917891533:=0
def tw14986454618130480552:=0
def tw16951149954055282911:=0
def tw2616890466558049066:=0
def tw13226167493795345079:=0
def tw1950452777628065253:=0
def tw12423791330793663946:=0
def tw789984792111049815:=0
def tw9531488916445383722:=0
def tw14355322819813571993:=0
def tw10770857304525476590:=0
def tw9636338756865025282:=0
def tw11644630930301526842:=0
def tw2951172496961785263:=0
def tw13637809711817843982:=0
def tw13569328413117125078:=0
def tw18386347415895401723:=0
def tw4764057184576203459:=0
def tw14899489594501058837:=0
def tw9106017725056482869:=0
def tw11666919490432917019:=0
def tw6613630559989082805:=0
def tw9127348247760821684:=0
def tw9747426473792761856:=0
def tw16805695025635184535:=0
def tw15625605463816311798:=0
def tw4030140725246959621:=0
def tw9378631311167865609:=0
def tw235234970382087264:=0
def tw7359273475567440298:=0
def tw10817043043781493220:=0
def tw10845538248564795691:=0
def tw13100688973480374368:=0
def tw15394703075489305879:=0
def tw7151059314374956678:=0
def tw15884325907275353777:=0
def tw3539640973129099299:=0
def tw10816634779572864552:=0
def tw13622002991599438873:=0
def tw4967497746050685317:=0
def tw11400832736111730897:=0
def tw11166164784610702047:=0
def tw376487709568104283:=0
def tw2994279615927750127:=0
def tw9143382309784345574:=0
def tw8867429914494114818:=0
def tw12503300879982962060:=0
def tw16222704308523702593:=0
def tw15531781183943079290:=0
def tw13552002390041125251:=0
def tw15161730772262693462:=0
def tw9941488649732006023:=0
def tw728122300585180618:=0
def tw4140079808279095877:=0
def tw15087183771070364892:=0
def tw3192940435888617956:=0
def tw15161826043699136333:=0
def tw16267282321990780361:=0
def tw14597812192170183417:=0
def tw12471189734950198093:=0
def tw2730142108258714424:=0
def tw11828439888998650332:=0
def tw15045311584265223750:=0
def tw476973583191674222:=0
def tw916432627472120041:=0
def tw2983888050965245744:=0
def tw2023471128834606877:=0
def tw9009653988173391952:=0
def tw15519809099576053785:=0
def tw10707415802897283333:=0
def tw9184274214107857377:=0
def tw6989509657313570772:=0
def tw10619648966987005369:=0
def tw7735010690922703029:=0
def tw13149860721069658077:=0
def tw10491077363975624260:=0
def tw15009069494700664070:=0
def tw1739006615150736968:=0
def tw9230279409900024372:=0
def tw4021535146758549877:=0
def tw14958151919800229490:=0
def tw751867969763006238:=0
def tw11485026978688993475:=0
def tw14014613908449995271:=0
def tw15380295258299763273:=0
def tw284294004202143062:=0
def tw2743992065696145446:=0
def tw2780073078459624167:=0
def tw17801810558326535511:=0
def tw12537372813482600253:=0
def tw12524975649965690998:=0
def tw12466554426717379832:=0
def tw15484114033140492785:=0
def tw3375430597273971613:=0
def tw13205206696098766648:=0
def tw10159288116638250808:=0
def tw7666009288483416828:=0
def tw313699732591424172:=0
def tw17692568928919233979:=0
def tw16783176109996169701:=0
def tw12855253514108086556:=0
def tw11393546579935416657:=0
def tw1330234374831916903:=0
def tw2478987106596883444:=0
def tw842838341145620938:=0
def tw11349165273029444467:=0
def tw9389142828263362608:=0
def tw4760925390709642618:=0
def tw9269783115171553148:=0
def tw9819327148323691304:=0
def tw8232857038765442397:=0
def tw3009080894807880790:=0
def tw994557813186449716:=0
def tw4740342083830465965:=0
def tw391918948181421376:=0
def tw854073304016360227:=0
def tw3944991660995215143:=0
def tw17342146313872011776:=0
def tw10550898716261861728:=0
def tw1263869477035445794:=0
def tw5454475595101343828:=0
def tw5960246580019323678:=0
def tw14775477172730119148:=0
def tw131110221794864838:=0
def tw12202966966356476247:=0
def tw12664800774600530210:=0
def tw16400436602750745756:=0
def tw11230533290154995424:=0
def tw13895433878956477160:=0
def tw8799112380777427170:=0
def tw15863230038969135482:=0
def tw15133173898510898952:=0
def tw17726939276184627499:=0
def tw2442345358853748058:=0
def tw2028382504216474258:=0
def tw2417246983387517719:=0
def tw13347137453321754558:=0
def tw336722832001782726:=0
def tw9296593186681344436:=0
def tw11410628705147933737:=0
def tw15879621584478696299:=0
def tw8755056693338485950:=0
def tw3044007387244758263:=0
def tw1068704217383975370:=0
def tw17717699926523862688:=0
def tw2626781976715526317:=0
def tw14612250232101369994:=0
def tw9647767441836677910:=0
def tw3198881186203859918:=0
end PySem.W.Fast
open PySem PySem.W PyProof.Rows
set_option maxRecDepth 100000 in
set_option maxHeartbeats 0 in
theorem PySem.Challenge.cw_menutree_k46_houses_kept_holds : PySem.Challenge.rw_menutree_k46_houses_kept.Holds := by
 w_on;o_law;k_head;(case hw=>w_witness2)
 k_fill
 refine K46.walk (l:=PySem.Challenge.rw_menutree_k46_houses_kept) rfl rfl (fun w h Y=>PySem.W.km_in_of Y) fun w mg fa h KX G hmg=>?_;refine' K46.all_mk KX G hmg ?a ?b ?c ?d ?T
 case a | b | c | d=>k_is
 constructor
 case c_BENEATH=>(refine' PU.con_dct [("menu",_,_),("names",_,_),("hours",_,_)] (xs:=[.str "key",.str "name",.str "from"]) KX G ?_ ?_ ?_ ?_ ?_ ?_ ?_ ?_;all_goals try first | k_is | exact rfl | decide | decide +kernel | (show _<=sizeLine;decide) | ((repeat' first | exact .nil | refine' .cons ⟨_,rfl⟩ ?_);done) | (intro _;(repeat' first | exact rfl | refine' ⟨_,_,rfl,rfl,?_⟩);done))
 case c_FIELDS=>(refine' PU.con_dctT [("first",_,_),("letters",_,_),("menu",_,_),("key",_,_),("names",_,_),("name",_,_),("hours",_,_),("from",_,_),("hand",_,_),("end",_,_)] KX G ?_ ?_ ?_ ?_ ?_ ?_ fun H=>⟨_,_,rfl,PU.rep_conT (xs:=[.str "name"]) ?_ ?_ ?_ ?_ ?_ ?_,_,_,rfl,PU.rep_conT (xs:=[.str "letters key",.str "letters"]) ?_ ?_ ?_ ?_ ?_ ?_,_,_,rfl,PU.rep_conT (xs:=[.str "name",.str "many",.str "name",.str "many",.str "name",.str "text"]) ?_ ?_ ?_ ?_ ?_ ?_,_,_,rfl,PU.rep_conT (xs:=[.str "key",.str "target"]) ?_ ?_ ?_ ?_ ?_ ?_,_,_,rfl,PU.rep_conT (xs:=[.str "name",.str "many",.str "name",.str "many",.str "name",.str "text"]) ?_ ?_ ?_ ?_ ?_ ?_,_,_,rfl,PU.rep_conT (xs:=[.str "word",.str "name"]) ?_ ?_ ?_ ?_ ?_ ?_,_,_,rfl,PU.rep_conT (xs:=[.str "name",.str "name"]) ?_ ?_ ?_ ?_ ?_ ?_,_,_,rfl,PU.rep_conT (xs:=[.str "from",.str "till",.str "name"]) ?_ ?_ ?_ ?_ ?_ ?_,_,_,rfl,PU.rep_conT (xs:=[.str "name",.str "text"]) ?_ ?_ ?_ ?_ ?_ ?_,_,_,rfl,PU.rep_conT (xs:=[.str "name",.str "text"]) ?_ ?_ ?_ ?_ ?_ ?_,rfl⟩;all_goals try first | k_is | exact rfl | decide | decide +kernel | (show _<=sizeLine;decide) | ((repeat' first | exact .nil | refine' .cons ⟨_,rfl⟩ ?_);done) | ((repeat' first | exact rfl | refine' ⟨_,_,rfl,rfl,?_⟩);done))
 case c_FORMS=>(refine' PU.con_dctT [("house",_,_),("drop",_,_),("show",_,_),("call",_,_),("press",_,_),("hang",_,_),("row",_,_),("least",_,_),("traps",_,_),("compare",_,_),("names",_,_)] KX G ?_ ?_ ?_ ?_ ?_ ?_ fun H=>⟨_,_,rfl,PU.rep_conT (xs:=[.str "new"]) ?_ ?_ ?_ ?_ ?_ ?_,_,_,rfl,PU.rep_conT (xs:=[.str "house"]) ?_ ?_ ?_ ?_ ?_ ?_,_,_,rfl,PU.rep_conT (xs:=[.str "house"]) ?_ ?_ ?_ ?_ ?_ ?_,_,_,rfl,PU.rep_conT (xs:=[.str "house",.str "hour"]) ?_ ?_ ?_ ?_ ?_ ?_,_,_,rfl,PU.rep_conT (xs:=[.str "call",.str "signs"]) ?_ ?_ ?_ ?_ ?_ ?_,_,_,rfl,PU.rep_conT (xs:=[.str "call"]) ?_ ?_ ?_ ?_ ?_ ?_,_,_,rfl,PU.rep_conT (xs:=[.str "house",.str "hour",.str "out"]) ?_ ?_ ?_ ?_ ?_ ?_,_,_,rfl,PU.rep_conT (xs:=[.str "house",.str "hour"]) ?_ ?_ ?_ ?_ ?_ ?_,_,_,rfl,PU.rep_conT (xs:=[.str "house",.str "hour"]) ?_ ?_ ?_ ?_ ?_ ?_,_,_,rfl,PU.rep_conT (xs:=[.str "house",.str "house",.str "hour"]) ?_ ?_ ?_ ?_ ?_ ?_,_,_,rfl,PU.rep_conT (xs:=[.str "house",.str "names"]) ?_ ?_ ?_ ?_ ?_ ?_,rfl⟩;all_goals try first | k_is | exact rfl | decide | decide +kernel | (show _<=sizeLine;decide) | ((repeat' first | exact .nil | refine' .cons ⟨_,rfl⟩ ?_);done) | ((repeat' first | exact rfl | refine' ⟨_,_,rfl,rfl,?_⟩);done))
 case c_HEARD=>(refine' PU.con_dct [("menu",_,_),("names",_,_),("hand",_,_),("end",_,_)] (xs:=[.str "asked",.str "asked",.str "hand",.str "end"]) KX G ?_ ?_ ?_ ?_ ?_ ?_ ?_ ?_;all_goals try first | k_is | exact rfl | decide | decide +kernel | (show _<=sizeLine;decide) | ((repeat' first | exact .nil | refine' .cons ⟨_,rfl⟩ ?_);done) | (intro _;(repeat' first | exact rfl | refine' ⟨_,_,rfl,rfl,?_⟩);done))
 case c_ROOM_FORMS=>(refine' PU.con_dctT [("out",_,_),("names",_,_)] KX G ?_ ?_ ?_ ?_ ?_ ?_ fun H=>⟨_,_,rfl,PU.rep_conT (xs:=[.str "hand",.str "end"]) ?_ ?_ ?_ ?_ ?_ ?_,_,_,rfl,PU.rep_conT (xs:=[.str "names"]) ?_ ?_ ?_ ?_ ?_ ?_,rfl⟩;all_goals try first | k_is | exact rfl | decide | decide +kernel | (show _<=sizeLine;decide) | ((repeat' first | exact .nil | refine' .cons ⟨_,rfl⟩ ?_);done) | ((repeat' first | exact rfl | refine' ⟨_,_,rfl,rfl,?_⟩);done))
 case c_ROOM_KINDS=>(refine' PU.con_tup (xs:=[.str "menu",.str "names",.str "hours",.str "hand",.str "end"]) KX G ?_ ?_ ?_ ?_ ?_ ?_ ?_;all_goals try first | k_is | exact rfl | decide | decide +kernel | (show _<=sizeLine;decide) | ((repeat' first | exact .nil | refine' .cons ⟨_,rfl⟩ ?_);done) | (intro _;(repeat' first | exact rfl | refine' ⟨_,_,rfl,rfl,?_⟩);done))
 case t_NoName=>(refine' PU.tst_of KX G ?_ (PU.tl_cons ?_ ?_ PU.tl_nil);all_goals try first | k_is | kernel_rfl)
 case i_Faulty | i_MenuError | i_NoCall | i_NoHour | i_NoHouse | i_NoRow | i_NoSigns=>(refine' PU.isO1 KX G ?_ ?_ (PU.XFit.mk ?_ ?_ ?_ ?_ ?_ ?_ ?_ ?_) ?_;all_goals try first | k_is | kernel_rfl)
 case i_ValueError=>(refine' PU.xis1 ?_ (PU.XFit.mk ?_ ?_ ?_ ?_ ?_ ?_ ?_ ?_) ?_;all_goals try first | k_is | kernel_rfl)
 case h_ini=>(refine' K46.ini_mk KX G (PU.HasI.of ?_ ?_ ?_ ?_ ?_ ?_ ?_ ?_ ?_ ?_ ?_ ?_ ?_ ?_ ?_);all_goals try k_is)
 case n_ValueError | n_all | n_any | n_enumerate | n_int | n_isinstance | n_len | n_list | n_ord | n_range | n_str | n_tuple | n_zip=>(refine' PySem.W.mg_none_of KX G ?_;all_goals try k_is)
 case c_HOURS_OF_A_DAY | c_MOST_BENEATH | c_MOST_ROOMS | c_PER_CENT=>(refine' PU.con_int KX G ?_;all_goals try k_is)
 case c_FIGURES | c_KEYS | c_SIGNS | c_SMALL_LETTERS=>(refine' PU.con_str KX G ?_;all_goals try k_is)
 case z_NoName=>(refine' PU.has0_of KX G ?_ ?_ ?_;all_goals try first | k_is | kernel_rfl)
 case o_calls | o_greatest | o_houses=>(refine' PU.obf_of ?_ ?_ ?_ ?_ ?_ ?_;all_goals try k_is)
 case h_Desk_house_by | h_Desk_value_of | h_Desk_values_of | h_Desk_keep_house | h_Desk_begin_call | h_Desk_say=>(refine' PU.HasM.of ?_ ?_ ?_ ?_ ?_ ?_ ?_ ?_ ?_ ?_;all_goals try k_is)
 case h_row_text_houses=>(refine' (PU.HasA.of ?_ ?_ ?_ ?_).fn KX G;all_goals try k_is)
 all_goals (refine' (PU.Has.of ?_ ?_ ?_ ?_).fn KX G;all_goals try k_is)
