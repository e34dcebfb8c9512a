import PyProof.Rows.All
import Wide.All
import OpenK.AllK
import Wide.FinOn
import Lean
import PyProof.EqAt
import PyProof.EqKinds
import PyProof.TupleCall
import PyProof.StrLawsIdx
import PyProof.StrBlockH
import PyProof.EnumStmt
import PyProof.ListNew
import PyProof.AutoListH
import PyProof.TupleIter
import PyProof.ZipIter
import PyProof.Rows.ZipGen
import KE.KDictOf
import PyProof.ListIndex
import PyProof.AttrMissHeap
import PyProof.NeKinds
import KE.KLam
import KE.KNestM
import PyProof.StrLawsIn
import PySem.Challenge.RW_menutree_k31_whole_places
set_option Elab.async false
set_option linter.all false
set_option maxRecDepth 100000
set_option maxHeartbeats 16000000
section
namespace L2
open PySem PySem.Spec PyProof.Rows
abbrev Key:=Sum Int Str
def znh:Key->Value->Bool
 | .inl k,v=>Value.isInt k v
 | .inr x,v=>Value.isStrOf x v
def keyH(w:World):Key->Int
 | .inl k=>hashInt k
 | .inr x=>hashStr w x
theorem zbg:∀{k:Key}{v:Value},znh k v=true->(∃i t,k=Sum.inl i/\v=Value.int i t)\/(∃x t,k=Sum.inr x/\v=Value.str x t)
 | .inl i,v,h=>by
  obtain⟨t,e⟩:=Value.isInt_shape (k:=i) (v:=v) h
  exact .inl ⟨i,t,rfl,e⟩
 | .inr x,v,h=>by
  obtain⟨t,e⟩:=Value.isStrOf_shape (x:=x) (v:=v) h
  exact .inr ⟨x,t,rfl,e⟩
theorem zr0(i:Int)(t:Tok):znh (.inl i) (.int i t)=true:=by simp[znh,Value.isInt]
theorem zrz(x:Str)(t:Tok):znh (.inr x) (.str x t)=true:=by simp[znh,Value.isStrOf]
theorem Zbq(a b:Int):decide ((Sum.inl a:Key)=Sum.inl b)=(a == b):=by
 by_cases e:a=b
 ·subst e;simp
 ·have h:¬ (Sum.inl a:Key)=Sum.inl b:=fun q=>e (Sum.inl.inj q)
  rw[decide_eq_false h]
  exact(beq_eq_false_iff_ne.mpr e).symm
theorem Zbn(a b:Str):decide ((Sum.inr a:Key)=Sum.inr b)=decide (a=b):=by
 by_cases e:a=b
 ·subst e;simp
 ·have h:¬ (Sum.inr a:Key)=Sum.inr b:=fun q=>e (Sum.inr.inj q)
  rw[decide_eq_false h,decide_eq_false e]
theorem Zbp(a:Int)(b:Str):decide ((Sum.inl a:Key)=Sum.inr b)=false:=decide_eq_false (fun q=>nomatch q)
theorem Zbo(a:Str)(b:Int):decide ((Sum.inr a:Key)=Sum.inl b)=false:=decide_eq_false (fun q=>nomatch q)
def zax(prog:Program)(w:World):PySem.KeyKind prog w Key where
 is:=znh
 hash:=keyH w
 inj:=fun v a b ha hb=>by
  rcases zbg ha with⟨i,t,rfl,rfl⟩|⟨x,t,rfl,rfl⟩
  ·rcases zbg hb with⟨j,u,rfl,e⟩|⟨y,u,rfl,e⟩
   ·injection e with e1 _;rw[e1]
   ·exact nomatch e
  ·rcases zbg hb with⟨j,u,rfl,e⟩|⟨y,u,rfl,e⟩
   ·exact nomatch e
   ·injection e with e1 _;rw[e1]
 byValue:=fun k v h=>by
  rcases zbg h with⟨i,t,rfl,rfl⟩|⟨x,t,rfl,rfl⟩ <;> rfl
 pyHash:=fun hv h=>by
  rcases zbg hv with⟨i,t,rfl,rfl⟩|⟨x,t,rfl,rfl⟩
  ·exact wpAny_pyHash_int h
  ·exact wpAny_pyHash_str h
 eqBool:=fun hu hv h=>by
  rcases zbg hu with⟨i,t,rfl,rfl⟩|⟨x,t,rfl,rfl⟩
  ·rcases zbg hv with⟨j,u,rfl,rfl⟩|⟨y,u,rfl,rfl⟩
   ·rw[Zbq] at h;exact wpAny_eqBool_int h
   ·rw[Zbp] at h;exact SeqAt.EqAt.int_str i t y u _ _ _ _ h
  ·rcases zbg hv with⟨j,u,rfl,rfl⟩|⟨y,u,rfl,rfl⟩
   ·rw[Zbo] at h;exact SeqAt.EqAt.str_int x t j u _ _ _ _ h
   ·rw[Zbn] at h;exact wpAny_eqBool_str h
 «strs»:=fun k x t v h=>by
  rcases zbg h with⟨i,u,rfl,e⟩|⟨y,u,rfl,e⟩
  ·exact nomatch e
  ·injection e with e1 _
   subst e1
   cases v <;> rfl
theorem zne(prog:Program)(w:World)(i:Int)(t:Tok):(zax prog w).is (.inl i) (.int i t)=true:=zr0 i t
theorem zjc(prog:Program)(w:World)(x:Str)(t:Tok):(zax prog w).is (.inr x) (.str x t)=true:=zrz x t
end L2
namespace L2
open PySem PySem.Spec PyProof.Rows
inductive V where
 | non | bl (b:Bool) | int (i:Int) | str (x:Str) | byt (b:Array UInt8) | flt (b:UInt64) | ref (a:Addr) | ty (n:String)
 deriving DecidableEq
def RelV:V->Value->Prop
 | .non,u=>u=Value.none
 | .bl b,u=>u=Value.bool b
 | .int i,u=>∃t,u=Value.int i t
 | .str x,u=>∃t,u=Value.str x t
 | .byt b,u=>∃t,u=Value.bytes b t
 | .flt b,u=>∃t,u=Value.float b t
 | .ref a,u=>u=Value.ref a
 | .ty n,u=>u=Value.type n
abbrev Vals:List V->List Value->Prop:=Paired RelV
theorem Vals.length{xs:List V}{us:List Value}(r:Vals xs us):xs.length=us.length:=Paired.length r
theorem Vals.get:∀{xs:List V}{us:List Value}{i:Nat}{x:V},Vals xs us->xs[i]?=some x->∃u,us[i]?=some u/\RelV x u
 | _,_,_,_,.nil,e=>by simp at e
 | _,_,0,_,.cons r _,e=>by simp at e;subst e;exact⟨_,rfl,r⟩
 | _,_,i+1,x,.cons _ t,e=>by
  obtain⟨u,h1,h2⟩:=Vals.get (i:=i) (x:=x) t (by simpa using e)
  exact⟨u,by simpa using h1,h2⟩
theorem Vals.append:∀{xs ys:List V}{us ws:List Value},Vals xs us->Vals ys ws->Vals (xs++ys) (us++ws)
 | _,_,_,_,.nil,s=>s
 | _,_,_,_,.cons r t,s=>.cons r (Vals.append t s)
theorem Vals.take:∀{xs:List V}{us:List Value}(n:Nat),Vals xs us->Vals (xs.take n) (us.take n)
 | _,_,0,_=>.nil
 | _,_,_+1,.nil=>.nil
 | _,_,n+1,.cons r t=>.cons r (Vals.take n t)
theorem Vals.drop:∀{xs:List V}{us:List Value}(n:Nat),Vals xs us->Vals (xs.drop n) (us.drop n)
 | _,_,0,r=>r
 | _,_,_+1,.nil=>.nil
 | _,_,n+1,.cons _ t=>Vals.drop n t
def RelO:Option V->Option Value->Prop
 | some v,some u=>RelV v u
 | none,none=>True
 | _,_=>False
def KV{κ:Type}:List (κ×V)->List (κ×Value)->Prop:=Paired fun (p:κ×V) (q:κ×Value)=>p.1=q.1/\RelV p.2 q.2
def kV:Key->V
 | .inl i=>.int i
 | .inr x=>.str x
inductive HO where
  | lst (xs:List V)
  | tup (xs:List V)
  | dK (kvs:List (Key×V)) | dT (kvs:List (List Key×V))
  | set (S:Int->Bool) (n:Nat)
  | ins (C dx:Addr) (fs:List (Str×V))
  | own (x:Addr)
  | xd (fs:List (Str×V))
  | met (f x:Addr)
  | rng (lo hi:Int)
  | frz (o:Obj) (u:HO)
  | tbl (ps:Array Value)
  | ext (φ:Heap->Prop)
abbrev Hp:=Addr->Option HO
def upd(H:Hp)(a:Addr)(o:HO):Hp:=fun b=>if b=a then some o else H b
theorem zai{H:Hp}{a:Addr}{o:HO}:upd H a o a=some o:=by unfold upd;rw[if_pos rfl]
theorem zah{H:Hp}{a b:Addr}{o:HO}(h:b≠a):upd H a o b=H b:=by unfold upd;rw[if_neg h]
theorem Zbg{H:Hp}{a b:Addr}{o u:HO}(h:H a=some o)(h':H b=some u)(d:o≠u):a≠b:=by
 intro e;subst e;rw[h] at h';exact d (Option.some.inj h')
theorem zbk{H:Hp}{a b:Addr}{o:HO}(h:H a=some o)(h':H b=none):a≠b:=by
 intro e;subst e;rw[h] at h';cases h'
def IsTp (h:Heap) (a:Addr) (items:Array Value):Prop:=∃o,h.get? a=some o/\o.cls=.type "tuple"/\(∃n,o.data=.seq items n)/\((∀v∈items.toList,∃b,v=Value.ref b)->o.dict=none)
theorem IsTp.up{h:Heap}{a:Addr}{items:Array Value}(x:IsTp h a items):IsTup h a items:=by
 obtain⟨o,e,c,d,_⟩:=x
 exact⟨o,e,c,d⟩
theorem IsTp.new (h:Heap) (items:Array Value):IsTp (h.push { cls:=.type "tuple",data:=.seq items }) h.objs.size items:=⟨_,Heap.get?_push_size _ rfl,rfl,⟨_,rfl⟩,fun _=>rfl⟩
section
variable(P : Program)(w : World)
def zdz(H:Hp)(h:Heap)(a:Addr):HO->Prop
 | .lst xs=>xs.length<=sizeLine/\∃(its:List Value) (n:Nat),Vals xs its/\h.get? a=some { cls:=.type "list",data:=.seq its.toArray n }
 | .tup xs=>xs.length<=sizeLine/\∃its:List Value,Vals xs its/\IsTp h a its.toArray
 | .dK kvs=>kvs.length<=sizeLine/\(a == sysModules)=false/\∃vs,KV kvs vs/\h.DictOf (zax P w) a vs
 | .dT kvs=>kvs.length<=sizeLine/\(a == sysModules)=false/\∃xs:List (List Key×Addr×Value),
   Paired (fun (p:List Key×V) (q:List Key×Addr×Value)=>p.1=q.1/\H q.2.1=some (.tup (p.1.map kV))/\RelV p.2 q.2.2) kvs xs/\
   ∃o es ep,h.get? a=some o/\o.ExactDict/\o.data=.dict es ep/\es.toList=xs.map (entryOfKey (tupleKind (zax P w)))/\(xs.map (·.1)).Nodup
 | .set S n=>h.SetOf (intKind P w) a S n
 | .ins C dx fs=>H dx=some (.own a)/\fs.length<=1000/\dx≠a/\h.get? a=some (PySem.W.instObj C dx)/\
   ∃mA,h.Ns1 dx mA/\(∀f,RelO (fs.lookup f) (mA f))/\PySem.Within mA (fs.map (·.1))
 | .own _=>∃o,h.get? a=some o
 | .xd fs=>∃mA,h.Ns1 a mA/\∀f,RelO (fs.lookup f) (mA f)
 | .rng lo hi=>∃t u v,h.get? a=some { cls:=.type "range",data:=.fields #[.int lo t,.int hi u,.int 1 v] }
 | .frz o u=>h.get? a=some o/\zdz H h a u
 | .tbl ps=>h.get? a=some { cls:=.none,data:=.fields ps }
 | .met f x=>h.get? a=some (PySem.W.methodObj (.ref f) (.ref x))
 | .ext φ=>φ h/\(∃o,h.get? a=some o)/\∀h1 h2:Heap,φ h1->(∀o,h1.get? a=some o->h2.get? a=some o)->φ h2
def HOk(H:Hp)(h:Heap):Prop:=∀a o,H a=some o->zdz P w H h a o
end
section
variable{P : Program}{w : World}{H H' : Hp}{h h' : Heap}{a : Addr}{o : HO}
theorem zdz.lt(x:zdz P w H h a o):a<h.objs.size:=by
 cases o with
 | lst xs=>obtain⟨_,_,_,_,e⟩:=x;exact Heap.lt_size e
 | tup xs=>obtain⟨_,_,_,p⟩:=x;exact p.up.lt
 | dK kvs=>obtain⟨_,_,_,_,o,_,_,e,_⟩:=x;exact Heap.lt_size e
 | dT kvs=>obtain⟨_,_,_,_,o,_,_,e,_⟩:=x;exact Heap.lt_size e
 | set S n=>obtain⟨o,_,_,_,e,_⟩:=x;exact Heap.lt_size e
 | ins C dx fs=>obtain⟨_,_,_,e,_⟩:=x;exact Heap.lt_size e
 | own y=>obtain⟨_,e⟩:=x;exact Heap.lt_size e
 | xd fs=>obtain⟨_,⟨_,_,_,e,_⟩,_⟩:=x;exact Heap.lt_size e
 | rng lo hi=>obtain⟨_,_,_,e⟩:=x;exact Heap.lt_size e
 | frz ob u=>obtain⟨e,_⟩:=x;exact Heap.lt_size e
 | tbl ps=>exact Heap.lt_size (show h.get? a=some _ from x)
 | met f y=>exact Heap.lt_size (show h.get? a=some _ from x)
 | ext φ=>obtain⟨_,⟨_,e⟩,_⟩:=x;exact Heap.lt_size e
theorem Paired.mapP{α β:Type}{F G:α->β->Prop}:∀{l₁:List α}{l₂:List β},Paired F l₁ l₂->(∀a b,F a b->G a b)->Paired G l₁ l₂
 | _,_,.nil,_=>.nil
 | _,_,.cons r t,f=>.cons (f _ _ r) (Paired.mapP t f)
theorem zdz.stay(x:zdz P w H h a o)(k:∀b u,(b=a\/H b=some (.own a))->h.get? b=some u->h'.get? b=some u)
  (ho:∀b,H b=some (.own a)->H' b=some (.own a)) (ht:∀b xs,H b=some (.tup xs)->H' b=some (.tup xs)):zdz P w H' h' a o:=by
 induction o with
 | lst xs=>obtain⟨z,its,n,r,e⟩:=x;exact⟨z,its,n,r,k _ _ (.inl rfl) e⟩
 | tup xs=>obtain⟨z,its,r,ob,e,c⟩:=x;exact⟨z,its,r,ob,k _ _ (.inl rfl) e,c⟩
 | dK kvs=>obtain⟨z,y,vs,r,ob,es,ep,e,c⟩:=x;exact⟨z,y,vs,r,ob,es,ep,k _ _ (.inl rfl) e,c⟩
 | dT kvs=>
  obtain⟨z,y,xs,r,ob,es,ep,e,c⟩:=x
  exact⟨z,y,xs,Paired.mapP r fun p q z=>⟨z.1,ht _ _ z.2.1,z.2.2⟩,ob,es,ep,k _ _ (.inl rfl) e,c⟩
 | set S n=>obtain⟨ob,es,ep,t,e,c⟩:=x;exact⟨ob,es,ep,t,k _ _ (.inl rfl) e,c⟩
 | ins C dx fs=>
  obtain⟨d,z,ne,e,mA,⟨od,es,ep,e2,c⟩,r⟩:=x
  exact⟨ho _ d,z,ne,k _ _ (.inl rfl) e,mA,⟨od,es,ep,k _ _ (.inr d) e2,c⟩,r⟩
 | own y=>obtain⟨ob,e⟩:=x;exact⟨ob,k _ _ (.inl rfl) e⟩
 | xd fs=>obtain⟨mA,⟨od,es,ep,e,c⟩,r⟩:=x;exact⟨mA,⟨od,es,ep,k _ _ (.inl rfl) e,c⟩,r⟩
 | rng lo hi=>obtain⟨t,u,v,e⟩:=x;exact⟨t,u,v,k _ _ (.inl rfl) e⟩
 | frz ob u ih=>obtain⟨e,q⟩:=x;exact⟨k _ _ (.inl rfl) e,ih q⟩
 | tbl ps=>
  have e:h.get? a=some { cls:=.none,data:=.fields ps }:=x
  show h'.get? a=some { cls:=.none,data:=.fields ps }
  exact k a _ (.inl rfl) e
 | met f y=>
  have e:h.get? a=some (PySem.W.methodObj (.ref f) (.ref y)):=x
  show h'.get? a=some (PySem.W.methodObj (.ref f) (.ref y))
  exact k a _ (.inl rfl) e
 | ext φ=>obtain⟨p,⟨o,e⟩,st⟩:=x;exact⟨st _ _ p fun o q=>k _ _ (.inl rfl) q,⟨o,k _ _ (.inl rfl) e⟩,st⟩
theorem HOk.lt(x:HOk P w H h)(e:H a=some o):a<h.objs.size:=(x a o e).lt
theorem HOk.fresh(x:HOk P w H h)(e:h.objs.size<=a):H a=none:=by
 cases q:H a with
 | none=>rfl
 | some u=>exact absurd (Nat.lt_of_lt_of_le (x.lt q) e) (Nat.lt_irrefl _)
theorem HOk.kept(x:HOk P w H h)(k:∀b u,h.get? b=some u->h'.get? b=some u):HOk P w H h':=fun a o e=>
 (x a o e).stay (fun b u _ q=>k b u q) (fun _ q=>q) fun _ _ q=>q
theorem HOk.laid(x:HOk P w H h)(k:∀b u,h.get? b=some u->h'.get? b=some u)(hp:h.objs.size<=a)(new:zdz P w (upd H a o) h' a o):HOk P w (upd H a o) h':=fun b u e=>by
 have hn:=x.fresh hp
 by_cases hb:b=a
 ·subst hb;rw[zai] at e;cases e;exact new
 ·rw[zah hb] at e
  exact(x b u e).stay (fun c v _ q=>k c v q) (fun c q=>by rw[zah (zbk q hn)];exact q) fun c xs q=>by rw[zah (zbk q hn)];exact q
end
def Rd(H:Hp)(a:Addr)(u:HO):Prop:=H a=some u\/∃o,H a=some (.frz o u)
theorem Rd.ok{P:Program}{w:World}{H:Hp}{h:Heap}{a:Addr}{u:HO}(r:Rd H a u)(x:HOk P w H h):zdz P w H h a u:=by
 rcases r with r | ⟨o,r⟩
 ·exact x a u r
 ·obtain⟨_,q⟩:=x a _ r
  exact q
def Mut:Option HO->Prop
 | some (.lst _)=>True
 | some (.dK _)=>True
 | some (.dT _)=>True
 | some (.set _ _)=>True
 | some (.ins _ _ _)=>True
 | some (.ext _)=>True
 | _=>False
section
variable{P : Program}{w : World}{H : Hp}{h h' : Heap}{x e : Addr}{o' : HO}
theorem HOk.write(ok:HOk P w H h)(mu:Mut (H x))(he:e=x\/H e=some (.own x))(k:∀b u,b≠e->h.get? b=some u->h'.get? b=some u)(heo:∃u,h'.get? e=some u)
  (new:zdz P w (upd H x o') h' x o'):HOk P w (upd H x o') h':=fun b u q=>by
 have nown:∀c y,H c=some (.own y)->c≠x:=fun c y r z=>by subst z;rw[r] at mu;exact mu
 have ntup:∀c xs,H c=some (.tup xs)->c≠x:=fun c xs r z=>by subst z;rw[r] at mu;exact mu
 by_cases hb:b=x
 ·subst hb;rw[zai] at q;cases q;exact new
 ·rw[zah hb] at q
  by_cases hbe:b=e
  ·have q':H b=some (.own x):=by
    rcases he with z | z
    ·exact absurd (hbe.trans z) hb
    ·rw[hbe];exact z
   rw[q] at q';cases q'
   obtain⟨v,hv⟩:=heo
   exact⟨v,by rw[hbe];exact hv⟩
  ·refine(ok b u q).stay (fun c v hc r=>k c v ?_ r) (fun c r=>by rw[zah (nown c b r)];exact r) fun c xs r=>by rw[zah (ntup c xs r)];exact r
   rcases hc with rfl | hc
   ·exact hbe
   ·rintro rfl
    rcases he with z | z
    ·exact nown c b hc z
    ·rw[hc] at z;cases z;exact hb rfl
end
structure Un(fs ex:List Addr)(H H':Hp)(h h':Heap):Prop where
 keep:∀b o,h.get? b=some o->H b=none->b ∉ fs->b ∉ ex->h'.get? b=some o
 slot:∀b o,h.get? b=some o->H b=none->b∈fs->b ∉ ex->∃sl,h'.get? b=some { o with slots:=sl }
 free:∀b o,h.get? b=some o->H b=none->b ∉ ex->H' b=none
 there:∀b o,h.get? b=some o->b ∉ ex->∃o',h'.get? b=some o'
 tups:∀b xs,H b=some (.tup xs)->H' b=some (.tup xs)
 frzs:∀b o u,H b=some (.frz o u)->H' b=some (.frz o u)
 tbls:∀b ps,H b=some (.tbl ps)->∃more,H' b=some (.tbl (ps++more))
section
variable{fs fs' ex ex' : List Addr}{H H1 H2 : Hp}{h h1 h2 h' : Heap}{a x e : Addr}{o : HO}
theorem Un.any(u:Un fs ex H H1 h h1){b:Addr}{ob:Obj}(q:h.get? b=some ob)(n:H b=none)(hx:b ∉ ex):∃sl,h1.get? b=some { ob with slots:=sl }:=by
 by_cases hb:b∈fs
 ·exact u.slot b ob q n hb hx
 ·exact⟨ob.slots,u.keep b ob q n hb hx⟩
theorem Un.kept(k:∀b u,h.get? b=some u->h'.get? b=some u):Un fs ex H H h h':=
 ⟨fun b ob q _ _ _=>k b ob q,fun b ob q _ _ _=>⟨ob.slots,k b ob q⟩,fun _ _ _ n _=>n,fun b ob q _=>⟨ob,k b ob q⟩,fun _ _ q=>q,fun _ _ _ q=>q,fun _ ps q=>⟨#[],by rw[q];simp⟩⟩
theorem Un.refl:Un fs ex H H h h:=Un.kept fun _ _ q=>q
theorem Un.laid(k:∀b u,h.get? b=some u->h'.get? b=some u)(hp:h.objs.size<=a)(hn:H a=none):Un fs ex H (upd H a o) h h' where
 keep:=fun b u q _ _ _=>k b u q
 slot:=fun b u q _ _ _=>⟨u.slots,k b u q⟩
 free:=fun b u q n _=>by rw[zah (Nat.ne_of_lt (Nat.lt_of_lt_of_le (Heap.lt_size q) hp))];exact n
 there:=fun b u q _=>⟨u,k b u q⟩
 tups:=fun b xs q=>by rw[zah (zbk q hn)];exact q
 frzs:=fun b u xs q=>by rw[zah (zbk q hn)];exact q
 tbls:=fun b ps q=>⟨#[],by rw[zah (zbk q hn),q];simp⟩
theorem Un.write(mu:Mut (H x))(he:e=x\/H e=some (.own x))(k:∀b u,b≠e->h.get? b=some u->h'.get? b=some u)(heo:∃u,h'.get? e=some u):Un fs ex H (upd H x o) h h':=by
 have hx:∀b,H b=none->b≠x:=fun b n z=>by subst z;rw[n] at mu;exact mu
 have hb:∀b,H b=none->b≠e:=fun b n z=>by
  subst z
  rcases he with r | r
  ·exact hx b n r
  ·rw[n] at r;cases r
 have hm:∀b u,H b=some u->¬ Mut (some u)->b≠x:=fun b u q nm z=>by subst z;rw[q] at mu;exact nm mu
 refine⟨fun b u q n _ _=>k b u (hb b n) q,fun b u q n _ _=>⟨u.slots,k b u (hb b n) q⟩,fun b u q n _=>by rw[zah (hx b n)];exact n,fun b u q _=>?_,
  fun b xs q=>by rw[zah (hm b _ q fun z=>z)];exact q,fun b u xs q=>by rw[zah (hm b _ q fun z=>z)];exact q,fun b ps q=>⟨#[],by rw[zah (hm b _ q fun z=>z),q];simp⟩⟩
 by_cases hbe:b=e
 ·subst hbe;exact heo
 ·exact⟨u,k b u hbe q⟩
end
def trk(h:Heap)(H:Hp):List Addr:=(List.range h.objs.size).filter fun a=>(H a).isSome
def hidT(h:Heap)(H:Hp):Heap:=PySem.W.hideAll h (trk h H)
theorem zr8(h:Heap)(H:Hp):(hidT h H).objs.size=h.objs.size:=PySem.W.hideAll_size _ _
theorem zvd{h:Heap}{H:Hp}{b:Addr}{o:Obj}(e:h.get? b=some o)(n:H b=none):(hidT h H).get? b=some o:=
 PySem.W.hideAll_get _ e fun hm=>by
  have q:(H b).isSome=true:=(List.mem_filter.mp hm).2
  rw[n] at q;simp at q
theorem zx6{h:Heap}{H:Hp}{b:Addr}{o:Obj}(e:(hidT h H).get? b=some o):h.get? b=some o/\H b=none:=by
 have e':h.get? b=some o:=PySem.W.of_hideAll (trk h H) e
 refine⟨e',?_⟩
 cases q:H b with
 | none=>rfl
 | some x=>
  have hm:b∈trk h H:=List.mem_filter.mpr ⟨List.mem_range.mpr (Heap.lt_size e'),by simp[q]⟩
  have z:(hidT h H).get? b=none:=PySem.W.hideAll_none (trk h H) hm
  rw[z] at e;cases e
def zzm(g h:Heap)(L:Addr):List (Addr×Obj):=(List.range h.objs.size).filterMap fun a=>if a=L\/(g.get? a).isSome=true then none else (h.get? a).map fun o=>(a,o)
def rest(g h:Heap)(L d:Addr):List (Addr×Obj):=(zzm g h L).filter fun p=>decide (p.1≠d)
end L2
namespace L2
open PySem PySem.Spec PyProof.Rows
structure Mod(K:PySem.W.Frag)(mg:Str->Option Value)(base:Heap):Prop where
 kin:K.In base
 glob:base.Ns mainGlobals mg
 blt:∃mb,base.Ns builtinsNs mb/\∀x:Str,x≠"__name__"->mb x=bootBuiltins x
 nolimit:base.NoLimit
structure Cx where
 prog:Program
 w:World
 K:PySem.W.Frag
 mg:Str->Option Value
 base:Heap
 A:Around
 N:List Str
 s₀:Shared
 H₀:Hp
 env:Env
 outer:List Env
 stack:List Env
 ex:List Addr
 fn:Str->Bool
 calm:Bool
 pn:List (Addr×Obj)
 xe:Value->Shared->Prop
def frs(l:List Env):List Addr:=l.filterMap (·.frame)
abbrev Cx.fs(X:Cx):List Addr:=frs X.outer
def Vis(sc:Scope)(x:Str):Prop:=sc.names.lookup x=some .local\/sc.names.lookup x=some .cell\/sc.names.lookup x=some .free
def Loc(sc:Scope)(x:Str):Prop:=sc.names.lookup x=some .local\/sc.names.lookup x=some .cell
def Look(env:Env)(h:Heap)(m:Str->Option Value)(x:Str)(u:Value):Prop:=
 (env.kindOf x=some .local/\m x=some u)\/((env.kindOf x=some .cell\/env.kindOf x=some .free)/\∃c,env.cells.lookup x=some c/\h.IsCell c (some u))
structure Cx.Ok(X:Cx):Prop where
 mod:Mod X.K X.mg X.base
 kind:X.env.scope.kind=.function
 glob:X.env.globals=mainGlobals
 blt:X.env.builtins=builtinsNs
 above:X.s₀.heap.objs.size<=X.env.locals
 inj:∀x y c,X.env.cells.lookup x=some c->X.env.cells.lookup y=some c->x=y
 has:∀x,(X.env.kindOf x=some .cell\/X.env.kindOf x=some .free)->∃c,X.env.cells.lookup x=some c
 cab:∀x c,X.fn x=true->X.env.cells.lookup x=some c->X.s₀.heap.objs.size<=c
 hd:X.calm=true->X.A.handled=none
 frames:X.A.frames=some X.stack
 stk:X.stack=X.outer\/(X.stack=X.env::X.outer/\X.env.frame=some X.env.locals)
 exf:∀b∈X.ex,b≠X.env.locals/\∀x c,X.env.cells.lookup x=some c->c≠b
 bs:∀b o,X.base.get? b=some o->X.s₀.heap.get? b=some o/\X.H₀ b=none
 bsz:X.base.objs.size<=X.s₀.heap.objs.size
 noex:∀b o,X.base.get? b=some o->b ∉ X.ex
 exfs:∀b∈X.ex,b ∉ X.fs
 funs:X.s₀.heap.FunFrames X.base X.outer
 frf:∀b∈X.fs,X.H₀ b=none
structure Inv(X:Cx)(pins:List (Addr×Obj))(σ:List (Option V))(H:Hp)(s:Shared):Prop where
 ok:X.Ok
 os:s.os=X.s₀.os
 bare:AllBare s.gens
 base:Un X.fs X.ex X.H₀ H X.s₀.heap s.heap
 loc:∃m,s.heap.Ns X.env.locals m/\∀(i:Nat)(x:Str)(v:V),X.N[i]?=some x->σ[i]?=some (some v)->Vis X.env.scope x->∃u,RelV v u/\Look X.env s.heap m x u
 cell:∀x c,X.env.cells.lookup x=some c->∃v,s.heap.IsCell c v
 free:H X.env.locals=none
 freeC:∀x c,X.env.cells.lookup x=some c->H c=none
 pin:∀p∈X.pn++pins,s.heap.get? p.1=some p.2/\H p.1=none/\p.1≠X.env.locals/\p.1 ∉ X.fs/\∀v,p.2.data≠.cell v
 hok:HOk X.prog X.w H s.heap
 len:σ.length=X.N.length
section
variable{X : Cx}{pins : List (Addr×Obj)}{σ : List (Option V)}{H H' : Hp}{s : Shared}{h' : Heap}
theorem Cx.Ok.nofr(ok:X.Ok){b:Addr}{o:Obj}(e:X.base.get? b=some o):b ∉ X.fs:=fun hb=>by
 have:=(ok.funs.mem hb).1
 rw[e] at this;cases this
theorem Inv.bs(I:Inv X pins σ H s):∀b o,X.base.get? b=some o->s.heap.get? b=some o/\H b=none:=fun b o e=>
 ⟨I.base.keep b o (I.ok.bs b o e).1 (I.ok.bs b o e).2 (I.ok.nofr e) (I.ok.noex b o e),I.base.free b o (I.ok.bs b o e).1 (I.ok.bs b o e).2 (I.ok.noex b o e)⟩
theorem Inv.bk(I:Inv X pins σ H s):∀b o,X.base.get? b=some o->s.heap.get? b=some o:=fun b o e=>(I.bs b o e).1
theorem Inv.mod(I:Inv X pins σ H s):Mod X.K X.mg X.base:=I.ok.mod
theorem Inv.kIn(I:Inv X pins σ H s):X.K.In s.heap:=I.ok.mod.kin.keeps I.bk
theorem Inv.lt(I:Inv X pins σ H s):X.env.locals<s.heap.objs.size:=let ⟨_,hn,_⟩:=I.loc;hn.lt
theorem Inv.sz(I:Inv X pins σ H s):X.s₀.heap.objs.size<=s.heap.objs.size:=Nat.le_trans I.ok.above (Nat.le_of_lt I.lt)
theorem Inv.nofs(I:Inv X pins σ H s){a:Addr}(h:s.heap.objs.size<=a):a ∉ X.fs:=fun hb=>by
 obtain⟨_,o,ho,_⟩:=I.ok.funs.mem hb
 exact absurd (Nat.lt_of_lt_of_le (Heap.lt_size ho) (Nat.le_trans I.sz h)) (Nat.lt_irrefl _)
theorem Inv.cne(I:Inv X pins σ H s):∀x c,X.env.cells.lookup x=some c->c≠X.env.locals:=fun x c e z=>by
 obtain⟨v,o,ho,hd⟩:=I.cell x c e
 obtain⟨m,⟨o',es,ep,ho',hd',_⟩,_⟩:=I.loc
 rw[z,ho'] at ho;cases ho;rw[hd'] at hd;cases hd
theorem Inv.funs(I:Inv X pins σ H s):s.heap.FunFrames X.base X.outer:=by
 have all:∀(l:List Env),(∀b∈frs l,b∈X.fs)->X.s₀.heap.FunFrames X.base l->s.heap.FunFrames X.base l:=by
  intro l
  induction l with
  | nil=>intro _ _;trivial
  | cons env r ih=>
   intro hs hl
   obtain⟨hk,⟨L,o,hf,hn,ho,hd⟩,hr⟩:=hl
   have hL:L∈X.fs:=hs L (by unfold frs;rw[List.filterMap_cons,hf];exact List.mem_cons_self)
   obtain⟨sl,e⟩:=I.base.slot L o ho (I.ok.frf L hL) hL fun z=>I.ok.exfs L z hL
   exact⟨hk,⟨L,_,hf,hn,e,hd⟩,ih (fun b hb=>hs b (by unfold frs;rw[List.filterMap_cons,hf];exact List.mem_cons_of_mem _ hb)) hr⟩
 exact all X.outer (fun _ hb=>hb) I.ok.funs
theorem Inv.stack(I:Inv X pins σ H s):s.heap.FunFrames X.base X.stack:=by
 rcases I.ok.stk with e | ⟨e,hf⟩
 ·rw[e];exact I.funs
 ·rw[e]
  obtain⟨m,hn,_⟩:=I.loc
  refine .cons (by rw[I.ok.kind];decide) hf hn ?_ I.funs
  exact Heap.get?_none_of_le (Nat.le_trans I.ok.bsz I.ok.above)
theorem Inv.stkSub(I:Inv X pins σ H s):∀b∈frs X.stack,b∈X.env.locals::X.fs:=fun b hb=>by
 rcases I.ok.stk with e | ⟨e,hf⟩
 ·rw[e] at hb;exact List.mem_cons_of_mem _ hb
 ·rw[e] at hb
  unfold frs at hb
  rw[List.filterMap_cons,hf] at hb
  exact hb
theorem Inv.stkFree(I:Inv X pins σ H s):∀b∈frs X.stack,H b=none:=fun b hb=>by
 rcases List.mem_cons.mp (I.stkSub b hb) with e | hb
 ·rw[e];exact I.free
 ·obtain⟨_,o,ho,_⟩:=I.ok.funs.mem hb
  exact I.base.free b o ho (I.ok.frf b hb) fun z=>I.ok.exfs b z hb
theorem Inv.step{g':Array GenState}{t':Nat}{d':Drawn}{ch:List Addr}(I:Inv X pins σ H s)
  (hch:∀b∈ch,(b∈X.ex\/X.s₀.heap.objs.size<=b)/\b≠X.env.locals/\(∀x c,X.env.cells.lookup x=some c->c≠b)/\∀p∈X.pn++pins,p.1≠b)
  (keep:∀b o,b≠X.env.locals->b ∉ X.fs->b ∉ ch->s.heap.get? b=some o->H b=none->h'.get? b=some o)
  (slot:∀b o,b≠X.env.locals->b∈X.fs->b ∉ ch->s.heap.get? b=some o->H b=none->∃sl,h'.get? b=some { o with slots:=sl }) (free:∀b o,b ∉ ch->s.heap.get? b=some o->H b=none->H' b=none)
  (there:∀b o,b ∉ ch->s.heap.get? b=some o->∃o',h'.get? b=some o')
  (tups:∀b xs,H b=some (.tup xs)->H' b=some (.tup xs)) (frzs:∀b o u,H b=some (.frz o u)->H' b=some (.frz o u)) (tbls:∀b ps,H b=some (.tbl ps)->∃more,H' b=some (.tbl (ps++more)))
  (ns:∀m,s.heap.Ns X.env.locals m->h'.Ns X.env.locals m) (hok:HOk X.prog X.w H' h') (hg:AllBare g') :
  Inv X pins σ H' { s with heap:=h',gens:=g',drawn:=d',toks:=t' }:=by
 have neL:∀b o,X.s₀.heap.get? b=some o->b≠X.env.locals:=fun b o e=>Nat.ne_of_lt (Nat.lt_of_lt_of_le (Heap.lt_size e) I.ok.above)
 have neC:∀b o,X.s₀.heap.get? b=some o->b ∉ X.ex->b ∉ ch:=fun b o e hx hb=>by
  rcases (hch b hb).1 with z | z
  ·exact hx z
  ·exact absurd (Nat.lt_of_lt_of_le (Heap.lt_size e) z) (Nat.lt_irrefl _)
 have cellK:∀x c,X.env.cells.lookup x=some c->∀v,s.heap.IsCell c v->h'.IsCell c v:=fun x c e v ⟨o,ho,hd⟩=>by
  have nch:c ∉ ch:=fun z=>(hch c z).2.2.1 x c e rfl
  by_cases hc:c∈X.fs
  ·obtain⟨sl,q⟩:=slot c o (I.cne x c e) hc nch ho (I.freeC x c e)
   exact⟨_,q,hd⟩
  ·exact⟨o,keep c o (I.cne x c e) hc nch ho (I.freeC x c e),hd⟩
 refine⟨I.ok,I.os,hg,⟨fun b o e n hb hx=>?_,fun b o e n hb hx=>?_,fun b o e n hx=>?_,fun b o e hx=>?_,fun b xs e=>tups b xs (I.base.tups b xs e),fun b o xs e=>frzs b o xs (I.base.frzs b o xs e),fun b ps e=>?_⟩,?_,fun x c e=>?_,?_,fun x c e=>?_,fun p hp=>?_,hok,I.len⟩
 ·exact keep b o (neL b o e) hb (neC b o e hx) (I.base.keep b o e n hb hx) (I.base.free b o e n hx)
 ·obtain⟨sl,e1⟩:=I.base.slot b o e n hb hx
  obtain⟨sl',e2⟩:=slot b _ (neL b o e) hb (neC b o e hx) e1 (I.base.free b o e n hx)
  exact⟨sl',e2⟩
 ·obtain⟨o',e1⟩:=I.base.there b o e hx
  exact free b o' (neC b o e hx) e1 (I.base.free b o e n hx)
 ·obtain⟨o',e1⟩:=I.base.there b o e hx
  exact there b o' (neC b o e hx) e1
 ·obtain⟨m1,e1⟩:=I.base.tbls b ps e
  obtain⟨m2,e2⟩:=tbls b _ e1
  exact⟨m1++m2,by rw[e2,Array.append_assoc]⟩
 ·obtain⟨m,hn,hl⟩:=I.loc
  refine⟨m,ns m hn,fun i x v e1 e2 e3=>?_⟩
  obtain⟨u,r,l⟩:=hl i x v e1 e2 e3
  refine⟨u,r,?_⟩
  rcases l with l | ⟨k,c,e,z⟩
  ·exact .inl l
  ·exact .inr ⟨k,c,e,cellK x c e _ z⟩
 ·obtain⟨v,z⟩:=I.cell x c e
  exact⟨v,cellK x c e v z⟩
 ·obtain⟨m,⟨o,_,_,ho,_⟩,_⟩:=I.loc
  exact free _ o (fun z=>(hch _ z).2.1 rfl) ho I.free
 ·obtain⟨v,o,ho,hd⟩:=I.cell x c e
  exact free c o (fun z=>(hch c z).2.2.1 x c e rfl) ho (I.freeC x c e)
 ·obtain⟨e,n,ne,nf,d⟩:=I.pin p hp
  have nch:p.1 ∉ ch:=fun z=>(hch p.1 z).2.2.2 p hp rfl
  exact⟨keep p.1 p.2 ne nf nch e n,free p.1 p.2 nch e n,ne,nf,d⟩
theorem Inv.un{t':Nat}(I:Inv X pins σ H s)(u:Un X.fs [] H H' s.heap h')(hok:HOk X.prog X.w H' h'):Inv X pins σ H' { s with heap:=h',toks:=t' }:=by
 obtain⟨m,⟨o,es,ep,ho,r⟩,_⟩:=id I.loc
 obtain⟨sl,hL⟩:=u.any ho I.free (by simp)
 exact I.step (g':=s.gens) (d':=s.drawn) (ch:=[]) (fun _ z=>nomatch z) (fun b o _ hb _ e n=>u.keep b o e n hb (by simp)) (fun b o _ hb _ e n=>u.slot b o e n hb (by simp)) (fun b o _ e n=>u.free b o e n (by simp)) (fun b o _ e=>u.there b o e (by simp)) u.tups u.frzs u.tbls (fun m' hm=>by
  obtain⟨o',es',ep',ho',r'⟩:=hm
  rw[ho] at ho';cases ho'
  exact⟨_,es',ep',hL,r'⟩) hok I.bare
theorem Inv.call{g':Array GenState}{t':Nat}{d':Drawn}{ch:List Addr}(I:Inv X pins σ H s)(u:Un (frs X.stack) ch H H' s.heap h')(hok:HOk X.prog X.w H' h')(hg:AllBare g')
  (hch:∀b∈ch,(b∈X.ex\/X.s₀.heap.objs.size<=b)/\b≠X.env.locals/\(∀x c,X.env.cells.lookup x=some c->c≠b)/\∀p∈X.pn++pins,p.1≠b) :
  Inv X pins σ H' { s with heap:=h',gens:=g',drawn:=d',toks:=t' }:=by
 obtain⟨m,⟨o,es,ep,ho,r⟩,_⟩:=id I.loc
 obtain⟨sl,hL⟩:=u.any ho I.free fun z=>(hch _ z).2.1 rfl
 exact I.step (ch:=ch) hch (fun b o hL hb hc e n=>u.keep b o e n (fun z=>(List.mem_cons.mp (I.stkSub b z)).elim hL hb) hc) (fun b o _ _ hc e n=>u.any e n hc) (fun b o hc e n=>u.free b o e n hc) (fun b o hc e=>u.there b o e hc) u.tups u.frzs u.tbls (fun m' hm=>by
  obtain⟨o',es',ep',ho',r'⟩:=hm
  rw[ho] at ho';cases ho'
  exact⟨_,es',ep',hL,r'⟩) hok hg
theorem Inv.turned{t':Nat}{it:Addr}(I:Inv X pins σ H s)(k:∀b o,b≠it->s.heap.get? b=some o->h'.get? b=some o)(hn:H it=none)(hL:it≠X.env.locals)
  (h1:it∈X.ex\/X.s₀.heap.objs.size<=it) (h2:∀x c,X.env.cells.lookup x=some c->c≠it) (h3:∀p∈X.pn++pins,p.1≠it):Inv X pins σ H { s with heap:=h',toks:=t' }:=by
 have nit:∀b u,H b=some u->b≠it:=fun b u e z=>by rw[z,hn] at e;cases e
 refine I.step (g':=s.gens) (d':=s.drawn) (ch:=[it]) (fun b hb=>?_) (fun b o _ _ hc e _=>k b o (fun z=>hc (by simp[z])) e) (fun b o _ _ hc e _=>⟨o.slots,k b o (fun z=>hc (by simp[z])) e⟩) (fun _ _ _ _ n=>n)
  (fun b o hc e=>⟨o,k b o (fun z=>hc (by simp[z])) e⟩) (fun _ _ e=>e) (fun _ _ _ e=>e) (fun b ps e=>⟨#[],by rw[e];simp⟩) (fun m hm=>?_) (fun b u e=>?_) I.bare
 ·have e:b=it:=by simpa using hb
  subst e
  exact⟨h1,hL,h2,h3⟩
 ·obtain⟨o,es,ep,ho,r⟩:=hm
  exact⟨o,es,ep,k _ o (Ne.symm hL) ho,r⟩
 ·refine(I.hok b u e).stay (fun c v hc q=>k c v ?_ q) (fun _ q=>q) fun _ _ q=>q
  rcases hc with z | z
  ·rw[z];exact nit b u e
  ·exact nit c _ z
theorem Inv.tok(I:Inv X pins σ H s)(t:Nat):Inv X pins σ H { s with toks:=t }:=I.un (h':=s.heap) (t':=t) Un.refl I.hok
theorem Inv.kept{t':Nat}(I:Inv X pins σ H s)(k:∀b u,s.heap.get? b=some u->h'.get? b=some u):Inv X pins σ H { s with heap:=h',toks:=t' }:=I.un (Un.kept k) (I.hok.kept k)
theorem Inv.laid{a:Addr}{o:HO}{t':Nat}(I:Inv X pins σ H s)(k:∀b u,s.heap.get? b=some u->h'.get? b=some u)(hp:s.heap.objs.size<=a)(new:zdz X.prog X.w (upd H a o) h' a o) :
  Inv X pins σ (upd H a o) { s with heap:=h',toks:=t' }:=I.un (Un.laid k hp (I.hok.fresh hp)) (I.hok.laid k hp new)
theorem Inv.write{x e:Addr}{o:HO}{t':Nat}(I:Inv X pins σ H s)(mu:Mut (H x))(he:e=x\/H e=some (.own x))(k:∀b u,b≠e->s.heap.get? b=some u->h'.get? b=some u)(heo:∃u,h'.get? e=some u)
  (new:zdz X.prog X.w (upd H x o) h' x o):Inv X pins σ (upd H x o) { s with heap:=h',toks:=t' }:=I.un (Un.write mu he k heo) (I.hok.write mu he k heo new)
theorem Inv.pins_of{pins':List (Addr×Obj)}(I:Inv X pins σ H s)(h:∀p∈pins',s.heap.get? p.1=some p.2/\H p.1=none/\p.1≠X.env.locals/\p.1 ∉ X.fs/\∀v,p.2.data≠.cell v):Inv X pins' σ H s:=
 ⟨I.ok,I.os,I.bare,I.base,I.loc,I.cell,I.free,I.freeC,fun p hp=>(List.mem_append.mp hp).elim (fun z=>I.pin p (List.mem_append_left _ z)) (h p),I.hok,I.len⟩
theorem zol{N:List Str}(hN:N.Nodup){i j:Nat}{x:Str}(a:N[i]?=some x)(b:N[j]?=some x):i=j:=by
 obtain⟨h1,e1⟩:=List.getElem?_eq_some_iff.mp a
 obtain⟨h2,e2⟩:=List.getElem?_eq_some_iff.mp b
 exact(List.getElem_inj hN).mp (e1.trans e2.symm)
theorem zqy{M:Model}{A:Around}{E:Value->Shared->Prop}{i:Nat}{x:Str}{v:V}{u:Value}{Q:Unit->Shared->Prop}(I:Inv X pins σ H s)(hN:X.N.Nodup)(hi:X.N[i]?=some x)(hx:Loc X.env.scope x)(r:RelV v u)
  (h:∀s',Inv X pins (σ.set i (some v)) H s'->(∃a,Heap.SameBut a s.heap s'.heap/\(a=X.env.locals\/X.env.cells.lookup x=some a))->Q () s') (hf:X.fn x=true\/X.env.scope.names.lookup x=some .local:=by first | exact .inl rfl | exact .inr rfl | assumption):wpAny M A (storeName X.env x u) Q E s:=by
 obtain⟨m,hn,hl⟩:=id I.loc
 have hcls:(X.env.scope.kind == .class || (X.env.scope.kind == .module && X.env.locals != X.env.globals))=false:=by rw[I.ok.kind];rfl
 have hiσ:i<σ.length:=by rw[I.len];exact(List.getElem?_eq_some_iff.mp hi).1
 have cne:=I.cne
 have tracked:∀{a:Addr}{h':Heap},(∃o,s.heap.get? a=some o/\H a=none)->Heap.SameBut a s.heap h'->HOk X.prog X.w H h':=fun {a h'} ha hs b ob e=>by
  obtain⟨_,_,hfree⟩:=ha
  refine(I.hok b ob e).stay (fun c w' hc q=>(hs.2 c ?_).trans q) (fun _ q=>q) fun _ _ q=>q
  rintro rfl
  rcases hc with rfl | hc
  ·rw[hfree] at e;cases e
  ·rw[hfree] at hc;cases hc
 rcases hx with hk | hk
 ·refine wpAny_storeName_local hk hn (fun h' hn' hs=>?_) hcls
  obtain⟨oL,_,_,hoL,_⟩:=id hn
  refine h _ ⟨I.ok,I.os,I.bare,⟨fun b o e n hb hx=>?_,fun b o e n hb hx=>?_,I.base.free,fun b o e hx=>?_,I.base.tups,I.base.frzs,I.base.tbls⟩,⟨_,hn',fun j y v' e1 e2 e3=>?_⟩,fun y c e=>?_,I.free,I.freeC,fun p hp=>?_,tracked ⟨oL,hoL,I.free⟩ hs,by simpa using I.len⟩ ⟨_,hs,.inl rfl⟩
  ·exact(hs.2 b (Nat.ne_of_lt (Nat.lt_of_lt_of_le (Heap.lt_size e) I.ok.above))).trans (I.base.keep b o e n hb hx)
  ·obtain⟨sl,e1⟩:=I.base.slot b o e n hb hx
   exact⟨sl,(hs.2 b (Nat.ne_of_lt (Nat.lt_of_lt_of_le (Heap.lt_size e) I.ok.above))).trans e1⟩
  ·obtain⟨o',e1⟩:=I.base.there b o e hx
   exact⟨o',(hs.2 b (Nat.ne_of_lt (Nat.lt_of_lt_of_le (Heap.lt_size e) I.ok.above))).trans e1⟩
  ·by_cases hj:j=i
   ·subst hj
    rw[hi] at e1;cases e1
    rw[List.getElem?_set_self hiσ] at e2
    cases e2
    exact⟨u,r,.inl ⟨hk,by simp⟩⟩
   ·rw[List.getElem?_set_ne (Ne.symm hj)] at e2
    obtain⟨u',r',q⟩:=hl j y v' e1 e2 e3
    refine⟨u',r',?_⟩
    rcases q with⟨k,e⟩|⟨k,c,e,z⟩
    ·refine .inl ⟨k,?_⟩
     have:y≠x:=fun e=>hj (zol hN e1 (e▸hi))
     simp[this,e]
    ·exact .inr ⟨k,c,e,z.sameBut hs (cne y c e)⟩
  ·obtain⟨w',z⟩:=I.cell y c e
   exact⟨w',z.sameBut hs (cne y c e)⟩
  ·obtain⟨e,n,ne,nf,d⟩:=I.pin p hp
   exact⟨(hs.2 p.1 ne).trans e,n,ne,nf,d⟩
 ·have hfn:X.fn x=true:=by
   rcases hf with z | z
   ·exact z
   ·rw[z] at hk;cases hk
  obtain⟨c,hc⟩:=I.ok.has x (.inl hk)
  obtain⟨w',z⟩:=I.cell x c hc
  refine wpAny_storeName_cell I.ok.kind hk hc z (fun h' hc' hs=>?_)
  obtain⟨oc,hoc,hocd⟩:=id z
  refine h { s with heap:=h' } ⟨I.ok,I.os,I.bare,⟨fun b o e n hb hx=>?_,fun b o e n hb hx=>?_,I.base.free,fun b o e hx=>?_,I.base.tups,I.base.frzs,I.base.tbls⟩,⟨m,hn.sameBut hs (Ne.symm (cne x c hc)),fun j y v' e1 e2 e3=>?_⟩,fun y c' e=>?_,I.free,I.freeC,fun p hp=>?_,tracked ⟨oc,hoc,I.freeC x c hc⟩ hs,by simpa using I.len⟩ ⟨c,hs,.inr hc⟩
  ·exact(hs.2 b (Nat.ne_of_lt (Nat.lt_of_lt_of_le (Heap.lt_size e) (I.ok.cab x c hfn hc)))).trans (I.base.keep b o e n hb hx)
  ·obtain⟨sl,e1⟩:=I.base.slot b o e n hb hx
   exact⟨sl,(hs.2 b (Nat.ne_of_lt (Nat.lt_of_lt_of_le (Heap.lt_size e) (I.ok.cab x c hfn hc)))).trans e1⟩
  ·obtain⟨o',e1⟩:=I.base.there b o e hx
   exact⟨o',(hs.2 b (Nat.ne_of_lt (Nat.lt_of_lt_of_le (Heap.lt_size e) (I.ok.cab x c hfn hc)))).trans e1⟩
  ·by_cases hj:j=i
   ·subst hj
    rw[hi] at e1;cases e1
    rw[List.getElem?_set_self hiσ] at e2
    cases e2
    exact⟨u,r,.inr ⟨.inl hk,c,hc,hc'⟩⟩
   ·rw[List.getElem?_set_ne (Ne.symm hj)] at e2
    obtain⟨u',r',q⟩:=hl j y v' e1 e2 e3
    refine⟨u',r',?_⟩
    rcases q with q | ⟨k,c',e,z'⟩
    ·exact .inl q
    ·refine .inr ⟨k,c',e,z'.sameBut hs ?_⟩
     rintro rfl
     exact hj (zol hN e1 (I.ok.inj _ _ _ e hc▸hi))
  ·by_cases hcc:c'=c
   ·subst hcc;exact⟨_,hc'⟩
   ·obtain⟨w2,z2⟩:=I.cell y c' e
    exact⟨w2,z2.sameBut hs hcc⟩
  ·obtain⟨e,n,ne,nf,d⟩:=I.pin p hp
   refine⟨(hs.2 p.1 ?_).trans e,n,ne,nf,d⟩
   intro q
   rw[q,hoc] at e
   have q':oc=p.2:=Option.some.inj e
   exact d w' (by rw[← q'];exact hocd)
theorem zky{M:Model}{A:Around}{E:Value->Shared->Prop}{i:Nat}{x:Str}{v:V}{u:Value}{Q:Unit->Shared->Prop}(I:Inv X pins σ H s)(hN:X.N.Nodup)(hi:X.N[i]?=some x)(hx:Loc X.env.scope x)(r:RelV v u)
  (h:∀s',Inv X pins (σ.set i (some v)) H s'->Q () s') (hf:X.fn x=true\/X.env.scope.names.lookup x=some .local:=by first | exact .inl rfl | exact .inr rfl | assumption):wpAny M A (storeName X.env x u) Q E s:=
 zqy I hN hi hx r (fun s' I' _=>h s' I') hf
theorem Inv.call'{s':Shared}{ch:List Addr}(I:Inv X pins σ H s)(ho:s'.os=s.os)(u:Un (frs X.stack) ch H H' s.heap s'.heap)(hok:HOk X.prog X.w H' s'.heap)(hg:AllBare s'.gens)
  (hch:∀b∈ch,(b∈X.ex\/X.s₀.heap.objs.size<=b)/\b≠X.env.locals/\(∀x c,X.env.cells.lookup x=some c->c≠b)/\∀p∈X.pn++pins,p.1≠b):Inv X pins σ H' s':=by
 obtain⟨h',g',d',t',o'⟩:=s'
 have e:o'=s.os:=ho
 subst e
 exact I.call (g':=g') (t':=t') (d':=d') u hok hg hch
end
abbrev XK:=Value->Option Addr->Hp->Prop
abbrev St:=List (Option V)
abbrev VK:=V->Hp->Prop
abbrev TE:=St->Hp->VK->Prop
abbrev TT:=St->Hp->(Bool->Hp->Prop)->Prop
abbrev TA:=St->Hp->(List V->Hp->Prop)->Prop
structure Ends where
 nx:St->Hp->Prop
 rt:VK
 bk:St->Hp->Prop:=fun _ _=>False
 ct:St->Hp->Prop:=fun _ _=>False
abbrev TS:=Ends->St->Hp->Prop
def EP(X:Cx)(pins:List (Addr×Obj))(σ:St)(Q:VK)(u:Value)(s':Shared):Prop:=∃v H',Inv X pins σ H' s'/\RelV v u/\Q v H'
def TP(X:Cx)(pins:List (Addr×Obj))(σ:St)(Q:Bool->Hp->Prop)(b:Bool)(s':Shared):Prop:=∃H',Inv X pins σ H' s'/\Q b H'
def AP(X:Cx)(pins:List (Addr×Obj))(σ:St)(Q:List V->Hp->Prop)(us:List Value)(s':Shared):Prop:=∃vs H',Inv X pins σ H' s'/\Vals vs us/\Q vs H'
def SP(X:Cx)(pins:List (Addr×Obj))(D:Ends)(f:Flow)(s':Shared):Prop:=
 match f with
 | .next=>∃σ' H',Inv X pins σ' H' s'/\D.nx σ' H'
 | .brk=>∃σ' H',Inv X pins σ' H' s'/\D.bk σ' H'
 | .cont=>∃σ' H',Inv X pins σ' H' s'/\D.ct σ' H'
 | .ret u=>∃v σ' H',Inv X pins σ' H' s'/\RelV v u/\D.rt v H'
def PE(X:Cx)(e:Expr)(t:TE):Prop:=
 ∀(pins:List (Addr×Obj))(s:Shared)(σ:St)(H:Hp)(Q:VK),Inv X pins σ H s->t σ H Q->wpAny (model X.prog X.w) X.A (eval e X.env) (EP X pins σ Q) X.xe s
def PT(X:Cx)(e:Expr)(t:TT):Prop:=
 ∀(pins:List (Addr×Obj))(s:Shared)(σ:St)(H:Hp)(Q:Bool->Hp->Prop),Inv X pins σ H s->t σ H Q->wpAny (model X.prog X.w) X.A (isTrue e X.env (eval e X.env)) (TP X pins σ Q) X.xe s
def PW(X:Cx)(e:Expr)(t:TT):Prop:=
 ∀(whole:Sem Value)(pins:List (Addr×Obj))(s:Shared)(σ:St)(H:Hp)(Q:Bool->Hp->Prop),Inv X pins σ H s->t σ H Q->wpAny (model X.prog X.w) X.A (isTrue e X.env whole) (TP X pins σ Q) X.xe s
theorem PW.pt{X:Cx}{e:Expr}{t:TT}(h:PW X e t):PT X e t:=h _
def PA(X:Cx)(es:List Expr)(t:TA):Prop:=
 ∀(pos:Pos)(pins:List (Addr×Obj))(s:Shared)(σ:St)(H:Hp)(Q:List V->Hp->Prop),Inv X pins σ H s->t σ H Q->wpAny (model X.prog X.w) X.A (spliced (backTo pos (starEach es X.env))) (AP X pins σ Q) X.xe s
def PS(X:Cx)(st:Stmt)(t:TS):Prop:=
 ∀(pins:List (Addr×Obj))(s:Shared)(σ:St)(H:Hp)(D:Ends),Inv X pins σ H s->t D σ H->wpAny (model X.prog X.w) X.A (exec st X.env) (SP X pins D) X.xe s
def PSs(X:Cx)(st:List Stmt)(t:TS):Prop:=
 ∀(pins:List (Addr×Obj))(s:Shared)(σ:St)(H:Hp)(D:Ends),Inv X pins σ H s->t D σ H->wpAny (model X.prog X.w) X.A (execs st X.env) (SP X pins D) X.xe s
theorem thn{α:Type}{t:Sem α}{Q Q':α->Shared->Prop}{M:Model}{A:Around}{E:Value->Shared->Prop}{s:Shared}(h:wpAny M A t Q E s)(hQ:∀a s,Q a s->Q' a s):wpAny M A t Q' E s:=wpAny_mono h hQ fun _ _ x=>x
end L2
namespace L2
open PySem PySem.Spec PyProof.Rows
section
variable{X : Cx}
def tVar(i:Nat):TE:=fun σ H Q=>∃v,σ[i]?=some (some v)/\Q v H
def tC(v:V):TE:=fun _ H Q=>Q v H
theorem zfi {i:Nat} {x:Str} {pos:Pos} (hN:X.N[i]?=some x) (hv:Vis X.env.scope x) (hd:(x == ("__debug__":Str))=false:=by decide) (hcd:(x == ("__classdict__":Str))=false:=by decide):PE X (.Name x pos) (tVar i):=by
 intro pins s σ H Q I h
 obtain⟨v,e,h⟩:=h
 obtain⟨m,hn,hl⟩:=I.loc
 obtain⟨u,r,l⟩:=hl i x v hN e hv
 have fin:EP X pins σ Q u s:=⟨v,H,I,r,h⟩
 rcases l with⟨hk,hm⟩|⟨hk,c,hc,hcell⟩
 ·exact wpAny_Name (wpAny_loadName_local I.ok.kind hk hn hm fin) hd
 ·rcases hk with hk | hk
  ·exact wpAny_Name (wpAny_loadName_cell I.ok.kind hk hc hcell fin) hd
  ·exact wpAny_Name (wpAny_loadName_free I.ok.kind hk hc hcell fin hcd) hd
theorem Za2{i j pos}:PE X (.Constant (.int i) j pos) (tC (.int i)):=fun _ _ _ H _ I h=>wpAny_Constant_int ⟨.int i,H,I.tok _,⟨_,rfl⟩,h⟩
theorem Zek{b j pos}:PE X (.Constant (.bool b) j pos) (tC (.bl b)):=fun _ _ _ H _ I h=>Constant_bool ⟨.bl b,H,I,rfl,h⟩
theorem Zaz{j pos}:PE X (.Constant .none j pos) (tC .non):=fun _ _ _ H _ I h=>Constant_none ⟨.non,H,I,rfl,h⟩
theorem Zax{x j pos}:PE X (.Constant (.str x) j pos) (tC (.str x)):=fun _ _ _ H _ I h=>Calls.Constant_str ⟨.str x,H,I.tok _,⟨_,rfl⟩,h⟩
def Gl(X:Cx)(x:Str):Prop:=X.env.kindOf x=some .globalImplicit
theorem znf{E:Value->Shared->Prop}{pins:List (Addr×Obj)}{s:Shared}{σ:St}{H:Hp}{x:Str}{u:Value}{pos:Pos}{Q:Value->Shared->Prop}(I:Inv X pins σ H s)(hg:Gl X x)(hm:X.mg x=some u)(h:Q u s)
  (hd:(x == ("__debug__":Str))=false:=by decide):wpAny (model X.prog X.w) X.A (eval (.Name x pos) X.env) Q E s:=
 Calls.Name_function_global I.ok.kind hg (Calls.loadGlobal_global (by rw[I.ok.glob];exact I.mod.glob.keeps I.bk) hm h) hd
theorem zih{E:Value->Shared->Prop}{pins:List (Addr×Obj)}{s:Shared}{σ:St}{H:Hp}{x:Str}{u:Value}{pos:Pos}{Q:Value->Shared->Prop}(I:Inv X pins σ H s)(hg:Gl X x)(hm:X.mg x=none)(hv:bootBuiltins x=some u)(h:Q u s)
  (hn:x≠"__name__":=by decide) (hd:(x == ("__debug__":Str))=false:=by decide):wpAny (model X.prog X.w) X.A (eval (.Name x pos) X.env) Q E s:=by
 obtain⟨mb,h1,h2⟩:=I.mod.blt
 exact Calls.Name_function_global I.ok.kind hg (Calls.loadGlobal_builtin (by rw[I.ok.glob];exact I.mod.glob.keeps I.bk) hm (by rw[I.ok.blt];exact h1.keeps I.bk) ((h2 x hn).trans hv) h) hd
theorem zx0 {x:Str} {v:V} {u:Value} {pos:Pos} (hg:Gl X x) (hm:X.mg x=some u) (r:RelV v u) (hd:(x == ("__debug__":Str))=false:=by decide):PE X (.Name x pos) (tC v):=
 fun _ _ _ H _ I h=>znf I hg hm ⟨v,H,I,r,h⟩ hd
theorem zx3 {x:Str} {v:V} {u:Value} {pos:Pos} (hg:Gl X x) (hm:X.mg x=none) (hv:bootBuiltins x=some u) (r:RelV v u) (hn:x≠"__name__":=by decide) (hd:(x == ("__debug__":Str))=false:=by decide):PE X (.Name x pos) (tC v):=
 fun _ _ _ H _ I h=>zih I hg hm hv ⟨v,H,I,r,h⟩ hn hd
variable{a b : Expr}{ta tb : TE}{pos : Pos}
variable{tA tB' : TT}{rest : List Expr}
def tAnd(t u:TT):TT:=fun σ H Q=>t σ H fun c H1=>if c=true then u σ H1 Q else Q false H1
def tOr(t u:TT):TT:=fun σ H Q=>t σ H fun c H1=>if c=true then Q true H1 else u σ H1 Q
def tNot(t:TT):TT:=fun σ H Q=>t σ H fun c H1=>Q (!c) H1
theorem zxs(ha:PT X a tA):PW X (.BoolOp .And [a] pos) tA:=by
 intro wh pins s σ H Q I h
 refine isTrue_and (thn (ha pins s σ H Q I h) fun c s1 e=>?_)
 cases c with
 | true=>exact isTrue_and_nil e
 | false=>exact e
theorem Zaq(ha:PT X a tA):PW X (.BoolOp .Or [a] pos) tA:=by
 intro wh pins s σ H Q I h
 refine isTrue_or (thn (ha pins s σ H Q I h) fun c s1 e=>?_)
 cases c with
 | false=>exact isTrue_or_nil e
 | true=>exact e
theorem Zar(ha:PT X a tA)(hb:PW X (.BoolOp .And (b::rest) pos) tB'):PW X (.BoolOp .And (a::b::rest) pos) (tAnd tA tB'):=by
 intro wh pins s σ H Q I h
 refine isTrue_and (thn (ha pins s σ H _ I h) fun c s1 ⟨H1,I1,q1⟩=>?_)
 cases c with
 | true=>exact hb wh pins s1 σ H1 Q I1 q1
 | false=>exact⟨H1,I1,q1⟩
theorem Zee(ha:PT X a tA)(hb:PW X (.BoolOp .Or (b::rest) pos) tB'):PW X (.BoolOp .Or (a::b::rest) pos) (tOr tA tB'):=by
 intro wh pins s σ H Q I h
 refine isTrue_or (thn (ha pins s σ H _ I h) fun c s1 ⟨H1,I1,q1⟩=>?_)
 cases c with
 | true=>exact⟨H1,I1,q1⟩
 | false=>exact hb wh pins s1 σ H1 Q I1 q1
theorem Zas(ha:PT X a tA):PT X (.UnaryOp .Not a pos) (tNot tA):=by
 intro pins s σ H Q I h
 exact isTrue_not (ha pins s σ H (fun c H1=>Q (!c) H1) I h)
def Zd8(ta tb:TE):TE:=fun σ H Q=>ta σ H fun x H1=>∃c,x=.bl c/\if c=true then tb σ H1 Q else Q (.bl false) H1
theorem Zay{op}{t:TE}(h:PE X a t):PE X (.BoolOp op [a] pos) t:=fun pins s σ H Q I hw=>BoolOp_one (h pins s σ H Q I hw)
theorem Za5(ha:PE X a ta)(hb:PE X (.BoolOp .And (b::rest) pos) tb):PE X (.BoolOp .And (a::b::rest) pos) (Zd8 ta tb):=by
 intro pins s σ H Q I h
 refine BoolOp_and (thn (ha pins s σ H _ I h) fun v s1 ⟨x,H1,I1,r1,q1⟩=>?_)
 obtain⟨c,rfl,q1⟩:=q1
 cases r1
 refine wpAny_truthy_bool ?_
 cases c with
 | true=>exact hb pins s1 σ H1 Q I1 q1
 | false=>exact⟨.bl false,H1,I1,rfl,q1⟩
def tIf(t:TT)(ta tb:TE):TE:=fun σ H Q=>t σ H fun c H1=>if c=true then ta σ H1 Q else tb σ H1 Q
theorem zup{c:Expr}(hc:PT X c tA)(ha:PE X a ta)(hb:PE X b tb):PE X (.IfExp c a b pos) (tIf tA ta tb):=by
 intro pins s σ H Q I h
 refine wpAny_IfExp (thn (hc pins s σ H _ I h) fun d s1 ⟨H1,I1,q1⟩=>?_)
 cases d with
 | true=>exact ha pins s1 σ H1 Q I1 q1
 | false=>exact hb pins s1 σ H1 Q I1 q1
end
end L2
namespace L2
open PySem PySem.Spec PyProof.Rows
def SqL(K:PySem.W.Frag)(H:Hp)(a:Addr)(xs:List V):Prop:=
 Rd H a (.lst xs) ∨
  ∃(o:Obj) (its:Array Value) (n:Nat),K.lookup a=some o/\o.cls=.type "list"/\o.dict=none/\o.data=.seq its n/\its.size<=sizeLine/\Vals xs its.toList
def SqT(K:PySem.W.Frag)(H:Hp)(a:Addr)(xs:List V):Prop:=
 Rd H a (.tup xs) ∨
  ∃(o:Obj) (its:Array Value) (n:Nat),K.lookup a=some o/\o.cls=.type "tuple"/\o.data=.seq its n/\its.size<=sizeLine/\Vals xs its.toList/\o.dict=none
def absV:Value->Option V
 | .none=>some .non
 | .bool b=>some (.bl b)
 | .int i _=>some (.int i)
 | .str x _=>some (.str x)
 | .bytes b _=>some (.byt b)
 | .float b _=>some (.flt b)
 | .ref a=>some (.ref a)
 | .type n=>some (.ty n)
 | _=>none
theorem RelV.abs{x:V}{u:Value}(r:RelV x u):absV u=some x:=by
 cases x with
 | non=>cases r;rfl
 | bl _=>cases r;rfl
 | int _=>obtain⟨t,rfl⟩:=r;rfl
 | str _=>obtain⟨t,rfl⟩:=r;rfl
 | byt _=>obtain⟨t,rfl⟩:=r;rfl
 | flt _=>obtain⟨t,rfl⟩:=r;rfl
 | ref _=>cases r;rfl
 | ty _=>cases r;rfl
theorem RelV.inj{x y:V}{u:Value}(r:RelV x u)(q:RelV y u):x=y:=Option.some.inj (r.abs.symm.trans q.abs)
theorem Vals.inj:∀{xs ys:List V}{us:List Value},Vals xs us->Vals ys us->xs=ys
 | _,_,_,.nil,.nil=>rfl
 | _,_,_,.cons r t,.cons r' t'=>by rw[r.inj r',Vals.inj t t']
section
variable{X : Cx}{pins : List (Addr×Obj)}{σ : St}{H : Hp}{s : Shared}{a : Addr}{xs ys : List V}
theorem SqL.of{K:PySem.W.Frag}(h:H a=some (.lst xs)):SqL K H a xs:=.inl (.inl h)
theorem Inv.list(I:Inv X pins σ H s)(h:SqL X.K H a xs):∃its:List Value,Vals xs its/\PlainL s.heap a its.toArray/\xs.length<=sizeLine:=by
 rcases h with h | ⟨o,its,n,hk,hc,hd,hs,hz,r⟩
 ·obtain⟨z,its,n,r,e⟩:=h.ok I.hok
  exact⟨its,r,⟨_,n,e,rfl,rfl,rfl⟩,z⟩
 ·refine⟨its.toList,r,⟨o,n,I.kIn a o hk,hc,hd,by simpa using hs⟩,?_⟩
  have e:=r.length
  simp only[Array.length_toList] at e
  omega
theorem Inv.tuple(I:Inv X pins σ H s)(h:SqT X.K H a xs):∃its:List Value,Vals xs its/\IsTup s.heap a its.toArray/\xs.length<=sizeLine:=by
 rcases h with h | ⟨o,its,n,hk,hc,hs,hz,r,hdn⟩
 ·obtain⟨z,its,r,p⟩:=h.ok I.hok
  exact⟨its,r,p.up,z⟩
 ·refine⟨its.toList,r,⟨o,I.kIn a o hk,hc,n,by simpa using hs⟩,?_⟩
  have e:=r.length
  simp only[Array.length_toList] at e
  omega
theorem Inv.tupleX(I:Inv X pins σ H s)(h:SqT X.K H a xs):∃its:List Value,Vals xs its/\IsTp s.heap a its.toArray/\xs.length<=sizeLine:=by
 rcases h with h | ⟨o,its,n,hk,hc,hs,hz,r,hdn⟩
 ·obtain⟨z,its,r,p⟩:=h.ok I.hok
  exact⟨its,r,p,z⟩
 ·refine⟨its.toList,r,⟨o,I.kIn a o hk,hc,⟨n,by simpa using hs⟩,fun _=>hdn⟩,?_⟩
  have e:=r.length
  simp only[Array.length_toList] at e
  omega
theorem Inv.list_inj(I:Inv X pins σ H s)(h:SqL X.K H a xs)(h':SqL X.K H a ys):xs=ys:=by
 obtain⟨its,r,⟨o,n,e,_,_,d⟩,_⟩:=I.list h
 obtain⟨its',r',⟨o',n',e',_,_,d'⟩,_⟩:=I.list h'
 rw[e] at e';cases e'
 rw[d] at d'
 injection d' with d1 _
 have:its=its':=by simpa using congrArg Array.toList d1
 subst this
 exact r.inj r'
theorem Inv.tuple_inj(I:Inv X pins σ H s)(h:SqT X.K H a xs)(h':SqT X.K H a ys):xs=ys:=by
 obtain⟨its,r,⟨o,e,_,n,d⟩,_⟩:=I.tuple h
 obtain⟨its',r',⟨o',e',_,n',d'⟩,_⟩:=I.tuple h'
 rw[e] at e';cases e'
 rw[d] at d'
 injection d' with d1 _
 have:its=its':=by simpa using congrArg Array.toList d1
 subst this
 exact r.inj r'
end
abbrev Cx.wish(X:Cx)(E:Value->Shared->Prop):Cx:={ X with xe:=E }
abbrev Cx.nox(X:Cx):Cx:=X.wish fun _ _=>False
theorem Cx.Ok.wish{X:Cx}(ok:X.Ok)(E:Value->Shared->Prop):(X.wish E).Ok:=
 ⟨ok.mod,ok.kind,ok.glob,ok.blt,ok.above,ok.inj,ok.has,ok.cab,ok.hd,ok.frames,ok.stk,ok.exf,ok.bs,ok.bsz,ok.noex,ok.exfs,ok.funs,ok.frf⟩
theorem Cx.Ok.unwish{X:Cx}{E:Value->Shared->Prop}(ok:(X.wish E).Ok):X.Ok:=
 ⟨ok.mod,ok.kind,ok.glob,ok.blt,ok.above,ok.inj,ok.has,ok.cab,ok.hd,ok.frames,ok.stk,ok.exf,ok.bs,ok.bsz,ok.noex,ok.exfs,ok.funs,ok.frf⟩
section
variable{X : Cx}{pins : List (Addr×Obj)}{σ : St}{H : Hp}{s : Shared}{E : Value → Shared → Prop}
theorem Inv.wish(I:Inv X pins σ H s)(E:Value->Shared->Prop):Inv (X.wish E) pins σ H s:=⟨I.ok.wish E,I.os,I.bare,I.base,I.loc,I.cell,I.free,I.freeC,I.pin,I.hok,I.len⟩
theorem Inv.unwish(I:Inv (X.wish E) pins σ H s):Inv X pins σ H s:=⟨I.ok.unwish,I.os,I.bare,I.base,I.loc,I.cell,I.free,I.freeC,I.pin,I.hok,I.len⟩
theorem SP.unwish{D:Ends}{f:Flow}{s':Shared}(h:SP (X.wish E) pins D f s'):SP X pins D f s':=by
 cases f with
 | next=>obtain⟨σ',H',I,q⟩:=h;exact⟨σ',H',I.unwish,q⟩
 | brk=>obtain⟨σ',H',I,q⟩:=h;exact⟨σ',H',I.unwish,q⟩
 | cont=>obtain⟨σ',H',I,q⟩:=h;exact⟨σ',H',I.unwish,q⟩
 | ret u=>obtain⟨v,σ',H',I,r,q⟩:=h;exact⟨v,σ',H',I.unwish,r,q⟩
theorem PSs.nox{st:List Stmt}{t:TS}(h:PSs X.nox st t):PSs X st t:=fun pins s σ H D I hw=>
 wpAny_mono (h pins s σ H D (I.wish _) hw) (fun _ _ q=>q.unwish) fun _ _ z=>False.elim z
end
section
variable{X : Cx}{st : Stmt}{rest : List Stmt}{t u : TS}{e : Expr}{te : TE}{pos : Pos}
def Zd4:TS:=fun D σ H=>D.nx σ H
def tSeq(t u:TS):TS:=fun D σ H=>t { D with nx:=u D } σ H
theorem zxv:PSs X [] Zd4:=fun _ _ σ H _ I h=>wpAny_execs_nil ⟨σ,H,I,h⟩
theorem zob(h1:PS X st t)(h2:PSs X rest u):PSs X (st::rest) (tSeq t u):=by
 intro pins s σ H D I h
 refine wpAny_execs_cons (thn (h1 pins s σ H { D with nx:=u D } I h) fun f s1 q=>?_)
 cases f with
 | next=>
  obtain⟨σ',H',I',q⟩:=q
  exact h2 pins s1 σ' H' D I' q
 | ret v=>exact q
 | brk=>exact q
 | cont=>exact q
theorem zk3(h1:PS X st t):PSs X [st] t:=by
 intro pins s σ H D I h
 refine wpAny_execs_cons (thn (h1 pins s σ H D I h) fun f s1 q=>?_)
 cases f with
 | next=>exact wpAny_execs_nil q
 | ret v=>exact q
 | brk=>exact q
 | cont=>exact q
def Zag:TS:=fun D σ H=>D.bk σ H
theorem zul:PS X (.Break pos) Zag:=fun _ _ σ H _ I h=>wpAny_Break ⟨σ,H,I,h⟩
theorem Inv.quiet{pins:List (Addr×Obj)}{σ:St}{H:Hp}{s:Shared}(I:Inv X pins σ H s):interactive X.env=false:=by simp[interactive,I.ok.kind]
def Zd5(te:TE):TS:=fun D σ H=>te σ H fun _ H1=>D.nx σ H1
theorem zq4(he:PE X e te)(hs:swapsWith e none pos.line X.env=pure false:=by rfl):PS X (.Expr e pos) (Zd5 te):=by
 intro pins s σ H D I h
 exact wpAny_Expr_any (thn (he pins s σ H _ I h) fun v s1 ⟨x,H1,I1,r1,q1⟩=>⟨σ,H1,I1,q1⟩) I.quiet hs
def tRet(te:TE):TS:=fun D σ H=>te σ H D.rt
theorem zoc(he:PE X e te):PS X (.Return (some e) pos) (tRet te):=by
 intro pins s σ H D I h
 exact wpAny_Return_some (thn (he pins s σ H _ I h) fun v s1 ⟨x,H1,I1,r1,q1⟩=>⟨x,σ,H1,I1,r1,q1⟩)
def tIfS(c:TT)(t u:TS):TS:=fun D σ H=>c σ H fun b H1=>if b=true then t D σ H1 else u D σ H1
theorem Zeg{c:Expr}{a b:List Stmt}{tc:TT}(hc:PT X c tc)(ha:PSs X a t)(hb:PSs X b u):PS X (.If c a b pos) (tIfS tc t u):=by
 intro pins s σ H D I h
 refine wpAny_If (thn (hc pins s σ H _ I h) fun d s1 ⟨H1,I1,q1⟩=>?_)
 cases d with
 | true=>exact ha pins s1 σ H1 D I1 q1
 | false=>exact hb pins s1 σ H1 D I1 q1
end
abbrev TG:=V->St->Hp->(St->Hp->Prop)->Prop
abbrev TGs:=List V->St->Hp->(St->Hp->Prop)->Prop
def PG(X:Cx)(target:Expr)(t:TG):Prop:=
 ∀(pins:List (Addr×Obj))(s:Shared)(σ:St)(H:Hp)(v:V)(u:Value)(Q:St->Hp->Prop),Inv X pins σ H s->RelV v u->t v σ H Q->
  wpAny (model X.prog X.w) X.A (assign target X.env u) (fun _ s'=>∃σ' H',Inv X pins σ' H' s'/\Q σ' H') X.xe s
def PGs(X:Cx)(ts:List Expr)(t:TGs):Prop:=
 ∀(pins:List (Addr×Obj))(s:Shared)(σ:St)(H:Hp)(vs:List V)(us:List Value)(Q:St->Hp->Prop),Inv X pins σ H s->Vals vs us->t vs σ H Q->
  wpAny (model X.prog X.w) X.A (assignInOrder ((assignEach ts X.env).map (·.2)) us) (fun _ s'=>∃σ' H',Inv X pins σ' H' s'/\Q σ' H') X.xe s
abbrev TSet:=V->V->V->Hp->(Hp->Prop)->Prop
abbrev TIp:=V->V->Hp->VK->Prop
def PIp(X:Cx)(op:Operator)(t:TIp):Prop:=
 ∀(pins:List (Addr×Obj))(s:Shared)(σ:St)(H:Hp)(x y:V)(v u:Value)(Q:VK),Inv X pins σ H s->RelV x v->RelV y u->t x y H Q->
  wpAny (model X.prog X.w) X.A (inplaceOp op v u) (EP X pins σ Q) X.xe s
section
variable{X : Cx}{pos : Pos}
def Zca(i:Nat):TG:=fun v σ H Q=>Q (σ.set i (some v)) H
theorem zm9{i:Nat}{x:Str}(hN:X.N.Nodup)(hi:X.N[i]?=some x)(hx:Loc X.env.scope x)(hf:X.fn x=true\/X.env.scope.names.lookup x=some .local:=by first | exact .inl rfl | exact .inr rfl | assumption):PG X (.Name x pos) (Zca i):=by
 intro pins s σ H v u Q I r h
 exact wpAny_assign_Name (zky I hN hi hx r (fun s' I'=>⟨_,H,I',h⟩) hf)
def gNil:TGs:=fun vs σ H Q=>vs=[]/\Q σ H
def Zfg(t:TG)(u:TGs):TGs:=fun vs σ H Q=>∃v r,vs=v::r/\t v σ H fun σ' H'=>u r σ' H' Q
theorem zrb:PGs X [] gNil:=by
 intro pins s σ H vs us Q I r h
 obtain⟨e,h⟩:=h
 subst e
 cases r
 exact assignInOrder_nil ⟨σ,H,I,h⟩
theorem zoe{e:Expr}{es:List Expr}{t:TG}{u:TGs}(h1:PG X e t)(h2:PGs X es u)
  (hs:(assignEach (e::es) X.env).map (·.2)=assign e X.env::(assignEach es X.env).map (·.2):=by rfl):PGs X (e::es) (Zfg t u):=by
 intro pins s σ H vs us Q I r h
 obtain⟨v,vr,e1,h⟩:=h
 subst e1
 cases r with
 | cons r rr=>
  rw[hs]
  refine assignInOrder_cons (thn (h1 pins s σ H _ _ _ I r h) fun _ s1 ⟨σ1,H1,I1,q1⟩=>?_)
  exact h2 pins s1 σ1 H1 _ _ Q I1 rr q1
def gTup(K:PySem.W.Frag)(n:Nat)(t:TGs):TG:=fun v σ H Q=>∃a xs,v=.ref a/\SqT K H a xs/\xs.length=n/\t xs σ H Q
theorem zwh{es:List Expr}{k:Nat}{t:TGs}{n:Nat}(hc:X.calm=true)(h:PGs X es t)
  (hn:(assignEach es X.env).length=n:=by rfl) (hst:(assignEach es X.env).findIdx? (·.1)=none:=by rfl):PG X (.Tuple es k pos) (gTup X.K n t):=by
 intro pins s σ H v u Q I r hw
 obtain⟨a,xs,e1,hq,hl,hw⟩:=hw
 subst e1
 cases r
 obtain⟨its,rv,ht,hz⟩:=I.tuple hq
 refine assign_Tuple_tuple (I.ok.hd hc) ht (by simp[hn,← hl,rv.length]) hst fun h' hx=>?_
 have I1:Inv X pins σ H { s with heap:=h' }:=I.kept (t':=s.toks) fun b o e=>hx b o (Nat.ne_of_lt (Heap.lt_size e)) e
 exact h pins _ σ H xs _ Q I1 (by simpa using rv) hw
def gSub(to ti:TE)(t:TSet):TG:=fun v σ H Q=>to σ H fun o H1=>ti σ H1 fun i H2=>t o i v H2 fun H3=>Q σ H3
def tAsg(te:TE)(g:TG):TS:=fun D σ H=>te σ H fun x H1=>g x σ H1 D.nx
theorem zwf{i:Nat}{x:Str}{e:Expr}{te:TE}{pos':Pos}(hN:X.N.Nodup)(hi:X.N[i]?=some x)(hx:Loc X.env.scope x)(he:PE X e te)(hs:swapsWith e (some (.Name x pos')) pos.line X.env=pure false:=by rfl)(hf:X.fn x=true\/X.env.scope.names.lookup x=some .local:=by first | exact .inl rfl | exact .inr rfl | assumption) :
  PS X (.Assign [.Name x pos'] e pos) (tAsg te (Zca i)):=by
 intro pins s σ H D I h
 refine wpAny_Assign_Name (thn (he pins s σ H _ I h) fun v s1 ⟨y,H1,I1,r1,q1⟩=>?_) hs
 exact zky I1 hN hi hx r1 (fun s2 I2=>⟨_,H1,I2,q1⟩) hf
def tAug(i:Nat)(te:TE)(ti:TIp):TS:=fun D σ H=>∃x,σ[i]?=some (some x)/\te σ H fun y H1=>ti x y H1 fun z H2=>D.nx (σ.set i (some z)) H2
theorem Zat{i:Nat}{x:Str}{e:Expr}{te:TE}{op:Operator}{ti:TIp}{pos':Pos}(hN:X.N.Nodup)(hi:X.N[i]?=some x)(hx:Loc X.env.scope x)(he:PE X e te)(ho:PIp X op ti)(hf:X.fn x=true\/X.env.scope.names.lookup x=some .local:=by first | exact .inl rfl | exact .inr rfl | assumption) :
  PS X (.AugAssign (.Name x pos') op e pos) (tAug i te ti):=by
 intro pins s σ H D I h
 obtain⟨v,e1,h⟩:=h
 obtain⟨m,hn,hl⟩:=I.loc
 have vis:Vis X.env.scope x:=by rcases hx with k | k;exact .inl k;exact .inr (.inl k)
 obtain⟨u,r,l⟩:=hl i x v hi e1 vis
 refine wpAny_AugAssign_Name ?_
 have go:wpAny (model X.prog X.w) X.A (eval e X.env) (fun w s₂=>wpAny (model X.prog X.w) X.A (inplaceOp op u w) (fun r s₃=>wpAny (model X.prog X.w) X.A (storeName X.env x r) (fun _=>SP X pins D .next) X.xe s₃) X.xe s₂) X.xe s:=by
  refine thn (he pins s σ H _ I h) fun w s1 ⟨y,H1,I1,r1,q1⟩=>?_
  refine thn (ho pins s1 σ H1 v y u w _ I1 r r1 q1) fun z s2 ⟨zv,H2,I2,r2,q2⟩=>?_
  exact zky I2 hN hi hx r2 (fun s3 I3=>⟨_,H2,I3,q2⟩) hf
 rcases l with⟨hk,hm⟩|⟨hk,c,hc,hcell⟩
 ·exact wpAny_loadName_local I.ok.kind hk hn hm go
 ·rcases hk with hk | hk
  ·exact wpAny_loadName_cell I.ok.kind hk hc hcell go
  ·rcases hx with k | k
   ·have:X.env.scope.names.lookup x=some .free:=hk
    rw[k] at this;cases this
   ·have:X.env.scope.names.lookup x=some .free:=hk
    rw[k] at this;cases this
def ipI(f:Int->Int->Int):TIp:=fun x y H Q=>∃i j,x=.int i/\y=.int j/\Q (.int (f i j)) H
theorem Zb7:PIp X .Add (ipI fun i j=>i+j):=by
 intro pins s σ H x y v u Q I r1 r2 h
 obtain⟨i,j,e1,e2,q⟩:=h
 subst e1;subst e2
 obtain⟨t,rfl⟩:=r1
 obtain⟨t',rfl⟩:=r2
 exact iadd_int ⟨.int _,H,I.tok _,⟨_,rfl⟩,q⟩
end
section
variable{X : Cx}{pos : Pos}
def Zab(c:TT)(tb:TS):TS:=fun D σ H=>∃W:Nat->St->Hp->Prop,(∃m,W m σ H)/\∀m σ H,W m σ H->
 c σ H fun b H1=>if b=true then ∃N:St->Hp->Prop,(∀σ' H',N σ' H'->∃m',m'<m/\W m' σ' H')/\tb { D with nx:=N,ct:=N,bk:=D.nx } σ H1 else D.nx σ H1
theorem zuk{c:Expr}{body:List Stmt}{tc:TT}{tb:TS}(hp:PassesOwn (model X.prog X.w) X.A X.env X.xe)(hc:PT X c tc)(hb:PSs X body tb):PS X (.While c body [] pos) (Zab tc tb):=by
 intro pins s σ H D I h
 obtain⟨W,⟨m0,w0⟩,turn⟩:=h
 refine wpAny_While (codeAny_whileLoop (fun n s'=>∃σ' H',Inv X pins σ' H' s'/\W n σ' H') ?_ m0 ⟨σ,H,I,w0⟩)
 rintro n s1 ⟨σ1,H1,I1,w1⟩
 refine wpAny_passesOwn hp (thn (hc pins s1 σ1 H1 _ I1 (turn n σ1 H1 w1)) fun b s2 ⟨H2,I2,q2⟩=>?_)
 cases b with
 | true=>
  obtain⟨N,hN,q2⟩:=q2
  rw[if_pos rfl]
  refine wpAny_passesOwn hp (thn (hb pins s2 σ1 H2 _ I2 q2) fun f s3 q3=>?_)
  cases f with
  | next=>
   obtain⟨σ3,H3,I3,n3⟩:=q3
   obtain⟨m',hm,w3⟩:=hN σ3 H3 n3
   exact⟨m',hm,σ3,H3,I3,w3⟩
  | cont=>
   obtain⟨σ3,H3,I3,n3⟩:=q3
   obtain⟨m',hm,w3⟩:=hN σ3 H3 n3
   exact⟨m',hm,σ3,H3,I3,w3⟩
  | brk=>exact q3
  | ret v=>exact q3
 | false=>
  rw[if_neg Bool.false_ne_true]
  exact wpAny_execs_nil ⟨σ1,H2,I2,q2⟩
end
structure It where
 go:Nat->Hp->Prop
 yld:Nat->Hp->V->Hp->Prop
 stop:Nat->Hp->Prop
def FpOk(X:Cx)(pins:List (Addr×Obj))(H:Hp)(b:Addr):Prop:=
 H b=none/\b≠X.env.locals/\b ∉ X.fs/\(b∈X.ex\/X.s₀.heap.objs.size<=b)/\(∀x c,X.env.cells.lookup x=some c->c≠b)/\∀p∈X.pn++pins,p.1≠b
theorem Inv.fpOk{X:Cx}{pins:List (Addr×Obj)}{σ:St}{H H':Hp}{s:Shared}{b:Addr}(I:Inv X pins σ H s)(hb:s.heap.objs.size<=b)(hn:H' b=none):FpOk X pins H' b:=by
 refine⟨hn,Nat.ne_of_gt (Nat.lt_of_lt_of_le I.lt hb),I.nofs hb,.inr (Nat.le_trans I.sz hb),fun x c e z=>?_,fun p hp z=>?_⟩
 ·obtain⟨v,q⟩:=I.cell x c e
  exact absurd (Nat.lt_of_lt_of_le q.lt (by rw[z];exact hb)) (Nat.lt_irrefl _)
 ·exact absurd (Nat.lt_of_lt_of_le (Heap.lt_size (I.pin p hp).1) (by rw[z];exact hb)) (Nat.lt_irrefl _)
structure Turn(P:Program)(w:World)(K:PySem.W.Frag)(tg:Expr)(J:It)(fp:List Addr)(it:Addr)(tn:Nat->Heap->Prop):Prop where
 mem:it∈fp
 obj:∀i h,tn i h->∀b∈fp,∃o,h.get? b=some o/\∀v,o.data≠.cell v
 keep:∀i h h',tn i h->(∀b∈fp,∀o,h.get? b=some o->h'.get? b=some o)->tn i h'
 item:∀(X:Cx),X.prog=P->X.w=w->X.K=K->X.calm=true->∀(i:Nat)(pins:List (Addr×Obj))(s:Shared)(σ:St)(H:Hp)(E:Value->Shared->Prop),Inv X pins σ H s->(∀b∈fp,FpOk X pins H b)->tn i s.heap->J.go i H->
  wpAny (model P w) X.A (pyNext (.ref it)) (fun r s1=>∃u,r=some u/\
   wpAny (model P w) X.A (letOwnedTupleGo tg (.ref it) u) (fun _ s2=>∃x H',Inv X pins σ H' s2/\RelV x u/\J.yld i H x H'/\tn (i+1) s2.heap/\∀b∈fp,H' b=none) E s1) E s
 done:∀(X:Cx),X.prog=P->X.w=w->X.K=K->X.calm=true->∀(i:Nat)(pins:List (Addr×Obj))(s:Shared)(σ:St)(H:Hp)(E:Value->Shared->Prop),Inv X pins σ H s->(∀b∈fp,FpOk X pins H b)->tn i s.heap->J.stop i H->
  wpAny (model P w) X.A (pyNext (.ref it)) (fun r s1=>r=none/\Inv X pins σ H s1) E s
 self:∀(A:Around)(i:Nat)(s:Shared)(Q:Value->Shared->Prop)(E:Value->Shared->Prop),tn i s.heap->Q (.ref it) s->wpAny (model P w) A (pyIter (.ref it)) Q E s
abbrev TI:=St->Hp->(It->Hp->Prop)->Prop
def PIE(X:Cx)(pins:List (Addr×Obj))(σ:St)(tg:Expr)(R:It->Hp->Prop)(itv:Value)(s2:Shared):Prop:=
 ∃(it:Addr)(fp:List Addr)(tn:Nat->Heap->Prop)(J:It)(H':Hp),itv=.ref it/\Inv X pins σ H' s2/\Turn X.prog X.w X.K tg J fp it tn/\tn 0 s2.heap/\(∀b∈fp,FpOk X pins H' b)/\R J H'
def PI(X:Cx)(tg iter:Expr)(wi:TI):Prop:=
 ∀(pins:List (Addr×Obj))(s:Shared)(σ:St)(H:Hp)(R:It->Hp->Prop),Inv X pins σ H s->wi σ H R->
  wpAny (model X.prog X.w) X.A (eval iter X.env) (fun v s1=>wpAny (model X.prog X.w) X.A (pyIter v) (PIE X pins σ tg R) X.xe s1) X.xe s
theorem zse{M:Model}{A:Around}{E:Value->Shared->Prop}{s:Shared}{tg:Expr}{it:Addr}{u:Value}{o:Obj}{n:String}{vs:Array Value}{Q:Unit->Shared->Prop}(ho:s.heap.get? it=some o)(hc:o.cls=.type n)(hd:o.data=.fields vs)
    (hn:["enumerate","zip","dict_itemiterator","dict_reverseitemiterator","odict_iterator","itertools.zip_longest","itertools.pairwise"].contains n=false) (hQ:Q () s):wpAny M A (letOwnedTupleGo tg (.ref it) u) Q E s:=by
  unfold letOwnedTupleGo
  cases tg <;> first
    | exact wpAny_pure hQ
    | (cases u <;> first
        | exact wpAny_pure hQ
        | (refine wpAny_bind (wpAny_load ho ?_)
           rw[hc,hd]
           show wpAny M A (if (["enumerate","zip","dict_itemiterator","dict_reverseitemiterator","odict_iterator","itertools.zip_longest","itertools.pairwise"].contains n && vs[0]? == some (rawInt _))=true then _ else _) Q E s
           rw[if_neg (by intro h;rw[hn,Bool.false_and] at h;cases h)]
           exact wpAny_pure hQ))
def Itl(K:PySem.W.Frag)(a:Addr):It:=
 ⟨fun i H=>∃xs x,SqL K H a xs/\xs[i]?=some x,fun i H x H'=>H'=H/\∀xs,SqL K H a xs->xs[i]?=some x,fun i H=>∃xs,SqL K H a xs/\xs.length<=i⟩
def Itt(K:PySem.W.Frag)(a:Addr):It:=
 ⟨fun i H=>∃xs x,SqT K H a xs/\xs[i]?=some x,fun i H x H'=>H'=H/\∀xs,SqT K H a xs->xs[i]?=some x,fun i H=>∃xs,SqT K H a xs/\xs.length<=i⟩
def Itr(lo:Int)(n:Nat):It:=⟨fun i _=>i<n,fun i H x H'=>H'=H/\x=.int (lo+i),fun i _=>n<=i⟩
theorem zlr{P:Program}{w:World}{K:PySem.W.Frag}{tg:Expr}(a it:Addr):Turn P w K tg (Itl K a) [it] it (fun i h=>h.IsListIter it a i) where
 mem:=by simp
 obj:=fun i h st b hb=>by
  have e:b=it:=by simpa using hb
  subst e
  obtain⟨o,e,c,d⟩:=st
  exact⟨o,e,fun v z=>by rw[d] at z;cases z⟩
 keep:=fun i h h' st k=>st.at fun o e=>k it (by simp) o e
 item:=by
  intro X hP hw hK hc i pins s σ H E I hf st hg
  subst hP hw hK
  obtain⟨xs,x,hq,hx⟩:=hg
  obtain⟨its,rv,p,hz⟩:=I.list hq
  obtain⟨u,hu,ru⟩:=rv.get hx
  obtain⟨f0,f1,f2,f3,f4,f5⟩:=hf it (by simp)
  refine wpAny_pyNext_list_item st p.isList (x:=u) (by simpa using hu) fun h' st' sb=>?_
  have I1:Inv X pins σ H { s with heap:=h' }:=I.turned (t':=s.toks) (fun b o hb e=>(sb.2 b hb).trans e) f0 f1 f3 f4 f5
  obtain⟨o,e,c,d⟩:=id st'
  exact⟨u,rfl,zse (s:={ s with heap:=h' }) e c d (by decide) ⟨x,H,I1,ru,⟨rfl,fun ys hy=>by rw[I.list_inj hy hq];exact hx⟩,st',fun b hb=>(hf b hb).1⟩⟩
 done:=by
  intro X hP hw hK hc i pins s σ H E I hf st hg
  subst hP hw hK
  obtain⟨xs,hq,hx⟩:=hg
  obtain⟨its,rv,p,hz⟩:=I.list hq
  obtain⟨f0,f1,f2,f3,f4,f5⟩:=hf it (by simp)
  have hl:=rv.length
  exact wpAny_pyNext_list_end (I.ok.hd hc) st p.isList (by simp;omega) fun h' eb=>⟨rfl,I.turned (t':=s.toks) (fun b o hb e=>eb b o hb e) f0 f1 f3 f4 f5⟩
 self:=fun _ _ _ _ _ st h=>wpAny_pyIter_listiter st h
theorem zph{P:Program}{w:World}{K:PySem.W.Frag}{tg:Expr}(a it:Addr):Turn P w K tg (Itt K a) [it] it (fun i h=>h.IsTupleIter it a i) where
 mem:=by simp
 obj:=fun i h st b hb=>by
  have e:b=it:=by simpa using hb
  subst e
  obtain⟨o,e,c,d⟩:=st
  exact⟨o,e,fun v z=>by rw[d] at z;cases z⟩
 keep:=fun i h h' st k=>st.at fun o e=>k it (by simp) o e
 item:=by
  intro X hP hw hK hc i pins s σ H E I hf st hg
  subst hP hw hK
  obtain⟨xs,x,hq,hx⟩:=hg
  obtain⟨its,rv,p,hz⟩:=I.tuple hq
  obtain⟨u,hu,ru⟩:=rv.get hx
  obtain⟨f0,f1,f2,f3,f4,f5⟩:=hf it (by simp)
  refine wpAny_pyNext_tuple_item st (show s.heap.IsTuple a its.toArray from p) (x:=u) (by simpa using hu) fun h' st' sb=>?_
  have I1:Inv X pins σ H { s with heap:=h' }:=I.turned (t':=s.toks) (fun b o hb e=>(sb.2 b hb).trans e) f0 f1 f3 f4 f5
  obtain⟨o,e,c,d⟩:=id st'
  exact⟨u,rfl,zse (s:={ s with heap:=h' }) e c d (by decide) ⟨x,H,I1,ru,⟨rfl,fun ys hy=>by rw[I.tuple_inj hy hq];exact hx⟩,st',fun b hb=>(hf b hb).1⟩⟩
 done:=by
  intro X hP hw hK hc i pins s σ H E I hf st hg
  subst hP hw hK
  obtain⟨xs,hq,hx⟩:=hg
  obtain⟨its,rv,p,hz⟩:=I.tuple hq
  obtain⟨f0,f1,f2,f3,f4,f5⟩:=hf it (by simp)
  have hl:=rv.length
  exact wpAny_pyNext_tuple_end (I.ok.hd hc) st (show s.heap.IsTuple a its.toArray from p) (by simp;omega) fun h' eb=>⟨rfl,I.turned (t':=s.toks) (fun b o hb e=>eb b o hb e) f0 f1 f3 f4 f5⟩
 self:=fun _ _ _ _ _ st h=>wpAny_pyIter_tupleiter st h
theorem zpj{P:Program}{w:World}{K:PySem.W.Frag}{tg:Expr}(it:Addr)(lo:Int)(n:Nat):Turn P w K tg (Itr lo n) [it] it (fun i h=>IsRangeIter h it (lo+(i:Nat) * 1) ((n:Int)-(i:Nat)) 1) where
 mem:=by simp
 obj:=fun i h st b hb=>by
  have e:b=it:=by simpa using hb
  subst e
  exact⟨_,st,fun v z=>by
   have z':Data.fields _=Data.cell v:=z
   cases z'⟩
 keep:=fun i h h' st k=>k it (by simp) _ st
 item:=by
  intro X hP hw hK hc i pins s σ H E I hf st hg
  subst hP hw hK
  obtain⟨f0,f1,f2,f3,f4,f5⟩:=hf it (by simp)
  have W:=Walks.range (prog:=X.prog) (w:=X.w) (I.ok.hd hc) it lo 1 n
  refine W.item i s _ _ hg st fun v h' tk hv st' kk=>?_
  obtain⟨t,rfl⟩:=hv
  have I1:Inv X pins σ H { s with heap:=h',toks:=tk }:=I.turned (fun b o hb e=>kk b o (by simpa using hb) e) f0 f1 f3 f4 f5
  refine⟨_,rfl,zse (s:={ s with heap:=h',toks:=tk }) (n:="range_iterator") st' rfl rfl (by decide) ⟨.int (lo+i),H,I1,⟨t,?_⟩,⟨rfl,rfl⟩,st',fun b hb=>(hf b hb).1⟩⟩
  rw[Int.mul_one]
 done:=by
  intro X hP hw hK hc i pins s σ H E I hf st hg
  subst hP hw hK
  obtain⟨f0,f1,f2,f3,f4,f5⟩:=hf it (by simp)
  exact wpAny_pyNext_range_end (I.ok.hd hc) st (by have:n<=i:=hg;omega) fun h' eb=>⟨rfl,I.turned (t':=s.toks) (fun b o hb e=>eb b o hb e) f0 f1 f3 f4 f5⟩
 self:=fun _ _ _ _ _ st h=>wpAny_pyIter_rangeiter st h
end L2
namespace L2
open PySem PySem.Spec PyProof.Rows
section
variable{X : Cx}{tg : Expr}
theorem zn8{pins:List (Addr×Obj)}{σ:St}{H:Hp}{s:Shared}{R:It->Hp->Prop}{E:Value->Shared->Prop}{lo hi:Int}{t u v:Tok}{tk:Nat}(I:Inv X pins σ H s)(h1:-(2 ^ 62)<=lo)(h2:lo<2 ^ 62)(h3:-(2 ^ 62)<=hi)(h4:hi<2 ^ 62)
  (q:R (Itr lo (hi-lo).toNat) H):wpAny (model X.prog X.w) X.A (pyIter (.ref s.heap.objs.size)) (PIE X pins σ tg R) E { s with heap:=s.heap.push { cls:=.type "range",data:=.fields #[.int lo t,.int hi u,.int 1 v] },toks:=tk }:=by
 refine wpAny_pyIter_range (IsRange.new ..) (small_one h1 h2 h3 h4) ?_
 have I1:Inv X pins σ H { s with heap:=s.heap.push { cls:=.type "range",data:=.fields #[.int lo t,.int hi u,.int 1 v] },toks:=tk }:=I.kept fun b o e=>Heap.get?_push_of_some _ e
 refine⟨(s.heap.push { cls:=.type "range",data:=.fields #[.int lo t,.int hi u,.int 1 v] }).objs.size,[(s.heap.push { cls:=.type "range",data:=.fields #[.int lo t,.int hi u,.int 1 v] }).objs.size],_,_,H,rfl,
  I1.kept (t':=tk) fun b o e=>Heap.get?_push_of_some _ e,zpj _ lo (hi-lo).toNat,?_,fun b hb=>?_,q⟩
 ·have e1:lo+((0:Nat):Int) * 1=lo:=by simp
  have e2:(((hi-lo).toNat:Nat):Int)-((0:Nat):Int)=Builtin.Range.rangeSize lo hi 1:=by rw[rangeSize_one];split <;> omega
  show IsRangeIter _ _ (lo+((0:Nat):Int) * 1) ((((hi-lo).toNat:Nat):Int)-((0:Nat):Int)) 1
  rw[e1,e2]
  exact Heap.get?_push_size _ rfl
 ·have e:b=(s.heap.push { cls:=.type "range",data:=.fields #[.int lo t,.int hi u,.int 1 v] }).objs.size:=by simpa using hb
  subst e
  exact I1.fpOk (Nat.le_refl _) (I1.hok.fresh (Nat.le_refl _))
def Zfd(ta:TA):TI:=fun σ H R=>ta σ H fun vs H1=>∃j:Int,vs=[.int j]/\-(2 ^ 62)<=j/\j<2 ^ 62/\R (Itr 0 j.toNat) H1
def Zfc(ta:TA):TI:=fun σ H R=>ta σ H fun vs H1=>∃i j:Int,vs=[.int i,.int j]/\(-(2 ^ 62)<=i/\i<2 ^ 62/\-(2 ^ 62)<=j/\j<2 ^ 62)/\R (Itr i (j-i).toNat) H1
theorem zra {a:Expr} {ta:TA} {p pos:Pos} (hg:Gl X "range") (hm:X.mg "range"=none) (ha:PA X [a] ta) (hs:starEach [a] X.env=[(false,eval a X.env)]:=by rfl):PI X tg (.Call (.Name "range" p) [a] [] pos) (Zfd ta):=by
 intro pins s σ H R I h
 refine Call_ (zih I hg hm boot_range (PyProof.Rows.callWith_type1 (thn (ha pos pins s σ H _ I h) fun us s1 ⟨vs,H1,I1,r1,q1⟩=>?_) hs rfl))
 obtain⟨j,e,q1,q2,q⟩:=q1
 subst e
 cases r1 with
 | cons r rr=>
  cases rr
  obtain⟨t,rfl⟩:=r
  exact call_range_1 (zn8 I1 (by omega) (by omega) q1 q2 (by simpa using q))
theorem zq9 {a b:Expr} {ta:TA} {p pos:Pos} (hg:Gl X "range") (hm:X.mg "range"=none) (ha:PA X [a,b] ta) (hs:starEach [a,b] X.env=[(false,eval a X.env),(false,eval b X.env)]:=by rfl) (hs2:starEach [b] X.env=[(false,eval b X.env)]:=by rfl) :
  PI X tg (.Call (.Name "range" p) [a,b] [] pos) (Zfc ta):=by
 intro pins s σ H R I h
 refine Call_ (zih I hg hm boot_range (PyProof.Rows.callWith_type1 (thn (ha pos pins s σ H _ I h) fun us s1 ⟨vs,H1,I1,r1,q1⟩=>?_) (by rw[hs,hs2]) (by rw[hs2];rfl)))
 obtain⟨i,j,e,⟨q1,q2,q3,q4⟩,q⟩:=q1
 subst e
 cases r1 with
 | cons r rr=>
  cases rr with
  | cons r' rr=>
   cases rr
   obtain⟨t,rfl⟩:=r
   obtain⟨t',rfl⟩:=r'
   exact call_range_2 (zn8 I1 q1 q2 q3 q4 q)
def tFor(wi:TI)(g:TG)(tb:TS):TS:=fun D σ H=>wi σ H fun J H1=>∃W:Nat->Nat->St->Hp->Prop,(∃m,W 0 m σ H1)/\∀i m σ H,W i m σ H->
 (J.stop i H/\D.nx σ H)\/(J.go i H/\∃N:St->Hp->Prop,(∀σ' H',N σ' H'->∃m',m'<m/\W (i+1) m' σ' H')/\∀x H',J.yld i H x H'->g x σ H' fun σ2 H2=>tb { D with nx:=N,ct:=N,bk:=D.nx } σ2 H2)
def zki(fp:List Addr)(h:Heap):List (Addr×Obj):=fp.filterMap fun b=>(h.get? b).map fun o=>(b,o)
theorem zga{fp:List Addr}{h:Heap}{b:Addr}{o:Obj}(hb:b∈fp)(e:h.get? b=some o):(b,o)∈zki fp h:=List.mem_filterMap.mpr ⟨b,hb,by rw[e];rfl⟩
theorem zrl{fp:List Addr}{h:Heap}{p:Addr×Obj}(hp:p∈zki fp h):p.1∈fp/\h.get? p.1=some p.2:=by
 obtain⟨b,hb,e⟩:=List.mem_filterMap.mp hp
 cases q:h.get? b with
 | none=>rw[q] at e;cases e
 | some o=>
  rw[q] at e
  have e':(b,o)=p:=Option.some.inj e
  subst e'
  exact⟨hb,q⟩
theorem Inv.pinned{pins:List (Addr×Obj)}{σ:St}{H:Hp}{s:Shared}{fp:List Addr}(I:Inv X pins σ H s)(hf:∀b∈fp,FpOk X pins H b)(ho:∀b∈fp,∃o,s.heap.get? b=some o/\∀v,o.data≠.cell v):Inv X (pins++zki fp s.heap) σ H s:=
 I.pins_of fun p hp=>(List.mem_append.mp hp).elim (fun z=>I.pin p (List.mem_append_right _ z)) fun z=>by
  obtain⟨hb,e⟩:=zrl z
  obtain⟨f0,f1,f2,_⟩:=hf p.1 hb
  obtain⟨o,e',d⟩:=ho p.1 hb
  rw[e] at e';cases e'
  exact⟨e,f0,f1,f2,d⟩
theorem Inv.unpinned{pins pl:List (Addr×Obj)}{σ:St}{H:Hp}{s:Shared}(I:Inv X (pins++pl) σ H s):Inv X pins σ H s:=I.pins_of fun p hp=>I.pin p (List.mem_append_right _ (List.mem_append_left _ hp))
theorem zwg{iter:Expr}{body:List Stmt}{wi:TI}{g:TG}{tb:TS}{pos:Pos}(hp:PassesOwn (model X.prog X.w) X.A X.env X.xe)(hc:X.calm=true)(hi:PI X tg iter wi)(hg:PG X tg g)(hb:PSs X body tb)
  (hs:∀x,foldedSetIterable iter X.env x=pure x:=by intro _;rfl):PS X (.For tg iter body [] pos) (tFor wi g tb):=by
 intro pins s σ H D I h
 refine wpAny_For (thn (hi pins s σ H _ I h) fun v s1 h1=>thn h1 fun itv s2 h2=>?_) hs
 obtain⟨it,fp,tn,J,H2,e,I2,T,st2,f2,W,⟨m0,w0⟩,turn⟩:=h2
 subst e
 have stat:∀{H':Hp},(∀b∈fp,H' b=none)->∀b∈fp,FpOk X pins H' b:=fun hn b hb=>⟨hn b hb,(f2 b hb).2⟩
 refine codeAny_forLoop_any (fun n s'=>∃i σ' H',Inv X pins σ' H' s'/\tn i s'.heap/\(∀b∈fp,H' b=none)/\W i n σ' H') ?_ m0 ⟨0,σ,H2,I2,st2,fun b hb=>(f2 b hb).1,w0⟩
 rintro n s3 ⟨i,σ3,H3,I3,st3,fr3,w3⟩
 rcases turn i n σ3 H3 w3 with⟨stop,qn⟩|⟨go,N,hN,step⟩
 ·refine wpAny_passesOwn hp (thn (T.done X rfl rfl rfl hc i pins s3 σ3 H3 X.xe I3 (stat fr3) st3 stop) fun r s4 ⟨hr,I4⟩=>?_)
  subst hr
  exact wpAny_execs_nil ⟨σ3,H3,I4,qn⟩
 ·refine wpAny_passesOwn hp (thn (T.item X rfl rfl rfl hc i pins s3 σ3 H3 X.xe I3 (stat fr3) st3 go) fun r s4 ⟨u,hr,h4⟩=>?_)
  subst hr
  refine wpAny_passesOwn hp (thn h4 fun _ s5 ⟨x,H5,I5,r5,y5,st5,fr5⟩=>?_)
  have I5':=I5.pinned (stat fr5) (T.obj _ _ st5)
  refine wpAny_passesOwn hp (thn (hg _ s5 σ3 H5 x u _ I5' r5 (step x H5 y5)) fun _ s6 ⟨σ6,H6,I6,q6⟩=>?_)
  refine wpAny_passesOwn hp (thn (hb _ s6 σ6 H6 _ I6 q6) fun f s7 q7=>?_)
  have again:∀{σ7:St}{H7:Hp},Inv X (pins++zki fp s5.heap) σ7 H7 s7->N σ7 H7->∃m,m<n/\∃i σ' H',Inv X pins σ' H' s7/\tn i s7.heap/\(∀b∈fp,H' b=none)/\W i m σ' H':=fun {σ7 H7} I7 n7=>by
   obtain⟨m',hm,w7⟩:=hN σ7 H7 n7
   refine⟨m',hm,i+1,σ7,H7,I7.unpinned,T.keep _ _ _ st5 fun b hb o e=>(I7.pin (b,o) (List.mem_append_right _ (List.mem_append_right _ (zga hb e)))).1,fun b hb=>?_,w7⟩
   obtain⟨o,e,d⟩:=T.obj _ _ st5 b hb
   exact(I7.pin (b,o) (List.mem_append_right _ (List.mem_append_right _ (zga hb e)))).2.1
  cases f with
  | next=>obtain⟨σ7,H7,I7,n7⟩:=q7;exact again I7 n7
  | cont=>obtain⟨σ7,H7,I7,n7⟩:=q7;exact again I7 n7
  | brk=>obtain⟨σ7,H7,I7,q7⟩:=q7;exact⟨σ7,H7,I7.unpinned,q7⟩
  | ret v=>obtain⟨x7,σ7,H7,I7,r7,q7⟩:=q7;exact⟨x7,σ7,H7,I7.unpinned,r7,q7⟩
end
end L2
namespace L2
open PySem PySem.Spec PyProof.Rows
abbrev R2:=V->V->Hp->VK->Prop
def OpR(X:Cx)(f:Value->Value->Sem Value)(r:R2):Prop:=
 ∀(pins:List (Addr×Obj))(s:Shared)(σ:St)(H:Hp)(x y:V)(v u:Value)(Q:VK),Inv X pins σ H s->RelV x v->RelV y u->r x y H Q->
  wpAny (model X.prog X.w) X.A (f v u) (EP X pins σ Q) X.xe s
def UnR(X:Cx)(f:Value->Sem Value)(r:V->Hp->VK->Prop):Prop:=
 ∀(pins:List (Addr×Obj))(s:Shared)(σ:St)(H:Hp)(x:V)(v:Value)(Q:VK),Inv X pins σ H s->RelV x v->r x H Q->
  wpAny (model X.prog X.w) X.A (f v) (EP X pins σ Q) X.xe s
def zgz(X:Cx)(f:Value)(r:List V->Hp->VK->Prop):Prop:=
 ∀(pins:List (Addr×Obj))(s:Shared)(σ:St)(H:Hp)(xs:List V)(us:List Value)(Q:VK),Inv X pins σ H s->Vals xs us->r xs H Q->
  wpAny (model X.prog X.w) X.A (call f us) (EP X pins σ Q) X.xe s
def TruR(X:Cx)(r:V->Hp->(Bool->Hp->Prop)->Prop):Prop:=
 ∀(pins:List (Addr×Obj))(s:Shared)(σ:St)(H:Hp)(x:V)(v:Value)(Q:Bool->Hp->Prop),Inv X pins σ H s->RelV x v->r x H Q->
  wpAny (model X.prog X.w) X.A (truthy v) (TP X pins σ Q) X.xe s
def tOp(r:R2)(ta tb:TE):TE:=fun σ H Q=>ta σ H fun x H1=>tb σ H1 fun y H2=>r x y H2 Q
def tUn(r:V->Hp->VK->Prop)(ta:TE):TE:=fun σ H Q=>ta σ H fun x H1=>r x H1 Q
def rI(C:Int->Int->Prop)(g:Int->Int->V):R2:=fun x y H Q=>∃i j,x=.int i/\y=.int j/\C i j/\Q (g i j) H
def rI0(g:Int->Int->V):R2:=fun x y H Q=>∃i j,x=.int i/\y=.int j/\Q (g i j) H
def rU(g:Int->V):V->Hp->VK->Prop:=fun x H Q=>∃i,x=.int i/\Q (g i) H
section
variable{X : Cx}{a b c : Expr}{ta tb tc : TE}{pos : Pos}
theorem binT(ha:PE X a ta)(hb:PE X b tb){pins:List (Addr×Obj)}{s:Shared}{σ:St}{H:Hp}{R:V->V->Hp->Prop}(I:Inv X pins σ H s)
  (h:ta σ H fun x H1=>tb σ H1 fun y H2=>R x y H2) {Q:Value->Shared->Prop} {f:Value->Value->Sem Value}
  (hf:∀v u s2 x y H2,Inv X pins σ H2 s2->RelV x v->RelV y u->R x y H2->wpAny (model X.prog X.w) X.A (f v u) Q X.xe s2) :
  wpAny (model X.prog X.w) X.A (eval a X.env) (fun v s₁=>wpAny (model X.prog X.w) X.A (eval b X.env) (fun u s₂=>wpAny (model X.prog X.w) X.A (f v u) Q X.xe s₂) X.xe s₁) X.xe s:=by
 refine thn (ha pins s σ H _ I h) fun v s1 ⟨x,H1,I1,r1,q1⟩=>?_
 refine thn (hb pins s1 σ H1 _ I1 q1) fun u s2 ⟨y,H2,I2,r2,q2⟩=>?_
 exact hf v u s2 x y H2 I2 r1 r2 q2
theorem Zei{op:Operator}{r:R2}(ho:OpR X (binaryOp op) r)(ha:PE X a ta)(hb:PE X b tb):PE X (.BinOp a op b pos) (tOp r ta tb):=by
 intro pins s σ H Q I h
 exact wpAny_BinOp (binT ha hb I h fun v u s2 x y H2 I2 rx ry q=>ho pins s2 σ H2 x y v u Q I2 rx ry q)
theorem Zeh{op:UnaryOp}{r:V->Hp->VK->Prop}(ho:UnR X (unaryOp op) r)(ha:PE X a ta):PE X (.UnaryOp op a pos) (tUn r ta):=by
 intro pins s σ H Q I h
 exact UnaryOp_ (thn (ha pins s σ H _ I h) fun v s1 ⟨x,H1,I1,r1,q1⟩=>ho pins s1 σ H1 x v Q I1 r1 q1)
theorem opI{f:Value->Value->Sem Value}{C:Int->Int->Prop}{g:Int->Int->Int}
  (rule:∀(i j:Int)(t u:Tok)(s:Shared)(Q:Value->Shared->Prop)(E:Value->Shared->Prop),C i j->Q (.int (g i j) s.toks) { s with toks:=s.toks+1 }->wpAny (model X.prog X.w) X.A (f (.int i t) (.int j u)) Q E s) :
  OpR X f (rI C fun i j=>.int (g i j)):=by
 intro pins s σ H x y v u Q I rx ry h
 obtain⟨i,j,rfl,rfl,hc,q⟩:=h
 obtain⟨t,rfl⟩:=rx
 obtain⟨t',rfl⟩:=ry
 exact rule i j t t' s _ _ hc ⟨.int (g i j),H,I.tok _,⟨_,rfl⟩,q⟩
theorem opI0{f:Value->Value->Sem Value}{g:Int->Int->Int}
  (rule:∀(i j:Int)(t u:Tok)(s:Shared)(Q:Value->Shared->Prop)(E:Value->Shared->Prop),Q (.int (g i j) s.toks) { s with toks:=s.toks+1 }->wpAny (model X.prog X.w) X.A (f (.int i t) (.int j u)) Q E s) :
  OpR X f (rI0 fun i j=>.int (g i j)):=by
 intro pins s σ H x y v u Q I rx ry h
 obtain⟨i,j,rfl,rfl,q⟩:=h
 obtain⟨t,rfl⟩:=rx
 obtain⟨t',rfl⟩:=ry
 exact rule i j t t' s _ _ ⟨.int (g i j),H,I.tok _,⟨_,rfl⟩,q⟩
theorem opB0{f:Value->Value->Sem Value}{g:Int->Int->Bool}
  (rule:∀(i j:Int)(t u:Tok)(s:Shared)(Q:Value->Shared->Prop)(E:Value->Shared->Prop),Q (.bool (g i j)) s->wpAny (model X.prog X.w) X.A (f (.int i t) (.int j u)) Q E s) :
  OpR X f (rI0 fun i j=>.bl (g i j)):=by
 intro pins s σ H x y v u Q I rx ry h
 obtain⟨i,j,rfl,rfl,q⟩:=h
 obtain⟨t,rfl⟩:=rx
 obtain⟨t',rfl⟩:=ry
 exact rule i j t t' s _ _ ⟨.bl (g i j),H,I,rfl,q⟩
def CDiv(i j:Int):Prop:=0<j/\j<1073741824
def CMul(i j:Int):Prop:=(-(2 ^ 64)<i/\i<2 ^ 64)\/(-(2 ^ 64)<j/\j<2 ^ 64)
theorem CMul.ok{i j:Int}(h:CMul i j):IntMulOk i j:=by
 rcases h with⟨h1,h2⟩|⟨h1,h2⟩
 ·exact .of_left (intBits_le_64 h1 h2)
 ·exact .of_right (intBits_le_64 h1 h2)
theorem Zba:OpR X (binaryOp .Add) (rI0 fun i j=>.int (i+j)):=opI0 fun _ _ _ _ _ _ _ q=>add_int q
theorem Za6:OpR X (binaryOp .Sub) (rI0 fun i j=>.int (i-j)):=opI0 fun _ _ _ _ _ _ _ q=>sub_int q
theorem Za7:OpR X (binaryOp .Mult) (rI CMul fun i j=>.int (i * j)):=opI fun _ _ _ _ _ _ _ hc q=>mul_int q hc.ok
theorem zx4:OpR X (binaryOp .FloorDiv) (rI CDiv fun i j=>.int (i / j)):=opI fun i j _ _ _ _ _ hc q=>by
 have h1:(0:Int)<j:=hc.1
 have h2:j<1073741824:=hc.2
 exact floordiv_int (by omega) (by rw[Int.fdiv_eq_ediv_of_nonneg i (by omega)];exact q) (.inl (PyProof.noPylong_small (by omega)))
theorem Za8:OpR X (binaryOp .Mod) (rI (fun _ j=>0<j) fun i j=>.int (i % j)):=opI fun i j _ _ _ _ _ hc q=>by
 have h1:(0:Int)<j:=hc
 exact mod_int' (by omega) (by rw[Int.fmod_eq_emod_of_nonneg i (by omega)];exact q)
theorem unI{f:Value->Sem Value}{g:Int->Int}
  (rule:∀(i:Int)(t:Tok)(s:Shared)(Q:Value->Shared->Prop)(E:Value->Shared->Prop),Q (.int (g i) s.toks) { s with toks:=s.toks+1 }->wpAny (model X.prog X.w) X.A (f (.int i t)) Q E s) :
  UnR X f (rU fun i=>.int (g i)):=by
 intro pins s σ H x v Q I rx h
 obtain⟨i,rfl,q⟩:=h
 obtain⟨t,rfl⟩:=rx
 exact rule i t s _ _ ⟨.int (g i),H,I.tok _,⟨_,rfl⟩,q⟩
theorem zz9:UnR X (unaryOp .USub) (rU fun i=>.int (-i)):=unI fun _ _ _ _ _ q=>neg_int q
end
def scal:V->V->Bool
 | .non,.non=>true | .non,.int _=>true | .int _,.non=>true | .non,.bl _=>true | .bl _,.non=>true | .non,.str _=>true | .str _,.non=>true
 | .int _,.int _=>true | .bl _,.bl _=>true | .str _,.str _=>true | .byt _,.byt _=>true
 | .int _,.str _=>true | .str _,.int _=>true | .bl _,.str _=>true | .str _,.bl _=>true
 | _,_=>false
def rEq:R2:=fun x y H Q=>scal x y=true/\Q (.bl (decide (x=y))) H
def rNe:R2:=fun x y H Q=>scal x y=true/\Q (.bl (!decide (x=y))) H
theorem zs5{i j:Int}:decide (V.int i=V.int j)=(i == j):=by
 rw[Bool.eq_iff_iff]
 simp
theorem zwz{i j:Bool}:decide (V.bl i=V.bl j)=(i == j):=by
 rw[Bool.eq_iff_iff]
 simp
theorem zs4{i j:Str}:decide (V.str i=V.str j)=(i == j):=by
 rw[Bool.eq_iff_iff]
 simp
theorem zs6{i j:Array UInt8}:decide (V.byt i=V.byt j)=(i.toList == j.toList):=by
 rw[Bool.eq_iff_iff]
 cases i
 cases j
 simp
section
variable{X : Cx}{a b c : Expr}{ta tb tc : TE}{pos : Pos}
theorem zbc{pins:List (Addr×Obj)}{σ:St}{H:Hp}{s:Shared}{Q:VK}{k k':Bool}(I:Inv X pins σ H s)(q:Q (.bl k) H)(e:k=k'):EP X pins σ Q (.bool k') s:=by
 subst e
 exact⟨.bl k,H,I,rfl,q⟩
theorem Zep:OpR X (compareOp .Eq) rEq:=by
 intro pins s σ H x y v u Q I rx ry h
 obtain⟨hs,q⟩:=h
 cases x with
 | non=>
  cases rx
  cases y with
  | non=>cases ry;exact PySem.EqNone.eq_none_none (zbc I q (by simp))
  | bl j=>cases ry;exact PySem.EqNone.eq_none_bool (zbc I q (by simp))
  | int j=>obtain⟨t',rfl⟩:=ry;exact PySem.EqNone.eq_none_int (zbc I q (by simp))
  | str j=>obtain⟨t',rfl⟩:=ry;exact PySem.EqNone.eq_none_str (zbc I q (by simp))
  | _=>exact absurd (show false=true from hs) Bool.false_ne_true
 | bl i=>
  cases rx
  cases y with
  | non=>cases ry;exact PySem.EqNone.eq_bool_none (zbc I q (by simp))
  | bl j=>cases ry;exact eq_bool (zbc I q zwz)
  | str j=>obtain⟨t',rfl⟩:=ry;exact PySem.EqMixed.eq_bool_str (zbc I q (by simp))
  | _=>exact absurd (show false=true from hs) Bool.false_ne_true
 | int i=>
  obtain⟨t,rfl⟩:=rx
  cases y with
  | non=>cases ry;exact PySem.EqNone.eq_int_none (zbc I q (by simp))
  | int j=>obtain⟨t',rfl⟩:=ry;exact eq_int (zbc I q zs5)
  | str j=>obtain⟨t',rfl⟩:=ry;exact PySem.EqMixed.eq_int_str (zbc I q (by simp))
  | _=>exact absurd (show false=true from hs) Bool.false_ne_true
 | str i=>
  obtain⟨t,rfl⟩:=rx
  cases y with
  | non=>cases ry;exact PySem.EqNone.eq_str_none (zbc I q (by simp))
  | bl j=>cases ry;exact PySem.EqMixed.eq_str_bool (zbc I q (by simp))
  | int j=>obtain⟨t',rfl⟩:=ry;exact PySem.EqMixed.eq_str_int (zbc I q (by simp))
  | str j=>obtain⟨t',rfl⟩:=ry;exact eq_str (zbc I q zs4)
  | _=>exact absurd (show false=true from hs) Bool.false_ne_true
 | byt i=>
  obtain⟨t,rfl⟩:=rx
  cases y with
  | byt j=>obtain⟨t',rfl⟩:=ry;exact PySem.W.eq_bytes (zbc I q zs6)
  | _=>exact absurd (show false=true from hs) Bool.false_ne_true
 | _=>cases y <;> exact absurd (show false=true from hs) Bool.false_ne_true
theorem Zel:OpR X (compareOp .NotEq) rNe:=by
 intro pins s σ H x y v u Q I rx ry h
 obtain⟨hs,q⟩:=h
 cases x with
 | non=>
  cases rx
  cases y with
  | non=>cases ry;exact PySem.EqNone.ne_none_none (zbc I q (by simp))
  | bl j=>cases ry;exact PySem.EqNone.ne_none_bool (zbc I q (by simp))
  | int j=>obtain⟨t',rfl⟩:=ry;exact PySem.EqNone.ne_none_int (zbc I q (by simp))
  | str j=>obtain⟨t',rfl⟩:=ry;exact PySem.EqNone.ne_none_str (zbc I q (by simp))
  | _=>exact absurd (show false=true from hs) Bool.false_ne_true
 | bl i=>
  cases rx
  cases y with
  | non=>cases ry;exact PySem.EqNone.ne_bool_none (zbc I q (by simp))
  | bl j=>cases ry;exact ne_bool (zbc I q (congrArg not zwz))
  | str j=>obtain⟨t',rfl⟩:=ry;exact PySem.EqMixed.ne_bool_str (zbc I q (by simp))
  | _=>exact absurd (show false=true from hs) Bool.false_ne_true
 | int i=>
  obtain⟨t,rfl⟩:=rx
  cases y with
  | non=>cases ry;exact PySem.EqNone.ne_int_none (zbc I q (by simp))
  | int j=>obtain⟨t',rfl⟩:=ry;exact ne_int (zbc I q (congrArg not zs5))
  | str j=>obtain⟨t',rfl⟩:=ry;exact PySem.EqMixed.ne_int_str (zbc I q (by simp))
  | _=>exact absurd (show false=true from hs) Bool.false_ne_true
 | str i=>
  obtain⟨t,rfl⟩:=rx
  cases y with
  | non=>cases ry;exact PySem.EqNone.ne_str_none (zbc I q (by simp))
  | bl j=>cases ry;exact PySem.EqMixed.ne_str_bool (zbc I q (by simp))
  | int j=>obtain⟨t',rfl⟩:=ry;exact PySem.EqMixed.ne_str_int (zbc I q (by simp))
  | str j=>obtain⟨t',rfl⟩:=ry;exact ne_str (zbc I q (congrArg not zs4))
  | _=>exact absurd (show false=true from hs) Bool.false_ne_true
 | byt i=>
  obtain⟨t,rfl⟩:=rx
  cases y with
  | byt j=>obtain⟨t',rfl⟩:=ry;exact PySem.W.ne_bytes (zbc I q (congrArg not zs6))
  | _=>exact absurd (show false=true from hs) Bool.false_ne_true
 | _=>cases y <;> exact absurd (show false=true from hs) Bool.false_ne_true
theorem Zem:OpR X (compareOp .Lt) (rI0 fun i j=>.bl (decide (i<j))):=opB0 fun _ _ _ _ _ _ _ q=>lt_int q
theorem Zen:OpR X (compareOp .LtE) (rI0 fun i j=>.bl (decide (i<=j))):=opB0 fun _ _ _ _ _ _ _ q=>le_int q
theorem Zeo:OpR X (compareOp .Gt) (rI0 fun i j=>.bl (decide (j<i))):=opB0 fun _ _ _ _ _ _ _ q=>gt_int q
theorem zri:OpR X (compareOp .Lt) (fun x y H Q=>∃i j,x=.str i/\y=.str j/\Q (.bl (decide (i.cps.toList<j.cps.toList))) H):=by
 intro pins s σ H x y v u Q I rx ry h
 obtain⟨i,j,rfl,rfl,q⟩:=h
 obtain⟨t,rfl⟩:=rx
 obtain⟨t',rfl⟩:=ry
 exact lt_str (zbc I q rfl)
theorem zrj:OpR X (compareOp .In) (fun x y H Q=>∃i j,x=.str i/\y=.str j/\Q (.bl (!(Builtin.Str.occurrences j i 0 j.length 1).isEmpty)) H):=by
 intro pins s σ H x y v u Q I rx ry h
 obtain⟨i,j,rfl,rfl,q⟩:=h
 obtain⟨t,rfl⟩:=rx
 obtain⟨t',rfl⟩:=ry
 exact in_str (zbc I q rfl)
theorem Za9:OpR X (compareOp .Is) (fun x y H Q=>y=.non/\Q (.bl (decide (x=.non))) H):=by
 intro pins s σ H x y v u Q I rx ry h
 obtain⟨rfl,q⟩:=h
 cases ry
 refine is_none_gen (zbc I q ?_)
 cases x <;> first
  | (cases rx;rfl)
  | (obtain⟨t,rfl⟩:=rx;rfl)
theorem nomark(b:Expr){op:CmpOp}(h:op≠.In:=by decide)(h2:op≠.NotIn:=by decide):behindInMarks op b=false:=by
 have e1:(op == CmpOp.In)=false:=by cases op <;> first | rfl | exact absurd rfl h
 have e2:(op == CmpOp.NotIn)=false:=by cases op <;> first | rfl | exact absurd rfl h2
 cases b <;> simp[behindInMarks,e1,e2]
theorem zx2{op:CmpOp}{r:R2}(ho:OpR X (compareOp op) r)(ha:PE X a ta)(hb:PE X b tb)(hm:behindInMarks op b=false):PE X (.Compare a [op] [b] pos) (tOp r ta tb):=by
 intro pins s σ H Q I h
 exact wpAny_Compare1 (binT ha hb I h fun v u s2 x y H2 I2 rx ry q=>ho pins s2 σ H2 x y v u Q I2 rx ry q) hm
def Zac(t:TE):TT:=fun σ H Q=>t σ H fun x H'=>∃k,x=.bl k/\Q k H'
theorem zxu{op:CmpOp}{r:R2}(ho:OpR X (compareOp op) r)(ha:PE X a ta)(hb:PE X b tb)(hm:behindInMarks op b=false):PT X (.Compare a [op] [b] pos) (Zac (tOp r ta tb)):=by
 intro pins s σ H Q I h
 refine wpAny_isTrue_Compare1 (thn (ha pins s σ H _ I h) fun v s1 ⟨x,H1,I1,r1,q1⟩=>thn (hb pins s1 σ H1 _ I1 q1) fun u s2 ⟨y,H2,I2,r2,q2⟩=>
  thn (ho pins s2 σ H2 x y v u _ I2 r1 r2 q2) fun c s3 ⟨z,H3,I3,r3,k,e,q3⟩=>?_) hm
 subst e
 cases r3
 exact wpAny_truthy_bool ⟨H3,I3,q3⟩
def Zaf(r r':R2)(ta tb tc:TE):TE:=fun σ H Q=>ta σ H fun x H1=>tb σ H1 fun y H2=>r x y H2 fun z H3=>∃k,z=.bl k/\
 (if k=true then tc σ H3 fun w' H4=>r' y w' H4 Q else Q (.bl false) H3)
theorem zuj{op op':CmpOp}{r r':R2}(ho:OpR X (compareOp op) r)(ho':OpR X (compareOp op') r')(ha:PE X a ta)(hb:PE X b tb)(hc:PE X c tc)
  (hm:lastMarks [op,op'] [b,c]=false:=by with_unfolding_all rfl):PT X (.Compare a [op,op'] [b,c] pos) (Zac (Zaf r r' ta tb tc)):=by
 intro pins s σ H Q I h
 refine isTrue_chain (thn (ha pins s σ H _ I h) fun v s1 ⟨x,H1,I1,r1,q1⟩=>test_link (thn (hb pins s1 σ H1 _ I1 q1) fun u s2 ⟨y,H2,I2,r2,q2⟩=>
  thn (ho pins s2 σ H2 x y v u _ I2 r1 r2 q2) fun d s3 ⟨z,H3,I3,r3,k,e,q3⟩=>?_)) hm
 subst e
 cases r3
 refine wpAny_truthy_bool ?_
 cases k with
 | false=>
  obtain⟨k',e',q'⟩:=q3
  cases e'
  exact ite_ff ⟨H3,I3,q'⟩
 | true=>
  refine ite_tt (test_last (thn (hc pins s3 σ H3 _ I3 q3) fun w' s4 ⟨z',H4,I4,r4,q4⟩=>thn (ho' pins s4 σ H4 y z' u w' _ I4 r2 r4 q4) fun d' s5 ⟨z2,H5,I5,r5,k2,e2,q5⟩=>?_))
  subst e2
  cases r5
  exact wpAny_truthy_bool ⟨H5,I5,q5⟩
def TruV(K:PySem.W.Frag)(x:V)(H:Hp)(k:Bool):Prop:=
 match x with
 | .non=>k=false
 | .bl b=>k=b
 | .int i=>k=(i != 0)
 | .str y=>y.length<=sizeLine/\k=((y.length:Int) != 0)
 | .byt y=>y.size<=sizeLine/\k=((y.size:Int) != 0)
 | .ref p=>(∃xs,SqL K H p xs/\k=!xs.isEmpty)\/(∃xs,SqT K H p xs/\k=!xs.isEmpty)\/∃kvs,H p=some (.dK kvs)/\k=!kvs.isEmpty
 | _=>False
theorem zkq{κ:Type}{kvs:List (κ×V)}{vs:List (κ×Value)}(r:KV kvs vs):(!vs.isEmpty)=!kvs.isEmpty:=by
 cases r <;> rfl
theorem zkp{xs:List V}{its:List Value}(r:Vals xs its):(!its.toArray.isEmpty)=!xs.isEmpty:=by
 cases r <;> simp
theorem line63:(sizeLine:Nat)<2 ^ 63:=by rw[sizeLine_eq];decide
theorem zkb:TruR X (fun x H Q=>∃k,TruV X.K x H k/\Q k H):=by
 intro pins s σ H x v Q I rx h
 obtain⟨k,e,q⟩:=h
 have hl:=line63
 have hs:sizeLine=16777216:=sizeLine_eq
 cases x with
 | non=>
  cases rx
  have e':k=false:=e
  subst e'
  exact truthy_none ⟨H,I,q⟩
 | bl b=>
  cases rx
  have e':k=b:=e
  subst e'
  exact wpAny_truthy_bool ⟨H,I,q⟩
 | int i=>
  obtain⟨t,rfl⟩:=rx
  have e':k=(i != 0):=e
  subst e'
  exact PySem.P.truthy_int ⟨H,I,q⟩
 | str y=>
  obtain⟨t,rfl⟩:=rx
  obtain⟨hy,e'⟩:y.length<=sizeLine/\k=((y.length:Int) != 0):=e
  subst e'
  exact PySem.P.truthy_str (by omega) ⟨H,I.tok _,q⟩
 | byt y=>
  obtain⟨t,rfl⟩:=rx
  obtain⟨hy,e'⟩:y.size<=sizeLine/\k=((y.size:Int) != 0):=e
  subst e'
  exact PySem.W.truthy_bytes (by omega) ⟨H,I.tok _,q⟩
 | ref p=>
  cases rx
  have e':(∃xs,SqL X.K H p xs/\k=!xs.isEmpty)\/(∃xs,SqT X.K H p xs/\k=!xs.isEmpty)\/∃kvs,H p=some (.dK kvs)/\k=!kvs.isEmpty:=e
  rcases e' with⟨xs,hx,e'⟩|⟨xs,hx,e'⟩|⟨kvs,hx,e'⟩
  ·subst e'
   obtain⟨its,r,pl,hz⟩:=I.list hx
   have hlen:=r.length
   exact wpAny_truthy_list pl.isList (by simp only[List.size_toArray];omega) ⟨H,I.tok _,by rw[zkp r];exact q⟩
  ·subst e'
   obtain⟨its,r,pl,hz⟩:=I.tuple hx
   have hlen:=r.length
   exact truthy_tuple pl (by simp only[List.size_toArray];omega) ⟨H,I.tok _,by rw[zkp r];exact q⟩
  ·subst e'
   obtain⟨hz,hS,vs,r,m⟩:kvs.length<=sizeLine/\(p == sysModules)=false/\∃vs,KV kvs vs/\s.heap.DictOf (zax X.prog X.w) p vs:=I.hok p _ hx
   have hlen:kvs.length=vs.length:=Paired.length r
   exact wpAny_truthy_dict hS m (by omega) ⟨H,I.tok _,by rw[zkq r];exact q⟩
 | _=>exact(show False from e).elim
theorem zpy:OpR X (binaryOp .Add) (fun x y H Q=>∃i j,x=.str i/\y=.str j/\i.length+j.length<=sizeLine/\Q (.str (i++j)) H):=by
 intro pins s σ H x y v u Q I rx ry h
 obtain⟨i,j,rfl,rfl,hz,q⟩:=h
 obtain⟨t,rfl⟩:=rx
 obtain⟨t',rfl⟩:=ry
 exact add_str (fun t' tk=>⟨.str (i++j),H,I.tok _,⟨_,rfl⟩,q⟩) hz
theorem vals1{x:V}{us:List Value}(r:Vals [x] us):∃u,us=[u]/\RelV x u:=by
 cases r with
 | cons r1 r2=>cases r2;exact⟨_,rfl,r1⟩
theorem vals2{x y:V}{us:List Value}(r:Vals [x,y] us):∃u w',us=[u,w']/\RelV x u/\RelV y w':=by
 cases r with
 | cons r1 r2=>
  cases r2 with
  | cons r3 r4=>cases r4;exact⟨_,_,rfl,r1,r3⟩
theorem zmz:zgz X (.type "int") (fun xs H Q=>(∃i,xs=[.int i]/\Q (.int i) H)\/∃k,xs=[.bl k]/\Q (.int (if k then 1 else 0)) H):=by
 intro pins s σ H xs us Q I r h
 rcases h with⟨i,rfl,q⟩|⟨k,rfl,q⟩
 ·obtain⟨u,rfl,t,rfl⟩:=vals1 r
  exact call_int_int ⟨.int i,H,I,⟨_,rfl⟩,q⟩
 ·obtain⟨u,rfl,r1⟩:=vals1 r
  cases r1
  exact call_int_bool ⟨.int (if k then 1 else 0),H,I.tok _,⟨_,rfl⟩,q⟩
def LenV(K:PySem.W.Frag)(x:V)(H:Hp)(n:Nat):Prop:=
 match x with
 | .str y=>y.length<=sizeLine/\n=y.length
 | .byt y=>y.size<=sizeLine/\n=y.size
 | .ref p=>(∃xs,SqL K H p xs/\n=xs.length)\/∃xs,SqT K H p xs/\n=xs.length
 | _=>False
theorem zll:zgz X (.builtin "len") (fun xs H Q=>∃x n,xs=[x]/\LenV X.K x H n/\Q (.int n) H):=by
 intro pins s σ H xs us Q I r h
 obtain⟨x,n,rfl,e,q⟩:=h
 obtain⟨u,rfl,rx⟩:=vals1 r
 have hl:=line63
 have hs:sizeLine=16777216:=sizeLine_eq
 cases x with
 | str y=>
  obtain⟨t,rfl⟩:=rx
  obtain⟨hy,e'⟩:y.length<=sizeLine/\n=y.length:=e
  subst e'
  exact len_str (by omega) ⟨.int _,H,I.tok _,⟨_,rfl⟩,q⟩
 | byt y=>
  obtain⟨t,rfl⟩:=rx
  obtain⟨hy,e'⟩:y.size<=sizeLine/\n=y.size:=e
  subst e'
  exact PySem.W.len_bytes (by omega) ⟨.int _,H,I.tok _,⟨_,rfl⟩,q⟩
 | ref p=>
  cases rx
  have e':(∃xs,SqL X.K H p xs/\n=xs.length)\/∃xs,SqT X.K H p xs/\n=xs.length:=e
  rcases e' with⟨xs,hx,e'⟩|⟨xs,hx,e'⟩
  ·subst e'
   obtain⟨its,r',pl,hz⟩:=I.list hx
   have hlen:=r'.length
   exact Calls.call_len_list pl.isList (by simp only[List.size_toArray];omega) ⟨.int xs.length,H,I.tok _,⟨_,by simp only[List.size_toArray];rw[hlen]⟩,q⟩
  ·subst e'
   obtain⟨its,r',pl,hz⟩:=I.tuple hx
   have hlen:=r'.length
   exact len_tuple pl (by simp only[List.size_toArray];omega) ⟨.int xs.length,H,I.tok _,⟨_,by simp only[List.size_toArray];rw[hlen]⟩,q⟩
 | _=>exact(show False from e).elim
end
end L2
namespace L2
open PySem PySem.Spec PyProof.Rows
def putF(f:Str)(v:V):List (Str×V)->List (Str×V)
 | []=>[(f,v)]
 | (g,x)::r=>if g=f then (g,v)::r else (g,x)::putF f v r
theorem RelO.some_of{v:V}{o:Option Value}(r:RelO (some v) o):∃u,o=some u/\RelV v u:=by
 cases o with
 | none=>exact(show False from r).elim
 | some u=>exact⟨u,rfl,r⟩
theorem RelO.none_of{o:Option Value}(r:RelO none o):o=none:=by
 cases o with
 | none=>rfl
 | some u=>exact(show False from r).elim
structure Cls(K:PySem.W.Frag)(C:Addr):Prop where
 pg:PySem.W.plainGet K C Str.empty=true
 hd:PySem.W.hasDictIn K C=true
 po:PySem.W.plainOver K C=true
 sa:PySem.W.findIn K (.ref C) "__setattr__"=some (some (.builtin "object.__setattr__"))
structure Con(K:PySem.W.Frag)(C:Addr)(f:Str)(v:V)(u:Value):Prop where
 at_:PySem.W.findIn K (.ref C) f=some (some u)
 rel:RelV v u
 get:PySem.W.specialIn K u "__get__"=some none
 cp:PySem.W.copiedNames.contains f=false
end L2
namespace L2
open PySem PySem.Spec PyProof.Rows
structure Room(k:Nat)(A:Around):Prop where
 hd:A.handled=none
 dp:A.depth+3 * k+5<recursionLimit
 un:A.units+16 * k+200<cLine
theorem Room.mono{j k:Nat}{A:Around}(r:Room k A)(h:j<=k):Room j A:=⟨r.hd,by have:=r.dp;omega,by have:=r.un;omega⟩
theorem Room.deeper{k:Nat}{A:Around}(r:Room (k+1) A)(env:Env):Room k (A.deeper env):=
 ⟨r.hd,by have:=r.dp;show A.depth+1+3 * k+5<_;omega,by have:=r.un;show A.units+3+16 * k+200<_;omega⟩
theorem Room.depth{k:Nat}{A:Around}(r:Room k A):A.depth<recursionLimit:=by have:=r.dp;omega
theorem Room.units{k:Nat}{A:Around}(r:Room k A):A.units+64<cLine:=by have:=r.un;omega
def tNil:TA:=fun _ H Q=>Q [] H
def zxe(ta:TE)(tr:TA):TA:=fun σ H Q=>ta σ H fun x H1=>tr σ H1 fun xs H2=>Q (x::xs) H2
section
variable{X : Cx}{e : Expr}{es : List Expr}{te : TE}{t : TA}{pos : Pos}
theorem zft:PA X [] tNil:=fun _ _ _ _ H Q I h=>Calls.spliced_nil ⟨[],H,I,.nil,h⟩
theorem zcj(ha:PE X e te)(hr:PA X es t)(hs:starEach (e::es) X.env=(false,eval e X.env)::starEach es X.env:=by rfl):PA X (e::es) (zxe te t):=by
 intro pos pins s σ H Q I h
 rw[hs]
 show wpAny _ _ (spliced ((false,eval e X.env)::backTo pos (starEach es X.env))) _ _ s
 refine Calls.spliced_cons (thn (ha pins s σ H _ I h) fun u s1 ⟨x,H1,I1,r1,q1⟩=>?_)
 exact thn (hr pos pins s1 σ H1 _ I1 q1) fun us s2 ⟨xs,H2,I2,r2,q2⟩=>⟨x::xs,H2,I2,.cons r1 r2,q2⟩
def tTup(t:TA):TE:=fun σ H Q=>t σ H fun xs H1=>xs.length<=sizeLine/\∀p,H1 p=none->Q (.ref p) (upd H1 p (.tup xs))
def tLst(t:TA):TE:=fun σ H Q=>t σ H fun xs H1=>xs.length<=sizeLine/\∀p,H1 p=none->Q (.ref p) (upd H1 p (.lst xs))
theorem Zaw{x1}(h:PA X es t):PE X (.Tuple es x1 pos) (tTup t):=by
 intro pins s σ H Q I hq
 refine wpAny_Tuple_spliced (thn (h pos pins s σ H _ I hq) fun us s1 ⟨xs,H1,I1,r,z,q⟩=>⟨by rw[← r.length];exact z,?_⟩)
 have hf:H1 s1.heap.objs.size=none:=I1.hok.fresh (Nat.le_refl _)
 refine⟨.ref s1.heap.objs.size,upd H1 s1.heap.objs.size (.tup xs),I1.laid (t':=s1.toks) (fun b u e=>Heap.get?_push_of_some _ e) (Nat.le_refl _) ?_,rfl,q _ hf⟩
 exact⟨z,us,r,⟨_,Heap.get?_push_size _ rfl,rfl,⟨_,rfl⟩,fun _=>rfl⟩⟩
theorem Za0(h:PA X es t):PE X (.List es pos) (tLst t):=by
 intro pins s σ H Q I hq
 refine wpAny_List_spliced (thn (h pos pins s σ H _ I hq) fun us s1 ⟨xs,H1,I1,r,z,q⟩=>⟨by rw[← r.length];exact z,?_⟩)
 have hf:H1 s1.heap.objs.size=none:=I1.hok.fresh (Nat.le_refl _)
 refine⟨.ref s1.heap.objs.size,upd H1 s1.heap.objs.size (.lst xs),I1.laid (t':=s1.toks) (fun b u e=>Heap.get?_push_of_some _ e) (Nat.le_refl _) ?_,rfl,q _ hf⟩
 exact⟨z,us,0,r,Heap.get?_push_size _ rfl⟩
end
abbrev Sp:=List V->Hp->VK->XK->Prop
abbrev CXT:=List Env->Hp->Shared->XK->Value->Shared->Prop
structure Env0(P:Program)(w:World)(K:PySem.W.Frag)(mg:Str->Option Value)(base:Heap)(A:Around)(outer:List Env)(s:Shared)(H:Hp):Prop where
 frames:A.frames=some outer
 mod:Mod K mg base
 bs:∀b o,base.get? b=some o->s.heap.get? b=some o/\H b=none
 bsz:base.objs.size<=s.heap.objs.size
 funs:s.heap.FunFrames base outer
 frf:∀b∈frs outer,H b=none
 hok:HOk P w H s.heap
 bare:AllBare s.gens
def CE(outer:List Env)(P:Program)(w:World)(H:Hp)(s:Shared)(Q:VK)(u:Value)(s':Shared):Prop:=
 ∃v H',s'.os=s.os/\AllBare s'.gens/\Un (frs outer) [] H H' s.heap s'.heap/\HOk P w H' s'.heap/\RelV v u/\Q v H'
def CR(CX:CXT)(outer:List Env)(P:Program)(w:World)(H:Hp)(s:Shared)(Q:VK)(E:XK)(r:Result)(s':Shared):Prop:=
 match r with
 | .ok (.ret u)=>CE outer P w H s Q u s'
 | .ok _=>False
 | .error e=>CX outer H s E e s'
structure FnOk(P:Program)(w:World)(K:PySem.W.Frag)(mg:Str->Option Value)(base:Heap)(CX:CXT)(k:Nat)(f:Addr)(fd:FuncData)(ps:List Str)(sp:Sp):Prop where
 len:∀vs H Q E,sp vs H Q E->vs.length=ps.length
 run:∀(A:Around)(outer:List Env)(s:Shared)(H:Hp)(args:Args)(us:List Value)(vs:List V)(Q:VK)(E:XK),Room k A->Env0 P w K mg base A outer s H->BindsTo s fd args (ps.zip us)->Vals vs us->sp vs H Q E->
  codeAny (model P w) A (.call (.ref f) args) (CR CX outer P w H s Q E) s
section
variable{X : Cx}{pins : List (Addr×Obj)}{σ : St}{H : Hp}{s s' : Shared}
theorem Inv.env0(I:Inv X pins σ H s):Env0 X.prog X.w X.K X.mg X.base X.A X.stack s H:=
 ⟨I.ok.frames,I.ok.mod,I.bs,Nat.le_trans I.ok.bsz I.sz,I.stack,I.stkFree,I.hok,I.bare⟩
theorem Inv.after{Q:VK}{u:Value}(I:Inv X pins σ H s)(h:CE X.stack X.prog X.w H s Q u s'):EP X pins σ Q u s':=by
 obtain⟨v,H',os,bare,un,hok,r,q⟩:=h
 obtain⟨hh,g,d,t,os'⟩:=s'
 obtain rfl:os'=s.os:=os
 exact⟨v,H',I.call (h':=hh) (g':=g) (d':=d) (t':=t) (ch:=[]) un hok bare (fun b z=>absurd z (by simp)),r,q⟩
end
def Zd7(sp:Sp)(dvs:List V)(E:XK)(t:TA):TE:=fun σ H Q=>t σ H fun vs H1=>sp (vs++dvs) H1 Q E
def Binds(K:PySem.W.Frag)(fd:FuncData)(ps:List Str)(ds:List Value):Prop:=
 ∀(s:Shared)(us:List Value),K.In s.heap->(us++ds).length=ps.length->BindsTo s fd ⟨us,[]⟩ (ps.zip (us++ds))
theorem Binds.all{K:PySem.W.Frag}{fd:FuncData}{ps:List Str}(h:∀us:List Value,us.length=ps.length->bindArgs fd ⟨us,[]⟩=pure (ps.zip us)):Binds K fd ps []:=fun s us _ hl=>by
 rw[List.append_nil] at hl ⊢
 exact .of_eq (h us hl)
def Passes(CX:CXT)(X:Cx)(E:XK):Prop:=∀(pins:List (Addr×Obj))(σ:St)(H:Hp)(s:Shared)(e:Value)(s':Shared),Inv X pins σ H s->CX X.stack H s E e s'->X.xe e s'
section
variable{X : Cx}{CX : CXT}{k : Nat}{f C : Addr}{fd : FuncData}{ps : List Str}{sp : Sp}{dvs : List V}{ds : List Value}{E : XK}{x m : Str}{p pos apos : Pos}{e o : Expr}{es : List Expr}{ta : TE}{t : TA}
theorem Zal{pins:List (Addr×Obj)}{σ:St}{H:Hp}{s:Shared}{Q:VK}{us:List Value}{vs:List V}(F:FnOk X.prog X.w X.K X.mg X.base CX k f fd ps sp)(hr:Room k X.A)(hb:Binds X.K fd ps ds)(hd:Vals dvs ds)(hx:Passes CX X E)
  (I:Inv X pins σ H s) (r:Vals vs us) (h:sp (vs++dvs) H Q E):wpAny (model X.prog X.w) X.A (call (.ref f) us) (EP X pins σ Q) X.xe s:=by
 have r2:Vals (vs++dvs) (us++ds):=r.append hd
 have hl:(us++ds).length=ps.length:=by rw[← r2.length];exact F.len _ _ _ _ h
 refine wpAny_call (codeAny_mono (F.run X.A X.stack s H ⟨us,[]⟩ (us++ds) (vs++dvs) Q E hr I.env0 (hb s us I.kIn hl) r2 h) fun r s' hq=>?_)
 cases r with
 | error e=>exact hx pins σ H s e s' I hq
 | ok fl=>
  cases fl with
  | ret u=>exact I.after hq
  | next=>exact False.elim hq
  | brk=>exact False.elim hq
  | cont=>exact False.elim hq
theorem zre(F:FnOk X.prog X.w X.K X.mg X.base CX k f fd ps sp)(hr:Room k X.A)(hg:Gl X x)(hm:X.mg x=some (.ref f))(hk:PySem.W.keepIn X.K (.ref f)=true)(hb:Binds X.K fd ps ds)(hd:Vals dvs ds)(hx:Passes CX X E)
  (ha:PA X (e::es) t) (hdb:(x == ("__debug__":Str))=false:=by decide) (he:starEach (e::es) X.env=(false,eval e X.env)::starEach es X.env:=by rfl) (hpl:(backTo pos (starEach es X.env)).any (·.1)=false:=by rfl) :
  PE X (.Call (.Name x p) (e::es) [] pos) (Zd7 sp dvs E t):=by
 intro pins s σ H Q I h
 refine wpAny_Call_Name_kw (znf I hg hm ?_ hdb)
 refine PySem.W.callWith_K (h₀:=X.base) I.ok.mod.kin hk (thn (ha pos pins s σ H _ I h) fun us s1 ⟨vs,H1,I1,r,q⟩=>⟨I1.kIn,?_⟩) he hpl
 exact Zal F hr hb hd hx I1 r q
end
structure FnScope(N P:List Str)(sc:Scope):Prop where
 kind:sc.kind=.function
 co:sc.isCoroutine=false
 gen:sc.isGenerator=false
 nd:N.Nodup
 pre:N.take P.length=P
 par:∀x∈P,sc.names.lookup x=some .local\/sc.names.lookup x=some .cell
 nofree:∀y∈sc.names,y.2≠.free
theorem zm0{kindOf:Str->Option NameKind}{x:Str}:∀{binds:List (Str×Value)}{m:Str->Option Value},(∀v,(x,v) ∉ binds)->bindL kindOf binds m x=m x
 | [],_,_=>rfl
 | (n,v)::r,m,h=>by
  unfold bindL
  rw[zm0 fun w hw=>h w (List.mem_cons_of_mem _ hw)]
  split
  ·have:x≠n:=by rintro rfl;exact h v List.mem_cons_self
   simp[this]
  ·rfl
theorem zm2{kindOf:Str->Option NameKind}{x:Str}:∀{binds:List (Str×Value)}{m:Str->Option Value},(∀v,(x,v) ∉ binds)->bindC kindOf binds m x=m x
 | [],_,_=>rfl
 | (n,v)::r,m,h=>by
  unfold bindC
  rw[zm2 fun w hw=>h w (List.mem_cons_of_mem _ hw)]
  split
  ·rfl
  ·have:x≠n:=by rintro rfl;exact h v List.mem_cons_self
   simp[this]
theorem zm1{kindOf:Str->Option NameKind}{x:Str}{v:Value}:∀{P:List Str}{vs:List Value}{i:Nat}{m:Str->Option Value},P.Nodup->P[i]?=some x->vs[i]?=some v->kindOf x=some .local->
  bindL kindOf (P.zip vs) m x=some v
 | [],_,_,_,_,h,_,_=>by simp at h
 | _::_,[],_,_,_,_,h,_=>by simp at h
 | p::P,w::vs,0,m,nd,h1,h2,hk=>by
  simp at h1 h2;subst h1;subst h2
  show bindL kindOf ((p,w)::P.zip vs) m p=_
  unfold bindL
  rw[zm0 fun v hv=>(List.nodup_cons.mp nd).1 (List.of_mem_zip hv).1,if_pos hk]
  simp
 | p::P,w::vs,i+1,m,nd,h1,h2,hk=>by
  show bindL kindOf ((p,w)::P.zip vs) m x=_
  unfold bindL
  exact zm1 (i:=i) (List.nodup_cons.mp nd).2 (by simpa using h1) (by simpa using h2) hk
theorem zm3{kindOf:Str->Option NameKind}{x:Str}{v:Value}:∀{P:List Str}{vs:List Value}{i:Nat}{m:Str->Option Value},P.Nodup->P[i]?=some x->vs[i]?=some v->kindOf x≠some .local->
  bindC kindOf (P.zip vs) m x=some v
 | [],_,_,_,_,h,_,_=>by simp at h
 | _::_,[],_,_,_,_,h,_=>by simp at h
 | p::P,w::vs,0,m,nd,h1,h2,hk=>by
  simp at h1 h2;subst h1;subst h2
  show bindC kindOf ((p,w)::P.zip vs) m p=_
  unfold bindC
  rw[zm2 fun v hv=>(List.nodup_cons.mp nd).1 (List.of_mem_zip hv).1,if_neg hk]
  simp
 | p::P,w::vs,i+1,m,nd,h1,h2,hk=>by
  show bindC kindOf ((p,w)::P.zip vs) m x=_
  unfold bindC
  exact zm3 (i:=i) (List.nodup_cons.mp nd).2 (by simpa using h1) (by simpa using h2) hk
def start(N:List Str)(vs:List V):St:=vs.map some++List.replicate (N.length-vs.length) none
def cxOf(CX:CXT)(P:Program)(w:World)(K:PySem.W.Frag)(mg:Str->Option Value)(base:Heap)(N:List Str)(qual:Str)(scope:Scope)(f:Addr)(cd:Value)(A:Around)(outer:List Env)(s:Shared)(H:Hp)(E:XK):Cx where
 prog:=P
 w:=w
 K:=K
 mg:=mg
 base:=base
 A:=A.deeper (envOfC qual scope s.heap.objs.size f cd)
 N:=N
 s₀:=s
 H₀:=H
 env:=envOfC qual scope s.heap.objs.size f cd
 outer:=outer
 stack:=envOfC qual scope s.heap.objs.size f cd::outer
 ex:=[]
 calm:=true
 fn:=fun _=>true
 pn:=[]
 xe:=fun e s'=>wpAny (model P w) (A.deeper (envOfC qual scope s.heap.objs.size f cd)) (leaving (envOfC qual scope s.heap.objs.size f cd) e) (fun _ s''=>CX outer H s E e s'') (fun e' s''=>CX outer H s E e' s'') s'
theorem zpd{sc:Scope}{n:Nat}{x:Str}(h:sc.names.lookup x=some .cell):∃c,(cellsFrom n sc.names []).lookup x=some c:=by
 have q:=PySem.W.cellsFrom_some sc.names n [] (.inl h)
 exact Option.isSome_iff_exists.mp q
theorem zr6{CX:CXT}{P:Program}{w:World}{K:PySem.W.Frag}{mg:Str->Option Value}{base:Heap}{N ps:List Str}{qual:Str}{scope:Scope}{f:Addr}{cd:Value}{A:Around}{outer:List Env}{s s1:Shared}{H:Hp}{E:XK}{us:List Value}{vs:List V}
  (S:FnScope N ps scope) (hd:A.handled=none) (e0:Env0 P w K mg base A outer s H) (hl:vs.length=ps.length) (r:Vals vs us)
  (x:InCallC s s.heap.objs.size (bindL (envOfC qual scope s.heap.objs.size f cd).kindOf (ps.zip us) fun _=>none) (cellsFrom (s.heap.objs.size+1) scope.names []) (bindC (envOfC qual scope s.heap.objs.size f cd).kindOf (ps.zip us) fun _=>none) s1) :
  Inv (cxOf CX P w K mg base N qual scope f cd A outer s H E) [] (start N vs) H s1:=by
 have hpl:ps.length<=N.length:=by have:=congrArg List.length S.pre;rw[List.length_take] at this;omega
 obtain⟨h1,tk,rfl,hk⟩:=x.done
 have noA:∀b:Addr,b ∉ (cxOf CX P w K mg base N qual scope f cd A outer s H E).ex:=fun b z=>absurd (show b∈([]:List Addr) from z) (by simp)
 refine⟨⟨e0.mod,S.kind,rfl,rfl,Nat.le_refl _,fun y z c h1 h2=>?_,fun y hy=>?_,fun y c _ h=>?_,fun _=>hd,Around.frames_deeper e0.frames,.inr ⟨rfl,rfl⟩,fun b z=>absurd z (noA b),e0.bs,e0.bsz,fun b _ _=>noA b,fun b z=>absurd z (noA b),e0.funs,e0.frf⟩,
  rfl,e0.bare,Un.kept hk,⟨_,x.toInCall.ns,fun i y v h1 h2 h3=>?_⟩,fun y c h=>⟨_,x.cell y c h⟩,e0.hok.fresh (Nat.le_refl _),fun y c h=>?_,fun p hp=>absurd (show p∈([]:List (Addr×Obj)) from hp) (by simp),e0.hok.kept hk,?_⟩
 ·exact name_of_addr x.apart (PySem.mem_of_lookup h1) (PySem.mem_of_lookup h2)
 ·have hy:scope.names.lookup y=some .cell\/scope.names.lookup y=some .free:=hy
  rcases hy with hy | hy
  ·exact zpd hy
  ·exact absurd rfl (S.nofree _ (PySem.mem_of_lookup hy))
 ·exact Nat.le_of_lt (x.above y c (PySem.mem_of_lookup h))
 ·have hi:i<vs.length:=by
   unfold start at h2
   by_cases hi:i<vs.length
   ·exact hi
   ·rw[List.getElem?_append_right (by simpa using hi)] at h2
    rw[List.getElem?_replicate] at h2
    split at h2 <;> cases h2
  have ha:vs[i]?=some v:=by
   unfold start at h2
   rw[List.getElem?_append_left (by simpa using hi),List.getElem?_map] at h2
   cases e:vs[i]? with
   | none=>rw[e] at h2;cases h2
   | some a=>rw[e] at h2;cases h2;rfl
  obtain⟨u,hu,rv⟩:=r.get ha
  have hp:ps[i]?=some y:=by
   rw[← S.pre,List.getElem?_take_of_lt (by omega)];exact h1
  have ndP:ps.Nodup:=by rw[← S.pre];exact S.nd.sublist (List.take_sublist _ _)
  refine⟨u,rv,?_⟩
  rcases S.par y (List.mem_of_getElem? hp) with k | k
  ·exact .inl ⟨k,zm1 ndP hp hu k⟩
  ·obtain⟨c,e⟩:=zpd (n:=s.heap.objs.size+1) k
   refine .inr ⟨.inl k,c,e,?_⟩
   have q:=x.cell y c e
   rw[zm3 ndP hp hu (by show scope.names.lookup y≠_;rw[k];decide)] at q
   exact q
 ·exact e0.hok.fresh (Nat.le_of_lt (x.above y c (PySem.mem_of_lookup h)))
 ·unfold start
  show _=N.length
  rw[List.length_append,List.length_map,List.length_replicate]
  omega
theorem Zce{CX:CXT}{P:Program}{w:World}{K:PySem.W.Frag}{mg:Str->Option Value}{base:Heap}{k:Nat}{f:Addr}{name qual:Str}{params:Arguments}{body:List Stmt}{scope:Scope}{dV kV doc pm cdv ct oc:Value}{an od:Option Addr}
  {osl:Array (Option Value)} {N ps:List Str} {sp:Sp} (lk:K.lookup f=some ⟨oc,od,.func (PySem.W.fnOf name qual params body scope dV kV doc pm an cdv ct),osl⟩) (hcd:PySem.W.codeIn K cdv qual=true) (S:FnScope N ps scope)
  (len:∀vs H Q E,sp vs H Q E->vs.length=ps.length)
  (hbody:∀(A:Around)(outer:List Env)(s:Shared)(H:Hp)(vs:List V)(Q:VK)(E:XK),Room k (A.deeper (envOfC qual scope s.heap.objs.size f cdv))->sp vs H Q E->
   ∃t,PSs (cxOf CX P w K mg base N qual scope f cdv A outer s H E) body t/\t { nx:=fun _ H'=>Q .non H',rt:=Q } (start N vs) H) :
  FnOk P w K mg base CX (k+1) f (PySem.W.fnOf name qual params body scope dV kV doc pm an cdv ct) ps sp:=by
 refine⟨len,fun A outer s H args us vs Q E hr e0 hb r hsp=>?_⟩
 have hl:=len _ _ _ _ hsp
 have KX:K.In s.heap:=e0.mod.kin.keeps fun b o e=>(e0.bs b o e).1
 have lim:s.heap.NoLimit:=e0.mod.nolimit.keeps fun b o e=>(e0.bs b o e).1
 have hkind:∀y∈ps.zip us,scope.names.lookup y.1=some .local\/(scope.names.lookup y.1=some .cell/\((cellsFrom (s.heap.objs.size+1) scope.names []).lookup y.1).isSome=true):=fun ⟨n,v⟩ hy=>by
  rcases S.par n (List.of_mem_zip hy).1 with q | q
  ·exact .inl q
  ·exact .inr ⟨q,PySem.W.cellsFrom_some _ _ _ (.inl q)⟩
 refine codeAny_call_function hr.depth (KX _ _ lk) rfl S.co S.gen rfl (PySem.W.codeRec_of KX hcd) (hb _ _ _ _ ?_)
 refine wpAny_newFunctionEnv_cells S.kind hkind fun env he s1 x=>?_
 subst he
 refine⟨lim.keeps x.toInCall.keep,codeAny_func ?_⟩
 obtain⟨t,ht,hq⟩:=hbody A outer s H vs Q E (hr.deeper _) hsp
 have I:Inv (cxOf CX P w K mg base N qual scope f cdv A outer s H E) [] (start N vs) H s1:=zr6 S hr.hd e0 hl r x
 refine wpAny_mono (ht [] s1 (start N vs) H _ I hq) (fun fl s' hs=>?_) fun e s' hs=>hs
 have fin:∀{σ':St}{H':Hp}{v:V}{u:Value},Inv (cxOf CX P w K mg base N qual scope f cdv A outer s H E) [] σ' H' s'->RelV v u->Q v H'->CE outer P w H s Q u s':=
  fun {σ' H' v u} J rv q=>⟨v,H',J.os,J.bare,J.base,J.hok,rv,q⟩
 cases fl with
 | ret u=>
  obtain⟨v,σ',H',J,rv,q⟩:=hs
  exact fin J rv q
 | next=>
  obtain⟨σ',H',J,q⟩:=hs
  exact fin (v:=V.non) (u:=Value.none) J rfl q
 | brk=>
  obtain⟨_,_,_,q⟩:=hs
  exact False.elim q
 | cont=>
  obtain⟨_,_,_,q⟩:=hs
  exact False.elim q
end L2
namespace L2
open PySem PySem.Spec PyProof.Rows
section
variable{X : Cx}{x : Str}{p pos : Pos}{e : Expr}{es : List Expr}{t : TA}{id T : String}{r : List V → Hp → VK → Prop}
def tCB(r:List V->Hp->VK->Prop)(t:TA):TE:=fun σ H Q=>t σ H fun vs H1=>r vs H1 Q
theorem zog (hc:zgz X (.builtin id) r) (hg:Gl X x) (hm:X.mg x=none) (hv:bootBuiltins x=some (.builtin id)) (ha:PA X (e::es) t) (hn:x≠"__name__":=by decide) (hdb:(x == ("__debug__":Str))=false:=by decide)
  (he:starEach (e::es) X.env=(false,eval e X.env)::starEach es X.env:=by rfl) (hpl:(backTo pos (starEach es X.env)).any (·.1)=false:=by rfl):PE X (.Call (.Name x p) (e::es) [] pos) (tCB r t):=by
 intro pins s σ H Q I h
 refine wpAny_Call_Name_kw (zih I hg hm hv ?_ hn hdb)
 exact PyProof.Rows.callWith_builtin1 (thn (ha pos pins s σ H _ I h) fun us s1 ⟨vs,H1,I1,r1,q1⟩=>hc pins s1 σ H1 vs us Q I1 r1 q1) he hpl
theorem zl0 (hc:zgz X (.type T) r) (hg:Gl X x) (hm:X.mg x=none) (hv:bootBuiltins x=some (.type T)) (ha:PA X (e::es) t) (hn:x≠"__name__":=by decide) (hdb:(x == ("__debug__":Str))=false:=by decide)
  (he:starEach (e::es) X.env=(false,eval e X.env)::starEach es X.env:=by rfl) (hpl:(backTo pos (starEach es X.env)).any (·.1)=false:=by rfl):PE X (.Call (.Name x p) (e::es) [] pos) (tCB r t):=by
 intro pins s σ H Q I h
 refine wpAny_Call_Name_kw (zih I hg hm hv ?_ hn hdb)
 exact PyProof.Rows.callWith_type1 (thn (ha pos pins s σ H _ I h) fun us s1 ⟨vs,H1,I1,r1,q1⟩=>hc pins s1 σ H1 vs us Q I1 r1 q1) he hpl
end
end L2
namespace HT
open PySem PyProof.Rows
def lexLt:List Int->List Int->Bool
 | [],[]=>false
 | [],_::_=>true
 | _::_,[]=>false
 | x::xs,y::ys=>if x=y then lexLt xs ys else decide (x<y)
section
variable{prog : Program}{w : World}{A : Around}{E : Value → Shared → Prop}{s : Shared}
def sIx(n d:Nat):Option Int->Nat
 | none=>d
 | some v=>if v<0 then (v+(n:Int)).toNat else min v.toNat n
theorem Zaj(n d:Nat)(hd:d<=n)(o:Option Int):sIx n d o<=n:=by
 cases o with
 | none=>exact hd
 | some v=>
  show (if v<0 then (v+(n:Int)).toNat else min v.toNat n)<=n
  by_cases hv:v<0
  ·rw[if_pos hv];omega
  ·rw[if_neg hv];exact Nat.min_le_right _ _
theorem ztg(v:Int)(n d:Nat):(if v<0 then max (v+(n:Int)) 0 else min v (n:Int))=((sIx n d (some v):Nat):Int):=by
 show (if v<0 then max (v+(n:Int)) 0 else min v (n:Int))=(((if v<0 then (v+(n:Int)).toNat else min v.toNat n):Nat):Int)
 by_cases hv:v<0
 ·simp only[if_pos hv];omega
 ·simp only[if_neg hv];omega
theorem zqd(lo hi:Option Int)(n:Nat):Builtin.Slice.sliceAdjust lo hi 1 (n:Int)=(((sIx n 0 lo:Nat):Int),((sIx n n hi:Nat):Int)):=by
 have h1:¬ ((1:Int)<0):=by omega
 unfold Builtin.Slice.sliceAdjust
 simp only[h1,if_false]
 refine Prod.ext ?_ ?_
 ·cases lo with
  | none=>rfl
  | some v=>exact ztg v n 0
 ·cases hi with
  | none=>rfl
  | some v=>exact ztg v n n
theorem zpw(i j:Nat):Builtin.Slice.slicePlaces (i:Int) (j:Int) 1=j-i:=by
 unfold Builtin.Slice.slicePlaces
 have h1:(1:Int) > 0:=by omega
 simp only[h1,if_true,Int.ediv_one]
 split <;> omega
theorem zkc{v:Value}{o:Option Int}{Q:Option Int->Shared->Prop}(p:IsPart v o)(h:Q o s):wpAny (model prog w) A (Builtin.Slice.slicePartIndex v) Q E s:=by
 cases p with
 | none=>exact slicePart_none h
 | int i t=>exact slicePart_int h
theorem zil{sl:Addr}{vl vu:Value}{lo hi:Option Int}{n:Nat}{Q:Int×Int×Nat->Shared->Prop}(hs:s.heap.IsSliceOf sl vl vu .none)(pl:IsPart vl lo)(pu:IsPart vu hi)
  (h:Q (((sIx n 0 lo:Nat):Int),1,sIx n n hi-sIx n 0 lo) s):wpAny (model prog w) A (Builtin.Slice.sliceApplied (.ref sl) (pure (n:Int))) Q E s:=by
 obtain⟨os,hos,hcs,hds⟩:=id hs
 unfold Builtin.Slice.sliceApplied Builtin.Slice.sliceFields
 refine wpAny_bind (wpAny_bind (wpAny_field hos hds (x:=vl) rfl (wpAny_bind (wpAny_field hos hds (x:=vu) rfl (wpAny_bind (wpAny_field hos hds (x:=.none) rfl (wpAny_pure ?_)))))))
 refine wpAny_bind (slicePart_none ?_)
 show wpAny _ _ (if ((1:Int) == 0)=true then _ else _) _ _ s
 rw[if_neg (by decide)]
 refine wpAny_bind (zkc pl (wpAny_bind (zkc pu (wpAny_bind (wpAny_pure ?_)))))
 show wpAny _ _ (match Builtin.Slice.sliceAdjust lo hi 1 (n:Int) with | (lo,hi)=>pure (lo,(1:Int),Builtin.Slice.slicePlaces lo hi 1)) _ _ s
 rw[zqd lo hi n]
 show wpAny _ _ (pure (((sIx n 0 lo:Nat):Int),(1:Int),Builtin.Slice.slicePlaces ((sIx n 0 lo:Nat):Int) ((sIx n n hi:Nat):Int) 1)) _ _ s
 rw[zpw]
 exact wpAny_pure h
theorem zun(xs:Array Value)(i k:Nat):((List.range k).filterMap fun (m:Nat)=>xs[((i:Int)+(m:Int) * 1).toNat]?).toArray=((xs.toList.drop i).take k).toArray:=by
 have e:(fun (m:Nat)=>xs[((i:Int)+(m:Int) * 1).toNat]?)=fun m=>xs[i+m]?:=by
  funext m
  have:((i:Int)+(m:Int) * 1).toNat=i+m:=by omega
  rw[this]
 rw[e]
 have:=pick_run xs i k
 rw[List.filterMap_map] at this
 have e2:((fun x=>xs[x]?) ∘ fun x=>i+x)=fun m=>xs[i+m]?:=rfl
 rw[e2] at this
 rw[this]
theorem getItem_tuple_cut{t sl:Addr}{items:Array Value}{vl vu:Value}{lo hi:Option Int}{Q:Value->Shared->Prop}(ht:IsTup s.heap t items)(hs:s.heap.IsSliceOf sl vl vu .none)(pl:IsPart vl lo)(pu:IsPart vu hi)
  (hw:¬ (sIx items.size 0 lo=0/\sIx items.size items.size hi=items.size))
  (h:Q (.ref s.heap.objs.size) { s with heap:=s.heap.push { cls:=.type "tuple",data:=.seq ((items.toList.drop (sIx items.size 0 lo)).take (sIx items.size items.size hi-sIx items.size 0 lo)).toArray } })
  (hsz:items.size<=sizeLine):wpAny (model prog w) A (getItem (.ref t) (.ref sl)) Q E s:=by
 have htake:sizeOk (.seq ((items.toList.drop (sIx items.size 0 lo)).take (sIx items.size items.size hi-sIx items.size 0 lo)).toArray):=by
  show ((items.toList.drop (sIx items.size 0 lo)).take (sIx items.size items.size hi-sIx items.size 0 lo)).toArray.size<=sizeLine
  rw[List.size_toArray,List.length_take,List.length_drop,Array.length_toList]
  omega
 have hj:sIx items.size items.size hi<=items.size:=Zaj _ _ (Nat.le_refl _) hi
 obtain⟨os,hos,hcs,hds⟩:=id hs
 have hTs:s.TypeIs (.ref sl) "slice":=⟨os,hos,hcs⟩
 unfold getItem
 try with_reducible refine wpAny_holding ?_
 first | refine wpAny_bind (wpAny_pure ?_) | skip
 refine wpAny_bind (wpAny_sequenceKey ht.typeIs (by decide) ?_)
 refine wpAny_bind (wpAny_callSpecial?_slot (name:=Str.ofString "__getitem__") ht.typeIs PyProof.Rows.slot_tuple_getitem
  (wpAny_call_entry PyProof.Rows.slot_tuple_getitem ht.typeIs entry_tuple_getitem ?_ (args_tuple_getitem _ _)))
 show wpAny _ _ (Builtin.Tuple.tupleItemsOf (.ref t) >>= _) _ _ s
 refine wpAny_bind (tupleItemsOf_ ht ?_)
 refine wpAny_bind (wpAny_typeOf hTs ?_)
 rw[if_pos (by decide)]
 refine wpAny_bind (zil hs pl pu ?_)
 have hno:¬ ((((sIx items.size 0 lo:Nat):Int) == 0 && (1:Int) == 1 && (sIx items.size items.size hi-sIx items.size 0 lo) == items.size)=true):=by
  intro q
  rw[Bool.and_eq_true,Bool.and_eq_true] at q
  have q1:((sIx items.size 0 lo:Nat):Int)=0:=eq_of_beq q.1.1
  have q2:sIx items.size items.size hi-sIx items.size 0 lo=items.size:=eq_of_beq q.2
  exact hw ⟨by omega,by omega⟩
 show wpAny _ _ (if (((sIx items.size 0 lo:Nat):Int) == 0 && (1:Int) == 1 && (sIx items.size items.size hi-sIx items.size 0 lo) == items.size)=true then _ else _) _ _ s
 rw[if_neg hno,zun]
 first
  | exact wpAny_bind (m:=Builtin.Tuple.tupleExact _) (wpAny_newObj_type (wpAny_pure ⟨_,rfl,wpAny_pure h⟩) htake)
  | exact wpAny_bind (m:=Builtin.Tuple.tupleExact _) (wpAny_newObj_type (wpAny_bind (wpAny_pure (wpAny_pure ⟨_,rfl,wpAny_pure h⟩))) htake)
  | exact wpAny_bind (wpAny_bind (m:=Builtin.Tuple.tupleExact _) (wpAny_newObj_type (wpAny_pure (wpAny_pure ⟨_,rfl,wpAny_pure h⟩)) htake))
  | exact wpAny_bind (wpAny_bind (m:=Builtin.Tuple.tupleExact _) (wpAny_newObj_type (wpAny_pure ⟨_,rfl,wpAny_pure h⟩) htake))
end
end HT
namespace L2
open PySem PySem.Spec PyProof.Rows
abbrev TO:=St->Hp->(Option Int->Hp->Prop)->Prop
def PO(X:Cx)(e:Option Expr)(t:TO):Prop:=
 ∀(pins:List (Addr×Obj))(s:Shared)(σ:St)(H:Hp)(Q:Option Int->Hp->Prop),Inv X pins σ H s->t σ H Q->
  wpAny (model X.prog X.w) X.A (evalPart e X.env) (fun u s'=>∃o H',Inv X pins σ H' s'/\IsPart u o/\Q o H') X.xe s
def zxd:TO:=fun _ H Q=>Q none H
def Zd3(t:TE):TO:=fun σ H Q=>t σ H fun x H1=>∃i,x=.int i/\Q (some i) H1
section
variable{X : Cx}{e : Expr}{te : TE}{lo hi : Option Expr}{tl th : TO}{pos p2 : Pos}
theorem zxy:PO X none zxd:=by
 intro pins s σ H Q I h
 rw[evalPart_none]
 exact wpAny_pure ⟨none,H,I,.none,h⟩
theorem zxx(h:PE X e te):PO X (some e) (Zd3 te):=by
 intro pins s σ H Q I hw
 rw[evalPart_some]
 refine thn (h pins s σ H _ I hw) fun u s1 ⟨x,H1,I1,r1,q1⟩=>?_
 obtain⟨i,rfl,q⟩:=q1
 obtain⟨t,rfl⟩:=r1
 exact⟨some i,H1,I1,.int i t,q⟩
def SlR(X:Cx)(r:V->Option Int->Option Int->Hp->VK->Prop):Prop:=
 ∀(pins:List (Addr×Obj))(s:Shared)(σ:St)(H:Hp)(x:V)(v vl vu:Value)(lo hi:Option Int)(sl:Addr)(Q:VK),Inv X pins σ H s->RelV x v->s.heap.IsSliceOf sl vl vu .none->IsPart vl lo->IsPart vu hi->r x lo hi H Q->
  ∃T id,typeLookup (.type T) "__getitem__"=pure (some (.builtin id))/\s.TypeIs v T/\wpAny (model X.prog X.w) X.A (getItem v (.ref sl)) (EP X pins σ Q) X.xe s
def tSl(r:V->Option Int->Option Int->Hp->VK->Prop)(te:TE)(tl th:TO):TE:=fun σ H Q=>te σ H fun x H1=>tl σ H1 fun l H2=>th σ H2 fun u H3=>r x l u H3 Q
theorem zof{r:V->Option Int->Option Int->Hp->VK->Prop}(hr:SlR X r)(he:PE X e te)(hl:PO X lo tl)(hu:PO X hi th):PE X (.Subscript e (.Slice lo hi none p2) pos) (tSl r te tl th):=by
 intro pins s σ H Q I h
 refine Subscript_ (thn (he pins s σ H _ I h) fun v s1 ⟨x,H1,I1,r1,q1⟩=>?_)
 refine wpAny_Slice (thn (hl pins s1 σ H1 _ I1 q1) fun vl s2 ⟨l,H2,I2,pl,q2⟩=>thn (hu pins s2 σ H2 _ I2 q2) fun vu s3 ⟨u,H3,I3,pu,q3⟩=>?_)
 rw[evalPart_none]
 refine wpAny_pure ?_
 have I4:Inv X pins σ H3 { s3 with heap:=s3.heap.push { cls:=.type "slice",data:=.fields #[vl,vu,.none] } }:=I3.kept (t':=s3.toks) fun b ob q=>Heap.get?_push_of_some _ q
 obtain⟨T,id,hT,ht,hg⟩:=hr pins { s3 with heap:=s3.heap.push { cls:=.type "slice",data:=.fields #[vl,vu,.none] } } σ H3 x v vl vu l u s3.heap.objs.size Q I4 r1 (Heap.IsSliceOf.new ..) pl pu q3
 show wpAny (model X.prog X.w) X.A (subscriptTail e (.Slice lo hi none p2) v (.ref s3.heap.objs.size)) (EP X pins σ Q) X.xe { s3 with heap:=s3.heap.push { cls:=.type "slice",data:=.fields #[vl,vu,.none] } }
 exact tail_any (ops:=[.ref s3.heap.objs.size,v]) ht hT hg (by with_unfolding_all rfl)
def cutV(xs:List V)(lo hi:Option Int):List V:=(xs.drop (HT.sIx xs.length 0 lo)).take (HT.sIx xs.length xs.length hi-HT.sIx xs.length 0 lo)
theorem zju(xs:List V)(lo hi:Option Int):(cutV xs lo hi).length<=xs.length:=by
 unfold cutV
 rw[List.length_take,List.length_drop]
 omega
def rSlT(K:PySem.W.Frag):V->Option Int->Option Int->Hp->VK->Prop:=fun x lo hi H Q=>∃a xs,x=.ref a/\SqT K H a xs/\
 ¬ (HT.sIx xs.length 0 lo=0/\HT.sIx xs.length xs.length hi=xs.length)/\∀p,H p=none->Q (.ref p) (upd H p (.tup (cutV xs lo hi)))
theorem Zai:SlR X (rSlT X.K):=by
 intro pins s σ H x v vl vu lo hi sl Q I rx hs pl pu h
 obtain⟨a,xs,rfl,hx,hw,q⟩:=h
 cases rx
 obtain⟨its,r,ht,hz⟩:=I.tuple hx
 have hlen:its.toArray.size=xs.length:=by rw[List.size_toArray];exact r.length.symm
 refine⟨"tuple",_,PyProof.Rows.slot_tuple_getitem.lookup,ht.typeIs,?_⟩
 refine HT.getItem_tuple_cut ht hs pl pu (by rw[hlen];exact hw) ?_ (by rw[hlen];exact hz)
 rw[hlen]
 refine⟨.ref s.heap.objs.size,_,I.laid (t':=s.toks) (o:=.tup (cutV xs lo hi)) (fun b ob q=>Heap.get?_push_of_some _ q) (Nat.le_refl _) ?_,rfl,q _ (I.hok.fresh (Nat.le_refl _))⟩
 exact⟨Nat.le_trans (zju xs lo hi) hz,_,(r.drop (HT.sIx xs.length 0 lo)).take (HT.sIx xs.length xs.length hi-HT.sIx xs.length 0 lo),IsTp.new _ _⟩
end
end L2
namespace L2
open PySem PySem.Spec PyProof.Rows
def ixN(n:Nat)(i:Int):Option Nat:=if 0<=i then (if i<n then some i.toNat else none) else if -(n:Int)<=i then some (i+n).toNat else none
def atI{α:Type}(xs:List α)(i:Int):Option α:=(ixN xs.length i).bind fun j=>xs[j]?
theorem zyn{n:Nat}{i:Int}{j:Nat}(h:ixN n i=some j):seqIndex? i n=some j/\j<n/\-(n:Int)<=i/\i<n:=by
 unfold ixN at h
 by_cases h0:0<=i
 ·rw[if_pos h0] at h
  by_cases h1:i<n
  ·rw[if_pos h1] at h
   have e:i.toNat=j:=Option.some.inj h
   exact⟨by rw[seqIndex_of h0 h1,e],by omega,by omega,h1⟩
  ·rw[if_neg h1] at h;cases h
 ·rw[if_neg h0] at h
  by_cases h1:-(n:Int)<=i
  ·rw[if_pos h1] at h
   have e:(i+n).toNat=j:=Option.some.inj h
   exact⟨by rw[seqIndex_neg (by omega) h1,e],by omega,h1,by omega⟩
  ·rw[if_neg h1] at h;cases h
theorem znu{α:Type}{xs:List α}{i:Int}{v:α}(h:atI xs i=some v):∃j,seqIndex? i xs.length=some j/\xs[j]?=some v/\j<xs.length/\-(xs.length:Int)<=i/\i<xs.length:=by
 unfold atI at h
 cases e:ixN xs.length i with
 | none=>rw[e] at h;cases h
 | some j=>
  rw[e] at h
  obtain⟨h1,h2,h3,h4⟩:=zyn e
  exact⟨j,h1,h,h2,h3,h4⟩
def ztn(b:Expr):Prop:=∀o i,subscripted b false o i=operate [o,i] (getItem o i)
def IxR(X:Cx)(r:R2):Prop:=
 ∀(value slice:Expr)(pins:List (Addr×Obj))(s:Shared)(σ:St)(H:Hp)(x y:V)(v u:Value)(Q:VK),Inv X pins σ H s->RelV x v->RelV y u->r x y H Q->
  subscripted slice false v u=operate [v,u] (getItem v u)->wpAny (model X.prog X.w) X.A (subscriptTail value slice v u) (EP X pins σ Q) X.xe s
def MtR(X:Cx)(id:String)(r:V->List V->Hp->VK->Prop):Prop:=
 ∀(pins:List (Addr×Obj))(s:Shared)(σ:St)(H:Hp)(x:V)(xs:List V)(v:Value)(us:List Value)(Q:VK),Inv X pins σ H s->RelV x v->Vals xs us->r x xs H Q->
  wpAny (model X.prog X.w) X.A (call (.builtin id) (v::us)) (EP X pins σ Q) X.xe s
section
variable{X : Cx}{a b : Expr}{ta tb : TE}{pos : Pos}
theorem Zej{r:R2}(hr:IxR X r)(ha:PE X a ta)(hb:PE X b tb)(hs:ztn b):PE X (.Subscript a b pos) (tOp r ta tb):=by
 intro pins s σ H Q I h
 exact Subscript_ (binT ha hb I h fun v u s2 x y H2 I2 rx ry q=>hr a b pins s2 σ H2 x y v u Q I2 rx ry q (hs _ _))
def rIxL(K:PySem.W.Frag):R2:=fun x y H Q=>∃p xs i v,x=.ref p/\y=.int i/\SqL K H p xs/\atI xs i=some v/\Q v H
def rIxT(K:PySem.W.Frag):R2:=fun x y H Q=>∃p xs i v,x=.ref p/\y=.int i/\SqT K H p xs/\atI xs i=some v/\Q v H
def rIxS:R2:=fun x y H Q=>∃z i c,x=.str z/\y=.int i/\z.length<=sizeLine/\atI z.cps.toList i=some c/\Q (.str ⟨#[c]⟩) H
theorem zym:IxR X (rIxL X.K):=by
 intro value slice pins s σ H x y v u Q I rx ry h hs
 obtain⟨p,xs,i,z,rfl,rfl,hq,he,q⟩:=h
 cases rx
 obtain⟨t,rfl⟩:=ry
 obtain⟨its,r,pl,hz⟩:=I.list hq
 obtain⟨j,h1,h2,h3,h4,h5⟩:=znu he
 obtain⟨w,ew,rw'⟩:=r.get h2
 have hl:=r.length
 have hn:=line63
 have fin:EP X pins σ Q w s:=⟨z,H,I,rw',q⟩
 by_cases h0:0<=i
 ·have hj:i.toNat=j:=by
   rw[seqIndex_of h0 h5] at h1
   exact Option.some.inj h1
  exact item_listR pl.isList h0 (by omega) (by rw[hj];simpa using ew) fin hs
 ·have hj:(i+(its.toArray.size:Int)).toNat=j:=by
   rw[seqIndex_neg (by omega) h4] at h1
   rw[List.size_toArray,← hl]
   exact Option.some.inj h1
  exact subscriptTail_builtinR (x:=w) pl.isList.typeIs slot_list_getitem.lookup
   (wpAny_getItem_list_neg (Q:=fun r s'=>r=w/\EP X pins σ Q r s') pl.isList (by omega) (by rw[List.size_toArray] <;> omega) (by omega) (by rw[hj];simpa using ew) ⟨rfl,fin⟩) hs
theorem Zb1:IxR X (rIxT X.K):=by
 intro value slice pins s σ H x y v u Q I rx ry h hs
 obtain⟨p,xs,i,z,rfl,rfl,hq,he,q⟩:=h
 cases rx
 obtain⟨t,rfl⟩:=ry
 obtain⟨its,r,pl,hz⟩:=I.tuple hq
 obtain⟨j,h1,h2,h3,h4,h5⟩:=znu he
 obtain⟨w,ew,rw'⟩:=r.get h2
 have hl:=r.length
 have hn:=line63
 have fin:EP X pins σ Q w s:=⟨z,H,I,rw',q⟩
 exact subscriptTail_builtinR (x:=w) pl.typeIs slot_tuple_getitem.lookup
  (getItem_tuple (j:=j) (Q:=fun r s'=>r=w/\EP X pins σ Q r s') pl (by omega) (by omega) (by rw[List.size_toArray,← hl];exact h1) (by simpa using ew) ⟨rfl,fin⟩) hs
theorem Zb2:IxR X rIxS:=by
 intro value slice pins s σ H x y v u Q I rx ry h hs
 obtain⟨z,i,c,rfl,rfl,hz,he,q⟩:=h
 obtain⟨t,rfl⟩:=rx
 obtain⟨t',rfl⟩:=ry
 obtain⟨j,h1,h2,h3,h4,h5⟩:=znu he
 have hl:z.cps.toList.length=z.length:=by simp[Str.length]
 rw[hl] at h1 h4 h5
 have hn:=line63
 exact tail_any (typeIs_str s z t) slot_str_getitem.lookup (getItem_str (c:=c) (by
  have e1:decide (i < -(2 ^ 63:Int))=false:=decide_eq_false (by omega)
  have e2:decide (i ≥ 2 ^ 63)=false:=decide_eq_false (by omega)
  rw[e1,e2,Bool.or_false]) (by rw[h1];simpa using h2) ⟨.str ⟨#[c]⟩,H,I.tok _,⟨_,rfl⟩,q⟩) hs
theorem zlt(lo hi:Option Int)(n:Nat):(sliceBounds lo hi none n).1=((HT.sIx n 0 lo:Nat):Int)/\(sliceBounds lo hi none n).2.1=((HT.sIx n n hi:Nat):Int)/\(sliceBounds lo hi none n).2.2=1:=by
 refine⟨?_,?_,rfl⟩
 ·cases lo with
  | none=>simp[sliceBounds,HT.sIx]
  | some i=>
   simp only[sliceBounds,HT.sIx,Option.getD_none,show (1:Int) > 0 by decide,if_true]
   by_cases h:i<0
   ·simp only[h,if_true] <;> omega
   ·simp only[h,if_false] <;> omega
 ·cases hi with
  | none=>simp[sliceBounds,HT.sIx]
  | some i=>
   simp only[sliceBounds,HT.sIx,Option.getD_none,show (1:Int) > 0 by decide,if_true]
   by_cases h:i<0
   ·simp only[h,if_true] <;> omega
   ·simp only[h,if_false] <;> omega
theorem zk0(its:List Value)(lo hi:Option Int):slicePick its.toArray lo hi none=((its.drop (HT.sIx its.length 0 lo)).take (HT.sIx its.length its.length hi-HT.sIx its.length 0 lo)).toArray:=by
 obtain⟨h1,h2,h3⟩:=zlt lo hi its.toArray.size
 unfold slicePick
 rw[h1,h2,h3]
 simp only[sliceRange_one,pick_run,List.size_toArray] <;> rfl
def rSlL(K:PySem.W.Frag):V->Option Int->Option Int->Hp->VK->Prop:=fun x lo hi H Q=>∃a xs,x=.ref a/\SqL K H a xs/\∀p,H p=none->Q (.ref p) (upd H p (.lst (cutV xs lo hi)))
theorem zxi:SlR X (rSlL X.K):=by
 intro pins s σ H x v vl vu lo hi sl Q I rx hs pl pu h
 obtain⟨a,xs,rfl,hx,q⟩:=h
 cases rx
 obtain⟨its,r,ht,hz⟩:=I.list hx
 have hlen:=r.length
 refine⟨"list",_,slot_list_getitem.lookup,ht.isList.typeIs,?_⟩
 refine wpAny_getItem_list_slice ht.isList hs pl pu .none (by simp) ?_ (by rw[List.size_toArray] <;> omega)
 rw[zk0,← hlen]
 refine⟨.ref s.heap.objs.size,_,I.laid (t':=s.toks) (o:=.lst (cutV xs lo hi)) (fun b ob q=>Heap.get?_push_of_some _ q) (Nat.le_refl _) ?_,rfl,q _ (I.hok.fresh (Nat.le_refl _))⟩
 exact⟨Nat.le_trans (zju xs lo hi) hz,_,0,(r.drop (HT.sIx xs.length 0 lo)).take (HT.sIx xs.length xs.length hi-HT.sIx xs.length 0 lo),Heap.get?_push_size _ rfl⟩
def zj3:V->Bool
 | .non=>true
 | .bl _=>true
 | .int _=>true
 | .str _=>true
 | _=>false
def eqV:V->V->Bool
 | .non,.non=>true
 | .bl a,.bl b=>a == b
 | .bl a,.int b=>(if a then 1 else 0) == b
 | .int a,.bl b=>a == (if b then 1 else 0)
 | .int a,.int b=>a == b
 | .str a,.str b=>a == b
 | _,_=>false
theorem Zck{A:Around}{s:Shared}{y x:V}{u v:Value}(ry:RelV y u)(rx:RelV x v)(fy:zj3 y=true)(fx:zj3 x=true):SeqAt.EqAt A s u v (eqV y x):=by
 cases y with
 | non=>
  cases ry
  cases x with
  | non=>cases rx;exact SeqAt.EqAt.same _
  | bl b=>cases rx;exact SeqAt.EqAt.none_bool b
  | int b=>obtain⟨t,rfl⟩:=rx;exact SeqAt.EqAt.none_int b t
  | str b=>obtain⟨t,rfl⟩:=rx;exact SeqAt.EqAt.none_str b t
  | _=>exact absurd (show false=true from fx) Bool.false_ne_true
 | bl a=>
  cases ry
  cases x with
  | non=>cases rx;exact SeqAt.EqAt.bool_none a
  | bl b=>cases rx;exact SeqAt.EqAt.bool_bool a b
  | int b=>obtain⟨t,rfl⟩:=rx;exact SeqAt.EqAt.bool_int a b t
  | str b=>obtain⟨t,rfl⟩:=rx;exact SeqAt.EqAt.bool_str a b t
  | _=>exact absurd (show false=true from fx) Bool.false_ne_true
 | int a=>
  obtain⟨t',rfl⟩:=ry
  cases x with
  | non=>cases rx;exact SeqAt.EqAt.int_none a t'
  | bl b=>cases rx;exact SeqAt.EqAt.int_bool a t' b
  | int b=>obtain⟨t,rfl⟩:=rx;exact SeqAt.EqAt.int_int a t' b t
  | str b=>obtain⟨t,rfl⟩:=rx;exact SeqAt.EqAt.int_str a t' b t
  | _=>exact absurd (show false=true from fx) Bool.false_ne_true
 | str a=>
  obtain⟨t',rfl⟩:=ry
  cases x with
  | non=>cases rx;exact SeqAt.EqAt.str_none a t'
  | bl b=>cases rx;exact SeqAt.EqAt.str_bool a t' b
  | int b=>obtain⟨t,rfl⟩:=rx;exact SeqAt.EqAt.str_int a t' b t
  | str b=>obtain⟨t,rfl⟩:=rx;exact SeqAt.EqAt.str_str a t' b t
  | _=>exact absurd (show false=true from fx) Bool.false_ne_true
 | _=>exact absurd (show false=true from fy) Bool.false_ne_true
def eqU(x:V)(u:Value):Bool:=match u with
 | .none=>eqV .non x
 | .bool b=>eqV (.bl b) x
 | .int i _=>eqV (.int i) x
 | .str z _=>eqV (.str z) x
 | _=>false
theorem zwv{x y:V}{u:Value}(r:RelV y u)(f:zj3 y=true):eqU x u=eqV y x:=by
 cases y with
 | non=>cases r;rfl
 | bl b=>cases r;rfl
 | int i=>obtain⟨t,rfl⟩:=r;rfl
 | str z=>obtain⟨t,rfl⟩:=r;rfl
 | _=>exact absurd (show false=true from f) Bool.false_ne_true
theorem zjy{x:V}:∀{xs:List V}{us:List Value},Vals xs us->xs.all zj3=true->us.any (eqU x)=xs.any fun y=>eqV y x
 | _,_,.nil,_=>rfl
 | y::xs,u::us,.cons r t,f=>by
  rw[List.all_cons,Bool.and_eq_true] at f
  rw[List.any_cons,List.any_cons,zwv r f.1,zjy t f.2]
theorem zha{A:Around}{s:Shared}{x:V}{v:Value}(rx:RelV x v)(fx:zj3 x=true):∀{xs:List V}{us:List Value},Vals xs us->xs.all zj3=true->∀u∈us,SeqAt.EqAt A s u v (eqU x u)
 | _,_,.nil,_=>fun u hu=>by cases hu
 | y::xs,u::us,.cons r t,f=>fun u' hu=>by
  rw[List.all_cons,Bool.and_eq_true] at f
  rcases List.mem_cons.mp hu with rfl | hu
  ·rw[zwv r f.1];exact Zck r rx f.1 fx
  ·exact zha rx fx t f.2 u' hu
def inV(x:V)(xs:List V):Bool:=xs.any fun y=>eqV y x
def rIn(K:PySem.W.Frag)(neg:Bool):R2:=fun x y H Q=>∃p xs,y=.ref p/\(SqL K H p xs\/SqT K H p xs)/\zj3 x=true/\xs.all zj3=true/\Q (.bl (if neg then !inV x xs else inV x xs)) H
theorem zl4:OpR X (compareOp .In) (rIn X.K false):=by
 intro pins s σ H x y v u Q I rx ry h
 obtain⟨p,xs,rfl,hq,fx,fs,q⟩:=h
 cases ry
 rcases hq with hq | hq
 ·obtain⟨its,r,pl,hz⟩:=I.list hq
  refine SeqAt.in_listAt (eqU x) pl.isList (fun w hw=>zha rx fx r fs w (by simpa using hw)) ⟨.bl _,H,I,rfl,?_⟩
  rw[show its.toArray.any (eqU x)=its.any (eqU x) by simp,zjy r fs]
  exact q
 ·obtain⟨its,r,pl,hz⟩:=I.tuple hq
  refine SeqAt.in_tupleAt (eqU x) pl (fun w hw=>zha rx fx r fs w (by simpa using hw)) ⟨.bl _,H,I,rfl,?_⟩
  rw[show its.toArray.any (eqU x)=its.any (eqU x) by simp,zjy r fs]
  exact q
theorem zig:OpR X (compareOp .NotIn) (rIn X.K true):=by
 intro pins s σ H x y v u Q I rx ry h
 obtain⟨p,xs,rfl,hq,fx,fs,q⟩:=h
 cases ry
 rcases hq with hq | hq
 ·obtain⟨its,r,pl,hz⟩:=I.list hq
  refine SeqAt.notIn_listAt (eqU x) pl.isList (fun w hw=>zha rx fx r fs w (by simpa using hw)) ⟨.bl _,H,I,rfl,?_⟩
  rw[show its.toArray.any (eqU x)=its.any (eqU x) by simp,zjy r fs]
  exact q
 ·obtain⟨its,r,pl,hz⟩:=I.tuple hq
  refine SeqAt.notIn_tupleAt (eqU x) pl (fun w hw=>zha rx fx r fs w (by simpa using hw)) ⟨.bl _,H,I,rfl,?_⟩
  rw[show its.toArray.any (eqU x)=its.any (eqU x) by simp,zjy r fs]
  exact q
theorem zl3:OpR X (compareOp .NotIn) (fun x y H Q=>∃i j,x=.str i/\y=.str j/\Q (.bl (!(!(Builtin.Str.occurrences j i 0 j.length 1).isEmpty))) H):=by
 intro pins s σ H x y v u Q I rx ry h
 obtain⟨i,j,rfl,rfl,q⟩:=h
 obtain⟨t,rfl⟩:=rx
 obtain⟨t',rfl⟩:=ry
 exact notIn_str ⟨.bl _,H,I,rfl,q⟩
theorem zij:zgz X (.type "list") (fun xs H Q=>∃p ys,xs=[.ref p]/\(SqL X.K H p ys\/SqT X.K H p ys)/\∀l,H l=none->Q (.ref l) (upd H l (.lst ys))):=by
 intro pins s σ H xs us Q I r h
 obtain⟨p,ys,rfl,hq,q⟩:=h
 obtain⟨u,rfl,rx⟩:=vals1 r
 cases rx
 have fin:∀(its:List Value),Vals ys its->ys.length<=sizeLine->∀(h':Heap)(c':Nat),(∀b o',s.heap.get? b=some o'->h'.get? b=some o')->
   h'.get? s.heap.objs.size=some { cls:=.type "list",dict:=none,data:=.seq its.toArray c',slots:=#[] }->EP X pins σ Q (.ref s.heap.objs.size) { s with heap:=h' }:=fun its r' hz h' c' kp e=>
  ⟨.ref s.heap.objs.size,_,I.laid (t':=s.toks) kp (Nat.le_refl _) (show zdz X.prog X.w _ h' _ (.lst ys) from ⟨hz,its,c',r',e⟩),rfl,q _ (I.hok.fresh (Nat.le_refl _))⟩
 rcases hq with hq | hq
 ·obtain⟨its,r',pl,hz⟩:=I.list hq
  have hlen:=r'.length
  obtain⟨o,ho,hc,n,hd⟩:=pl.isList
  exact call_list_seq p (.inl rfl) ho hc hd (fun h' c' kp e=>fin its r' hz h' c' kp e) (by simp only[List.size_toArray] <;> omega)
 ·obtain⟨its,r',pl,hz⟩:=I.tuple hq
  have hlen:=r'.length
  obtain⟨o,ho,hc,n,hd⟩:=pl
  exact call_list_seq p (.inr rfl) ho hc hd (fun h' c' kp e=>fin its r' hz h' c' kp e) (by simp only[List.size_toArray] <;> omega)
theorem zhr:zgz X (.type "tuple") (fun xs H Q=>∃p ys,xs=[.ref p]/\((SqL X.K H p ys/\∀l,H l=none->Q (.ref l) (upd H l (.tup ys)))\/(SqT X.K H p ys/\Q (.ref p) H))):=by
 intro pins s σ H xs us Q I r h
 obtain⟨p,ys,rfl,h⟩:=h
 obtain⟨u,rfl,rx⟩:=vals1 r
 cases rx
 rcases h with⟨hq,q⟩|⟨hq,q⟩
 ·obtain⟨its,r',pl,hz⟩:=I.list hq
  have hlen:=r'.length
  refine call_tuple_list pl.isList (fun h' kp=>?_) (by simp only[List.size_toArray] <;> omega)
  have I1:Inv X pins σ H { s with heap:=h' }:=I.kept (t':=s.toks) kp
  have I2:Inv X pins σ (upd H h'.objs.size (.tup ys)) { s with heap:=h'.push { cls:=.type "tuple",data:=.seq its.toArray } }:=
   I1.laid (t':=s.toks) (fun b o e=>Heap.get?_push_of_some _ e) (Nat.le_refl _) (show zdz X.prog X.w _ _ _ (.tup ys) from ⟨hz,its,r',IsTp.new _ _⟩)
  exact⟨.ref h'.objs.size,_,I2,rfl,q _ (I1.hok.fresh (Nat.le_refl _))⟩
 ·obtain⟨its,r',pl,hz⟩:=I.tuple hq
  exact call_tuple_same pl ⟨.ref p,H,I,rfl,q⟩
def tyV(K:PySem.W.Frag)(T:String)(x:V)(H:Hp):Prop:=match x with
 | .str _=>T="str"
 | .int _=>T="int"
 | .ref p=>(T="list"/\∃xs,SqL K H p xs)\/(T="tuple"/\∃o,K.lookup p=some o/\o.cls=.type "tuple"/\o.dict=none) ∨
   (T="dict"/\((∃kvs,H p=some (.dK kvs))\/∃kvs,H p=some (.dT kvs)))\/(T="set"/\∃S n,H p=some (.set S n))
 | _=>False
theorem zv5{pins:List (Addr×Obj)}{σ:St}{H:Hp}{s:Shared}{T:String}{x:V}{v:Value}(I:Inv X pins σ H s)(r:RelV x v)(ty:tyV X.K T x H) :
  s.TypeIs v T/\∀a,v=.ref a->∃ob,s.heap.get? a=some ob/\ob.dict=none:=by
 cases x with
 | str z=>
  obtain⟨t,rfl⟩:=r
  cases (show T="str" from ty)
  exact⟨typeIs_str s z t,fun _ e=>nomatch e⟩
 | int i=>
  obtain⟨t,rfl⟩:=r
  cases (show T="int" from ty)
  exact⟨typeIs_int s i t,fun _ e=>nomatch e⟩
 | ref p=>
  cases r
  rcases ty with⟨rfl,xs,hq⟩|⟨rfl,o,hk,hc,hd⟩|⟨rfl,hk⟩|⟨rfl,S,n,hk⟩
  ·obtain⟨its,_,pl,_⟩:=I.list hq
   refine⟨pl.isList.typeIs,fun a e=>?_⟩
   cases e
   obtain⟨o,n,e,c,hd,_⟩:=pl
   exact⟨o,e,hd⟩
  ·refine⟨⟨o,I.kIn p o hk,hc⟩,fun a e=>?_⟩
   cases e
   exact⟨o,I.kIn _ o hk,hd⟩
  ·have z:∃o,s.heap.get? p=some o/\o.ExactDict:=by
    rcases hk with⟨kvs,hk⟩|⟨kvs,hk⟩
    ·obtain⟨_,_,_,_,o,_,_,e,ex,_⟩:=I.hok p _ hk
     exact⟨o,e,ex⟩
    ·obtain⟨_,_,_,_,o,_,_,e,ex,_⟩:=I.hok p _ hk
     exact⟨o,e,ex⟩
   obtain⟨o,e,ex⟩:=z
   refine⟨⟨o,e,ex.1⟩,fun a e2=>?_⟩
   cases e2
   exact⟨o,e,ex.2.1⟩
  ·obtain⟨o,_,_,_,e,ex,_⟩:=I.hok p _ hk
   refine⟨⟨o,e,ex.1⟩,fun a e2=>?_⟩
   cases e2
   exact⟨o,e,ex.2.1⟩
 | _=>exact False.elim ty
def tBM0(K:PySem.W.Frag)(T:String)(r:V->List V->Hp->VK->Prop)(to:TE):TE:=fun σ H Q=>to σ H fun x H1=>tyV K T x H1/\r x [] H1 Q
def tBM(K:PySem.W.Frag)(T:String)(r:V->List V->Hp->VK->Prop)(to:TE)(t:TA):TE:=fun σ H Q=>to σ H fun x H1=>tyV K T x H1/\t σ H1 fun xs H2=>r x xs H2 Q
variable{o e : Expr}{es : List Expr}{to : TE}{t : TA}{name : Str}{apos cpos : Pos}{T id : String}{r : V → List V → Hp → VK → Prop}
theorem Za3 (pa:PlainAttrs T) (slot:Slot T name id) (hty:typeOf (.builtin id)=pure (.type "method_descriptor")) (hm:MtR X id r) (ho:PE X o to)
  (hbase:attributeBase o name X.env (eval o X.env)=eval o X.env:=by rfl) (hline:(apos.endLine == cpos.line)=true:=by rfl):PE X (.Call (.Attribute o name apos) [] [] cpos) (tBM0 X.K T r to):=by
 intro pins s σ H Q I h
 refine wpAny_Call_method0_late hbase hline (thn (ho pins s σ H _ I h) fun v s1 ⟨x,H1,I1,r1,ty,q1⟩=>?_)
 obtain⟨h1,h2⟩:=zv5 I1 r1 ty
 exact⟨T,id,pa,slot,hty,h1,h2,Calls.callWith_builtin rfl (PySem.evalArgs_none (hm pins s1 σ H1 x [] v [] Q I1 r1 .nil q1))⟩
theorem Za4 (pa:PlainAttrs T) (slot:Slot T name id) (hty:typeOf (.builtin id)=pure (.type "method_descriptor")) (hm:MtR X id r) (ho:PE X o to) (ha:PA X (e::es) t)
  (hbase:attributeBase o name X.env (eval o X.env)=eval o X.env:=by rfl)
  (hfew:((backTo cpos (starEach (e::es) X.env)).all (fun x=>!x.1) && (backToKw cpos (keywordEach [] X.env)).all (fun x=>x.1.isSome)
   && decide ((e::es).length+([]:List Keyword).length+(if ([]:List Keyword).isEmpty then 0 else 1)<30))=true:=by rfl)
  (hline:(apos.endLine == cpos.line)=true:=by rfl) (hs:starEach (e::es) X.env=(false,eval e X.env)::starEach es X.env:=by rfl) (hplain:(backTo cpos (starEach es X.env)).any (·.1)=false:=by rfl) :
  PE X (.Call (.Attribute o name apos) (e::es) [] cpos) (tBM X.K T r to t):=by
 intro pins s σ H Q I h
 refine wpAny_Call_method_late hbase hfew hline rfl (thn (ho pins s σ H _ I h) fun v s1 ⟨x,H1,I1,r1,ty,q1⟩=>?_)
 obtain⟨h1,h2⟩:=zv5 I1 r1 ty
 refine⟨T,id,pa,slot,hty,h1,h2,?_⟩
 have hA:=ha cpos pins s1 σ H1 _ I1 q1
 rw[hs] at hA ⊢
 refine Calls.callWith_builtin (by show (false || (backTo cpos (starEach es X.env)).any (·.1))=false;rw[hplain] <;> rfl) (Calls.evalArgs_plain ?_)
 exact thn hA fun us s2 ⟨vs,H2,I2,r2,q2⟩=>hm pins s2 σ H2 x vs v us Q I2 r1 r2 q2
end
end L2
namespace L2
open PySem PySem.Spec PyProof.Rows
def MtM(X:Cx)(id:String)(r:V->List V->Hp->VK->Prop):Prop:=
 ∀(pins:List (Addr×Obj))(s:Shared)(σ:St)(H:Hp)(x:V)(xs:List V)(v:Value)(us:List Value)(Q:VK),Inv X pins σ H s->RelV x v->Vals xs us->r x xs H Q->
  wpAny (model X.prog X.w) X.A (call (.builtin id) (v::us)) (EP X pins σ Q) X.xe s
theorem Vals.one:∀{x:V}{us:List Value},Vals [x] us->∃u,us=[u]/\RelV x u
 | _,_,.cons r .nil=>⟨_,rfl,r⟩
section
variable{X : Cx}{pins : List (Addr×Obj)}{σ : St}{H : Hp}{s : Shared}{l b : Addr}{xs ys zs : List V}
theorem Inv.lset{its its':List Value}{n:Nat}{f:Array Value->Array Value}{t':Nat}(I:Inv X pins σ H s)(hH:H l=some (.lst xs))
  (e:s.heap.get? l=some { cls:=.type "list",data:=.seq its.toArray n }) (hf:f its.toArray=its'.toArray) (hv:Vals ys its') (hz:ys.length<=sizeLine) :
  Inv X pins σ (upd H l (.lst ys)) { s with heap:=s.heap.update l (Obj.mapSeq f),toks:=t' }:=by
 have q:=PySem.IsL.update e f
 rw[hf] at q
 refine I.write (x:=l) (e:=l) (by rw[hH];exact trivial) (.inl rfl) (fun b' u hb hu=>(Heap.get?_update_other s.heap (Obj.mapSeq f) (Ne.symm hb)).trans hu) ⟨_,q⟩ ?_
 exact⟨hz,its',_,hv,q⟩
theorem Inv.lnew{its:List Value}{t':Nat}(I:Inv X pins σ H s)(hv:Vals ys its)(hz:ys.length<=sizeLine) :
  Inv X pins σ (upd H s.heap.objs.size (.lst ys)) { s with heap:=s.heap.push { cls:=.type "list",data:=.seq its.toArray },toks:=t' }:=
 I.laid (fun _ _ q=>Heap.get?_push_of_some _ q) (Nat.le_refl _) ⟨hz,its,0,hv,Heap.get?_push_size _ rfl⟩
theorem Inv.fresh(I:Inv X pins σ H s):H s.heap.objs.size=none:=I.hok.fresh (Nat.le_refl _)
theorem Inv.lstM (I:Inv X pins σ H s) (hH:H l=some (.lst xs)):xs.length<=sizeLine/\∃(its:List Value) (n:Nat),Vals xs its/\xs.length=its.length/\s.heap.get? l=some { cls:=.type "list",data:=.seq its.toArray n }:=by
 obtain⟨z,its,n,r,e⟩:=I.hok l _ hH
 exact⟨z,its,n,r,r.length,e⟩
end
section
variable{X : Cx}
def zxo:V->List V->Hp->VK->Prop:=fun x vs H Q=>∃l xs y,x=.ref l/\vs=[y]/\H l=some (.lst xs)/\xs.length<sizeLine/\Q .non (upd H l (.lst (xs++[y])))
theorem zl5:MtM X "list.append" zxo:=by
 intro pins s σ H x vs v us Q I rx rv h
 obtain⟨l,xs,y,rfl,rfl,hH,hz,q⟩:=h
 cases rx
 obtain⟨u,rfl,ru⟩:=rv.one
 obtain⟨z,its,n,r,hl,e⟩:=I.lstM hH
 refine call_meets F.slot_list_append ⟨_,e,rfl⟩ F.entry_list_append (F.args_list_append_2 _ _) (PySem.list_append l its.toArray n u (by rw[List.size_toArray];omega)) ⟨e,?_⟩
 refine⟨.non,_,I.lset (its':=its++[u]) hH e (by simp) (r.append (.cons ru .nil)) ?_,rfl,q⟩
 rw[List.length_append,List.length_singleton]
 omega
def zv9:V->List V->Hp->VK->Prop:=fun x vs H Q=>∃l xs,x=.ref l/\vs=[]/\H l=some (.lst xs)/\Q .non (upd H l (.lst []))
end
end L2
namespace L2
open PySem PySem.Spec PyProof.Rows
section
variable{κ : Type}[DecidableEq κ]
def valV(kvs:List (κ×V))(k:κ):Option V:=(kvs.find? fun kv=>decide (kv.1=k)).map (·.2)
def putK(kvs:List (κ×V))(k:κ)(v:V):List (κ×V):=
 if (kvs.any fun kv=>decide (kv.1=k))=true then kvs.map (fun kv=>if kv.1=k then (kv.1,v) else kv) else kvs++[(k,v)]
theorem zg1{p:κ×V}{r:List (κ×V)}{k:κ}(e:p.1=k):valV (p::r) k=some p.2:=by simp[valV,List.find?_cons,e]
theorem ze1{p:κ×V}{r:List (κ×V)}{k:κ}(e:¬ p.1=k):valV (p::r) k=valV r k:=by simp[valV,List.find?_cons,e]
theorem zin(k:κ):∀kvs:List (κ×V),(kvs.any fun kv=>decide (kv.1=k))=(valV kvs k).isSome
 | []=>rfl
 | p::r=>by
  rw[List.any_cons]
  by_cases e:p.1=k
  ·simp only[zg1 e,decide_eq_true e,Bool.true_or,Option.isSome_some]
  ·rw[ze1 e,decide_eq_false e,Bool.false_or];exact zin k r
theorem ze9(kvs:List (κ×V))(k:κ)(v:V):(putK kvs k v).length<=kvs.length+1:=by
 unfold putK
 split
 ·rw[List.length_map];omega
 ·rw[List.length_append,List.length_cons,List.length_nil];omega
theorem RelO.isSome_eq{o:Option V}{u:Option Value}(r:RelO o u):o.isSome=u.isSome:=by
 cases o with
 | none=>cases u with
  | none=>rfl
  | some _=>exact(show False from r).elim
 | some _=>cases u with
  | none=>exact(show False from r).elim
  | some _=>rfl
theorem KV.val{kvs:List (κ×V)}{vs:List (κ×Value)}(r:KV kvs vs)(k:κ):RelO (valV kvs k) (valueAt vs k):=by
 unfold KV at r
 induction r with
 | nil=>exact True.intro
 | @cons p q ps qs h t ih=>
  obtain⟨h1,h2⟩:=h
  by_cases e:p.1=k
  ·have e':q.1=k:=h1.symm.trans e
   have b:valueAt (q::qs) k=some q.2:=by simp[valueAt,List.find?_cons,e']
   rw[zg1 e,b];exact h2
  ·have e':¬ q.1=k:=fun z=>e (h1.trans z)
   have b:valueAt (q::qs) k=valueAt qs k:=by simp[valueAt,List.find?_cons,e']
   rw[ze1 e,b];exact ih
theorem KV.any{kvs:List (κ×V)}{vs:List (κ×Value)}(r:KV kvs vs)(k:κ):(kvs.any fun kv=>decide (kv.1=k))=vs.any fun kv=>decide (kv.1=k):=by
 unfold KV at r
 induction r with
 | nil=>rfl
 | cons h t ih=>rw[List.any_cons,List.any_cons,ih,h.1]
theorem KV.repl{kvs:List (κ×V)}{vs:List (κ×Value)}(r:KV kvs vs)(k:κ){y:V}{u:Value}(ry:RelV y u) :
  KV (kvs.map fun kv=>if kv.1=k then (kv.1,y) else kv) (vs.map fun kv=>if kv.1=k then (kv.1,u) else kv):=by
 unfold KV at r ⊢
 induction r with
 | nil=>exact .nil
 | @cons p q ps qs h t ih=>
  rw[List.map_cons,List.map_cons]
  refine .cons ?_ ih
  obtain⟨h1,h2⟩:=h
  by_cases e:p.1=k
  ·rw[if_pos e,if_pos (h1.symm.trans e)];exact⟨h1,ry⟩
  ·rw[if_neg e,if_neg (fun z=>e (h1.trans z))];exact⟨h1,h2⟩
theorem KV.put{kvs:List (κ×V)}{vs:List (κ×Value)}(r:KV kvs vs)(k:κ){y:V}{u:Value}(ry:RelV y u):KV (putK kvs k y) (stored vs k u):=by
 unfold putK stored
 rw[r.any k]
 by_cases e:(vs.any fun kv=>decide (kv.1=k))=true
 ·rw[if_pos e,if_pos e];exact r.repl k ry
 ·rw[if_neg e,if_neg e];exact Paired.snoc r ⟨rfl,ry⟩
theorem KV.length{kvs:List (κ×V)}{vs:List (κ×Value)}(r:KV kvs vs):kvs.length=vs.length:=Paired.length r
end
theorem zj2{P:Program}{w:World}{k:Key}{u:Value}(r:RelV (kV k) u):(zax P w).is k u=true:=by
 cases k with
 | inl i=>obtain⟨t,e⟩:=(show ∃t,u=Value.int i t from r);subst e;exact zne P w i t
 | inr x=>obtain⟨t,e⟩:=(show ∃t,u=Value.str x t from r);subst e;exact zjc P w x t
theorem zme{P:Program}{w:World}:∀{ks:List Key}{us:List Value},Vals (ks.map kV) us->ItemsAre (zax P w) ks us
 | [],_,r=>by rw[List.map_nil] at r;cases r;exact .nil
 | k::ks,_,r=>by
  rw[List.map_cons] at r
  cases r with
  | cons h t=>exact .cons (zj2 h) (zme t)
abbrev KT(H:Hp):List (List Key×V)->List (List Key×Addr×Value)->Prop:=Paired fun p q=>p.1=q.1/\H q.2.1=some (.tup (p.1.map kV))/\RelV p.2 q.2.2
theorem KT.val{H:Hp}{kvs:List (List Key×V)}{xs:List (List Key×Addr×Value)}(r:KT H kvs xs)(k:List Key):RelO (valV kvs k) ((atKey xs k).map (·.2)):=by
 induction r with
 | nil=>exact True.intro
 | @cons p q ps qs h t ih=>
  obtain⟨h1,_,h2⟩:=h
  by_cases e:p.1=k
  ·have e':q.1=k:=h1.symm.trans e
   have b:atKey (q::qs) k=some q.2:=by simp[atKey,List.find?_cons,e']
   rw[zg1 e,b];exact h2
  ·have e':¬ q.1=k:=fun z=>e (h1.trans z)
   have b:atKey (q::qs) k=atKey qs k:=by simp[atKey,List.find?_cons,e']
   rw[ze1 e,b];exact ih
theorem KT.repl{H:Hp}{kvs:List (List Key×V)}{xs:List (List Key×Addr×Value)}(r:KT H kvs xs)(k:List Key){y:V}{u:Value}(ry:RelV y u) :
  KT H (kvs.map fun kv=>if kv.1=k then (kv.1,y) else kv) (xs.map (putAt k u)):=by
 induction r with
 | nil=>exact .nil
 | @cons p q ps qs h t ih=>
  rw[List.map_cons,List.map_cons]
  refine .cons ?_ ih
  obtain⟨h1,h2,h3⟩:=h
  unfold putAt
  by_cases e:p.1=k
  ·rw[if_pos e,if_pos (h1.symm.trans e)];exact⟨h1,h2,ry⟩
  ·rw[if_neg e,if_neg (fun z=>e (h1.trans z))];exact⟨h1,h2,h3⟩
theorem KT.put{H:Hp}{kvs:List (List Key×V)}{xs:List (List Key×Addr×Value)}(r:KT H kvs xs)(k:List Key){b:Addr}{y:V}{u:Value}(hb:H b=some (.tup (k.map kV)))(ry:RelV y u) :
  KT H (putK kvs k y) (storedH xs k b u):=by
 have e:(kvs.any fun kv=>decide (kv.1=k))=(atKey xs k).isSome:=by
  rw[zin,(r.val k).isSome_eq,Option.isSome_map]
 unfold putK storedH
 rw[e]
 by_cases q:(atKey xs k).isSome=true
 ·rw[if_pos q,if_pos q];exact r.repl k ry
 ·rw[if_neg q,if_neg q];exact Paired.snoc r ⟨rfl,hb,ry⟩
theorem KT.keeps{H H':Hp}{kvs:List (List Key×V)}{xs:List (List Key×Addr×Value)}(r:KT H kvs xs)(ht:∀b ys,H b=some (.tup ys)->H' b=some (.tup ys)):KT H' kvs xs:=
 Paired.mapP r fun _ _ z=>⟨z.1,ht _ _ z.2.1,z.2.2⟩
section
variable{P : Program}{w : World}{H : Hp}{h : Heap}{a : Addr}
theorem Zap{u:HO}(ok:HOk P w H h)(e:Rd H a u):zdz P w H h a u:=e.ok ok
theorem zp6{kvs:List (Key×V)}(ok:HOk P w H h)(e:Rd H a (.dK kvs)):kvs.length<=sizeLine/\(a == sysModules)=false/\∃vs,KV kvs vs/\h.DictOf (zax P w) a vs:=
 show zdz P w H h a (.dK kvs) from Zap ok e
theorem Zct{kvs:List (Key×V)}(ok:HOk P w H h)(e:H a=some (.dK kvs)):kvs.length<=sizeLine/\(a == sysModules)=false/\∃vs,KV kvs vs/\h.DictOf (zax P w) a vs:=zp6 ok (.inl e)
theorem key_of{ks:List Key}(ok:HOk P w H h)(e:H a=some (.tup (ks.map kV))):(tupleKind (zax P w)).is h ks a:=by
 obtain⟨_,its,r,o,h1,h2,⟨n,h3⟩,_⟩:=(show zdz P w H h a (.tup (ks.map kV)) from ok a _ e)
 exact⟨o,its.toArray,n,h1,h2,h3,by simpa using zme r⟩
theorem znr{kvs:List (List Key×V)}(ok:HOk P w H h)(e:Rd H a (.dT kvs)):kvs.length<=sizeLine/\(a == sysModules)=false/\
  ∃xs,KT H kvs xs/\h.DictOfH (tupleKind (zax P w)) a xs:=by
 obtain⟨z,y,xs,r,o,es,ep,h1,h2,h3,h4,h5⟩:=(show zdz P w H h a (.dT kvs) from Zap ok e)
 refine⟨z,y,xs,r,o,es,ep,h1,h2,h3,h4,fun x hx=>?_,h5⟩
 have all:∀{l:List (List Key×V)}{m:List (List Key×Addr×Value)},KT H l m->∀x∈m,(tupleKind (zax P w)).is h x.1 x.2.1:=by
  intro l m q
  induction q with
  | nil=>intro x hx;exact nomatch hx
  | @cons p q ps qs hq t ih=>
   intro x hx
   rcases List.mem_cons.mp hx with e | hx
   ·subst e
    exact key_of ok (by rw[← hq.1];exact hq.2.1)
   ·exact ih x hx
 exact all r x hx
theorem Zcs{kvs:List (List Key×V)}(ok:HOk P w H h)(e:H a=some (.dT kvs)):kvs.length<=sizeLine/\(a == sysModules)=false/\
  ∃xs,KT H kvs xs/\h.DictOfH (tupleKind (zax P w)) a xs:=znr ok (.inl e)
end
def DGet(H:Hp)(a:Addr)(y:V)(r:Option V):Prop:=
 (∃kvs k,Rd H a (.dK kvs)/\y=kV k/\r=valV kvs k)\/∃kvs k b,Rd H a (.dT kvs)/\y=.ref b/\H b=some (.tup (k.map kV))/\r=valV kvs k
def DPut(H:Hp)(a:Addr)(y v:V)(H':Hp):Prop:=
 (∃kvs k,H a=some (.dK kvs)/\y=kV k/\kvs.length<sizeLine/\H'=upd H a (.dK (putK kvs k v))) ∨
 ∃kvs k b,H a=some (.dT kvs)/\y=.ref b/\H b=some (.tup (k.map kV))/\kvs.length<sizeLine/\H'=upd H a (.dT (putK kvs k v))
theorem DPut.k{H:Hp}{a:Addr}{kvs:List (Key×V)}{k:Key}{v:V}(e:H a=some (.dK kvs))(hl:kvs.length<sizeLine):DPut H a (kV k) v (upd H a (.dK (putK kvs k v))):=.inl ⟨kvs,k,e,rfl,hl,rfl⟩
theorem DPut.t{H:Hp}{a b:Addr}{kvs:List (List Key×V)}{k:List Key}{v:V}(e:H a=some (.dT kvs))(eb:H b=some (.tup (k.map kV)))(hl:kvs.length<sizeLine) :
  DPut H a (.ref b) v (upd H a (.dT (putK kvs k v))):=.inr ⟨kvs,k,b,e,rfl,eb,hl,rfl⟩
section
variable{X : Cx}{pins : List (Addr×Obj)}{σ : St}{H : Hp}{s : Shared}{a : Addr}{y v : V}{u r : Value}{o : Option V}{A : Around}{E : Value → Shared → Prop}
theorem Inv.big(I:Inv X pins σ H s):sysModules<s.heap.objs.size:=by
 have h:mainGlobals<s.heap.objs.size:=(I.mod.glob.keeps I.bk).lt
 exact Nat.lt_trans (by decide) h
theorem zs8{Q:Value->Shared->Prop}(hu:A.units+1<cLine)(I:Inv X pins σ H s)(g:DGet H a y (some v))(ry:RelV y u)(h:∀w' s',Inv X pins σ H s'->RelV v w'->Q w' s') :
  wpAny (model X.prog X.w) A (getItem (.ref a) u) Q E s:=by
 rcases g with⟨kvs,k,e,ey,l⟩|⟨kvs,k,b,e,ey,eb,l⟩
 ·subst ey
  obtain⟨z,hd,vs,rel,dd⟩:=zp6 I.hok e
  obtain⟨w',hw,rw'⟩:=RelO.some_of (v:=v) (o:=valueAt vs k) (by rw[l];exact rel.val k)
  exact wpAny_getItem_of (zj2 ry) dd.mapOf hw (h w' _ (I.tok _) rw')
 ·subst ey
  cases (show u=Value.ref b from ry)
  obtain⟨z,hd,xs,rel,dd⟩:=znr I.hok e
  obtain⟨w',hw,rw'⟩:=RelO.some_of (v:=v) (o:=(atKey xs k).map (·.2)) (by rw[l];exact rel.val k)
  obtain⟨p,hp,hp2⟩:=Option.map_eq_some_iff.mp hw
  refine wpAny_getItem_heap (tupleKind_room_in1 hu) (key_of I.hok eb) dd hp ?_
  rw[hp2]
  exact h w' _ (I.tok _) rw'
theorem d_in{Q:Value->Shared->Prop}(hu:A.units+1<cLine)(I:Inv X pins σ H s)(g:DGet H a y o)(ry:RelV y u)(h:∀s',Inv X pins σ H s'->Q (.bool o.isSome) s') :
  wpAny (model X.prog X.w) A (compareOp .In u (.ref a)) Q E s:=by
 rcases g with⟨kvs,k,e,ey,l⟩|⟨kvs,k,b,e,ey,eb,l⟩
 ·subst ey
  obtain⟨z,hd,vs,rel,dd⟩:=zp6 I.hok e
  refine wpAny_in_of (zj2 ry) hd dd.mapOf ?_
  rw[← (rel.val k).isSome_eq,← l]
  exact h _ (I.tok _)
 ·subst ey
  cases (show u=Value.ref b from ry)
  obtain⟨z,hd,xs,rel,dd⟩:=znr I.hok e
  refine wpAny_in_heap (tupleKind_room_in1 hu) (key_of I.hok eb) hd dd ?_
  have q:=(rel.val k).isSome_eq
  rw[Option.isSome_map] at q
  rw[← q,← l]
  exact h _ (I.tok _)
theorem zza{Q:Value->Shared->Prop}(hu:A.units+1<cLine)(I:Inv X pins σ H s)(g:DGet H a y o)(ry:RelV y u)(h:∀s',Inv X pins σ H s'->Q (.bool (!o.isSome)) s') :
  wpAny (model X.prog X.w) A (compareOp .NotIn u (.ref a)) Q E s:=by
 rcases g with⟨kvs,k,e,ey,l⟩|⟨kvs,k,b,e,ey,eb,l⟩
 ·subst ey
  obtain⟨z,hd,vs,rel,dd⟩:=zp6 I.hok e
  refine wpAny_notIn_of (zj2 ry) hd dd.mapOf ?_
  rw[← (rel.val k).isSome_eq,← l]
  exact h _ (I.tok _)
 ·subst ey
  cases (show u=Value.ref b from ry)
  obtain⟨z,hd,xs,rel,dd⟩:=znr I.hok e
  refine wpAny_notIn_heap (tupleKind_room_in1 hu) (key_of I.hok eb) hd dd ?_
  have q:=(rel.val k).isSome_eq
  rw[Option.isSome_map] at q
  rw[← q,← l]
  exact h _ (I.tok _)
theorem zli{h':Heap}{t':Nat}{ob:HO}(I:Inv X pins σ H s)(mu:Mut (H a))(hs:Heap.SameBut a s.heap h')(he:∃q,h'.get? a=some q)(new:zdz X.prog X.w (upd H a ob) h' a ob) :
  Inv X pins σ (upd H a ob) { s with heap:=h',toks:=t' }:=
 I.write (x:=a) (e:=a) mu (.inl rfl) (fun b q hb z=>(hs.2 b hb).trans z) he new
theorem zwy{P:Program}{w:World}{H':Hp}{h':Heap}{kvs:List (Key×V)}{vs:List (Key×Value)}(z:kvs.length<=sizeLine)(hd:(a == sysModules)=false)(rel:KV kvs vs)(dd:h'.DictOf (zax P w) a vs) :
  zdz P w H' h' a (.dK kvs):=⟨z,hd,vs,rel,dd⟩
theorem zs7{H':Hp}{Q:Unit->Shared->Prop}(hu:A.units+1<cLine)(I:Inv X pins σ H s)(g:DPut H a y v H')(ry:RelV y u)(rv:RelV v r)(h:∀s',Inv X pins σ H' s'->Q () s') :
  wpAny (model X.prog X.w) A (setItem (.ref a) u r) Q E s:=by
 rcases g with⟨kvs,k,e,ey,l,eH⟩|⟨kvs,k,b,e,ey,eb,l,eH⟩
 ·subst ey eH
  obtain⟨z,hd,vs,rel,dd⟩:=Zct I.hok e
  have hz:vs.length<=sizeLine:=by rw[← rel.length];exact z
  have hl:(putK kvs k v).length<=sizeLine:=by have:=ze9 kvs k v;omega
  refine wpAny_setItem_pairs (hsz:=hz) (zj2 ry) dd fun h' dd' hs=>h _ ?_
  have he:∃q,h'.get? a=some q:=let ⟨q,_,_,hq,_⟩:=dd';⟨q,hq⟩
  exact zli I (by rw[e];exact True.intro) hs he (zwy hl hd (rel.put k rv) dd')
 ·subst ey eH
  cases (show u=Value.ref b from ry)
  obtain⟨z,hd,xs,rel,dd⟩:=Zcs I.hok e
  have hz:xs.length<=sizeLine:=by rw[← Paired.length rel];exact z
  have hl:(putK kvs k v).length<=sizeLine:=by have:=ze9 kvs k v;omega
  refine wpAny_setItem_heap (hsz:=hz) (tupleKind_room_in1 hu) (key_of I.hok eb) dd fun h' dd' hs=>h _ ?_
  obtain⟨q,es,ep,hq,h2,h3,h4,_,h5⟩:=dd'
  refine zli I (by rw[e];exact True.intro) hs ⟨q,hq⟩ ⟨hl,hd,_,(rel.put k eb rv).keeps fun c ys ec=>?_,q,es,ep,hq,h2,h3,h4,h5⟩
  rw[zah (Zbg ec e (fun z=>nomatch z))]
  exact ec
end
theorem zns {X:Cx} {pins:List (Addr×Obj)} {σ:St} {H:Hp} {s:Shared} {a:Addr} {y:V} {o:Option V} (I:Inv X pins σ H s) (g:DGet H a y o):s.TypeIs (.ref a) "dict":=by
 rcases g with⟨kvs,k,e,_,_⟩|⟨kvs,k,b,e,_,_,_⟩
 ·obtain⟨_,_,vs,_,dd⟩:=zp6 I.hok e
  exact dd.typeIs
 ·obtain⟨_,_,xs,_,dd⟩:=znr I.hok e
  exact dd.typeIs
def Zed(td ty tv:TE):TS:=fun D σ H=>tv σ H fun v H1=>td σ H1 fun x H2=>ty σ H2 fun y H3=>∃a H4,x=.ref a/\DPut H3 a y v H4/\D.nx σ H4
section
variable{X : Cx}{o i e value : Expr}{pos pos' tpos : Pos}{td ty tv : TE}
theorem zq5(hu:X.A.units+1<cLine)(ho:PE X o td)(hi:PE X i ty)(hv:PE X value tv)(hs:swapsWith value (some (.Subscript o i pos')) pos.line X.env=pure false) :
  PS X (.Assign [.Subscript o i pos'] value pos) (Zed td ty tv):=by
 intro pins s σ H D I h
 refine wpAny_Assign_Subscript (thn (hv pins s σ H _ I h) fun r s1 ⟨v,H1,I1,rv,q1⟩=>thn (ho pins s1 σ H1 _ I1 q1) fun u s2 ⟨x,H2,I2,rx,q2⟩=>thn (hi pins s2 σ H2 _ I2 q2) fun iv s3 ⟨y,H3,I3,ry,a,H4,ex,g,q3⟩=>?_) hs
 subst ex
 obtain rfl:u=Value.ref a:=rx
 exact zs7 hu I3 g ry rv fun s4 I4=>⟨σ,H4,I4,q3⟩
end
theorem zpa {P:Program} {w:World} {H:Hp} (h:Heap) (hb:sysModules<h.objs.size):zdz P w H (h.push { cls:=.type "dict",data:=.dict #[] }) h.objs.size (.dK []):=
 ⟨Nat.zero_le _,beq_eq_false_iff_ne.mpr (Ne.symm (Nat.ne_of_lt hb)),[],.nil,Heap.DictOf.new h⟩
theorem zo9 {P:Program} {w:World} {H:Hp} (h:Heap) (hb:sysModules<h.objs.size):zdz P w H (h.push { cls:=.type "dict",data:=.dict #[] }) h.objs.size (.dT []):=
 ⟨Nat.zero_le _,beq_eq_false_iff_ne.mpr (Ne.symm (Nat.ne_of_lt hb)),[],.nil,_,#[],0,Heap.get?_push_size _ rfl,⟨rfl,rfl,rfl⟩,rfl,rfl,List.nodup_nil⟩
def Zae:TE:=fun _ H Q=>∀p,H p=none->Q (.ref p) (upd H p (.dK []))
def Zad:TE:=fun _ H Q=>∀p,H p=none->Q (.ref p) (upd H p (.dT []))
section
variable{X : Cx}{pos : Pos}
theorem zur:PE X (.Dict [] [] pos) Zae:=fun pins s σ H Q I h=>
 wpAny_Dict_empty ⟨.ref s.heap.objs.size,_,I.laid (a:=s.heap.objs.size) (o:=.dK []) (t':=s.toks) (fun _ _ q=>Heap.get?_push_of_some _ q) (Nat.le_refl _) (zpa s.heap I.big),rfl,h _ (I.hok.fresh (Nat.le_refl _))⟩
theorem zuq:PE X (.Dict [] [] pos) Zad:=fun pins s σ H Q I h=>
 wpAny_Dict_empty ⟨.ref s.heap.objs.size,_,I.laid (a:=s.heap.objs.size) (o:=.dT []) (t':=s.toks) (fun _ _ q=>Heap.get?_push_of_some _ q) (Nat.le_refl _) (zo9 s.heap I.big),rfl,h _ (I.hok.fresh (Nat.le_refl _))⟩
end
def zn1:List (TE×TE)->St->Hp->(List (V×V)->Hp->Prop)->Prop
 | [],_,H,Q=>Q [] H
 | (tk,tv)::r,σ,H,Q=>tk σ H fun x H1=>tv σ H1 fun y H2=>zn1 r σ H2 fun ps H3=>Q ((x,y)::ps) H3
abbrev VV:List (V×V)->List (Value×Value)->Prop:=Paired fun p q=>RelV p.1 q.1/\RelV p.2 q.2
def PPs(X:Cx)(pos:Pos)(keys:List (Option Expr))(values:List Expr)(trs:List (TE×TE)):Prop:=
 ∀(pins:List (Addr×Obj))(s:Shared)(σ:St)(H:Hp)(Q:List (V×V)->Hp->Prop),Inv X pins σ H s->zn1 trs σ H Q->
  wpAny (model X.prog X.w) X.A (evalPairs (pairTrees keys values X.env pos)) (fun vs s'=>∃ps H',Inv X pins σ H' s'/\VV ps vs/\Q ps H') X.xe s
theorem zq6{X:Cx}{pos:Pos}:PPs X pos [] [] []:=fun pins s σ H Q I h=>pairTrees_nil_walk ⟨[],H,I,.nil,h⟩
theorem zod{X:Cx}{pos:Pos}{k v:Expr}{ks:List (Option Expr)}{vs:List Expr}{tk tv:TE}{trs:List (TE×TE)}(hk:PE X k tk)(hv:PE X v tv)(hr:PPs X pos ks vs trs) :
  PPs X pos (some k::ks) (v::vs) ((tk,tv)::trs):=fun pins s σ H Q I h=>
 pairTrees_cons_walk (thn (hk pins s σ H _ I h) fun u s1 ⟨x,H1,I1,rx,q1⟩=>thn (hv pins s1 σ H1 _ I1 q1) fun w2 s2 ⟨y,H2,I2,ry,q2⟩=>
  thn (hr pins s2 σ H2 _ I2 q2) fun ws s3 ⟨ps,H3,I3,rel,q3⟩=>⟨(x,y)::ps,H3,I3,.cons ⟨rx,ry⟩ rel,q3⟩)
def zev(kvs more:List (Key×V)):List (Key×V):=more.foldl (fun acc kv=>putK acc kv.1 kv.2) kvs
theorem KV.merge:∀{more:List (Key×V)}{rs:List (Key×Value)}{kvs:List (Key×V)}{vs:List (Key×Value)},KV more rs->KV kvs vs->KV (zev kvs more) (merged vs rs):=by
 intro more rs kvs vs r
 unfold KV at r
 induction r generalizing kvs vs with
 | nil=>intro q;exact q
 | @cons p q ps qs h t ih=>
  intro r0
  have e:KV (putK kvs p.1 p.2) (stored vs q.1 q.2):=by
   have:=r0.put p.1 h.2
   rw[← h.1];exact this
  exact ih e
theorem zhd:∀(more kvs:List (Key×V)),(zev kvs more).length<=kvs.length+more.length
 | [],kvs=>by show kvs.length<=kvs.length+0;omega
 | p::r,kvs=>by
  have h1:=zhd r (putK kvs p.1 p.2)
  have h2:=ze9 kvs p.1 p.2
  show (zev (putK kvs p.1 p.2) r).length<=_
  rw[List.length_cons];omega
theorem zku{P:Program}{w:World}:∀{kvs:List (Key×V)}{ws:List (Value×Value)},VV (kvs.map fun kv=>(kV kv.1,kv.2)) ws->∃rs,Carries (zax P w) ws rs/\KV kvs rs
 | [],_,r=>by rw[List.map_nil] at r;cases r;exact⟨[],True.intro,.nil⟩
 | p::kvs,_,r=>by
  rw[List.map_cons] at r
  cases r with
  | @cons a b as bs h t=>
   obtain⟨rs,c,q⟩:=zku (P:=P) (w:=w) t
   obtain⟨b1,b2⟩:=b
   exact⟨(p.1,b2)::rs,⟨zj2 h.1,rfl,c⟩,.cons ⟨rfl,h.2⟩ q⟩
def Zd6(trs:List (TE×TE)):TE:=fun σ H Q=>∀p,H p=none->zn1 trs σ (upd H p (.dK [])) fun ps H2=>H2 p=some (.dK [])/\∃kvs:List (Key×V),ps=kvs.map (fun kv=>(kV kv.1,kv.2))/\kvs.length<=15/\Q (.ref p) (upd H2 p (.dK (zev [] kvs)))
theorem zx1{X:Cx}{pos:Pos}{keys:List (Option Expr)}{values:List Expr}{trs:List (TE×TE)}(h:PPs X pos keys values trs)(hall:keys.all (·.isSome)=true)(hl:keys.length=values.length)(h0:keys≠[])
  (h15:keys.length<=15):PE X (.Dict keys values pos) (Zd6 trs):=by
 intro pins s σ H Q I q
 have hn:=I.hok.fresh (Nat.le_refl s.heap.objs.size)
 have I1:=I.laid (a:=s.heap.objs.size) (o:=.dK []) (h':=s.heap.push { cls:=.type "dict",data:=.dict #[] }) (t':=s.toks) (fun _ _ q=>Heap.get?_push_of_some _ q) (Nat.le_refl _) (zpa s.heap I.big)
 refine wpAny_Dict_walk (knd:=zax X.prog X.w) hall hl h0 h15 (thn (h pins _ σ _ _ I1 (q _ hn)) fun ws s2 ⟨ps,H2,I2,rel,e,kvs,ep,lk,q2⟩=>?_)
 subst ep
 obtain⟨rs,c,rk⟩:=zku (P:=X.prog) (w:=X.w) rel
 obtain⟨z,hd,vs0,r0,dd⟩:=Zct I2.hok e
 cases r0
 refine⟨rs,c,dd,fun h' dd' hs=>⟨.ref s.heap.objs.size,_,?_,rfl,q2⟩⟩
 have hz:(zev [] kvs).length<=sizeLine:=by
  have h1:=zhd kvs []
  rw[List.length_nil] at h1
  rw[sizeLine_eq];omega
 have he:∃q,h'.get? s.heap.objs.size=some q:=let ⟨q,_,_,hq,_⟩:=dd';⟨q,hq⟩
 exact zli I2 (by rw[e];exact True.intro) hs he (zwy hz hd (rk.merge .nil) dd')
end L2
namespace Att
open PySem PySem.W PySem.Calls PyProof.Rows
theorem zjg{P:Params}{h:Heap}:∀(ns:List Int)(vs:List Value),WellAll P h vs (ns.map WData.int)->IntsAre vs ns:=by
 intro ns
 induction ns with
 | nil=>
  intro vs w
  rw[List.map_nil] at w
  cases w
  exact .nil
 | cons n ns ih=>
  intro vs w
  rw[List.map_cons] at w
  cases w with
  | cons a b=>
   cases a
   exact .cons _ _ (ih _ b)
theorem zq0{l:OpenLaw}{n:Nat}(hn:l.most=some n){P:Params}{h:Heap}{args:List WData}{vals:List Value}
  (hpre:l.row.toRowW.claim.pre args=true) (hwl:WellAll P h vals args) :
  ∃a vs ns,vals=[Value.ref a]/\args=[WData.list (ns.map WData.int)]/\h.get? a=some { cls:=.type "list",data:=.seq vs.toArray }/\IntsAre vs ns/\ns.length<=n:=by
 have hsh:WShape.hasAll [] args [.list .int]=true:=(pre_splitW hpre).1
 have hc:l.pre.holds [] { args:=args }=true:=(pre_splitW hpre).2
 obtain⟨d,r,rfl,h1,h2⟩:=hasAllW_cons hsh
 obtain rfl:=hasAllW_nil h2
 obtain⟨xs,rfl,h3⟩:=hasW_list h1
 obtain⟨ns,rfl⟩:=items_int h3
 have hlen:ns.length<=n:=by
  unfold OpenLaw.pre at hc
  have h4:(WTm.not (.lt (.lit (.int (n:Int))) (.len (.arg 0)))).holds [] { args:=[.list (ns.map .int)] }=true:=by
   have h4:=(holds_andW hc).1
   rw[hn] at h4
   exact h4
  have h5:=condW_of h4 (w_not (w_lt w_lit (w_len_list (w_arg rfl))))
  rw[List.length_map] at h5
  refine Nat.le_of_not_lt fun q=>?_
  have q':(n:Int)<((ns.length:Nat):Int):=by omega
  first
   | (rw[decide_eq_true q'] at h5;exact absurd h5 (by decide))
   | (simp at h5;omega)
 cases hwl with
 | cons w1 w2=>
  cases w2
  cases w1 with
  | list ho hall=>exact⟨_,_,ns,rfl,rfl,ho,zjg ns _ hall,hlen⟩
theorem zq7(l:OpenLaw)(args:List WData):l.row.toRowW.claim.post args (.bool true) args=true:=
 postW_of (r:=l.row.toRowW) (X:=(true == true))
  (show WShape.has [] (.bool true) .bool=true by first | rfl | decide | simp[WShape.has,WShape.arms,WShape.armsAll])
  (show (WTm.eq .res (.lit (.bool true))).value [] { args:=args,res:=some (.bool true),after:=args }=some (.bool (true == true)) from w_eq_bool (w_res rfl) w_lit) rfl
theorem attach_call{l:OpenLaw}{n:Nat}{q:Program}{loose:List Str}{XP:(Str->Option Value)->Heap->Prop}{YP:World->Heap->Prop}{d:DefRec}
  (hn:l.most=some n) (hdf:d.params.defaults=[])
  (call:∀(w:World)(s₀ s₁:Shared)(mg mb:Str->Option Value)(fa:Addr)(o:Obj)(pm cd doc:Value)(a:Addr)(vs:List Value)(ns:List Int),
   Ground q loose [] XP w s₀ mg mb s₁.heap->YP w s₁.heap->
   s₁.heap.get? fa=some o->o.data=.func (docDef d.name d.params d.body d.scope pm cd doc)->s₁.heap.CodeRec cd d.name->mg d.name=some (.ref fa)->
   s₁.heap.get? a=some { cls:=.type "list",data:=.seq vs.toArray }->IntsAre vs ns->ns.length<=n->s₁.gens=#[]->
   codeAny (model l.prog w) callerA (.call (.ref fa) ⟨[.ref a],[]⟩) (fun r s'=>r=.ok (.ret (.bool true))/\OldK s₁.heap s'.heap/\s'.os=s₁.os/\AllBare s'.gens) s₁) :
  WalkO q loose XP YP l.row.toRowW d [] (fun f vs=>PySem.call f vs):=by
 intro w s₀ s₁ mg mb G Y fa o pm cd doc dV kV ho hd hcd hD hmg hg args vals as hpre hlay hrd hwl hlo
 obtain rfl:dV=.none:=Dflts.none hD hdf
 obtain rfl:kV=.none:=Dflts.noKw hD
 obtain⟨a,vs,ns,rfl,rfl,hobj,hints,hlen⟩:=zq0 hn hpre hwl
 refine enter_call (codeAny_mono (call w s₀ s₁ mg mb fa o pm cd doc a vs ns G Y ho (fd_plain hd) hcd hmg hobj hints hlen hg) fun r s' hq=>?_)
 obtain⟨rfl,h2,h3,h4⟩:=hq
 exact⟨.inl ⟨.bool true,.bool true,[],rfl,fun _=>rfl,.bool true,zq7 l _,fun _=>⟨List.Pairwise.nil,fun _ hm=>(nomatch hm)⟩⟩,h2,h3,h4⟩
end Att
namespace L2
open PySem PySem.Spec PyProof.Rows
theorem zlq:∀{vs:List Value}{ns:List Int},IntsAre vs ns->Vals (ns.map V.int) vs
 | _,_,.nil=>.nil
 | _,_,.cons n t h=>.cons ⟨t,rfl⟩ (zlq h)
end L2
namespace L2
open PySem PySem.Spec PyProof.Rows
def zav(s:Stmt):Arguments:=match s with
 | .FunctionDef _ a _ _ _ _ _ _ _ _=>a
 | _=>{ posonlyargs:=[],args:=[],vararg:=none,kwonlyargs:=[],kw_defaults:=[],kwarg:=none,defaults:=[] }
def zar(s:Stmt):List Stmt:=match s with
 | .FunctionDef _ _ b _ _ _ _ _ _ _=>b
 | _=>[]
def zac(s:Stmt):Scope:=match s with
 | .FunctionDef _ _ _ _ _ _ sc _ _ _=>sc
 | _=>{ kind:=.function,names:=[],isGenerator:=false,isCoroutine:=false }
abbrev CX0:CXT:=fun _ _ _ _ _ _=>False
abbrev E0:XK:=fun _ _ _=>False
theorem pass0{X:Cx}:Passes CX0 X E0:=fun _ _ _ _ _ _ _ h=>h.elim
structure Fun(K:PySem.W.Frag)(x qual:Str)(st:Stmt)(f:Addr)(fd:FuncData):Prop where
 ex:∃(oc:Value)(od:Option Addr)(kV doc pm:Value)(an:Option Addr)(cdv ct:Value)(osl:Array (Option Value)),
  fd=PySem.W.fnOf x qual (zav st) (zar st) (zac st) .none kV doc pm an cdv ct/\K.lookup f=some ⟨oc,od,.func fd,osl⟩/\PySem.W.codeIn K cdv qual=true
 kp:PySem.W.keepIn K (.ref f)=true
section
variable{P : Program}{w : World}{K : PySem.W.Frag}{mg : Str → Option Value}{base : Heap}
theorem Fun.ok{x qual:Str}{st:Stmt}{f:Addr}{fd:FuncData}{N ps:List Str}{k:Nat}{sp:Sp}(F:Fun K x qual st f fd)(S:FnScope N ps (zac st))(len:∀vs H Q E,sp vs H Q E->vs.length=ps.length)
  (hbody:∀(cdv:Value)(A:Around)(outer:List Env)(s:Shared)(H:Hp)(vs:List V)(Q:VK)(E:XK),Room k (A.deeper (envOfC qual (zac st) s.heap.objs.size f cdv))->sp vs H Q E->
   ∃t,PSs (cxOf CX0 P w K mg base N qual (zac st) f cdv A outer s H E).nox (zar st) t/\t { nx:=fun _ H'=>Q .non H',rt:=Q } (start N vs) H):FnOk P w K mg base CX0 (k+1) f fd ps sp:=by
 obtain⟨oc,od,kV,doc,pm,an,cdv,ct,osl,rfl,lk,hcd⟩:=F.ex
 refine Zce lk hcd S len fun A outer s H vs Q E hr hsp=>?_
 obtain⟨t,h,q⟩:=hbody cdv A outer s H vs Q E hr hsp
 exact⟨t,h.nox,q⟩
theorem Fun.binds{x qual:Str}{st:Stmt}{f:Addr}{fd:FuncData}{ps:List Str}(F:Fun K x qual st f fd)
  (h:∀(kV doc pm:Value)(an:Option Addr)(cdv ct:Value)(us:List Value),us.length=ps.length->bindArgs (PySem.W.fnOf x qual (zav st) (zar st) (zac st) .none kV doc pm an cdv ct) ⟨us,[]⟩=pure (ps.zip us)):Binds K fd ps []:=by
 obtain⟨oc,od,kV,doc,pm,an,cdv,ct,osl,rfl,lk,hcd⟩:=F.ex
 exact .all (h kV doc pm an cdv ct)
theorem zbi{x qual:Str}{st:Stmt}{f:Addr}{oc:Value}{od an:Option Addr}{osl:Array (Option Value)}{kV doc pm cdv ct:Value}(l:K.lookup f=some ⟨oc,od,.func (PySem.W.fnOf x qual (zav st) (zar st) (zac st) .none kV doc pm an cdv ct),osl⟩)
  (c:PySem.W.codeIn K cdv qual=true) (k:PySem.W.keepIn K (.ref f)=true):Fun K x qual st f (PySem.W.fnOf x qual (zav st) (zar st) (zac st) .none kV doc pm an cdv ct):=⟨⟨oc,od,kV,doc,pm,an,cdv,ct,osl,rfl,l,c⟩,k⟩
end
theorem iteF{A B:Prop}(h:B):if false=true then A else B:=by
 rw[if_neg Bool.false_ne_true]
 exact h
theorem iteT{A B:Prop}(h:A):if true=true then A else B:=by
 rw[if_pos rfl]
 exact h
end L2
end
namespace PU
theorem zu5(s:PySem.Str)(l:List PySem.Str):PySem.Txt.join s l=PySem.Str.join s l:=PySem.StrLaws.glued_eq_join s l
end PU
section
namespace PU
open PySem L2
structure Lam where
 qual:Str
 args:Arguments
 body:Expr
 scope:Scope
 kept:List Str
inductive PV where
 | non | bl (b:Bool) | int (i:Int) | str (x:Str)
 | tup (ps:List PV) | lst (ps:List PV)
 | dct (ks:List Key) (ps:List PV) | dtt (ks:List (List Key)) (ps:List PV)
 | fn (L:Lam) (cs:List PV)
structure PX where
 cls:Str
 args:List PV
inductive R (α:Type) where
 | ok (a:α) | er (x:PX) | no
namespace R
protected def bind{α β:Type}:R α->(α->R β)->R β
 | ok a,f=>f a
 | er x,_=>er x
 | no,_=>no
instance:Monad R where
 pure:=R.ok
 bind:=R.bind
@[simp] theorem ok_bind{α β:Type}(a:α)(f:α->R β):(R.ok a >>= f)=f a:=rfl
@[simp] theorem Zfj{α β:Type}(x:PX)(f:α->R β):((R.er x:R α) >>= f)=R.er x:=rfl
@[simp] theorem Zey{α β:Type}(f:α->R β):((R.no:R α) >>= f)=R.no:=rfl
@[simp] theorem Zef{α:Type}(a:α):(pure a:R α)=R.ok a:=rfl
def ofO{α:Type}:Option α->R α
 | some a=>ok a
 | none=>no
@[simp] theorem ofO_some{α:Type}(a:α):ofO (some a)=R.ok a:=rfl
@[simp] theorem ofO_none{α:Type}:ofO (none:Option α)=R.no:=rfl
theorem bind_assoc{α β γ:Type}(r:R α)(f:α->R β)(g:β->R γ):((r >>= f) >>= g)=(r >>= fun a=>f a >>= g):=by cases r <;> rfl
end R
inductive Sl where
 | no | val (p:PV) | own (p:PV) | pin (ps:List PV) (a:Nat)
abbrev PSt:=List Sl
def getV(i:Nat)(ρ:PSt):R PV:=match ρ[i]? with
 | some (.val p)=>.ok p
 | _=>.no
def getO(i:Nat)(ρ:PSt):R PV:=match ρ[i]? with
 | some (.val p)=>.ok p
 | some (.own p)=>.ok p
 | some (.pin ps _)=>.ok (.lst ps)
 | _=>.no
def kI(i:Int):PSt->R PV:=fun _=>.ok (.int i)
def kB(b:Bool):PSt->R PV:=fun _=>.ok (.bl b)
def kN:PSt->R PV:=fun _=>.ok .non
def kS(x:Str):PSt->R PV:=fun _=>.ok (.str x)
def kP(p:PV):PSt->R PV:=fun _=>.ok p
def nilA:PSt->R (List PV):=fun _=>.ok []
def zab(f:PSt->R PV)(fs:PSt->R (List PV)):PSt->R (List PV):=fun ρ=>f ρ >>= fun p=>fs ρ >>= fun ps=>.ok (p::ps)
def zgk(ps:List PV):R (List PV):=if ps.length<=16777216 then .ok ps else .no
def tupF(fs:PSt->R (List PV)):PSt->R PV:=fun ρ=>fs ρ >>= fun ps=>zgk ps >>= fun ps=>.ok (.tup ps)
def lstF(fs:PSt->R (List PV)):PSt->R PV:=fun ρ=>fs ρ >>= fun ps=>zgk ps >>= fun ps=>.ok (.lst ps)
def bin2(fa fb:PSt->R PV)(g:PV->PV->Option PV):PSt->R PV:=fun ρ=>fa ρ >>= fun p=>fb ρ >>= fun q=>R.ofO (g p q)
def chain2(fa fb fc:PSt->R PV)(g g':PV->PV->Option PV):PSt->R PV:=fun ρ=>fa ρ >>= fun p=>fb ρ >>= fun q=>R.ofO (g p q) >>= fun z=>match z with
 | .bl true=>fc ρ >>= fun r=>R.ofO (g' q r)
 | .bl false=>.ok (.bl false)
 | _=>.no
def truB:PV->Option Bool
 | .non=>some false
 | .bl b=>some b
 | .int i=>some (i != 0)
 | .str y=>if y.length<=16777216 then some ((y.length:Int) != 0) else none
 | .tup ps=>some (!ps.isEmpty)
 | .lst ps=>some (!ps.isEmpty)
 | .dct ks _=>some (!ks.isEmpty)
 | .dtt _ _=>none
 | .fn _ _=>none
def truF(f:PSt->R PV):PSt->R Bool:=fun ρ=>f ρ >>= fun p=>R.ofO (truB p)
def gAdd:PV->PV->Option PV
 | .int i,.int j=>some (.int (i+j))
 | .str x,.str y=>if x.length+y.length<=16777216 then some (.str (x++y)) else none
 | .lst ps,.lst qs=>if ps.length+qs.length<=16777216 then some (.lst (ps++qs)) else none
 | .tup ps,.tup qs=>if ps.length+qs.length<=16777216 then some (.tup (ps++qs)) else none
 | _,_=>none
def gSub:PV->PV->Option PV
 | .int i,.int j=>some (.int (i-j))
 | _,_=>none
def gMul:PV->PV->Option PV
 | .int i,.int j=>if i.natAbs<18446744073709551616\/j.natAbs<18446744073709551616 then some (.int (i * j)) else none
 | _,_=>none
def gDiv:PV->PV->Option PV
 | .int i,.int j=>if 0<j/\j<1073741824 then some (.int (i / j)) else none
 | _,_=>none
def gMod:PV->PV->Option PV
 | .int i,.int j=>if 0<j then some (.int (i % j)) else none
 | _,_=>none
inductive Fl where
 | next (ρ:PSt) | brk (ρ:PSt) | cont (ρ:PSt) | ret (p:PV)
def seqF(g g':PSt->R Fl):PSt->R Fl:=fun ρ=>g ρ >>= fun fl=>match fl with
 | .next ρ'=>g' ρ'
 | .brk ρ'=>.ok (.brk ρ')
 | .cont ρ'=>.ok (.cont ρ')
 | .ret p=>.ok (.ret p)
def zcq:PSt->R Fl:=fun ρ=>.ok (.next ρ)
def retF(f:PSt->R PV):PSt->R Fl:=fun ρ=>f ρ >>= fun p=>.ok (.ret p)
def ifF(t:PSt->R Bool)(g g':PSt->R Fl):PSt->R Fl:=fun ρ=>t ρ >>= fun k=>if k=true then g ρ else g' ρ
def setF(i:Nat)(f:PSt->R PV):PSt->R Fl:=fun ρ=>f ρ >>= fun p=>.ok (.next (ρ.set i (.val p)))
def ownF(i:Nat)(f:PSt->R PV):PSt->R Fl:=fun ρ=>f ρ >>= fun p=>.ok (.next (ρ.set i (.own p)))
def brkF:PSt->R Fl:=fun ρ=>.ok (.brk ρ)
def frzF(i:Nat)(ρ:PSt):PSt:=match ρ[i]? with
 | some (.own p)=>ρ.set i (.val p)
 | _=>ρ
def frzS(i:Nat)(g:PSt->R Fl):PSt->R Fl:=fun ρ=>g (frzF i ρ)
abbrev Tgt:=PV->PSt->Option PSt
abbrev Tgts:=List PV->PSt->Option PSt
def zan(i:Nat):Tgt:=fun p ρ=>some (ρ.set i (.val p))
def nilT:Tgts:=fun ps ρ=>match ps with
 | []=>some ρ
 | _::_=>none
def za7(h:Tgt)(h':Tgts):Tgts:=fun ps ρ=>match ps with
 | p::r=>(h p ρ).bind fun ρ1=>h' r ρ1
 | []=>none
def tupT(n:Nat)(h:Tgts):Tgt:=fun p ρ=>match p with
 | .tup ps=>if ps.length=n then h ps ρ else none
 | _=>none
def forF(h:PV->PSt->Option PSt)(g:PSt->R Fl):List PV->PSt->R Fl
 | [],ρ=>.ok (.next ρ)
 | p::ps,ρ=>R.ofO (h p ρ) >>= fun ρ1=>g ρ1 >>= fun fl=>match fl with
  | .next ρ2=>forF h g ps ρ2
  | .cont ρ2=>forF h g ps ρ2
  | .brk ρ2=>.ok (.next ρ2)
  | .ret q=>.ok (.ret q)
def forS(fi:PSt->R (List PV))(h:Tgt)(g:PSt->R Fl):PSt->R Fl:=fun ρ=>fi ρ >>= fun ps=>forF h g ps ρ
def za0(fs:PSt->R (List PV))(F:List PV->Option PV):PSt->R PV:=fun ρ=>fs ρ >>= fun ps=>R.ofO (F ps)
def start(n:Nat)(ps:List PV):PSt:=ps.map Sl.val++List.replicate (n-ps.length) .no
def runF(m n:Nat)(g:PSt->R Fl)(ps:List PV):Option PV:=if ps.length=m then (match g (start n ps) with
 | .ok (.ret p)=>some p
 | .ok (.next _)=>some .non
 | _=>none) else none
def roS:Option Sl->Sl
 | some (.val p)=>.val p
 | _=>.no
def zdl(nt:Nat)(idx:List Nat)(ρ:PSt):PSt:=List.replicate nt .no++idx.map fun i=>roS ρ[i]?
def zdr(h:Tgt)(t:PSt->R Bool)(fe:PSt->R PV)(ρ:PSt):List PV->R (List PV)
 | []=>.ok []
 | p::ps=>R.ofO (h p ρ) >>= fun ρ1=>t ρ1 >>= fun b=>if b=true then fe ρ1 >>= fun q=>zdr h t fe ρ ps >>= fun qs=>.ok (q::qs) else zdr h t fe ρ ps
def noEr{α:Type}:R α->R α
 | .ok a=>.ok a
 | _=>.no
def zjv(fi:PSt->R (List PV))(h:Tgt)(t:PSt->R Bool)(fe:PSt->R PV)(nt:Nat)(idx:List Nat):PSt->R PV:=
 fun ρ=>fi ρ >>= fun ps=>noEr (zdr h t fe (zdl nt idx ρ) ps) >>= fun qs=>zgk qs >>= fun qs=>.ok (.lst qs)
def yesB:PSt->R Bool:=fun _=>.ok true
mutual
def peqO:PV->PV->Option Bool
 | .non,q=>match q with
  | .non=>some true | .bl _=>some false | .int _=>some false | .str _=>some false | .tup _=>some false | .lst _=>some false | _=>none
 | .bl a,q=>match q with
  | .bl b=>some (a == b) | .int b=>some ((if a then 1 else 0) == b) | .non=>some false | .str _=>some false | .tup _=>some false | .lst _=>some false | _=>none
 | .int a,q=>match q with
  | .int b=>some (a == b) | .bl b=>some (a == (if b then 1 else 0)) | .non=>some false | .str _=>some false | .tup _=>some false | .lst _=>some false | _=>none
 | .str a,q=>match q with
  | .str b=>some (a == b) | .non=>some false | .bl _=>some false | .int _=>some false | .tup _=>some false | .lst _=>some false | _=>none
 | .tup ps,q=>match q with
  | .tup qs=>zdh ps qs | .non=>some false | .bl _=>some false | .int _=>some false | .str _=>some false | .lst _=>some false | _=>none
 | .lst ps,q=>match q with
  | .lst qs=>zdh ps qs | .non=>some false | .bl _=>some false | .int _=>some false | .str _=>some false | .tup _=>some false | _=>none
 | _,_=>none
def zdh:List PV->List PV->Option Bool
 | [],[]=>some true
 | [],_::_=>some false
 | _::_,[]=>some false
 | p::ps,q::qs=>(peqO p q).bind fun a=>(zdh ps qs).bind fun b=>some (a && b)
end
mutual
def pdep:PV->Nat
 | .tup ps=>pdeps ps+1
 | .lst ps=>pdeps ps+1
 | .dct _ ps=>pdeps ps+1
 | .dtt _ ps=>pdeps ps+1
 | .fn _ ps=>pdeps ps+1
 | _=>0
def pdeps:List PV->Nat
 | []=>0
 | p::ps=>max (pdep p) (pdeps ps)
end
def zgs(ps qs:List PV)(j:Nat):Bool:=match ps[j]?,qs[j]? with
 | some p,some q=>(peqO p q).getD false
 | _,_=>false
def isSc:PV->Bool
 | .non=>true | .bl _=>true | .int _=>true | .str _=>true
 | _=>false
def scV:PV->V
 | .bl b=>.bl b | .int i=>.int i | .str x=>.str x
 | _=>.non
def zca:List Key->List PV->Key->Option PV
 | k::ks,p::ps,j=>if k=j then some p else zca ks ps j
 | _,_,_=>none
def zhf(e:PV->PV->Option Bool):List Key->List PV->List Key->List PV->Option Bool
 | k::ks,p::ps,ls,qs=>match zca ls qs k with
  | none=>some false
  | some q=>(e p q).bind fun a=>(zhf e ks ps ls qs).bind fun b=>some (a && b)
 | [],[],_,_=>some true
 | _,_,_,_=>none
def peqN:Nat->PV->PV->Option Bool
 | n+1,.dct ks ps,.dct ls qs=>if ks.length=ls.length then zhf (peqN n) ks ps ls qs else some false
 | _,p,q=>peqO p q
def gEq:PV->PV->Option PV
 | .dct ks ps,.dct ls qs=>if pdeps ps<=60 then (peqN 3 (.dct ks ps) (.dct ls qs)).map .bl else none
 | .tup ps,.tup qs=>if pdeps ps<=60 then (zdh ps qs).map .bl else none
 | .lst ps,.lst qs=>if pdeps ps<=60 then (zdh ps qs).map .bl else none
 | p,q=>if isSc p=true/\isSc q=true/\scal (scV p) (scV q)=true then some (.bl (decide (scV p=scV q))) else none
def gNe:PV->PV->Option PV
 | .tup ps,.tup qs=>if pdeps ps<=60 then (zdh ps qs).map fun b=>.bl (!b) else none
 | .lst ps,.lst qs=>if pdeps ps<=60 then (zdh ps qs).map fun b=>.bl (!b) else none
 | p,q=>if isSc p=true/\isSc q=true/\scal (scV p) (scV q)=true then some (.bl (!decide (scV p=scV q))) else none
def gLt:PV->PV->Option PV
 | .int i,.int j=>some (.bl (decide (i<j)))
 | .str x,.str y=>some (.bl (decide (x.cps.toList<y.cps.toList)))
 | _,_=>none
def gLe:PV->PV->Option PV
 | .int i,.int j=>some (.bl (decide (i<=j)))
 | .str x,.str y=>some (.bl (!decide (y.cps.toList<x.cps.toList)))
 | _,_=>none
def gGt:PV->PV->Option PV
 | .int i,.int j=>some (.bl (decide (j<i)))
 | _,_=>none
def gGe:PV->PV->Option PV
 | .int i,.int j=>some (.bl (decide (j<=i)))
 | _,_=>none
def Zb6:PV->Bool
 | .non=>true
 | _=>false
def gIsN:PV->PV->Option PV
 | p,.non=>some (.bl (Zb6 p))
 | _,_=>none
def zfl:PV->Option Key
 | .int i=>some (.inl i)
 | .str x=>some (.inr x)
 | _=>none
def gIx:PV->PV->Option PV
 | .lst ps,.int i=>atI ps i
 | .tup ps,.int i=>atI ps i
 | .str z,.int i=>if z.length<=16777216 then (atI z.cps.toList i).map fun c=>.str ⟨#[c]⟩ else none
 | .dct ks ps,k=>(zfl k).bind fun k=>zca ks ps k
 | _,_=>none
def inS(x y:Str):Bool:=!(Builtin.Str.occurrences y x 0 y.length 1).isEmpty
def gIn:PV->PV->Option PV
 | .str x,.str y=>some (.bl (inS x y))
 | p,.lst qs=>if isSc p=true/\qs.all isSc=true then some (.bl (inV (scV p) (qs.map scV))) else none
 | p,.tup qs=>if isSc p=true/\qs.all isSc=true then some (.bl (inV (scV p) (qs.map scV))) else none
 | p,.dct ks _=>(zfl p).map fun k=>.bl (ks.any fun j=>decide (j=k))
 | _,_=>none
def zgl(p q:PV):Option PV:=(gIn p q).bind fun z=>match z with
 | .bl b=>some (.bl (!b))
 | _=>none
def andB(t u:PSt->R Bool):PSt->R Bool:=fun ρ=>t ρ >>= fun c=>if c=true then u ρ else .ok false
def orB(t u:PSt->R Bool):PSt->R Bool:=fun ρ=>t ρ >>= fun c=>if c=true then .ok true else u ρ
def notB(t:PSt->R Bool):PSt->R Bool:=fun ρ=>t ρ >>= fun c=>.ok (!c)
def andV(fa fb:PSt->R PV):PSt->R PV:=fun ρ=>fa ρ >>= fun p=>match p with
 | .bl true=>fb ρ
 | .bl false=>.ok (.bl false)
 | _=>.no
def ifV(t:PSt->R Bool)(fa fb:PSt->R PV):PSt->R PV:=fun ρ=>t ρ >>= fun c=>if c=true then fa ρ else fb ρ
def un1(f:PSt->R PV)(g:PV->Option PV):PSt->R PV:=fun ρ=>f ρ >>= fun p=>R.ofO (g p)
def gLen:PV->Option PV
 | .lst ps=>some (.int ps.length)
 | .tup ps=>some (.int ps.length)
 | .str x=>if x.length<=16777216 then some (.int x.length) else none
 | .dct ks _=>some (.int ks.length)
 | _=>none
def gInt:PV->Option PV
 | .int i=>some (.int i)
 | .bl b=>some (.int (if b then 1 else 0))
 | _=>none
def zmh:PV->Option PV
 | .lst ps=>some (.tup ps)
 | .tup ps=>some (.tup ps)
 | _=>none
def keyP:Key->PV
 | .inl i=>.int i
 | .inr x=>.str x
def zfo(x:Str):List PV:=x.cps.toList.map fun c=>.str ⟨#[c]⟩
def zfw:PV->Option (List PV)
 | .lst ps=>some ps
 | .tup ps=>some ps
 | .dct ks _=>some (ks.map keyP)
 | .str x=>some (zfo x)
 | _=>none
def itF(f:PSt->R PV):PSt->R (List PV):=fun ρ=>f ρ >>= fun p=>R.ofO (zfw p)
def zcb(lo:Int)(n:Nat):List PV:=(List.range n).map fun i=>.int (lo+(i:Nat))
def rng1(f:PSt->R PV):PSt->R (List PV):=fun ρ=>f ρ >>= fun p=>match p with
 | .int j=>if j.natAbs<1000000000 then .ok (zcb 0 j.toNat) else .no
 | _=>.no
def rng2(f f2:PSt->R PV):PSt->R (List PV):=fun ρ=>f ρ >>= fun p=>f2 ρ >>= fun q=>match p,q with
 | .int i,.int j=>if i.natAbs<1000000000/\j.natAbs<1000000000 then .ok (zcb i (j-i).toNat) else .no
 | _,_=>.no
def appF(i:Nat)(f:PSt->R PV):PSt->R Fl:=fun ρ=>match ρ[i]? with
 | some (.own (.lst ps))=>f ρ >>= fun p=>if ps.length<16777216 then .ok (.next (ρ.set i (.own (.lst (ps++[p]))))) else .no
 | _=>.no
def numP(ps:List PV):List (List PV):=(List.range ps.length).zipWith (fun (i:Nat) p=>[.int (i:Int),p]) ps
def zmt:PV->Option (List PV)
 | .lst ps=>some ((numP ps).map .tup)
 | .str x=>some ((numP (zfo x)).map .tup)
 | _=>none
def zsz(f:PSt->R PV):PSt->R (List PV):=fun ρ=>f ρ >>= fun p=>R.ofO (zmt p)
def tyN:PV->String
 | .non=>"NoneType" | .bl _=>"bool" | .int _=>"int" | .str _=>"str" | .tup _=>"tuple" | .lst _=>"list" | .dct _ _=>"dict" | .dtt _ _=>"dict" | .fn _ _=>"function"
def isiB (t c:String):Bool:=t == c || (t == "bool" && c == "int")
def gIsi(c:String):PV->Option PV
 | .fn _ _=>none
 | p=>some (.bl (isiB (tyN p) c))
def gStr:PV->Option PV
 | .int i=>if i.natAbs.log2<1920 then some (.str (toString i)) else none
 | .str x=>some (.str x)
 | _=>none
def gNeg:PV->Option PV
 | .int i=>some (.int (-i))
 | _=>none
def Zb4:PV->Bool
 | .str _=>true
 | _=>false
def meth1(fo fe:PSt->R PV)(g:PV->PV->Option PV):PSt->R PV:=fun ρ=>fo ρ >>= fun p=>if Zb4 p=true then fe ρ >>= fun q=>R.ofO (g p q) else .no
def zik:List PV->Option (List Str)
 | []=>some []
 | .str x::r=>(zik r).map (x::·)
 | _::_=>none
def zsk:PV->PV->Option PV
 | .str x,.lst ps=>(zik ps).bind fun ys=>if (ys.map (·.length)).sum+ys.length * x.length<=16777216 then some (.str (Txt.join x ys)) else none
 | .str x,.tup ps=>(zik ps).bind fun ys=>if (ys.map (·.length)).sum+ys.length * x.length<=16777216 then some (.str (Txt.join x ys)) else none
 | _,_=>none
def cutP{α:Type}(xs:List α)(lo hi:Option Int):List α:=(xs.drop (HT.sIx xs.length 0 lo)).take (HT.sIx xs.length xs.length hi-HT.sIx xs.length 0 lo)
def gSl:PV->Option Int->Option Int->Option PV
 | .lst ps,lo,hi=>some (.lst (cutP ps lo hi))
 | .tup ps,lo,hi=>if HT.sIx ps.length 0 lo=0/\HT.sIx ps.length ps.length hi=ps.length then none else some (.tup (cutP ps lo hi))
 | _,_,_=>none
def zgi:PSt->R (Option Int):=fun _=>.ok none
def zj6(f:PSt->R PV):PSt->R (Option Int):=fun ρ=>f ρ >>= fun p=>match p with
 | .int i=>.ok (some i)
 | _=>.no
def zlu(f:PSt->R PV)(l h:PSt->R (Option Int)):PSt->R PV:=fun ρ=>f ρ >>= fun p=>l ρ >>= fun lo=>h ρ >>= fun hi=>R.ofO (gSl p lo hi)
def zim(ks:List Key)(ps:List PV)(k:Key)(p:PV):List PV:=ks.zipWith (fun j q=>if j=k then p else q) ps
def putP(ks:List Key)(ps:List PV)(k:Key)(p:PV):PV:=if (ks.any fun j=>decide (j=k))=true then .dct ks (zim ks ps k p) else .dct (ks++[k]) (ps++[p])
def putF(i:Nat)(fk fv:PSt->R PV):PSt->R Fl:=fun ρ=>match ρ[i]? with
 | some (.own (.dct ks ps))=>fv ρ >>= fun p=>fk ρ >>= fun kp=>R.ofO (zfl kp) >>= fun k=>if ks.length<16777216 then .ok (.next (ρ.set i (.own (putP ks ps k p)))) else .no
 | _=>.no
def newD:PSt->R PV:=fun _=>.ok (.dct [] [])
def nilD:PSt->R (List (Key×PV)):=fun _=>.ok []
def zp9(fk fv:PSt->R PV)(f:PSt->R (List (Key×PV))):PSt->R (List (Key×PV)):=fun ρ=>fk ρ >>= fun kp=>R.ofO (zfl kp) >>= fun k=>fv ρ >>= fun p=>f ρ >>= fun r=>.ok ((k,p)::r)
def zeu(kps:List (Key×PV)):PV:=kps.foldl (fun d kp=>match d with
 | .dct ks ps=>putP ks ps kp.1 kp.2
 | d=>d) (.dct [] [])
def zvq(f:PSt->R (List (Key×PV))):PSt->R PV:=fun ρ=>f ρ >>= fun kps=>if kps.length<=15 then .ok (zeu kps) else .no
end PU
end
namespace PU
open PySem PySem.Spec PyProof.Rows L2
def zh3:Expr->Bool
 | .Starred ..=>false
 | _=>true
theorem zck{e:Expr}{es:List Expr}{env:Env}(h:zh3 e=true):starEach (e::es) env=(false,eval e env)::starEach es env:=by
 cases e <;> first | rfl | cases h
theorem zcd{e:Expr}{env:Env}(h:zh3 e=true):starEach [e] env=[(false,eval e env)]:=zck h
theorem zn4{e e2:Expr}{env:Env}(h:zh3 e=true)(h2:zh3 e2=true):starEach [e,e2] env=[(false,eval e env),(false,eval e2 env)]:=(zck h).trans (congrArg _ (zcd h2))
theorem zio{pos:Pos}{es:List Expr}{env:Env}(h:es.all zh3=true):(backTo pos (starEach es env)).any (·.1)=false:=by
 have:∀es:List Expr,es.all zh3=true->(starEach es env).any (·.1)=false:=by
  intro es
  induction es with
  | nil=>intro _;rfl
  | cons e es ih=>
   intro h
   simp only[List.all_cons,Bool.and_eq_true] at h
   rw[zck h.1,List.any_cons,ih h.2]
   rfl
 have h2:=this es h
 have h3:(backTo pos (starEach es env)).map (·.1)=(starEach es env).map (·.1):=by
  unfold backTo
  simp[List.map_map,Function.comp_def]
 have:(backTo pos (starEach es env)).any (·.1)=((backTo pos (starEach es env)).map (·.1)).any id:=by rw[List.any_map];rfl
 rw[this,h3,List.any_map]
 exact h2
class TW where
 w:World
 tabs:List Addr:=[]
 qual:Nat->Nat->Str:=fun _ _=>⟨#[]⟩
variable[TW]
def zht(c:Addr)(q:Str):HO:=.ext fun h=>h.CodeRec (.ref c) q
def TOk(H:Hp)(ps:Array Value):Prop:=TriplesOk ps.toList/\∀pos v,codeAmong pos ps.toList=some v->∃c,v=.ref c/\H c=some (zht c (TW.qual pos.line pos.col))
def isTb:HO->Bool
 | .tbl _=>true
 | _=>false
structure Same(H H':Hp):Prop where
 at_:∀b o,H b=some o->∀(n:isTb o=false:=by rfl),H' b=some o
 tb:∀b ps,H b=some (.tbl ps)->∃ps',H' b=some (.tbl ps')/\(TOk H ps->TOk H' ps')
instance {H H':Hp}:CoeFun (Same H H') (fun _=>∀b o,H b=some o->∀(n:isTb o=false:=by rfl),H' b=some o):=⟨@Same.at_ _ H H'⟩
theorem TOk.same{H H':Hp}{ps:Array Value}(h:∀b o,H b=some o->isTb o=false->H' b=some o)(t:TOk H ps):TOk H' ps:=
 ⟨t.1,fun pos v e=>let ⟨c,e1,e2⟩:=t.2 pos v e;⟨c,e1,h _ _ e2 rfl⟩⟩
theorem Same.of{H H':Hp}(h:∀b o,H b=some o->H' b=some o):Same H H':=
 ⟨fun b o e _=>h b o e,fun b ps e=>⟨ps,h b _ e,TOk.same fun b o e _=>h b o e⟩⟩
theorem Same.refl(H:Hp):Same H H:=.of fun _ _ h=>h
theorem Same.trans{H H1 H2:Hp}(a:Same H H1)(b:Same H1 H2):Same H H2:=
 ⟨fun c o h n=>b.at_ c o (a.at_ c o h n) n,fun c ps e=>by
  obtain⟨p1,e1,k1⟩:=a.tb c ps e
  obtain⟨p2,e2,k2⟩:=b.tb c p1 e1
  exact⟨p2,e2,fun t=>k2 (k1 t)⟩⟩
theorem Same.free{H H':Hp}(e:Same H H'){l:Addr}(h:H' l=Option.none):H l=Option.none:=by
 cases q:H l with
 | none=>rfl
 | some o=>
  cases ho:isTb o with
  | false=>rw[e.at_ l o q ho] at h;cases h
  | true=>
   cases o <;> cases ho
   obtain⟨p1,e1,_⟩:=e.tb l _ q
   rw[e1] at h
   cases h
def Tabs(H:Hp):Prop:=∀P∈TW.tabs,∃ps,H P=some (.tbl ps)/\TOk H ps
theorem Same.tabs{H H':Hp}(s:Same H H')(t:Tabs H):Tabs H':=fun P hP=>by
 obtain⟨ps,e,k⟩:=t P hP
 obtain⟨p1,e1,k1⟩:=s.tb P ps e
 exact⟨p1,e1,k1 k⟩
def KList(K:PySem.W.Frag)(a:Addr)(xs:List V):Prop:=
 ∃(its:List Value) (n:Nat),K.lookup a=some { cls:=.type "list",data:=.seq its.toArray n }/\xs.length<=sizeLine/\Vals xs its
def KDict(K:PySem.W.Frag)(a:Addr)(kvs:List (Key×V)):Prop:=
 kvs.length<=sizeLine/\(a == sysModules)=false/\∃(o:Obj)(es:Array DictEntry)(ep:Nat),K.lookup a=some o/\o.ExactDict/\o.data=.dict es ep/\
  ∀P:Program,∃vs,KV kvs vs/\PySem.KeysOf (zax P TW.w) es/\Pairs (zax P TW.w) es.toList vs/\(vs.map (·.1)).Nodup
theorem KDict.at{K:PySem.W.Frag}{a:Addr}{kvs:List (Key×V)}(h:KDict K a kvs)(P:Program)(w:World)(hw:w=TW.w)(hp:Heap)(hk:K.In hp):∃vs,KV kvs vs/\hp.DictOf (zax P w) a vs:=by
 subst hw
 obtain⟨_,_,o,es,ep,e,x,d,r⟩:=h
 obtain⟨vs,r1,r2⟩:=r P
 exact⟨vs,r1,o,es,ep,hk _ _ e,x,d,r2⟩
def SqO(K:PySem.W.Frag)(H:Hp)(a:Addr)(xs:List V):Prop:=Rd H a (.lst xs)\/KList K a xs
theorem SqO.l{K:PySem.W.Frag}{H:Hp}{a:Addr}{xs:List V}(h:SqO K H a xs):SqL K H a xs:=by
 rcases h with h | ⟨its,n,e,z,r⟩
 ·exact .inl h
 ·exact .inr ⟨_,its.toArray,n,e,rfl,rfl,rfl,by rw[List.size_toArray,← r.length];exact z,by simpa using r⟩
theorem SqO.is{X:Cx}{pins:List (Addr×Obj)}{σ:L2.St}{H:Hp}{s:Shared}{a:Addr}{xs:List V}(I:Inv X pins σ H s)(h:SqO X.K H a xs) :
  xs.length<=sizeLine/\∃(its:List Value) (n:Nat),Vals xs its/\s.heap.get? a=some { cls:=.type "list",data:=.seq its.toArray n }:=by
 rcases h with h | ⟨its,n,e,z,r⟩
 ·obtain⟨z,its,n,r,e⟩:=h.ok I.hok
  exact⟨z,its,n,r,e⟩
 ·exact⟨z,its,n,r,I.kIn _ _ e⟩
def SqF(K:PySem.W.Frag)(H:Hp)(a:Addr)(xs:List V):Prop:=(∃o,H a=some (.frz o (.lst xs)))\/KList K a xs
def DkF(K:PySem.W.Frag)(H:Hp)(a:Addr)(kvs:List (Key×V)):Prop:=(∃o,H a=some (.frz o (.dK kvs)))\/KDict K a kvs
def DkR(K:PySem.W.Frag)(H:Hp)(a:Addr)(kvs:List (Key×V)):Prop:=Rd H a (.dK kvs)\/KDict K a kvs
theorem SqF.l{K:PySem.W.Frag}{H:Hp}{a:Addr}{xs:List V}(h:SqF K H a xs):SqO K H a xs:=by
 rcases h with h | h
 ·exact .inl (.inr h)
 ·exact .inr h
theorem DkF.r{K:PySem.W.Frag}{H:Hp}{a:Addr}{kvs:List (Key×V)}(h:DkF K H a kvs):DkR K H a kvs:=by
 rcases h with h | h
 ·exact .inl (.inr h)
 ·exact .inr h
def FnAt(f:Addr)(o:Obj):HO:=.ext fun h=>h.get? f=some o
def zel(H:Hp):List (Str×Addr)->List V->Prop
 | [],xs=>xs=[]
 | p::cl,xs=>∃x r o u,xs=x::r/\H p.2=some (.frz o (.own 0))/\o.data=.cell (some u)/\RelV x u/\zel H cl r
mutual
def Rep(K:PySem.W.Frag)(H:Hp):PV->V->Prop
 | .non,v=>v=.non
 | .bl b,v=>v=.bl b
 | .int i,v=>v=.int i
 | .str x,v=>v=.str x
 | .tup ps,v=>∃a xs,v=.ref a/\H a=some (.tup xs)/\Reps K H ps xs
 | .lst ps,v=>∃a xs,v=.ref a/\SqF K H a xs/\Reps K H ps xs
 | .dct ks ps,v=>∃a kvs,v=.ref a/\DkF K H a kvs/\kvs.map (·.1)=ks/\Reps K H ps (kvs.map (·.2))
 | .dtt ks ps,v=>∃a o kvs,v=.ref a/\H a=some (.frz o (.dT kvs))/\kvs.map (·.1)=ks/\Reps K H ps (kvs.map (·.2))
 | .fn L cs,v=>∃f c cl pm ct xs,v=.ref f/\H f=some (FnAt f (PySem.W.kla_obj "<lambda>" L.qual L.args L.body L.scope cl pm c ct))/\H c=some (zht c L.qual)/\cl.map (·.1)=L.kept/\(cl.map (·.2)).Nodup/\zel H cl xs/\Reps K H cs xs
def Reps(K:PySem.W.Frag)(H:Hp):List PV->List V->Prop
 | [],xs=>xs=[]
 | p::ps,xs=>∃x r,xs=x::r/\Rep K H p x/\Reps K H ps r
end
def RepO(K:PySem.W.Frag)(H:Hp):PV->V->Prop
 | .lst ps,v=>∃a xs,v=.ref a/\SqO K H a xs/\Reps K H ps xs
 | .dct ks ps,v=>∃a kvs,v=.ref a/\DkR K H a kvs/\kvs.map (·.1)=ks/\Reps K H ps (kvs.map (·.2))
 | .dtt ks ps,v=>∃a kvs,v=.ref a/\Rd H a (.dT kvs)/\kvs.map (·.1)=ks/\Reps K H ps (kvs.map (·.2))
 | p,v=>Rep K H p v
def zco(K:PySem.W.Frag)(H:Hp)(a:Addr):PV->Prop
 | .lst ps=>∃xs,H a=some (.lst xs)/\Reps K H ps xs
 | .dct ks ps=>∃kvs,H a=some (.dK kvs)/\kvs.map (·.1)=ks/\Reps K H ps (kvs.map (·.2))
 | .dtt ks ps=>∃kvs,H a=some (.dT kvs)/\kvs.map (·.1)=ks/\Reps K H ps (kvs.map (·.2))
 | _=>False
def isFz:HO->Bool
 | .frz _ _=>true
 | .tup _=>true
 | .ext _=>true
 | _=>false
def Kp(H H':Hp):Prop:=∀b u,H b=some u->isFz u=true->H' b=some u
theorem Same.kp{H H':Hp}(h:Same H H'):Kp H H':=fun b u e f=>h.at_ b u e (by cases u <;> first | rfl | cases f)
theorem Kp.refl(H:Hp):Kp H H:=fun _ _ e _=>e
theorem Kp.trans{H H1 H2:Hp}(h:Kp H H1)(k:Kp H1 H2):Kp H H2:=fun b u e f=>k b u (h b u e f) f
theorem Kp.upd{H:Hp}{a:Addr}{u o:HO}(h:H a=some u)(f:isFz u=false):Kp H (upd H a o):=fun b w e g=>by
 have:b≠a:=fun z=>by
  subst z
  rw[h] at e
  cases e
  rw[f] at g
  cases g
 rw[zah this]
 exact e
theorem Kp.sqT{K:PySem.W.Frag}{H H':Hp}(k:Kp H H'){a:Addr}{xs:List V}(h:SqT K H a xs):SqT K H' a xs:=by
 rcases h with (h | ⟨o,h⟩) | h
 ·exact .inl (.inl (k _ _ h rfl))
 ·exact .inl (.inr ⟨o,k _ _ h rfl⟩)
 ·exact .inr h
theorem Kp.sqF{K:PySem.W.Frag}{H H':Hp}(k:Kp H H'){a:Addr}{xs:List V}(h:SqF K H a xs):SqF K H' a xs:=by
 rcases h with⟨o,h⟩ | h
 ·exact .inl ⟨o,k _ _ h rfl⟩
 ·exact .inr h
theorem Kp.dkF{K:PySem.W.Frag}{H H':Hp}(k:Kp H H'){a:Addr}{kvs:List (Key×V)}(h:DkF K H a kvs):DkF K H' a kvs:=by
 rcases h with⟨o,h⟩ | h
 ·exact .inl ⟨o,k _ _ h rfl⟩
 ·exact .inr h
theorem TOk.kp{H H':Hp}{ps:Array Value}(k:Kp H H')(t:TOk H ps):TOk H' ps:=
 ⟨t.1,fun pos v e=>let ⟨c,e1,e2⟩:=t.2 pos v e;⟨c,e1,k _ _ e2 rfl⟩⟩
theorem Kp.but{H H':Hp}{a:Addr}(na:∀u,H a=some u->isFz u=false)(oth:∀b,b≠a->H' b=H b):Kp H H':=fun b u e f=>by
 have:b≠a:=fun z=>by
  subst z
  rw[na u e] at f
  cases f
 rw[oth b this]
 exact e
theorem Same.but{B H H':Hp}{a:Addr}(s:Same B H)(fa:B a=none)(na:∀u,H a=some u->isFz u=false)(oth:∀b,b≠a->H' b=H b):Same B H':=
 ⟨fun b o e n=>by rw[oth b (zbk e fa)];exact s.at_ b o e n,fun b ps e=>by
  obtain⟨p1,e1,k1⟩:=s.tb b ps e
  exact⟨p1,by rw[oth b (zbk e fa)];exact e1,fun t=>(k1 t).kp (Kp.but na oth)⟩⟩
theorem Tabs.but{H H':Hp}{a:Addr}(t:Tabs H)(na:∀u,H a=some u->isFz u=false/\isTb u=false)(oth:∀b,b≠a->H' b=H b):Tabs H':=fun P hP=>by
 obtain⟨ps,e,k⟩:=t P hP
 have:P≠a:=fun z=>by
  subst z
  have:=(na _ e).2
  cases this
 exact⟨ps,by rw[oth P this];exact e,k.kp (Kp.but (fun u h=>(na u h).1) oth)⟩
theorem tq{K:PySem.W.Frag}{H:Hp}{a:Addr}{xs:List V}(h:H a=some (.tup xs)):SqT K H a xs:=.inl (.inl h)
theorem zel.kp{H H':Hp}(k:Kp H H'):∀{cl:List (Str×Addr)}{xs:List V},zel H cl xs->zel H' cl xs
 | [],_,h=>h
 | p::cl,_,⟨x,r,o,u,e,h,d,v,t⟩=>⟨x,r,o,u,e,k _ _ h rfl,d,v,zel.kp k t⟩
mutual
theorem Rep.kp{K:PySem.W.Frag}{H H':Hp}(k:Kp H H'):∀(p:PV){v:V},Rep K H p v->Rep K H' p v
 | .non,_,h=>h
 | .bl _,_,h=>h
 | .int _,_,h=>h
 | .str _,_,h=>h
 | .tup ps,_,⟨a,xs,e,h,r⟩=>⟨a,xs,e,k _ _ h rfl,Reps.kp k ps r⟩
 | .lst ps,_,⟨a,xs,e,h,r⟩=>⟨a,xs,e,k.sqF h,Reps.kp k ps r⟩
 | .dct ks ps,_,⟨a,kvs,e,h,ek,r⟩=>⟨a,kvs,e,k.dkF h,ek,Reps.kp k ps r⟩
 | .dtt ks ps,_,⟨a,o,kvs,e,h,ek,r⟩=>⟨a,o,kvs,e,k _ _ h rfl,ek,Reps.kp k ps r⟩
 | .fn L cs,_,⟨f,c,cl,pm,ct,xs,e,h1,h2,h3,h5,h4,r⟩=>⟨f,c,cl,pm,ct,xs,e,k _ _ h1 rfl,k _ _ h2 rfl,h3,h5,zel.kp k h4,Reps.kp k cs r⟩
theorem Reps.kp{K:PySem.W.Frag}{H H':Hp}(k:Kp H H'):∀(ps:List PV){xs:List V},Reps K H ps xs->Reps K H' ps xs
 | [],_,h=>h
 | p::ps,_,⟨x,r,e,h,t⟩=>⟨x,r,e,Rep.kp k p h,Reps.kp k ps t⟩
end
section
variable{K : PySem.W.Frag}{H H' : Hp}{p : PV}{ps qs : List PV}{v : V}{xs ys : List V}{a : Addr}
theorem Rep.same(h:Rep K H p v)(s:Same H H'):Rep K H' p v:=Rep.kp (Same.kp s) p h
theorem Reps.same(h:Reps K H ps xs)(s:Same H H'):Reps K H' ps xs:=Reps.kp (Same.kp s) ps h
theorem RepO.same(h:RepO K H p v)(s:Same H H'):RepO K H' p v:=by
 cases p with
 | lst ps=>
  obtain⟨a,xs,e,q,r⟩:=h
  refine⟨a,xs,e,?_,r.same s⟩
  rcases q with (q | ⟨o,q⟩) | q
  ·exact .inl (.inl (s _ _ q))
  ·exact .inl (.inr ⟨o,s _ _ q⟩)
  ·exact .inr q
 | dct ks ps=>
  obtain⟨a,kvs,e,q,ek,r⟩:=h
  refine⟨a,kvs,e,?_,ek,r.same s⟩
  rcases q with (q | ⟨o,q⟩) | q
  ·exact .inl (.inl (s _ _ q))
  ·exact .inl (.inr ⟨o,s _ _ q⟩)
  ·exact .inr q
 | dtt ks ps=>
  obtain⟨a,kvs,e,q,ek,r⟩:=h
  refine⟨a,kvs,e,?_,ek,r.same s⟩
  rcases q with q | ⟨o,q⟩
  ·exact .inl (s _ _ q)
  ·exact .inr ⟨o,s _ _ q⟩
 | _=>exact Rep.same h s
theorem zco.same(h:zco K H a p)(s:Same H H'):zco K H' a p:=by
 cases p with
 | lst ps=>
  obtain⟨xs,q,r⟩:=h
  exact⟨xs,s _ _ q,r.same s⟩
 | dct ks ps=>
  obtain⟨kvs,q,ek,r⟩:=h
  exact⟨kvs,s _ _ q,ek,r.same s⟩
 | dtt ks ps=>
  obtain⟨kvs,q,ek,r⟩:=h
  exact⟨kvs,s _ _ q,ek,r.same s⟩
 | _=>exact h
theorem Rep.o(h:Rep K H p v):RepO K H p v:=by
 cases p with
 | lst ps=>
  obtain⟨a,xs,e,q,r⟩:=h
  exact⟨a,xs,e,q.l,r⟩
 | dct ks ps=>
  obtain⟨a,kvs,e,q,ek,r⟩:=h
  exact⟨a,kvs,e,q.r,ek,r⟩
 | dtt ks ps=>
  obtain⟨a,o,kvs,e,q,ek,r⟩:=h
  exact⟨a,kvs,e,.inr ⟨o,q⟩,ek,r⟩
 | _=>exact h
theorem zco.o(h:zco K H a p):RepO K H p (.ref a):=by
 cases p with
 | lst ps=>
  obtain⟨xs,q,r⟩:=h
  exact⟨a,xs,rfl,.inl (.inl q),r⟩
 | dct ks ps=>
  obtain⟨kvs,q,ek,r⟩:=h
  exact⟨a,kvs,rfl,.inl (.inl q),ek,r⟩
 | dtt ks ps=>
  obtain⟨kvs,q,ek,r⟩:=h
  exact⟨a,kvs,rfl,.inl q,ek,r⟩
 | _=>exact False.elim h
theorem Reps.length:∀{ps:List PV}{xs:List V},Reps K H ps xs->ps.length=xs.length
 | [],_,h=>by cases h;rfl
 | p::ps,_,⟨x,r,e,_,t⟩=>by subst e;simp[Reps.length t]
theorem Reps.nil:Reps K H [] []:=rfl
theorem Reps.cons(h:Rep K H p v)(t:Reps K H ps xs):Reps K H (p::ps) (v::xs):=⟨v,xs,rfl,h,t⟩
theorem Reps.append:∀{ps qs:List PV}{xs ys:List V},Reps K H ps xs->Reps K H qs ys->Reps K H (ps++qs) (xs++ys)
 | [],_,_,_,h,k=>by cases h;exact k
 | p::ps,_,_,_,⟨x,r,e,h,t⟩,k=>by subst e;exact⟨x,_,rfl,h,Reps.append t k⟩
theorem Reps.get:∀{ps:List PV}{xs:List V}{i:Nat}{p:PV},Reps K H ps xs->ps[i]?=some p->∃x,xs[i]?=some x/\Rep K H p x
 | [],_,_,_,_,e=>by simp at e
 | p::ps,_,0,_,⟨x,r,e,h,t⟩,q=>by
  subst e
  simp at q
  subst q
  exact⟨x,rfl,h⟩
 | p::ps,_,i+1,q,⟨x,r,e,h,t⟩,z=>by
  subst e
  obtain⟨y,h1,h2⟩:=Reps.get (i:=i) (p:=q) t (by simpa using z)
  exact⟨y,by simpa using h1,h2⟩
theorem Reps.take:∀{ps:List PV}{xs:List V}(n:Nat),Reps K H ps xs->Reps K H (ps.take n) (xs.take n)
 | _,_,0,_=>by simp;rfl
 | [],_,n+1,h=>by cases h;rfl
 | p::ps,_,n+1,⟨x,r,e,h,t⟩=>by subst e;exact⟨x,_,rfl,h,Reps.take n t⟩
theorem Reps.drop:∀{ps:List PV}{xs:List V}(n:Nat),Reps K H ps xs->Reps K H (ps.drop n) (xs.drop n)
 | _,_,0,h=>by simpa using h
 | [],_,n+1,h=>by cases h;rfl
 | p::ps,_,n+1,⟨x,r,e,h,t⟩=>by subst e;simpa using Reps.drop n t
end
theorem _root_.L2.Inv.reH{X:Cx}{pins:List (Addr×Obj)}{σ:L2.St}{H H':Hp}{s:Shared}(I:Inv X pins σ H s){a:Addr}{u u':HO}(hu:H a=some u)(h':H'=upd H a u')
  (nf:isFz u=false) (nt:∀ps,u≠.tbl ps) (no:∀x,u≠.own x) (hok:zdz X.prog X.w H' s.heap a u'):Inv X pins σ H' s:=by
 subst h'
 have keepT:∀b xs,H b=some (.tup xs)->(upd H a u') b=some (.tup xs):=fun b xs e=>Kp.upd hu nf b _ e rfl
 have keepO:∀b x,H b=some (.own x)->(upd H a u') b=some (.own x):=fun b x e=>by
  have:b≠a:=fun z=>by
   subst z
   rw[hu] at e
   cases e
   exact no x rfl
  rw[zah this]
  exact e
 have hn:∀b,H b=none->(upd H a u') b=none:=fun b e=>by
  have:b≠a:=fun z=>by
   subst z
   rw[hu] at e
   cases e
  rw[zah this]
  exact e
 refine⟨I.ok,I.os,I.bare,⟨I.base.keep,I.base.slot,fun b o e n x=>hn b (I.base.free b o e n x),I.base.there,fun b xs e=>keepT b xs (I.base.tups b xs e),
  fun b o w e=>Kp.upd hu nf b _ (I.base.frzs b o w e) rfl,fun b ps e=>?_⟩,I.loc,I.cell,hn _ I.free,fun x c e=>hn c (I.freeC x c e),fun p hp=>?_,fun b o e=>?_,I.len⟩
 ·obtain⟨more,q⟩:=I.base.tbls b ps e
  have:b≠a:=fun z=>by
   subst z
   rw[hu] at q
   cases q
   exact nt _ rfl
  exact⟨more,by rw[zah this];exact q⟩
 ·obtain⟨h1,h2,h3⟩:=I.pin p hp
  exact⟨h1,hn _ h2,h3⟩
 ·by_cases hb:b=a
  ·subst hb
   rw[zai] at e
   cases e
   exact hok
  ·rw[zah hb] at e
   exact(I.hok b o e).stay (fun c v _ r=>r) (fun c r=>keepO c b r) keepT
theorem _root_.L2.Inv.frz{X:Cx}{pins:List (Addr×Obj)}{σ:L2.St}{H:Hp}{s:Shared}{a:Addr}{p:PV}(I:Inv X pins σ H s)(n:zco X.K H a p) :
  ∃H',Inv X pins σ H' s/\Rep X.K H' p (.ref a)/\∀b,b≠a->H' b=H b:=by
 cases p with
 | lst ps=>
  obtain⟨xs,q,r⟩:=n
  obtain⟨z,its,m,rv,e⟩:=I.hok a _ q
  refine⟨upd H a (.frz _ (.lst xs)),I.reH q rfl rfl (by intro _ h;cases h) (by intro _ h;cases h) ⟨e,z,its,m,rv,e⟩,⟨a,xs,rfl,.inl ⟨_,zai⟩,r.kp (Kp.upd q rfl)⟩,fun b hb=>zah hb⟩
 | dct ks ps=>
  obtain⟨kvs,q,ek,r⟩:=n
  obtain⟨z,hs,vs,rv,o,es,ep,e,rest⟩:=I.hok a _ q
  refine⟨upd H a (.frz o (.dK kvs)),I.reH q rfl rfl (by intro _ h;cases h) (by intro _ h;cases h) ⟨e,z,hs,vs,rv,o,es,ep,e,rest⟩,⟨a,kvs,rfl,.inl ⟨_,zai⟩,ek,r.kp (Kp.upd q rfl)⟩,fun b hb=>zah hb⟩
 | dtt ks ps=>
  obtain⟨kvs,q,ek,r⟩:=n
  obtain⟨z,hs,ys,rv,o,es,ep,e,rest⟩:=I.hok a _ q
  refine⟨upd H a (.frz o (.dT kvs)),I.reH q rfl rfl (by intro _ h;cases h) (by intro _ h;cases h) ⟨e,z,hs,ys,?_,o,es,ep,e,rest⟩,⟨a,o,kvs,rfl,zai,ek,r.kp (Kp.upd q rfl)⟩,fun b hb=>zah hb⟩
  exact Paired.mapP rv fun p1 q1 ⟨h1,h2,h3⟩=>⟨h1,Kp.upd q rfl _ _ h2 rfl,h3⟩
 | _=>exact False.elim n
theorem zco.nt{K:PySem.W.Frag}{H:Hp}{a:Addr}{p:PV}(h:zco K H a p):∀u,H a=some u->isFz u=false/\isTb u=false:=fun u e=>by
 cases p with
 | lst ps=>obtain⟨_,w,_⟩:=h;rw[w] at e;cases e;exact⟨rfl,rfl⟩
 | dct ks ps=>obtain⟨_,w,_⟩:=h;rw[w] at e;cases e;exact⟨rfl,rfl⟩
 | dtt ks ps=>obtain⟨_,w,_⟩:=h;rw[w] at e;cases e;exact⟨rfl,rfl⟩
 | _=>exact False.elim h
end PU
namespace PU
open PySem PySem.Spec PyProof.Rows L2
variable[TW]
structure Cn where
 X:Cx
 Ac:PX->Hp->Prop
def SlOk(K:PySem.W.Frag)(H:Hp)(x:Option (Option V)):Sl->Prop
 | .no=>True
 | .val p=>∃v,x=some (some v)/\Rep K H p v
 | .own p=>∃a,x=some (some (.ref a))/\zco K H a p
 | .pin ps a=>x=some (some (.ref a))/\zco K H a (.lst ps)
structure View(K:PySem.W.Frag)(H:Hp)(σ:L2.St)(ρ:PSt):Prop where
 at_:∀(i:Nat)(l:Sl),ρ[i]?=some l->SlOk K H σ[i]? l
 tb:Tabs H
instance {K:PySem.W.Frag} {H:Hp} {σ:L2.St} {ρ:PSt}:CoeFun (View K H σ ρ) (fun _=>∀(i:Nat)(l:Sl),ρ[i]?=some l->SlOk K H σ[i]? l):=⟨@View.at_ _ K H σ ρ⟩
theorem SlOk.same{K:PySem.W.Frag}{H H':Hp}{x:Option (Option V)}{l:Sl}(h:SlOk K H x l)(s:Same H H'):SlOk K H' x l:=by
 cases l with
 | no=>exact trivial
 | val p=>obtain⟨v,e,r⟩:=h;exact⟨v,e,r.same s⟩
 | own p=>obtain⟨a,e,r⟩:=h;exact⟨a,e,r.same s⟩
 | pin ps a=>exact⟨h.1,zco.same h.2 s⟩
theorem View.same{K:PySem.W.Frag}{H H':Hp}{σ:L2.St}{ρ:PSt}(h:View K H σ ρ)(s:Same H H'):View K H' σ ρ:=⟨fun i l e=>(h i l e).same s,s.tabs h.tb⟩
def RQ(C:Cn)(H:Hp){α:Type}(r:R α)(k:α->Prop):Prop:=
 match r with
 | .ok a=>k a
 | .er x=>∀H',Same H H'->C.Ac x H'
 | .no=>False
section
variable{C : Cn}{H H' : Hp}{α β : Type}{r : R α}{k k' : α → Prop}
theorem RQ.imp(h:RQ C H r k)(f:∀a,r=.ok a->k a->k' a):RQ C H r k':=by
 cases r with
 | ok a=>exact f a rfl h
 | er x=>exact h
 | no=>exact h
theorem RQ.same(h:RQ C H r k)(s:Same H H'):RQ C H' r k:=by
 cases r with
 | ok a=>exact h
 | er x=>exact fun H2 s2=>h H2 (s.trans s2)
 | no=>exact h
theorem RQ.bind{f:α->R β}{m:β->Prop}(h:RQ C H (r >>= f) m):RQ C H r fun a=>RQ C H (f a) m:=by
 cases r <;> exact h
theorem RQ.ofO{o:Option α}(h:RQ C H (R.ofO o) k):∃a,o=some a/\k a:=by
 cases o with
 | none=>exact False.elim h
 | some a=>exact⟨a,rfl,h⟩
end
def tV(C:Cn)(f:PSt->R PV):TE:=fun σ H Q=>∃ρ,View C.X.K H σ ρ/\RQ C H (f ρ) fun p=>∀v H',Same H H'->Rep C.X.K H' p v->Q v H'
def tO(C:Cn)(f:PSt->R PV):TE:=fun σ H Q=>∃ρ,View C.X.K H σ ρ/\RQ C H (f ρ) fun p=>∀v H',Same H H'->RepO C.X.K H' p v->Q v H'
def tN(C:Cn)(f:PSt->R PV):TE:=fun σ H Q=>∃ρ,View C.X.K H σ ρ/\RQ C H (f ρ) fun p=>∀a H',Same H H'->H a=none->zco C.X.K H' a p->Q (.ref a) H'
def tAs(C:Cn)(f:PSt->R (List PV)):TA:=fun σ H Q=>∃ρ,View C.X.K H σ ρ/\RQ C H (f ρ) fun ps=>∀vs H',Same H H'->Reps C.X.K H' ps vs->Q vs H'
def tBl(C:Cn)(f:PSt->R Bool):TT:=fun σ H Q=>∃ρ,View C.X.K H σ ρ/\RQ C H (f ρ) fun b=>∀H',Same H H'->Q b H'
def EV(C:Cn)(e:Expr)(f:PSt->R PV):Prop:=PE C.X e (tV C f)
def EO(C:Cn)(e:Expr)(f:PSt->R PV):Prop:=PE C.X e (tO C f)
def EN(C:Cn)(e:Expr)(f:PSt->R PV):Prop:=PE C.X e (tN C f)
def EA(C:Cn)(es:List Expr)(f:PSt->R (List PV)):Prop:=PA C.X es (tAs C f)
def ET(C:Cn)(e:Expr)(f:PSt->R Bool):Prop:=PT C.X e (tBl C f)
def EW(C:Cn)(e:Expr)(f:PSt->R Bool):Prop:=PW C.X e (tBl C f)
section
variable{C : Cn}{e a b c : Expr}{es : List Expr}{f fa fb fc : PSt → R PV}{fs : PSt → R (List PV)}{pos : Pos}
theorem EV.o(h:EV C e f):EO C e f:=fun pins s σ H Q I ⟨ρ,vw,q⟩=>h pins s σ H Q I ⟨ρ,vw,q.imp fun _ _ k v H' sm r=>k v H' sm r.o⟩
theorem EN.o(h:EN C e f):EO C e f:=fun pins s σ H Q I ⟨ρ,vw,q⟩=>h pins s σ H Q I ⟨ρ,vw,q.imp fun _ _ k a H' sm _ r=>k (.ref a) H' sm r.o⟩
theorem EN.v(h:EN C e f):EV C e f:=by
 intro pins s σ H Q I ⟨ρ,vw,q⟩
 cases hf:f ρ with
 | ok p=>
  rw[hf] at q
  refine thn (h pins s σ H (fun v H'=>∃a,v=.ref a/\Same H H'/\H a=none/\zco C.X.K H' a p) I ⟨ρ,vw,by rw[hf];exact fun a H' sm n w=>⟨a,rfl,sm,n,w⟩⟩) fun u s' ⟨v,H',I',rv,a,ev,sm,na,w⟩=>?_
  obtain⟨H2,I2,rp,oth⟩:=I'.frz w
  subst ev
  exact⟨.ref a,H2,I2,rv,q _ H2 (sm.but na (fun u h=>(w.nt u h).1) oth) rp⟩
 | er x=>
  rw[hf] at q
  exact h pins s σ H Q I ⟨ρ,vw,by rw[hf];exact q⟩
 | no=>
  rw[hf] at q
  exact False.elim q
theorem Zcf (i:Nat) {x:Str} (hN:C.X.N[i]?=some x) (hv:Vis C.X.env.scope x) (hd:(x == ("__debug__":Str))=false:=by decide) (hcd:(x == ("__classdict__":Str))=false:=by decide):EV C (.Name x pos) (getV i):=by
 intro pins s σ H Q I ⟨ρ,vw,q⟩
 unfold getV at q
 split at q
 ·rename_i p e
  obtain⟨v,ev,r⟩:=vw i _ e
  exact zfi hN hv hd hcd pins s σ H Q I ⟨v,ev,q v H (Same.refl H) r⟩
 ·exact False.elim q
theorem Zcl (i:Nat) {x:Str} (hN:C.X.N[i]?=some x) (hv:Vis C.X.env.scope x) (hd:(x == ("__debug__":Str))=false:=by decide) (hcd:(x == ("__classdict__":Str))=false:=by decide):EO C (.Name x pos) (getO i):=by
 intro pins s σ H Q I ⟨ρ,vw,q⟩
 unfold getO at q
 split at q
 ·rename_i p e
  obtain⟨v,ev,r⟩:=vw i _ e
  exact zfi hN hv hd hcd pins s σ H Q I ⟨v,ev,q v H (Same.refl H) r.o⟩
 ·rename_i p e
  obtain⟨v,ev,r⟩:=vw i _ e
  exact zfi hN hv hd hcd pins s σ H Q I ⟨_,ev,q _ H (Same.refl H) r.o⟩
 ·rename_i ps a e
  obtain⟨ev,r⟩:=vw i _ e
  exact zfi hN hv hd hcd pins s σ H Q I ⟨_,ev,q _ H (Same.refl H) r.o⟩
 ·exact False.elim q
theorem zad{i j}:EV C (.Constant (.int i) j pos) (kI i):=fun pins s σ H Q I ⟨_,_,q⟩=>Za2 pins s σ H Q I (q _ H (Same.refl H) rfl)
theorem zj4{i j}:EV C (.Constant (.bool i) j pos) (kB i):=fun pins s σ H Q I ⟨_,_,q⟩=>Zek pins s σ H Q I (q _ H (Same.refl H) rfl)
theorem zmr{j}:EV C (.Constant .none j pos) kN:=fun pins s σ H Q I ⟨_,_,q⟩=>Zaz pins s σ H Q I (q _ H (Same.refl H) rfl)
theorem zap{x j}:EV C (.Constant (.str x) j pos) (kS x):=fun pins s σ H Q I ⟨_,_,q⟩=>Zax pins s σ H Q I (q _ H (Same.refl H) rfl)
theorem zy2 {x:Str} {v:V} {u:Value} {p:PV} (hg:Gl C.X x) (hm:C.X.mg x=some u) (r:RelV v u) (rp:∀H,Rep C.X.K H p v) (hd:(x == ("__debug__":Str))=false:=by decide):EV C (.Name x pos) (kP p):=
 fun pins s σ H Q I ⟨_,_,q⟩=>zx0 hg hm r hd pins s σ H Q I (q _ H (Same.refl H) (rp H))
theorem zag:EA C [] nilA:=fun pos pins s σ H Q I ⟨_,_,q⟩=>zft pos pins s σ H Q I (q [] H (Same.refl H) Reps.nil)
theorem zaa(ha:EV C e f)(hr:EA C es fs)(hs:starEach (e::es) C.X.env=(false,eval e C.X.env)::starEach es C.X.env:=by exact zck rfl):EA C (e::es) (zab f fs):=by
 intro pos pins s σ H Q I ⟨ρ,vw,q⟩
 refine zcj ha hr hs pos pins s σ H Q I ⟨ρ,vw,q.bind.imp fun p _ k v H1 s1 r1=>⟨ρ,vw.same s1,(k.bind.same s1).imp fun ps _ k2 vs H2 s2 r2=>?_⟩⟩
 exact k2 (v::vs) H2 (s1.trans s2) (Reps.cons (r1.same s2) r2)
def tA1(C:Cn)(f:PSt->R PV):TA:=fun σ H Q=>∃ρ,View C.X.K H σ ρ/\RQ C H (f ρ) fun p=>∀v H',Same H H'->RepO C.X.K H' p v->Q [v] H'
theorem zo8(ha:EO C e f)(hs:starEach [e] C.X.env=[(false,eval e C.X.env)]:=by exact zcd rfl):PA C.X [e] (tA1 C f):=by
 intro pos pins s σ H Q I ⟨ρ,vw,q⟩
 exact zcj ha zft hs pos pins s σ H Q I ⟨ρ,vw,q⟩
theorem Same.new{H:Hp}{a:Addr}{o:HO}(h:H a=none):Same H (upd H a o):=.of fun b u e=>by
 rw[zah (zbk e h)]
 exact e
theorem zjj{C:Cn}{H:Hp}{ps:List PV}{β:Type}{g:List PV->R β}{k:β->Prop}(h:RQ C H (zgk ps >>= g) k):ps.length<=sizeLine/\RQ C H (g ps) k:=by
 unfold zgk at h
 by_cases hz:ps.length<=16777216
 ·rw[if_pos hz] at h
  exact⟨by rw[sizeLine_eq];exact hz,h⟩
 ·rw[if_neg hz] at h
  exact False.elim h
theorem zbj{k}(h:EA C es fs):EV C (.Tuple es k pos) (tupF fs):=by
 intro pins s σ H Q I ⟨ρ,vw,q⟩
 refine Zaw h pins s σ H Q I ⟨ρ,vw,q.bind.imp fun ps _ k vs H1 s1 r1=>?_⟩
 obtain⟨z,k⟩:=zjj k
 refine⟨by rw[← r1.length];exact z,fun p hp=>?_⟩
 exact k _ _ (s1.trans (Same.new hp)) ⟨p,vs,rfl,zai,r1.same (Same.new hp)⟩
theorem zew(h:EA C es fs):EN C (.List es pos) (lstF fs):=by
 intro pins s σ H Q I ⟨ρ,vw,q⟩
 refine Za0 h pins s σ H Q I ⟨ρ,vw,q.bind.imp fun ps _ k vs H1 s1 r1=>?_⟩
 obtain⟨z,k⟩:=zjj k
 refine⟨by rw[← r1.length];exact z,fun p hp=>?_⟩
 exact k p _ (s1.trans (Same.new hp)) (s1.free hp) ⟨vs,zai,r1.same (Same.new hp)⟩
def rP(K:PySem.W.Frag)(g:PV->PV->Option PV):R2:=fun v u H Q=>∃p q z,RepO K H p v/\RepO K H q u/\g p q=some z/\∀w H',Same H H'->Rep K H' z w->Q w H'
theorem t2{σ:L2.St}{H:Hp}{Q:VK}{ρ:PSt}{g:PV->PV->Option PV}{r:R2}(vw:View C.X.K H σ ρ)(q:RQ C H (bin2 fa fb g ρ) fun p=>∀v H',Same H H'->Rep C.X.K H' p v->Q v H')
  (hr:∀v u H' Q',rP C.X.K g v u H' Q'->r v u H' Q'):tOp r (tO C fa) (tO C fb) σ H Q:=by
 refine⟨ρ,vw,q.bind.imp fun p _ k v H1 s1 r1=>⟨ρ,vw.same s1,(k.bind.same s1).imp fun p2 _ k2 u H2 s2 r2=>?_⟩⟩
 obtain⟨z,ez,k3⟩:=k2.ofO
 exact hr _ _ _ _ ⟨p,p2,z,r1.same s2,r2,ez,fun w H3 s3 r3=>k3 w H3 ((s1.trans s2).trans s3) r3⟩
theorem zaq{op:Operator}{g:PV->PV->Option PV}(ho:OpR C.X (binaryOp op) (rP C.X.K g))(ha:EO C a fa)(hb:EO C b fb):EV C (.BinOp a op b pos) (bin2 fa fb g):=by
 intro pins s σ H Q I ⟨ρ,vw,q⟩
 exact Zei ho ha hb pins s σ H Q I (t2 vw q fun _ _ _ _ h=>h)
theorem zsx{op:CmpOp}{g:PV->PV->Option PV}(ho:OpR C.X (compareOp op) (rP C.X.K g))(ha:EO C a fa)(hb:EO C b fb)(hm:behindInMarks op b=false):EV C (.Compare a [op] [b] pos) (bin2 fa fb g):=by
 intro pins s σ H Q I ⟨ρ,vw,q⟩
 exact zx2 ho ha hb hm pins s σ H Q I (t2 vw q fun _ _ _ _ h=>h)
theorem zaj{g:PV->PV->Option PV}(ho:IxR C.X (rP C.X.K g))(ha:EO C a fa)(hb:EO C b fb)(hs:ztn b):EV C (.Subscript a b pos) (bin2 fa fb g):=by
 intro pins s σ H Q I ⟨ρ,vw,q⟩
 exact Zej ho ha hb hs pins s σ H Q I (t2 vw q fun _ _ _ _ h=>h)
end
end PU
namespace PU
open PySem PySem.Spec PyProof.Rows L2
variable[TW]
section
variable{X : Cx}{pins : List (Addr×Obj)}{σ : L2.St}{H : Hp}{s : Shared}
theorem DkR.at{a:Addr}{kvs:List (Key×V)}(hw:X.w=TW.w)(I:Inv X pins σ H s)(h:DkR X.K H a kvs) :
  kvs.length<=sizeLine/\(a == sysModules)=false/\∃vs,KV kvs vs/\s.heap.DictOf (zax X.prog X.w) a vs:=by
 rcases h with h | h
 ·exact zp6 I.hok h
 ·exact⟨h.1,h.2.1,h.at _ _ hw _ I.kIn⟩
theorem zx9{ys:List V}{its:List Value}{ps:List PV}(I:Inv X pins σ H s)(hv:Vals ys its)(hz:ys.length<=sizeLine)(hr:Reps X.K H ps ys)(t':Nat) :
  ∃H',Inv X pins σ H' { s with heap:=s.heap.push { cls:=.type "list",data:=.seq its.toArray },toks:=t' }/\Same H H'/\Rep X.K H' (.lst ps) (.ref s.heap.objs.size):=by
 have I1:=I.lnew (t':=t') hv hz
 have nf:H s.heap.objs.size=none:=I.fresh
 obtain⟨H',I2,rp,oth⟩:=L2.Inv.frz (a:=s.heap.objs.size) (p:=.lst ps) I1 ⟨ys,zai,hr.same (Same.new nf)⟩
 refine⟨H',I2,.of fun b o e=>?_,rp⟩
 have hb:=zbk e nf
 rw[oth b hb,zah hb]
 exact e
theorem RepO.lst_inv{K:PySem.W.Frag}{H:Hp}{ps:List PV}{v:V}(h:RepO K H (.lst ps) v):∃a xs,v=.ref a/\SqO K H a xs/\Reps K H ps xs:=h
theorem RepO.tup_inv{K:PySem.W.Frag}{H:Hp}{ps:List PV}{v:V}(h:RepO K H (.tup ps) v):∃a xs,v=.ref a/\SqT K H a xs/\Reps K H ps xs:=by
 obtain⟨a,xs,e,q,r⟩:=(show ∃a xs,v=.ref a/\H a=some (.tup xs)/\Reps K H ps xs from h)
 exact⟨a,xs,e,.inl (.inl q),r⟩
end
theorem zvt{prog:Program}{w:World}{A:Around}{E:Value->Shared->Prop}{s:Shared}{t b:Addr}{vs ws:List Value}{Q:Value->Shared->Prop}(ht:IsTup s.heap t vs.toArray)(hb:IsTup s.heap b ws.toArray)
  (h0:vs=[]->Q (.ref b) s) (h1:ws=[]->Q (.ref t) s) (h2:Q (.ref s.heap.objs.size) { s with heap:=s.heap.push { cls:=.type "tuple",data:=.seq (vs++ws).toArray } })
  (hsz:vs.length+ws.length<=sizeLine):wpAny (model prog w) A (binaryOp .Add (.ref t) (.ref b)) Q E s:=by
 obtain⟨⟨cls,dd,data,sl⟩,ho,hc,n,hd⟩:=id ht
 obtain⟨⟨cls2,dd2,data2,sl2⟩,ho2,hc2,n2,hd2⟩:=id hb
 simp only at hc hd hc2 hd2
 subst hc hd hc2 hd2
 have e:vs.toArray++ws.toArray=(vs++ws).toArray:=by simp
 by_cases hv:vs=[]
 ·exact concat_meets ⟨_,ho,rfl⟩ ⟨_,ho2,rfl⟩ noFill_tuple_add seq_tuple_add PySem.F.slot_tuple_add PySem.F.entry_tuple_add (PySem.F.args_tuple_add_2 _ _)
   (tuple_addW0 t b vs.toArray ws.toArray n n2 dd dd2 sl sl2 (by simp[hv])) ⟨ho,ho2,h0 hv⟩
 ·by_cases hw:ws=[]
  ·exact concat_meets ⟨_,ho,rfl⟩ ⟨_,ho2,rfl⟩ noFill_tuple_add seq_tuple_add PySem.F.slot_tuple_add PySem.F.entry_tuple_add (PySem.F.args_tuple_add_2 _ _)
    (tuple_addW1 t b vs.toArray ws.toArray n n2 dd dd2 sl sl2 (by simpa using hv) (by simp[hw])) ⟨ho,ho2,h1 hw⟩
  ·refine concat_meets ⟨_,ho,rfl⟩ ⟨_,ho2,rfl⟩ noFill_tuple_add seq_tuple_add PySem.F.slot_tuple_add PySem.F.entry_tuple_add (PySem.F.args_tuple_add_2 _ _)
    (tuple_addW2 t b vs.toArray ws.toArray n n2 dd dd2 sl sl2 (by simpa using hv) (by simpa using hw) (by rw[List.size_toArray,List.size_toArray];exact hsz)) ⟨ho,ho2,?_⟩
   rw[e]
   exact h2
section
variable{X : Cx}
theorem zlz{f:Value->Value->Sem Value}{g:PV->PV->Option PV}{r:R2}(h:OpR X f r)
  (hg:∀(p q z:PV),g p q=some z->∃i j,p=.int i/\q=.int j/\∃w:V,(∀K H,Rep K H z w)/\∀H Q,Q w H->r (.int i) (.int j) H Q):OpR X f (rP X.K g):=by
 intro pins s σ H x y v u Q I rx ry ⟨p,q,z,hp,hq,e,k⟩
 obtain⟨i,j,rfl,rfl,w,hw,hr⟩:=hg p q z e
 cases (show x=.int i from hp)
 cases (show y=.int j from hq)
 exact h pins s σ H _ _ v u Q I rx ry (hr H Q (k w H (Same.refl H) (hw _ _)))
theorem Zeq:OpR X (binaryOp .Sub) (rP X.K gSub):=zlz Za6 fun p q z e=>by
 unfold gSub at e
 split at e
 ·rename_i i j
  cases e
  exact⟨i,j,rfl,rfl,_,fun _ _=>rfl,fun H Q q=>⟨i,j,rfl,rfl,q⟩⟩
 ·cases e
theorem zrk:OpR X (binaryOp .Mult) (rP X.K gMul):=zlz Za7 fun p q z e=>by
 unfold gMul at e
 split at e
 ·rename_i i j
  split at e
  ·rename_i hc
   cases e
   exact⟨i,j,rfl,rfl,_,fun _ _=>rfl,fun H Q q=>⟨i,j,rfl,rfl,hc.imp (fun h=>⟨by omega,by omega⟩) (fun h=>⟨by omega,by omega⟩),q⟩⟩
  ·cases e
 ·cases e
theorem zuw:OpR X (binaryOp .FloorDiv) (rP X.K gDiv):=zlz zx4 fun p q z e=>by
 unfold gDiv at e
 split at e
 ·rename_i i j
  split at e
  ·rename_i hc
   cases e
   exact⟨i,j,rfl,rfl,_,fun _ _=>rfl,fun H Q q=>⟨i,j,rfl,rfl,hc,q⟩⟩
  ·cases e
 ·cases e
theorem zda:OpR X (binaryOp .Mod) (rP X.K gMod):=zlz Za8 fun p q z e=>by
 unfold gMod at e
 split at e
 ·rename_i i j
  split at e
  ·rename_i hc
   cases e
   exact⟨i,j,rfl,rfl,_,fun _ _=>rfl,fun H Q q=>⟨i,j,rfl,rfl,hc,q⟩⟩
  ·cases e
 ·cases e
theorem zd7:OpR X (binaryOp .Add) (rP X.K gAdd):=by
 intro pins s σ H x y v u Q I rx ry ⟨p,q,z,hp,hq,e,k⟩
 have hs:=sizeLine_eq
 unfold gAdd at e
 split at e
 ·rename_i i j
  cases e
  cases (show x=.int i from hp)
  cases (show y=.int j from hq)
  exact Zba pins s σ H _ _ v u Q I rx ry ⟨i,j,rfl,rfl,k _ H (Same.refl H) rfl⟩
 ·rename_i i j
  split at e
  ·rename_i hc
   cases e
   cases (show x=.str i from hp)
   cases (show y=.str j from hq)
   exact zpy pins s σ H _ _ v u Q I rx ry ⟨i,j,rfl,rfl,by omega,k _ H (Same.refl H) rfl⟩
  ·cases e
 ·rename_i ps qs
  split at e
  ·rename_i hc
   cases e
   obtain⟨a,xs,rfl,hx,r1⟩:=hp
   obtain⟨b,ys,rfl,hy,r2⟩:=hq
   cases rx
   cases ry
   obtain⟨hz,its,n,rv,e1⟩:=hx.is I
   obtain⟨hz2,its2,n2,rv2,e2⟩:=hy.is I
   have l1:=r1.length
   have l2:=r2.length
   have l3:=rv.length
   have l4:=rv2.length
   have ea:its.toArray++its2.toArray=(its++its2).toArray:=by simp
   refine PySem.P.add_list e1 e2 ?_ (by simp only[List.size_toArray];omega)
   rw[ea]
   obtain⟨H',I',sm,rp⟩:=zx9 I (rv.append rv2) (by rw[List.length_append];omega) (r1.append r2) s.toks
   exact⟨.ref _,H',I',rfl,k _ H' sm rp⟩
  ·cases e
 ·rename_i ps qs
  split at e
  ·rename_i hc
   cases e
   obtain⟨a,xs,rfl,hx,r1⟩:=RepO.tup_inv hp
   obtain⟨b,ys,rfl,hy,r2⟩:=RepO.tup_inv hq
   cases rx
   cases ry
   obtain⟨its,rv,pl,hz⟩:=I.tuple hx
   obtain⟨its2,rv2,pl2,hz2⟩:=I.tuple hy
   have l1:=r1.length
   have l2:=r2.length
   have l3:=rv.length
   have l4:=rv2.length
   refine zvt pl pl2 (fun z=>?_) (fun z=>?_) ?_ (by omega)
   ·subst z
    have:ps=[]:=List.eq_nil_of_length_eq_zero (by rw[l1,l3];rfl)
    subst this
    exact⟨.ref b,H,I,rfl,k _ H (Same.refl H) hq⟩
   ·subst z
    have:qs=[]:=List.eq_nil_of_length_eq_zero (by rw[l2,l4];rfl)
    subst this
    rw[List.append_nil] at k
    exact⟨.ref a,H,I,rfl,k _ H (Same.refl H) hp⟩
   ·have nf:H s.heap.objs.size=none:=I.fresh
    refine⟨.ref s.heap.objs.size,_,I.laid (t':=s.toks) (o:=.tup (xs++ys)) (fun b ob q=>Heap.get?_push_of_some _ q) (Nat.le_refl _) ?_,rfl,k _ _ (Same.new nf) ⟨_,xs++ys,rfl,zai,(r1.append r2).same (Same.new nf)⟩⟩
    exact⟨by rw[List.length_append];omega,_,rv.append rv2,IsTp.new _ _⟩
  ·cases e
 ·cases e
end
end PU
namespace PU
open PySem PySem.Spec PyProof.Rows L2
variable[TW]
structure StOk(K:PySem.W.Frag)(B:Hp×Hp)(H:Hp)(σ:L2.St)(ρ:PSt):Prop where
 len:ρ.length=σ.length
 same:Same B.1 H
 kp:Kp B.2 H
 vw:View K H σ ρ
 fresh:∀(i:Nat)(p:PV)(a:Addr),ρ[i]?=some (.own p)->σ[i]?=some (some (.ref a))->B.1 a=none
 apart:∀(i j:Nat)(p q:PV)(a:Addr),ρ[i]?=some (.own p)->ρ[j]?=some (.own q)->σ[i]?=some (some (.ref a))->σ[j]?=some (some (.ref a))->i=j
 pinned:∀(i:Nat)(ps:List PV)(a:Addr),ρ[i]?=some (.pin ps a)->B.1 a≠none
section
variable{K : PySem.W.Frag}{B : Hp×Hp}{H H' : Hp}{σ : L2.St}{ρ : PSt}{i : Nat}{p q : PV}{v : V}{a : Addr}
theorem StOk.grow(S:StOk K B H σ ρ)(s:Same H H'):StOk K B H' σ ρ:=⟨S.len,S.same.trans s,S.kp.trans (Same.kp s),S.vw.same s,S.fresh,S.apart,S.pinned⟩
theorem za3{α:Type}{l:List α}{i j:Nat}{x y:α}(h:(l.set i x)[j]?=some y):(j=i/\y=x/\i<l.length)\/(j≠i/\l[j]?=some y):=by
 rw[List.getElem?_set] at h
 by_cases e:i=j
 ·subst e
  rw[if_pos rfl] at h
  split at h
  ·rename_i hl
   cases h
   exact .inl ⟨rfl,rfl,hl⟩
  ·cases h
 ·rw[if_neg e] at h
  exact .inr ⟨fun z=>e z.symm,h⟩
theorem zbl{α:Type}{l:List α}{i j:Nat}{x:α}(h:j≠i):(l.set i x)[j]?=l[j]?:=by
 rw[List.getElem?_set,if_neg fun z=>h z.symm]
theorem zd2{α:Type}{l:List α}{i:Nat}{x:α}(h:i<l.length):(l.set i x)[i]?=some x:=by
 rw[List.getElem?_set,if_pos rfl,if_pos h]
theorem StOk.setV(S:StOk K B H σ ρ)(r:Rep K H p v):StOk K B H (σ.set i (some v)) (ρ.set i (.val p)):=by
 refine⟨by simp[S.len],S.same,S.kp,⟨fun j l e=>?_,S.vw.tb⟩,fun j q b e f=>?_,fun j k q q' b e1 e2 f1 f2=>?_,fun j qs b e=>?_⟩
 ·rcases za3 e with⟨rfl,rfl,hl⟩|⟨hj,e⟩
  ·exact⟨v,zd2 (by rw[← S.len];exact hl),r⟩
  ·rw[zbl hj]
   exact S.vw j l e
 ·rcases za3 e with⟨_,z,_⟩|⟨hj,e⟩
  ·cases z
  ·rw[zbl hj] at f
   exact S.fresh j q b e f
 ·rcases za3 e1 with⟨_,z,_⟩|⟨hj,e1⟩
  ·cases z
  ·rcases za3 e2 with⟨_,z,_⟩|⟨hk,e2⟩
   ·cases z
   ·rw[zbl hj] at f1
    rw[zbl hk] at f2
    exact S.apart j k q q' b e1 e2 f1 f2
 ·rcases za3 e with⟨_,z,_⟩|⟨hj,e⟩
  ·cases z
  ·exact S.pinned j qs b e
theorem StOk.setN(S:StOk K B H σ ρ)(s:Same H H')(n:H a=none)(r:zco K H' a p):StOk K B H' (σ.set i (some (.ref a))) (ρ.set i (.own p)):=by
 have other:∀(j:Nat)(q:PV),ρ[j]?=some (.own q)->σ[j]?≠some (some (.ref a)):=fun j q e f=>by
  obtain⟨b,e2,w⟩:=S.vw j _ e
  rw[f] at e2
  cases e2
  cases q with
  | lst ps=>obtain⟨_,w,_⟩:=w;rw[n] at w;cases w
  | dct ks ps=>obtain⟨_,w,_⟩:=w;rw[n] at w;cases w
  | dtt ks ps=>obtain⟨_,w,_⟩:=w;rw[n] at w;cases w
  | _=>exact w
 refine⟨by simp[S.len],S.same.trans s,S.kp.trans (Same.kp s),⟨fun j l e=>?_,s.tabs S.vw.tb⟩,fun j q b e f=>?_,fun j k q q' b e1 e2 f1 f2=>?_,fun j qs b e=>?_⟩
 ·rcases za3 e with⟨rfl,rfl,hl⟩|⟨hj,e⟩
  ·exact⟨a,zd2 (by rw[← S.len];exact hl),r⟩
  ·rw[zbl hj]
   exact(S.vw j l e).same s
 ·rcases za3 e with⟨rfl,_,hl⟩|⟨hj,e⟩
  ·rw[zd2 (by rw[← S.len];exact hl)] at f
   cases f
   exact S.same.free n
  ·rw[zbl hj] at f
   exact S.fresh j q b e f
 ·rcases za3 e1 with⟨h1,_,hl⟩|⟨hj,d1⟩
  ·rcases za3 e2 with⟨h2,_,_⟩|⟨hk,d2⟩
   ·rw[h1,h2]
   ·subst h1
    rw[zd2 (by rw[← S.len];exact hl)] at f1
    cases f1
    rw[zbl hk] at f2
    exact absurd f2 (other k q' d2)
  ·rcases za3 e2 with⟨h2,_,hl⟩|⟨hk,d2⟩
   ·subst h2
    rw[zd2 (by rw[← S.len];exact hl)] at f2
    cases f2
    rw[zbl hj] at f1
    exact absurd f1 (other j q d1)
   ·rw[zbl hj] at f1
    rw[zbl hk] at f2
    exact S.apart j k q q' b d1 d2 f1 f2
 ·rcases za3 e with⟨_,z,_⟩|⟨hj,e⟩
  ·cases z
  ·exact S.pinned j qs b e
theorem zco.obj(h:zco K H a p):∃u,H a=some u/\isFz u=false:=by
 cases p with
 | lst ps=>obtain⟨_,w,_⟩:=h;exact⟨_,w,rfl⟩
 | dct ks ps=>obtain⟨_,w,_⟩:=h;exact⟨_,w,rfl⟩
 | dtt ks ps=>obtain⟨_,w,_⟩:=h;exact⟨_,w,rfl⟩
 | _=>exact False.elim h
theorem zco.kp(k:Kp H H')(e:H' a=H a)(h:zco K H a p):zco K H' a p:=by
 cases p with
 | lst ps=>obtain⟨xs,w,r⟩:=h;exact⟨xs,by rw[e];exact w,r.kp k⟩
 | dct ks ps=>obtain⟨xs,w,z,r⟩:=h;exact⟨xs,by rw[e];exact w,z,r.kp k⟩
 | dtt ks ps=>obtain⟨xs,w,z,r⟩:=h;exact⟨xs,by rw[e];exact w,z,r.kp k⟩
 | _=>exact h
theorem StOk.turn{l':Sl}(S:StOk K B H σ ρ)(e:ρ[i]?=some (.own p))(f:σ[i]?=some (some (.ref a)))(oth:∀b,b≠a->H' b=H b)(hl:SlOk K H' (some (some (.ref a))) l')(hn:∀ps b,l'≠.pin ps b:=by intro _ _ h;cases h):StOk K B H' σ (ρ.set i l'):=by
 obtain⟨b,f2,w⟩:=S.vw i _ e
 rw[f] at f2
 cases f2
 obtain⟨u,hu,nf⟩:=w.obj
 have fa:=S.fresh i p a e f
 have k:Kp H H':=fun b u' eb fb=>by
  have:b≠a:=fun z=>by
   subst z
   rw[hu] at eb
   cases eb
   rw[nf] at fb
   cases fb
  rw[oth b this]
  exact eb
 have ne:∀(j:Nat)(q:PV)(b:Addr),j≠i->ρ[j]?=some (.own q)->σ[j]?=some (some (.ref b))->b≠a:=fun j q b hj e2 f2 z=>by
  subst z
  exact hj (S.apart j i q p b e2 e f2 f)
 refine⟨by simp[S.len],S.same.but fa (fun u h=>(w.nt u h).1) oth,S.kp.trans k,⟨fun j l ej=>?_,S.vw.tb.but w.nt oth⟩,fun j q b ej fj=>?_,fun j m q q' b e1 e2 f1 f2=>?_,fun j qs b e=>?_⟩
 ·rcases za3 ej with⟨rfl,rfl,hl2⟩|⟨hj,ej⟩
  ·rw[f]
   exact hl
  ·have:=S.vw j l ej
   cases l with
   | no=>exact trivial
   | val q=>obtain⟨v,e1,r⟩:=this;exact⟨v,e1,r.kp k⟩
   | own q=>
    obtain⟨b,e1,r⟩:=this
    exact⟨b,e1,r.kp k (oth b (ne j q b hj ej e1))⟩
   | pin qs b=>
    exact⟨this.1,this.2.kp k (oth b fun z=>S.pinned j qs b ej (by rw[z];exact fa))⟩
 ·rcases za3 ej with⟨rfl,_,_⟩|⟨hj,ej⟩
  ·rw[f] at fj
   cases fj
   exact fa
  ·exact S.fresh j q b ej fj
 ·have fix:∀(j:Nat)(q:PV),(ρ.set i l')[j]?=some (.own q)->∃q',ρ[j]?=some (.own q'):=fun j q ej=>by
   rcases za3 ej with⟨rfl,_,_⟩|⟨hj,ej⟩
   ·exact⟨p,e⟩
   ·exact⟨q,ej⟩
  obtain⟨q1,g1⟩:=fix j q e1
  obtain⟨q2,g2⟩:=fix m q' e2
  exact S.apart j m q1 q2 b g1 g2 f1 f2
 ·rcases za3 e with⟨_,z,_⟩|⟨hj,e⟩
  ·exact absurd z.symm (hn qs b)
  ·exact S.pinned j qs b e
theorem StOk.rebase{B':Hp}(S:StOk K B H σ ρ)(k:Kp B' H):StOk K (B.1,B') H σ ρ:=⟨S.len,S.same,k,S.vw,S.fresh,S.apart,S.pinned⟩
end
def RS(C:Cn)(B:Hp×Hp)(D:Ends):R Fl->Prop
 | .ok (.next ρ)=>∀σ H,StOk C.X.K B H σ ρ->D.nx σ H
 | .ok (.brk ρ)=>∀σ H,StOk C.X.K B H σ ρ->D.bk σ H
 | .ok (.cont ρ)=>∀σ H,StOk C.X.K B H σ ρ->D.ct σ H
 | .ok (.ret p)=>∀v H,Same B.1 H->Rep C.X.K H p v->D.rt v H
 | .er x=>∀H,Same B.1 H->C.Ac x H
 | .no=>False
def tS(C:Cn)(g:PSt->R Fl):TS:=fun D σ H=>∃ρ B,StOk C.X.K B H σ ρ/\RS C B D (g ρ)
def SV(C:Cn)(st:Stmt)(g:PSt->R Fl):Prop:=PS C.X st (tS C g)
def SVs(C:Cn)(st:List Stmt)(g:PSt->R Fl):Prop:=PSs C.X st (tS C g)
section
variable{C : Cn}{B : Hp×Hp}{D : Ends}{H : Hp}{α : Type}
theorem RS.bind{r:R α}{g:α->R Fl}(h:RS C B D (r >>= g))(s:Same B.1 H):RQ C H r fun a=>RS C B D (g a):=by
 cases r with
 | ok a=>exact h
 | er x=>exact fun H' s'=>h H' (s.trans s')
 | no=>exact h
theorem RS.ofO{o:Option α}{g:α->R Fl}(h:RS C B D (R.ofO o >>= g)):∃a,o=some a/\RS C B D (g a):=by
 cases o with
 | none=>exact False.elim h
 | some a=>exact⟨a,rfl,h⟩
end
section
variable{C : Cn}{st : Stmt}{sts a b body : List Stmt}{e tg iter c : Expr}{f fk : PSt → R PV}{g g' : PSt → R Fl}{pos : Pos}{t : PSt → R Bool}
theorem za5:SVs C [] zcq:=fun pins s σ H D I ⟨ρ,B,S,h⟩=>zxv pins s σ H D I (h σ H S)
theorem zae(h1:SV C st g)(h2:SVs C sts g'):SVs C (st::sts) (seqF g g'):=by
 intro pins s σ H D I ⟨ρ,B,S,h⟩
 refine zob h1 h2 pins s σ H D I ⟨ρ,B,S,?_⟩
 unfold seqF at h
 cases hg:g ρ with
 | ok fl=>
  rw[hg] at h
  cases fl with
  | next ρ'=>exact fun σ' H' S'=>⟨ρ',B,S',h⟩
  | brk ρ'=>exact h
  | cont ρ'=>exact h
  | ret p=>exact h
 | er x=>rw[hg] at h;exact h
 | no=>rw[hg] at h;exact h
theorem zaf(h1:SV C st g):SVs C [st] g:=by
 intro pins s σ H D I ⟨ρ,B,S,h⟩
 exact zk3 h1 pins s σ H D I ⟨ρ,B,S,h⟩
theorem zt7:SV C (.Break pos) brkF:=fun pins s σ H D I ⟨ρ,B,S,h⟩=>zul pins s σ H D I (h σ H S)
theorem zaw(he:EV C e f):SV C (.Return (some e) pos) (retF f):=by
 intro pins s σ H D I ⟨ρ,B,S,h⟩
 exact zoc he pins s σ H D I ⟨ρ,S.vw,(h.bind S.same).imp fun p _ k v H' s' r=>k v H' (S.same.trans s') r⟩
theorem zc5(hc:ET C c t)(ha:SVs C a g)(hb:SVs C b g'):SV C (.If c a b pos) (ifF t g g'):=by
 intro pins s σ H D I ⟨ρ,B,S,h⟩
 refine Zeg hc ha hb pins s σ H D I ⟨ρ,S.vw,(h.bind S.same).imp fun k _ q H' s'=>?_⟩
 cases k with
 | true=>exact iteT ⟨ρ,B,S.grow s',q⟩
 | false=>exact iteF ⟨ρ,B,S.grow s',q⟩
theorem za1(i:Nat){x:Str}{pos':Pos}(hN:C.X.N.Nodup)(hi:C.X.N[i]?=some x)(hx:Loc C.X.env.scope x)(he:EV C e f)(hs:swapsWith e (some (.Name x pos')) pos.line C.X.env=pure false:=by rfl)
  (hf:C.X.fn x=true\/C.X.env.scope.names.lookup x=some .local:=by first | exact .inl rfl | exact .inr rfl | assumption) :
  SV C (.Assign [.Name x pos'] e pos) (setF i f):=by
 intro pins s σ H D I ⟨ρ,B,S,h⟩
 exact zwf hN hi hx he hs hf pins s σ H D I ⟨ρ,S.vw,(h.bind S.same).imp fun p _ k v H' s' r=>k _ H' ((S.grow s').setV r)⟩
theorem zem(i:Nat){x:Str}{pos':Pos}(hN:C.X.N.Nodup)(hi:C.X.N[i]?=some x)(hx:Loc C.X.env.scope x)(he:EN C e f)(hs:swapsWith e (some (.Name x pos')) pos.line C.X.env=pure false:=by rfl)
  (hf:C.X.fn x=true\/C.X.env.scope.names.lookup x=some .local:=by first | exact .inl rfl | exact .inr rfl | assumption) :
  SV C (.Assign [.Name x pos'] e pos) (ownF i f):=by
 intro pins s σ H D I ⟨ρ,B,S,h⟩
 exact zwf hN hi hx he hs hf pins s σ H D I ⟨ρ,S.vw,(h.bind S.same).imp fun p _ k a H' s' n r=>k _ H' (S.setN s' n r)⟩
theorem Zcb{pins:List (Addr×Obj)}{s:Shared}{σ:L2.St}{H:Hp}{B:Hp×Hp}{ρ:PSt}(i:Nat)(I:Inv C.X pins σ H s)(S:StOk C.X.K B H σ ρ):∃H',Inv C.X pins σ H' s/\StOk C.X.K B H' σ (frzF i ρ):=by
 unfold frzF
 split
 ·rename_i p e
  obtain⟨a,f,w⟩:=S.vw i _ e
  obtain⟨H',I',rp,oth⟩:=L2.Inv.frz I w
  exact⟨H',I',S.turn e f oth ⟨_,rfl,rp⟩⟩
 ·exact⟨H,I,S⟩
theorem SV.frz(i:Nat)(h:SV C st g):SV C st (frzS i g):=by
 intro pins s σ H D I ⟨ρ,B,S,q⟩
 obtain⟨H',I',S'⟩:=Zcb i I S
 exact h pins s σ H' D I' ⟨_,B,S',q⟩
def tTg(C:Cn)(h:PV->PSt->Option PSt):TG:=fun v σ H Q=>∃ρ B p ρ',StOk C.X.K B H σ ρ/\Rep C.X.K H p v/\h p ρ=some ρ'/\∀σ',StOk C.X.K B H σ' ρ'->Q σ' H
def TGt(C:Cn)(tg:Expr)(h:PV->PSt->Option PSt):Prop:=PG C.X tg (tTg C h)
def tTgs(C:Cn)(h:List PV->PSt->Option PSt):TGs:=fun vs σ H Q=>∃ρ B ps ρ',StOk C.X.K B H σ ρ/\Reps C.X.K H ps vs/\h ps ρ=some ρ'/\∀σ',StOk C.X.K B H σ' ρ'->Q σ' H
def TGts(C:Cn)(ts:List Expr)(h:List PV->PSt->Option PSt):Prop:=PGs C.X ts (tTgs C h)
theorem zaz(i:Nat){x:Str}(hN:C.X.N.Nodup)(hi:C.X.N[i]?=some x)(hx:Loc C.X.env.scope x)(hf:C.X.fn x=true\/C.X.env.scope.names.lookup x=some .local:=by first | exact .inl rfl | exact .inr rfl | assumption) :
  TGt C (.Name x pos) (zan i):=by
 intro pins s σ H v u Q I r ⟨ρ,B,p,ρ',S,rp,e,k⟩
 cases e
 exact zm9 hN hi hx hf pins s σ H v u Q I r (k _ (S.setV rp))
theorem zfm:TGts C [] nilT:=by
 intro pins s σ H vs us Q I r ⟨ρ,B,ps,ρ',S,rp,e,k⟩
 cases ps with
 | nil=>cases e;cases rp;exact zrb pins s σ H _ us Q I r ⟨rfl,k _ S⟩
 | cons _ _=>cases e
theorem zbn{es:List Expr}{h:PV->PSt->Option PSt}{h':List PV->PSt->Option PSt}(h1:TGt C e h)(h2:TGts C es h')(hs:(assignEach (e::es) C.X.env).map (·.2)=assign e C.X.env::(assignEach es C.X.env).map (·.2):=by rfl):TGts C (e::es) (za7 h h'):=by
 intro pins s σ H vs us Q I r ⟨ρ,B,ps,ρ',S,rp,ee,k⟩
 cases ps with
 | nil=>cases ee
 | cons p qs=>
  obtain⟨x,xs,rfl,rp1,rp2⟩:=rp
  have ee:(h p ρ).bind (fun ρ1=>h' qs ρ1)=some ρ':=ee
  obtain⟨ρ1,e1,e2⟩:=Option.bind_eq_some_iff.mp ee
  exact zoe h1 h2 hs pins s σ H _ us Q I r ⟨x,xs,rfl,ρ,B,p,ρ1,S,rp1,e1,fun σ1 S1=>⟨ρ1,B,qs,ρ',S1,rp2,e2,k⟩⟩
end
end PU
namespace PU
open PySem PySem.Spec PyProof.Rows L2
variable[TW]
section
variable{C : Cn}{st : Stmt}{sts a b body : List Stmt}{e tg iter c : Expr}{f fk : PSt → R PV}{g g' : PSt → R Fl}{pos : Pos}{t : PSt → R Bool}
theorem zia{es:List Expr}{k n:Nat}{h:List PV->PSt->Option PSt}(hc:C.X.calm=true)(hh:TGts C es h)
  (hn:(assignEach es C.X.env).length=n:=by rfl) (hst:(assignEach es C.X.env).findIdx? (·.1)=none:=by rfl):TGt C (.Tuple es k pos) (tupT n h):=by
 intro pins s σ H v u Q I r ⟨ρ,B,p,ρ',S,rp,e,k⟩
 cases p with
 | tup ps=>
  have e:(if ps.length=n then h ps ρ else none)=some ρ':=e
  by_cases hl:ps.length=n
  ·rw[if_pos hl] at e
   obtain⟨a,xs,rfl,hq,r1⟩:=rp
   exact zwh hc hh hn hst pins s σ H _ u Q I r ⟨a,xs,rfl,tq hq,by rw[← r1.length];exact hl,ρ,B,ps,ρ',S,r1,e,k⟩
  ·rw[if_neg hl] at e
   cases e
 | _=>cases e
def ItP(K:PySem.W.Frag)(J:It)(H₁:Hp)(ps:List PV):Prop:=
 ∀(i:Nat)(H:Hp),Kp H₁ H->(i=ps.length->J.stop i H)/\∀p,ps[i]?=some p->J.go i H/\∀x H',J.yld i H x H'->Same H H'/\Rep K H' p x
def tI(C:Cn)(f:PSt->R (List PV)):TI:=fun σ H Q=>∃ρ,View C.X.K H σ ρ/\RQ C H (f ρ) fun ps=>∀J H',Same H H'->ItP C.X.K J H' ps->Q J H'
def EI(C:Cn)(tg iter:Expr)(f:PSt->R (List PV)):Prop:=PI C.X tg iter (tI C f)
theorem zlh{α:Type}{l:List α}{i:Nat}{x:α}(h:l[i]?=some x):l.drop i=x::l.drop (i+1):=by
 obtain⟨hl,e⟩:=List.getElem?_eq_some_iff.mp h
 rw[List.drop_eq_getElem_cons hl,e]
theorem zcv{fi:PSt->R (List PV)}{h:PV->PSt->Option PSt}(hp:PassesOwn (model C.X.prog C.X.w) C.X.A C.X.env C.X.xe)(hc:C.X.calm=true)(hi:EI C tg iter fi)(hg:TGt C tg h)(hb:SVs C body g)
  (hs:∀x,foldedSetIterable iter C.X.env x=pure x:=by intro _;rfl):SV C (.For tg iter body [] pos) (forS fi h g):=by
 intro pins s σ H D I ⟨ρ,B,S,q⟩
 refine zwg hp hc hi hg hb hs pins s σ H D I ⟨ρ,S.vw,(q.bind S.same).imp fun ps _ k J H1 s1 it=>?_⟩
 refine⟨fun i m σ' H'=>∃ρ',m=ps.length-i/\i<=ps.length/\StOk C.X.K (B.1,H1) H' σ' ρ'/\RS C B D (forF h g (ps.drop i) ρ'),⟨ps.length,ρ,rfl,Nat.zero_le _,(S.grow s1).rebase (Kp.refl H1),by simpa using k⟩,?_⟩
 rintro i m σ' H' ⟨ρ',rfl,hi',S',q'⟩
 have back:∀{σ2:L2.St}{H2:Hp}{ρ2:PSt},StOk C.X.K (B.1,H1) H2 σ2 ρ2->StOk C.X.K B H2 σ2 ρ2:=fun {σ2 H2 ρ2} S2=>⟨S2.len,S2.same,(S.kp.trans (Same.kp s1)).trans S2.kp,S2.vw,S2.fresh,S2.apart,S2.pinned⟩
 obtain⟨stp,stepp⟩:=it i H' S'.kp
 by_cases hlt:i<ps.length
 ·have ei:ps[i]?=some ps[i]:=by simp[hlt]
  obtain⟨go,yl⟩:=stepp _ ei
  rw[zlh ei] at q'
  obtain⟨ρ1,e1,q1⟩:=RS.ofO q'
  refine .inr ⟨go,fun σ2 H2=>∃ρ2,StOk C.X.K (B.1,H1) H2 σ2 ρ2/\RS C B D (forF h g (ps.drop (i+1)) ρ2),fun σ2 H2 ⟨ρ2,S2,r2⟩=>⟨ps.length-(i+1),by omega,ρ2,rfl,hlt,S2,r2⟩,fun x H2 y=>?_⟩
  obtain⟨s2,rp⟩:=yl x H2 y
  refine⟨ρ',(B.1,H1),ps[i],ρ1,S'.grow s2,rp,e1,fun σ3 S3=>⟨ρ1,(B.1,H1),S3,?_⟩⟩
  cases hgr:g ρ1 with
  | ok fl=>
   rw[hgr] at q1
   cases fl with
   | next ρ2=>exact fun σ4 H4 S4=>⟨ρ2,S4,q1⟩
   | cont ρ2=>exact fun σ4 H4 S4=>⟨ρ2,S4,q1⟩
   | brk ρ2=>exact fun σ4 H4 S4=>q1 σ4 H4 (back S4)
   | ret p=>exact q1
  | er x=>rw[hgr] at q1;exact q1
  | no=>rw[hgr] at q1;exact q1
 ·have e:i=ps.length:=by omega
  subst e
  rw[List.drop_length] at q'
  exact .inl ⟨stp rfl,q' σ' H' (back S')⟩
end
end PU
namespace PU
open PySem PySem.Spec PyProof.Rows L2
variable[TW]
def spP(K:PySem.W.Frag)(n:Nat)(F:List PV->Option PV):Sp:=fun vs H Q _=>vs.length=n/\Tabs H/\∃ps p,Reps K H ps vs/\F ps=some p/\∀v H',Same H H'->Rep K H' p v->Q v H'
structure PF(P:Program)(w:World)(K:PySem.W.Frag)(mg:Str->Option Value)(base:Heap)(k:Nat)(x:Str)(F:List PV->Option PV):Prop where
 ex:∃(f:Addr)(fd:FuncData)(ps:List Str),FnOk P w K mg base CX0 k f fd ps (spP K ps.length F)/\mg x=some (.ref f)/\PySem.W.keepIn K (.ref f)=true/\Binds K fd ps []/\∀qs p,F qs=some p->qs.length=ps.length
section
variable{C : Cn}{e : Expr}{es : List Expr}{fs : PSt → R (List PV)}{x : Str}{k : Nat}{F : List PV → Option PV}{p pos : Pos}
theorem zak(G:PF C.X.prog C.X.w C.X.K C.X.mg C.X.base k x F)(hr:Room k C.X.A)(hg:Gl C.X x)(ha:EA C (e::es) fs)
  (hdb:(x == ("__debug__":Str))=false:=by decide) (he:starEach (e::es) C.X.env=(false,eval e C.X.env)::starEach es C.X.env:=by exact zck rfl) (hpl:(backTo pos (starEach es C.X.env)).any (·.1)=false:=by exact zio rfl) :
  EV C (.Call (.Name x p) (e::es) [] pos) (za0 fs F):=by
 obtain⟨f,fd,ps,a,b,c,d,l⟩:=G.ex
 intro pins s σ H Q I ⟨ρ,vw,q⟩
 refine zre (dvs:=[]) (ds:=[]) (E:=E0) a hr hg b c d .nil pass0 ha hdb he hpl pins s σ H Q I ⟨ρ,vw,q.bind.imp fun qs _ k vs H1 s1 r1=>?_⟩
 obtain⟨z,ez,k⟩:=k.ofO
 rw[List.append_nil]
 exact⟨by rw[← r1.length];exact l qs z ez,s1.tabs vw.tb,qs,z,r1,ez,fun v H' s' r'=>k v H' (s1.trans s') r'⟩
end
section
variable{P : Program}{w : World}{K : PySem.W.Frag}{mg : Str → Option Value}{base : Heap}
abbrev cnOf(P:Program)(w:World)(K:PySem.W.Frag)(mg:Str->Option Value)(base:Heap)(N:List Str)(qual:Str)(sc:Scope)(f:Addr)(cdv:Value)(A:Around)(outer:List Env)(s:Shared)(H:Hp)(E:XK):Cn:=
 ⟨(cxOf CX0 P w K mg base N qual sc f cdv A outer s H E).nox,fun _ _=>False⟩
theorem zwj{ps:List PV}{n i:Nat}{p:PV}(e:(start n ps)[i]?=some (.own p)):False:=by
 unfold start at e
 by_cases hi:i<ps.length
 ·rw[List.getElem?_append_left (by simpa using hi),List.getElem?_map] at e
  cases h:ps[i]? with
  | none=>rw[h] at e;cases e
  | some p=>rw[h] at e;cases e
 ·rw[List.getElem?_append_right (by simpa using hi),List.getElem?_replicate] at e
  split at e <;> cases e
theorem Zbc{n i:Nat}{ps qs:List PV}{a:Addr}(e:(start n ps)[i]?=some (.pin qs a)):False:=by
 unfold start at e
 by_cases hi:i<ps.length
 ·rw[List.getElem?_append_left (by simpa using hi),List.getElem?_map] at e
  cases h:ps[i]? with
  | none=>rw[h] at e;cases e
  | some p=>rw[h] at e;cases e
 ·rw[List.getElem?_append_right (by simpa using hi),List.getElem?_replicate] at e
  split at e <;> cases e
theorem zg4{K:PySem.W.Frag}{H:Hp}{N:List Str}{ps:List PV}{vs:List V}(tb:Tabs H)(r:Reps K H ps vs):StOk K (H,H) H (L2.start N vs) (start N.length ps):=by
 have hl:=r.length
 refine⟨by simp[start,L2.start,hl],Same.refl H,Kp.refl H,⟨fun i l e=>?_,tb⟩,fun i p a e f=>?_,fun i j p q a e1 e2 f1 f2=>?_,fun i qs a e=>?_⟩
 ·unfold start at e
  by_cases hi:i<ps.length
  ·rw[List.getElem?_append_left (by simpa using hi),List.getElem?_map] at e
   cases h:ps[i]? with
   | none=>rw[h] at e;cases e
   | some p=>
    rw[h] at e
    cases e
    obtain⟨v,ev,rp⟩:=r.get h
    refine⟨v,?_,rp⟩
    unfold L2.start
    rw[List.getElem?_append_left (by rw[List.length_map,← hl];exact hi),List.getElem?_map,ev]
    rfl
  ·rw[List.getElem?_append_right (by simpa using hi),List.getElem?_replicate] at e
   split at e
   ·cases e
    exact trivial
   ·cases e
 all_goals exfalso
 ·exact zwj e
 ·exact zwj e1
 ·exact Zbc e
theorem zdo{x qual:Str}{st:Stmt}{f:Addr}{fd:FuncData}{N ps:List Str}{k:Nat}{g:PSt->R Fl}(F:Fun K x qual st f fd)(S:FnScope N ps (zac st))(hm:mg x=some (.ref f))(hb:Binds K fd ps [])
  (hbody:∀(cdv:Value)(A:Around)(outer:List Env)(s:Shared)(H:Hp)(E:XK),Room k (A.deeper (envOfC qual (zac st) s.heap.objs.size f cdv))->SVs (cnOf P w K mg base N qual (zac st) f cdv A outer s H E) (zar st) g) :
  PF P w K mg base (k+1) x (runF ps.length N.length g):=by
 refine⟨f,fd,ps,F.ok S (fun vs H Q E h=>h.1) (fun cdv A outer s H vs Q E hr h=>?_),hm,F.kp,hb,fun qs p h=>?_⟩
 ·obtain⟨hl,tb,qs,p,r,e,k⟩:=h
  refine⟨_,hbody cdv A outer s H E hr,start N.length qs,(H,H),zg4 tb r,?_⟩
  unfold runF at e
  rw[if_pos (by rw[r.length];exact hl)] at e
  cases hg:g (start N.length qs) with
  | ok fl=>
   rw[hg] at e
   cases fl with
   | next ρ=>cases e;exact fun σ H' S'=>k .non H' S'.same rfl
   | ret q=>cases e;exact fun v H' s' r'=>k v H' s' r'
   | brk ρ=>cases e
   | cont ρ=>cases e
  | er x=>rw[hg] at e;cases e
  | no=>rw[hg] at e;cases e
 ·unfold runF at h
  split at h
  ·rename_i hl;exact hl
  ·cases h
end
end PU
namespace PU
open PySem PySem.Spec PyProof.Rows L2
variable[TW]
def zfk(X:Cx)(N':List Str)(scope:Scope)(cl:List (Str×Addr))(L:Addr)(s₂:Shared)(H₂:Hp)(fp:List Addr):Cx where
 prog:=X.prog
 w:=X.w
 K:=X.K
 mg:=X.mg
 base:=X.base
 A:=X.A
 N:=N'
 s₀:=s₂
 H₀:=H₂
 env:=compEnvC scope cl L X.env
 outer:=X.stack
 stack:=X.stack
 ex:=fp
 fn:=fun _=>false
 calm:=true
 pn:=[]
 xe:=fun _ _=>False
abbrev zhn(C:Cn)(N':List Str)(scope:Scope)(cl:List (Str×Addr))(L:Addr)(s₂:Shared)(H₂:Hp)(fp:List Addr):Cn:=⟨zfk C.X N' scope cl L s₂ H₂ fp,fun _ _=>False⟩
def tTc(C:Cn)(h:Tgt):TG:=fun v σ H Q=>∃ρ p ρ',ρ.length=σ.length/\View C.X.K H σ ρ/\Rep C.X.K H p v/\h p ρ=some ρ'/\∀σ',ρ'.length=σ'.length->View C.X.K H σ' ρ'->Q σ' H
def TCt(C:Cn)(tg:Expr)(h:Tgt):Prop:=PG C.X tg (tTc C h)
def tTcs(C:Cn)(h:Tgts):TGs:=fun vs σ H Q=>∃ρ ps ρ',ρ.length=σ.length/\View C.X.K H σ ρ/\Reps C.X.K H ps vs/\h ps ρ=some ρ'/\∀σ',ρ'.length=σ'.length->View C.X.K H σ' ρ'->Q σ' H
def TCts(C:Cn)(ts:List Expr)(h:Tgts):Prop:=PGs C.X ts (tTcs C h)
theorem View.setV{K:PySem.W.Frag}{H:Hp}{σ:L2.St}{ρ:PSt}{i:Nat}{p:PV}{v:V}(vw:View K H σ ρ)(hl:ρ.length=σ.length)(r:Rep K H p v):View K H (σ.set i (some v)) (ρ.set i (.val p)):=by
 refine⟨fun j l e=>?_,vw.tb⟩
 rcases za3 e with⟨rfl,rfl,hl2⟩|⟨hj,e⟩
 ·exact⟨v,zd2 (by rw[← hl];exact hl2),r⟩
 ·rw[zbl hj]
  exact vw j l e
section
variable{C : Cn}{e : Expr}{pos : Pos}
theorem zi2(i:Nat){x:Str}(hN:C.X.N.Nodup)(hi:C.X.N[i]?=some x)(hx:Loc C.X.env.scope x)(hf:C.X.fn x=true\/C.X.env.scope.names.lookup x=some .local:=by first | exact .inl rfl | exact .inr rfl | assumption) :
  TCt C (.Name x pos) (zan i):=by
 intro pins s σ H v u Q I r ⟨ρ,p,ρ',hl,vw,rp,e,k⟩
 cases e
 exact zm9 hN hi hx hf pins s σ H v u Q I r (k _ (by simp[hl]) (vw.setV hl rp))
theorem zxc:TCts C [] nilT:=by
 intro pins s σ H vs us Q I r ⟨ρ,ps,ρ',hl,vw,rp,e,k⟩
 cases ps with
 | nil=>cases e;cases rp;exact zrb pins s σ H _ us Q I r ⟨rfl,k _ hl vw⟩
 | cons _ _=>cases e
theorem znz{es:List Expr}{h:Tgt}{h':Tgts}(h1:TCt C e h)(h2:TCts C es h')(hs:(assignEach (e::es) C.X.env).map (·.2)=assign e C.X.env::(assignEach es C.X.env).map (·.2):=by rfl):TCts C (e::es) (za7 h h'):=by
 intro pins s σ H vs us Q I r ⟨ρ,ps,ρ',hl,vw,rp,ee,k⟩
 cases ps with
 | nil=>cases ee
 | cons p qs=>
  obtain⟨x,xs,rfl,rp1,rp2⟩:=rp
  have ee:(h p ρ).bind (fun ρ1=>h' qs ρ1)=some ρ':=ee
  obtain⟨ρ1,e1,e2⟩:=Option.bind_eq_some_iff.mp ee
  exact zoe h1 h2 hs pins s σ H _ us Q I r ⟨x,xs,rfl,ρ,p,ρ1,hl,vw,rp1,e1,fun σ1 hl1 vw1=>⟨ρ1,qs,ρ',hl1,vw1,rp2,e2,k⟩⟩
theorem Zaa{es:List Expr}{k n:Nat}{h:Tgts}(hc:C.X.calm=true)(hh:TCts C es h)
  (hn:(assignEach es C.X.env).length=n:=by rfl) (hst:(assignEach es C.X.env).findIdx? (·.1)=none:=by rfl):TCt C (.Tuple es k pos) (tupT n h):=by
 intro pins s σ H v u Q I r ⟨ρ,p,ρ',hl,vw,rp,e,k⟩
 cases p with
 | tup ps=>
  have e:(if ps.length=n then h ps ρ else none)=some ρ':=e
  by_cases hl2:ps.length=n
  ·rw[if_pos hl2] at e
   obtain⟨a,xs,rfl,hq,r1⟩:=rp
   exact zwh hc hh hn hst pins s σ H _ u Q I r ⟨a,xs,rfl,tq hq,by rw[← r1.length];exact hl2,ρ,ps,ρ',hl,vw,r1,e,k⟩
  ·rw[if_neg hl2] at e
   cases e
 | _=>cases e
end
def LowT(n:Nat)(h:Tgt):Prop:=∀p ρ ρ1,h p ρ=some ρ1->ρ1.length=ρ.length/\∀i,n<=i->ρ1[i]?=ρ[i]?
def zv0(n:Nat)(h:Tgts):Prop:=∀p ρ ρ1,h p ρ=some ρ1->ρ1.length=ρ.length/\∀i,n<=i->ρ1[i]?=ρ[i]?
theorem zhb{n i:Nat}(h:i<n):LowT n (zan i):=fun p ρ ρ1 e=>by
 cases e
 exact⟨by simp,fun j hj=>zbl (by omega)⟩
theorem zyc{n:Nat}:zv0 n nilT:=fun ps ρ ρ1 e=>by
 cases ps with
 | nil=>cases e;exact⟨rfl,fun _ _=>rfl⟩
 | cons _ _=>cases e
theorem zoo{n:Nat}{h:Tgt}{h':Tgts}(a:LowT n h)(b:zv0 n h'):zv0 n (za7 h h'):=fun ps ρ ρ2 e=>by
 cases ps with
 | nil=>cases e
 | cons p qs=>
  have e:(h p ρ).bind (fun ρ1=>h' qs ρ1)=some ρ2:=e
  obtain⟨ρ1,e1,e2⟩:=Option.bind_eq_some_iff.mp e
  obtain⟨l1,g1⟩:=a p ρ ρ1 e1
  obtain⟨l2,g2⟩:=b qs ρ1 ρ2 e2
  exact⟨l2.trans l1,fun i hi=>(g2 i hi).trans (g1 i hi)⟩
theorem zyb{n m:Nat}{h:Tgts}(a:zv0 n h):LowT n (tupT m h):=fun p ρ ρ1 e=>by
 cases p with
 | tup ps=>
  have e:(if ps.length=m then h ps ρ else none)=some ρ1:=e
  split at e
  ·exact a ps ρ ρ1 e
  ·cases e
 | _=>cases e
def ETs(C:Cn)(ifs:List Expr)(t:PSt->R Bool):Prop:=(ifs=[]/\t=yesB)\/∃c,ifs=[c]/\ET C c t
theorem zlf{C:Cn}:ETs C [] yesB:=.inl ⟨rfl,rfl⟩
def clOf(cells:List (Str×Addr)):List (Str×NameKind)->List (Str×Addr)->List (Str×Addr)
 | [],acc=>acc
 | (n,k)::r,acc=>if (k == .free)=true then (match cells.lookup n with
  | some c=>clOf cells r ((n,c)::acc)
  | none=>clOf cells r acc) else clOf cells r acc
theorem zc4{scope:Scope}{env:Env}(h:∀y∈scope.names,y.2=.free->∃c,env.cells.lookup y.1=some c):closureFor scope env=pure (clOf env.cells scope.names []):=by
 have gen:∀(l:List (Str×NameKind))(acc:List (Str×Addr)),(∀y∈l,y.2=.free->∃c,env.cells.lookup y.1=some c)->
   (forIn l acc fun x r=>(match x with | (name,kind)=>if (kind == NameKind.free)=true then do let a<- cellOf env name;pure (ForInStep.yield ((name,a)::r)) else pure (ForInStep.yield r):Sem (ForInStep (List (Str×Addr)))))=pure (clOf env.cells l acc):=by
  intro l
  induction l with
  | nil=>intro acc _;rfl
  | cons y r ih=>
   intro acc hy
   obtain⟨n,k⟩:=y
   rw[List.forIn_cons]
   have hr:=fun z hz=>hy z (List.mem_cons_of_mem _ hz)
   by_cases hk:(k == NameKind.free)=true
   ·obtain⟨c,hc⟩:=hy (n,k) List.mem_cons_self (by simpa using hk)
    have hc:env.cells.lookup n=some c:=hc
    have e1:cellOf env n=pure c:=by unfold cellOf;rw[hc]
    simp only[hk,if_true,e1,clOf,hc]
    exact ih _ hr
   ·simp only[hk,if_false,clOf]
    exact ih _ hr
 have:=gen scope.names [] h
 have e:closureFor scope env=((forIn scope.names ([]:List (Str×Addr)) fun x r=>(match x with | (name,kind)=>if (kind == NameKind.free)=true then do let a<- cellOf env name;pure (ForInStep.yield ((name,a)::r)) else pure (ForInStep.yield r):Sem (ForInStep (List (Str×Addr))))) >>= fun cs=>pure cs):=rfl
 rw[e,this]
 rfl
theorem zdc{cells:List (Str×Addr)}{x:Str}{c:Addr}:∀{l:List (Str×NameKind)}{acc:List (Str×Addr)},(clOf cells l acc).lookup x=some c->cells.lookup x=some c\/acc.lookup x=some c
 | [],acc,h=>.inr h
 | (n,k)::r,acc,h=>by
  unfold clOf at h
  split at h
  ·split at h
   ·rename_i d hd
    rcases zdc h with z | z
    ·exact .inl z
    ·rw[List.lookup_cons] at z
     by_cases e:(x == n)=true
     ·rw[e] at z
      cases z
      rw[eq_of_beq e]
      exact .inl hd
     ·simp only[Bool.not_eq_true] at e
      rw[e] at z
      exact .inr z
   ·exact zdc h
  ·exact zdc h
theorem zhp{cells:List (Str×Addr)}{x:Str}:∀{l:List (Str×NameKind)}{acc:List (Str×Addr)},(acc.lookup x).isSome=true->((clOf cells l acc).lookup x).isSome=true
 | [],acc,h=>h
 | (n,k)::r,acc,h=>by
  unfold clOf
  split
  ·split
   ·refine zhp ?_
    rw[List.lookup_cons]
    split
    ·rfl
    ·exact h
   ·exact zhp h
  ·exact zhp h
theorem zpc{cells:List (Str×Addr)}{x:Str}{c:Addr}(hc:cells.lookup x=some c):∀{l:List (Str×NameKind)}{acc:List (Str×Addr)},(x,NameKind.free)∈l->(clOf cells l acc).lookup x=some c:=by
 have fin:∀{l:List (Str×NameKind)}{acc:List (Str×Addr)},(∀d,acc.lookup x=some d->d=c)->((clOf cells l acc).lookup x).isSome=true->(clOf cells l acc).lookup x=some c:=fun {l acc} ha h=>by
  obtain⟨d,hd⟩:=Option.isSome_iff_exists.mp h
  rcases zdc hd with z | z
  ·rw[hc] at z;cases z;exact hd
  ·rw[hd,ha d z]
 intro l
 induction l with
 | nil=>intro acc h;cases h
 | cons y r ih=>
  intro acc h
  obtain⟨n,k⟩:=y
  have rest:∀acc,(x,NameKind.free)∈r->(clOf cells r acc).lookup x=some c:=fun acc hr=>ih hr
  rcases List.mem_cons.mp h with z | z
  ·cases z
   unfold clOf
   rw[if_pos (show (NameKind.free == NameKind.free)=true from rfl),hc]
   show (clOf cells r ((x,c)::acc)).lookup x=some c
   have hs:(((x,c)::acc).lookup x)=some c:=by rw[List.lookup_cons,beq_self_eq_true]
   exact fin (fun d hd=>by rw[hs] at hd;cases hd;rfl) (zhp (by rw[hs];rfl))
  ·unfold clOf
   split
   ·split
    ·exact rest _ z
    ·exact rest _ z
   ·exact rest _ z
theorem zgj{env:Env}{x:Str}:∀{names:List (Str×NameKind)},names.lookup x=some .free->
  (names.map fun (n,k)=>if (k == NameKind.free && env.scope.kind == .function && env.kindOf n == some .cell) then (n,NameKind.cell) else (n,k)).lookup x=some .cell ∨
  (names.map fun (n,k)=>if (k == NameKind.free && env.scope.kind == .function && env.kindOf n == some .cell) then (n,NameKind.cell) else (n,k)).lookup x=some .free
 | [],h=>by simp at h
 | (n,k)::r,h=>by
  have ih:=@zgj env x r
  cases hx:x == n with
  | true=>
   simp only[List.lookup_cons,hx] at h
   cases h
   by_cases hc:(NameKind.free == NameKind.free && env.scope.kind == .function && env.kindOf n == some .cell)=true
   ·left
    simp only[List.map_cons,hc,if_true,List.lookup_cons,hx]
   ·right
    simp only[Bool.not_eq_true] at hc
    simp only[List.map_cons,hc,Bool.false_eq_true,if_false,List.lookup_cons,hx]
  | false=>
   simp only[List.lookup_cons,hx] at h
   by_cases hc:(k == NameKind.free && env.scope.kind == .function && env.kindOf n == some .cell)=true
   ·simp only[List.map_cons,hc,if_true,List.lookup_cons,hx]
    exact ih h
   ·simp only[Bool.not_eq_true] at hc
    simp only[List.map_cons,hc,List.lookup_cons,Bool.false_eq_true,if_false,hx]
    exact ih h
theorem zmx{prog:Program}{w:World}{A:Around}{R:Result->Shared->Prop}{s:Shared}{elt target iter:Expr}{ifs:List Expr}{scope:Scope}{pos:Pos}{it acc:Value}{env:Env}(I:Nat->Shared->Prop)
  (turn:∀n s,I n s->wpAny (model prog w) A (pyNext it) (fun r s₁=>match r with
   | none=>R (.ok .next) s₁
   | some v=>wpAny (model prog w) A (letOwnedTupleGo target it v) (fun _ s₁=>wpAny (model prog w) A (assign target env v) (fun _ s₂=>
     wpAny (model prog w) A (forIn ifs true fun c r=>if r=true then do let ok<- isTrue c env (eval c env);pure (ForInStep.yield ok) else pure (ForInStep.yield r)) (fun ok s₃=>
      if ok=true then wpAny (model prog w) A (eval elt env) (fun x s₄=>
       wpAny (model prog w) A (call (.builtin "list.append") [acc,x]) (fun _ s₅=>∃m,m<n/\I m s₅) (fun _ _=>False) s₄) (fun _ _=>False) s₃
      else ∃m,m<n/\I m s₃) (fun _ _=>False) s₂) (fun _ _=>False) s₁) (fun _ _=>False) s₁) (fun _ _=>False) s)
  (n:Nat) (h:I n s) :
  codeAny (model prog w) A (.compLoop (.ListComp elt [⟨target,iter,ifs,0⟩] scope pos) 0 it acc env) R s:=by
 refine codeAny_loop rfl I (fun n s hI=>?_) n h
 show wpAny _ A ((compTurn (.ListComp elt [⟨target,iter,ifs,0⟩] scope pos) 0 it acc env).onRaise (fun x=>do noteFrame x env;theTreesLotGoes x)) _ _ s
 refine wpAny_noted ?_
 rw[compTurn_list]
 refine wpAny_bind (wpAny_standAt (wpAny_bind (wpAny_mono (turn n s hI) (fun r s₁ h₁=>?_) fun _ _ h'=>h'.elim)))
 cases r with
 | none=>exact wpAny_pure h₁
 | some v=>
  refine wpAny_bind (wpAny_mono h₁ (fun _ s₁ h₁=>?_) fun _ _ h'=>h'.elim)
  refine wpAny_bind (wpAny_mono h₁ (fun _ s₂ h₂=>wpAny_bind (wpAny_mono h₂ (fun ok s₃ h₃=>?_) fun _ _ h'=>h'.elim)) fun _ _ h'=>h'.elim)
  cases ok with
  | false=>exact wpAny_pure ⟨rfl,h₃⟩
  | true=>
   exact wpAny_bind (wpAny_bind (wpAny_mono h₃ (fun x s₄ h₄=>wpAny_bind (wpAny_mono h₄ (fun _ s₅ h₅=>wpAny_pure (wpAny_pure ⟨rfl,h₅⟩)) fun _ _ h'=>h'.elim)) fun _ _ h'=>h'.elim))
end PU
namespace PU
open PySem PySem.Spec PyProof.Rows L2
variable[TW]
structure CompOk(NX:List Str)(scX:Scope)(scope:Scope)(N':List Str)(nt:Nat)(idx:List Nat):Prop where
 kind:scope.kind=.function
 cell:∀y∈scope.names,y.2≠.cell
 names:∀y∈scope.names,y.2=.local->scope.names.lookup y.1=some .local
 free:∀y∈scope.names,y.2=.free->scX.names.lookup y.1=some .cell\/scX.names.lookup y.1=some .free
 len:N'.length=nt+idx.length
 ix:(idx.zip (N'.drop nt)).all (fun p=>decide (NX[p.1]?=some p.2) && decide (scope.names.lookup p.2=some .free))=true
theorem CompOk.at{NX:List Str}{scX:Scope}{scope:Scope}{N':List Str}{nt:Nat}{idx:List Nat}(O:CompOk NX scX scope N' nt idx){k:Nat}{x:Str}(h:N'[nt+k]?=some x) :
  ∃i,idx[k]?=some i/\NX[i]?=some x/\scope.names.lookup x=some .free:=by
 have hk:k<idx.length:=by
  have:=(List.getElem?_eq_some_iff.mp h).1
  have:=O.len
  omega
 have e1:idx[k]?=some idx[k]:=by simp[hk]
 have e2:(N'.drop nt)[k]?=some x:=by rw[List.getElem?_drop];exact h
 have e3:(idx.zip (N'.drop nt))[k]?=some (idx[k],x):=by
  rw[List.getElem?_zip_eq_some]
  exact⟨e1,e2⟩
 have:=List.all_eq_true.mp O.ix _ (List.mem_of_getElem? e3)
 simp only[Bool.and_eq_true,decide_eq_true_eq] at this
 exact⟨_,e1,this.1,this.2⟩
section
variable{C : Cn}{elt tg iter : Expr}{ifs : List Expr}{scope : Scope}{pos : Pos}{N' : List Str}{nt : Nat}{idx : List Nat}{h : Tgt}{t : PSt → R Bool}{fe : PSt → R PV}
theorem zqa{pins:List (Addr×Obj)}{σ:L2.St}{H₂:Hp}{s₂:Shared}{J:It}{fp:List Addr}{it:Addr}{tn:Nat->Heap->Prop}{ρ:PSt}(O:CompOk C.X.N C.X.env.scope scope N' nt idx)(hc:C.X.calm=true)
  (I:Inv C.X pins σ H₂ s₂) (T:Turn C.X.prog C.X.w C.X.K tg J fp it tn) (st:tn 0 s₂.heap) (hf:∀b∈fp,FpOk C.X pins H₂ b) (vw:View C.X.K H₂ σ ρ)
  {L D:Addr} {h₁:Heap} {tk:Nat} (hD:D=s₂.heap.objs.size) (hL:s₂.heap.objs.size<=L) (hDL:D≠L) (ns:h₁.Ns L (fun _=>none)) (keep:∀b o,s₂.heap.get? b=some o->h₁.get? b=some o)
  (acc:h₁.get? D=some { cls:=.type "list",data:=.seq ([]:List Value).toArray }) :
  ∃σ',Inv (zfk C.X N' scope (clOf C.X.env.cells scope.names []) L s₂ H₂ fp) [] σ' (upd H₂ D (.lst [])) { s₂ with heap:=h₁,toks:=tk }/\View C.X.K (upd H₂ D (.lst [])) σ' (zdl nt idx ρ)/\(zdl nt idx ρ).length=σ'.length/\
   ∀b∈fp,b<s₂.heap.objs.size:=by
 have fl:∀b∈fp,b<s₂.heap.objs.size:=fun b hb=>by
  obtain⟨o,e,_⟩:=T.obj 0 _ st b hb
  exact Heap.lt_size e
 have nD:H₂ D=none:=by rw[hD];exact I.fresh
 have frC:∀y∈scope.names,y.2=.free->∃c,C.X.env.cells.lookup y.1=some c:=fun y hy hk=>I.ok.has y.1 (O.free y hy hk)
 have clS:∀x c,(clOf C.X.env.cells scope.names []).lookup x=some c->C.X.env.cells.lookup x=some c:=fun x c e=>by
  rcases zdc e with z | z
  ·exact z
  ·cases z
 have cne:∀x c,(clOf C.X.env.cells scope.names []).lookup x=some c->c<s₂.heap.objs.size:=fun x c e=>by
  obtain⟨v,q⟩:=I.cell x c (clS x c e)
  exact q.lt
 refine⟨List.replicate nt none++idx.map (fun i=>(σ[i]?).getD none),⟨⟨I.ok.mod,O.kind,I.ok.glob,I.ok.blt,hL,fun x y c e1 e2=>I.ok.inj x y c (clS x c e1) (clS y c e2),fun x hx=>?_,(fun x c z=>absurd (show false=true from z) Bool.false_ne_true),fun _=>I.ok.hd hc,I.ok.frames,.inl rfl,
  fun b hb=>⟨Nat.ne_of_lt (Nat.lt_of_lt_of_le (fl b hb) hL),fun x c e=>(hf b hb).2.2.2.2.1 x c (clS x c e)⟩,I.bs,Nat.le_trans I.ok.bsz I.sz,fun b o e hb=>?_,fun b hb z=>?_,I.stack,I.stkFree⟩,
  rfl,I.bare,Un.laid keep (Nat.le_of_eq hD.symm) nD,⟨_,ns,fun i x v hN hσ hv=>?_⟩,fun x c e=>?_,?_,fun x c e=>?_,fun p hp=>absurd (show p∈([]:List (Addr×Obj)) from hp) (by simp),?_,?_⟩,?_,?_,fl⟩
 ·-- has
  have hx:(relabel scope C.X.env).names.lookup x=some .cell\/(relabel scope C.X.env).names.lookup x=some .free:=hx
  have:scope.names.lookup x=some .free:=by
   have gen:∀(l:List (Str×NameKind)),(∀y∈l,y.2≠.cell)->((l.map fun (n,k)=>if (k == NameKind.free && C.X.env.scope.kind == .function && C.X.env.kindOf n == some .cell) then (n,NameKind.cell) else (n,k)).lookup x=some .cell ∨
     (l.map fun (n,k)=>if (k == NameKind.free && C.X.env.scope.kind == .function && C.X.env.kindOf n == some .cell) then (n,NameKind.cell) else (n,k)).lookup x=some .free)->l.lookup x=some .free:=by
    intro l
    induction l with
    | nil=>intro _ z;simp at z
    | cons y r ih=>
     intro hy z
     obtain⟨n,k⟩:=y
     have hk:k≠.cell:=hy (n,k) List.mem_cons_self
     have ih:=ih fun y' hy'=>hy y' (List.mem_cons_of_mem _ hy')
     rw[List.lookup_cons]
     by_cases hc':(k == NameKind.free && C.X.env.scope.kind == .function && C.X.env.kindOf n == some .cell)=true
     ·simp only[List.map_cons,hc',if_true,List.lookup_cons] at z
      cases hx':x == n with
      | true=>
       have:k=.free:=by
        simp only[Bool.and_eq_true] at hc'
        exact eq_of_beq hc'.1.1
       rw[this]
      | false=>
       rw[hx'] at z
       exact ih z
     ·simp only[Bool.not_eq_true] at hc'
      simp only[List.map_cons,hc',Bool.false_eq_true,if_false,List.lookup_cons] at z
      cases hx':x == n with
      | true=>
       rw[hx'] at z
       rcases z with z | z
       ·cases z;exact absurd rfl hk
       ·cases z;rfl
      | false=>
       rw[hx'] at z
       exact ih z
   exact gen scope.names O.cell hx
  obtain⟨c,e⟩:=frC (x,.free) (PySem.mem_of_lookup this) rfl
  exact⟨c,zpc e (PySem.mem_of_lookup this)⟩
 ·-- noex
  obtain⟨e1,e2⟩:=I.bs b o e
  obtain⟨g1,g2,g3,g4,_⟩:=hf b hb
  rcases g4 with z | z
  ·exact I.ok.noex b o e z
  ·exact absurd (Heap.lt_size (I.ok.bs b o e).1) (Nat.not_lt.mpr z)
 ·-- exfs
  obtain⟨g1,g2,g3,_⟩:=hf b hb
  exact(List.mem_cons.mp (I.stkSub b z)).elim g2 g3
 ·-- loc
  by_cases hi:i<nt
  ·rw[List.getElem?_append_left (by simpa using hi),List.getElem?_replicate,if_pos hi] at hσ
   cases hσ
  ·obtain⟨k,rfl⟩:∃k,i=nt+k:=⟨i-nt,by omega⟩
   have hN:N'[nt+k]?=some x:=hN
   obtain⟨j,ej,ex,el⟩:=O.at hN
   rw[List.getElem?_append_right (by simp),List.length_replicate,Nat.add_sub_cancel_left,List.getElem?_map,ej] at hσ
   have hσ:some ((σ[j]?).getD none)=some (some v):=hσ
   have hσ:σ[j]?=some (some v):=by
    cases q:σ[j]? with
    | none=>rw[q] at hσ;cases hσ
    | some z=>rw[q] at hσ;cases hσ;rfl
   obtain⟨m,hn,hl⟩:=I.loc
   have hfr:=O.free (x,.free) (PySem.mem_of_lookup el) rfl
   obtain⟨u,ru,lk⟩:=hl j x v ex hσ (by rcases hfr with z | z;exact .inr (.inl z);exact .inr (.inr z))
   refine⟨u,ru,.inr ?_⟩
   rcases lk with⟨z,_⟩|⟨_,c,ec,hcell⟩
   ·exfalso
    have z:C.X.env.scope.names.lookup x=some .local:=z
    rcases hfr with q | q <;> (rw[show C.X.env.scope.names.lookup x=_ from q] at z;cases z)
   ·refine⟨zgj (env:=C.X.env) el,c,zpc ec (PySem.mem_of_lookup el),?_⟩
    obtain⟨o,ho,hd⟩:=hcell
    exact⟨o,keep c o ho,hd⟩
 ·obtain⟨v,o,ho,hd⟩:=I.cell x c (clS x c e)
  exact⟨v,o,keep c o ho,hd⟩
 ·-- free
  show upd H₂ D _ L=none
  rw[zah (Ne.symm hDL)]
  exact I.hok.fresh hL
 ·show upd H₂ D _ c=none
  rw[zah (by rw[hD];exact Nat.ne_of_lt (cne x c e))]
  exact I.freeC x c (clS x c e)
 ·exact I.hok.laid keep (Nat.le_of_eq hD.symm) ⟨by simp,[],0,.nil,acc⟩
 ·show _=N'.length
  rw[O.len]
  simp
 ·refine⟨fun i l e=>?_,(Same.new (o:=.lst []) nD).tabs vw.tb⟩
  unfold zdl at e
  by_cases hi:i<nt
  ·rw[List.getElem?_append_left (by simpa using hi),List.getElem?_replicate,if_pos hi] at e
   cases e
   exact trivial
  ·obtain⟨k,rfl⟩:∃k,i=nt+k:=⟨i-nt,by omega⟩
   rw[List.getElem?_append_right (by simp),List.length_replicate,Nat.add_sub_cancel_left,List.getElem?_map] at e ⊢
   cases ej:idx[k]? with
   | none=>rw[ej] at e;cases e
   | some j=>
    rw[ej] at e
    have e:some (roS ρ[j]?)=some l:=e
    cases e
    cases q:ρ[j]? with
    | none=>exact trivial
    | some l'=>
     have:=(vw j l' q).same (Same.new (o:=.lst []) nD)
     cases l' with
     | no=>exact trivial
     | val p=>
      obtain⟨v,ev,r⟩:=this
      exact⟨v,by show some ((σ[j]?).getD none)=_;rw[ev];rfl,r⟩
     | own p=>exact trivial
     | pin qs a=>exact trivial
 ·simp[zdl]
theorem zqb{ρ:PSt}{p:PV}{ps rest:List PV}(e:zdr h t fe ρ (p::ps)=.ok rest):∃ρ1 b,h p ρ=some ρ1/\t ρ1=.ok b/\
  ((b=true/\∃q r,fe ρ1=.ok q/\zdr h t fe ρ ps=.ok r/\rest=q::r)\/(b=false/\zdr h t fe ρ ps=.ok rest)):=by
 unfold zdr at e
 cases h1:h p ρ with
 | none=>rw[h1] at e;cases e
 | some ρ1=>
  rw[h1] at e
  simp only[R.ofO_some,R.ok_bind] at e
  cases h2:t ρ1 with
  | ok b=>
   rw[h2] at e
   simp only[R.ok_bind] at e
   refine⟨ρ1,b,rfl,h2,?_⟩
   cases b with
   | true=>
    rw[if_pos rfl] at e
    cases h3:fe ρ1 with
    | ok q=>
     rw[h3] at e
     simp only[R.ok_bind] at e
     cases h4:zdr h t fe ρ ps with
     | ok r=>
      rw[h4] at e
      cases e
      exact .inl ⟨rfl,q,r,rfl,rfl,rfl⟩
     | er x=>rw[h4] at e;cases e
     | no=>rw[h4] at e;cases e
    | er x=>rw[h3] at e;cases e
    | no=>rw[h3] at e;cases e
   | false=>
    rw[if_neg Bool.false_ne_true] at e
    exact .inr ⟨rfl,e⟩
  | er x=>rw[h2] at e;cases e
  | no=>rw[h2] at e;cases e
theorem View.weak{K:PySem.W.Frag}{H:Hp}{σ:L2.St}{ρ ρ1:PSt}{n:Nat}(vw:View K H σ ρ1)(low:∀i,n<=i->ρ1[i]?=ρ[i]?)(no:∀i l,i<n->ρ[i]?=some l->l=.no):View K H σ ρ:=by
 refine⟨fun i l e=>?_,vw.tb⟩
 by_cases hi:i<n
 ·rw[no i l hi e];exact trivial
 ·exact vw i l (by rw[low i (by omega)];exact e)
theorem ztd{idx:List Nat}{nt:Nat}{ρ:PSt}{i:Nat}{l:Sl}(hi:i<nt)(e:(zdl nt idx ρ)[i]?=some l):l=.no:=by
 unfold zdl at e
 rw[List.getElem?_append_left (by simpa using hi),List.getElem?_replicate,if_pos hi] at e
 cases e
 rfl
theorem ztc{idx:List Nat}{nt:Nat}{ρ:PSt}{i:Nat}{p:PV}(e:(zdl nt idx ρ)[i]?=some (.own p)):False:=by
 unfold zdl at e
 by_cases hi:i<nt
 ·rw[List.getElem?_append_left (by simpa using hi),List.getElem?_replicate,if_pos hi] at e
  cases e
 ·rw[List.getElem?_append_right (by simpa using hi),List.getElem?_map] at e
  cases q:idx[i-(List.replicate nt Sl.no).length]? with
  | none=>rw[q] at e;cases e
  | some j=>
   rw[q] at e
   have e:some (roS ρ[j]?)=some (Sl.own p):=e
   unfold roS at e
   split at e <;> cases e
theorem ztb{idx:List Nat}{nt:Nat}{ρ:PSt}{i:Nat}{p:List PV}{a:Addr}(e:(zdl nt idx ρ)[i]?=some (.pin p a)):False:=by
 unfold zdl at e
 by_cases hi:i<nt
 ·rw[List.getElem?_append_left (by simpa using hi),List.getElem?_replicate,if_pos hi] at e
  cases e
 ·rw[List.getElem?_append_right (by simpa using hi),List.getElem?_map] at e
  cases q:idx[i-(List.replicate nt Sl.no).length]? with
  | none=>rw[q] at e;cases e
  | some j=>
   rw[q] at e
   have e:some (roS ρ[j]?)=some (Sl.pin p a):=e
   unfold roS at e
   split at e <;> cases e
theorem View.noOwn{K:PySem.W.Frag}{H H':Hp}{σ:L2.St}{ρ:PSt}(vw:View K H σ ρ)(no:∀(i:Nat)(p:PV),ρ[i]?≠some (Sl.own p))(np:∀(i:Nat)(ps:List PV)(a:Addr),ρ[i]?≠some (Sl.pin ps a))(k:Kp H H')(tb:Tabs H'):View K H' σ ρ:=by
 refine⟨fun i l e=>?_,tb⟩
 have:=vw i l e
 cases l with
 | no=>exact trivial
 | val p=>obtain⟨v,ev,r⟩:=this;exact⟨v,ev,r.kp k⟩
 | own p=>exact absurd e (no i p)
 | pin ps a=>exact absurd e (np i ps a)
theorem zmv{pins:List (Addr×Obj)}{σ:L2.St}{H₂:Hp}{s₂:Shared}{J:It}{fp:List Addr}{it:Addr}{tn:Nat->Heap->Prop}{ρ:PSt}{ps qs:List PV}{RR:Value->Addr->Result->Shared->Prop}{E:Value->Shared->Prop}
  (O:CompOk C.X.N C.X.env.scope scope N' nt idx) (hc:C.X.calm=true)
  (hg:∀cl L s H fp,TCt (zhn C N' scope cl L s H fp) tg h) (hlow:LowT nt h) (ht:∀cl L s H fp,ETs (zhn C N' scope cl L s H fp) ifs t) (he:∀cl L s H fp,EV (zhn C N' scope cl L s H fp) elt fe)
  (I:Inv C.X pins σ H₂ s₂) (T:Turn C.X.prog C.X.w C.X.K tg J fp it tn) (st:tn 0 s₂.heap) (hf:∀b∈fp,FpOk C.X pins H₂ b) (vw:View C.X.K H₂ σ ρ) (ip:ItP C.X.K J H₂ ps)
  (hq:zdr h t fe (zdl nt idx ρ) ps=.ok qs) (hz:qs.length<=sizeLine)
  (hRR:∀D L σ' H' s' xs,Inv (zfk C.X N' scope (clOf C.X.env.cells scope.names []) L s₂ H₂ fp) [] σ' H' s'->Same H₂ H'->H₂ D=none->H' D=some (.lst xs)->Reps C.X.K H' qs xs->s₂.heap.objs.size<=L->RR (.ref D) L (.ok .next) s') :
  wpAny (model C.X.prog C.X.w) C.X.A (newList []) (fun acc s₃=>wpAny (model C.X.prog C.X.w) C.X.A (newFunctionEnv scope C.X.env.globals (clOf C.X.env.cells scope.names []) [] C.X.env.qual none .none (some C.X.env)) (fun cenv s₄=>
   codeAny (model C.X.prog C.X.w) C.X.A (.compStart (.ListComp elt [⟨tg,iter,ifs,0⟩] scope pos) 0 (.ref it) acc { cenv with scope:=relabel scope C.X.env }) (RR acc cenv.locals) s₄) E s₃) E s₂:=by
 refine wpAny_newObj_type (wpAny_newFunctionEnv O.cell (by intro y hy;simp at hy) (fun h₁ hns₁ hsb₁=>?_) O.kind)
 dsimp only at hns₁ hsb₁ ⊢
 generalize hG:s₂.heap.push { cls:=.type "list",dict:=none,data:=.seq ([]:List Value).toArray }=G at hns₁ hsb₁ ⊢
 have hC:G.objs.size=s₂.heap.objs.size+1:=by rw[← hG,Heap.size_push]
 have hDL:s₂.heap.objs.size≠G.objs.size:=by rw[hC];exact Nat.ne_of_lt (Nat.lt_succ_self _)
 have keep:∀b o,s₂.heap.get? b=some o->h₁.get? b=some o:=fun b o e=>
  hsb₁.extBut b o (by rw[hC];exact Nat.ne_of_lt (Nat.lt_succ_of_lt (Heap.lt_size e))) (Heap.get?_push_of_some _ (hG▸Heap.get?_push_of_some _ e))
 have acc:h₁.get? s₂.heap.objs.size=some { cls:=.type "list",data:=.seq ([]:List Value).toArray }:=hsb₁.extBut _ _ hDL (Heap.get?_push_of_some _ (hG▸Heap.get?_push_size _ rfl))
 have nD:H₂ s₂.heap.objs.size=none:=I.fresh
 have hGe:s₂.heap.objs.size<=G.objs.size:=by rw[hC];exact Nat.le_succ _
 obtain⟨σ0,I0,vw0,hl0,fl⟩:=zqa O hc I T st hf vw (L:=G.objs.size) (tk:=s₂.toks+([]:List (Str×Value)).length) rfl hGe hDL (by simpa using hns₁) keep acc
 have fpk:∀{H':Hp}{pins':List (Addr×Obj)},(∀b∈fp,H' b=none)->(∀p∈pins',p.1 ∉ fp)->∀b∈fp,FpOk (zfk C.X N' scope (clOf C.X.env.cells scope.names []) G.objs.size s₂ H₂ fp) pins' H' b:=fun {H' pins'} hn hp b hb=>by
  obtain⟨g1,g2,g3,g4,g5,g6⟩:=hf b hb
  refine⟨hn b hb,Nat.ne_of_lt (Nat.lt_of_lt_of_le (fl b hb) hGe),fun z=>?_,.inl hb,fun x c e=>?_,fun p hp' z=>?_⟩
  ·exact(List.mem_cons.mp (I.stkSub b z)).elim g2 g3
  ·rcases zdc e with z | z
   ·exact g5 x c z
   ·cases z
  ·subst z
   exact hp p ((show p∈([]:List (Addr×Obj))++pins' from hp')) hb
 have loop:codeAny (model C.X.prog C.X.w) C.X.A (.compLoop (.ListComp elt [⟨tg,iter,ifs,0⟩] scope pos) 0 (.ref it) (.ref s₂.heap.objs.size) (compEnvC scope (clOf C.X.env.cells scope.names []) G.objs.size C.X.env))
   (RR (.ref s₂.heap.objs.size) G.objs.size) { s₂ with heap:=h₁,toks:=s₂.toks+([]:List (Str×Value)).length }:=by
  refine zmx (fun n s=>∃i σ' H' xs dn rest,n=ps.length-i/\i<=ps.length/\Inv (zfk C.X N' scope (clOf C.X.env.cells scope.names []) G.objs.size s₂ H₂ fp) [] σ' H' s/\tn i s.heap/\(∀b∈fp,H' b=none)/\Same H₂ H'/\
   H' s₂.heap.objs.size=some (.lst xs)/\Reps C.X.K H' dn xs/\View C.X.K H' σ' (zdl nt idx ρ)/\(zdl nt idx ρ).length=σ'.length/\zdr h t fe (zdl nt idx ρ) (ps.drop i)=.ok rest/\dn++rest=qs) ?_ ps.length
   ⟨0,σ0,_,[],[],qs,rfl,Nat.zero_le _,I0,T.keep _ _ _ st fun b _ o e=>keep b o e,fun b hb=>?_,Same.new nD,zai,Reps.nil,vw0,hl0,by simpa using hq,rfl⟩
  ·rintro n s ⟨i,σ',H',xs,dn,rest,rfl,hi,I',st',fr',sm',hD',rp',vw',hl',e',ea⟩
   obtain⟨stp,stepp⟩:=ip i H' (Same.kp sm')
   by_cases hlt:i<ps.length
   ·have ei:ps[i]?=some ps[i]:=by simp[hlt]
    obtain⟨go,yl⟩:=stepp _ ei
    rw[zlh ei] at e'
    obtain⟨ρ1,b,e1,e2,e3⟩:=zqb e'
    obtain⟨l1,low1⟩:=hlow _ _ _ e1
    refine thn (T.item (zfk C.X N' scope (clOf C.X.env.cells scope.names []) G.objs.size s₂ H₂ fp) rfl rfl rfl rfl i [] s σ' H' _ I' (fpk fr' (by simp)) st' go) fun r s1 ⟨u,hr,h4⟩=>?_
    subst hr
    refine thn h4 fun _ s2 ⟨x,H3,I3,r3,y3,st3,fr3⟩=>?_
    obtain⟨sm3,rp3⟩:=yl x H3 y3
    have I3':=I3.pinned (fpk fr3 (by simp)) (T.obj _ _ st3)
    refine thn (hg _ _ _ _ _ _ s2 σ' H3 x u (fun σ4 H4=>H4=H3/\ρ1.length=σ4.length/\View C.X.K H4 σ4 ρ1) I3' r3 ⟨_,_,ρ1,hl',vw'.same sm3,rp3,e1,fun σ4 hl4 vw4=>⟨rfl,hl4,vw4⟩⟩) fun _ s4 ⟨σ4,H4,I4,q4⟩=>?_
    obtain⟨rfl,hl4,vw4⟩:=q4
    have tests:wpAny (model C.X.prog C.X.w) C.X.A (forIn ifs true fun c r=>if r=true then do let ok<- isTrue c (compEnvC scope (clOf C.X.env.cells scope.names []) G.objs.size C.X.env) (eval c (compEnvC scope (clOf C.X.env.cells scope.names []) G.objs.size C.X.env));pure (ForInStep.yield ok) else pure (ForInStep.yield r))
      (TP (zfk C.X N' scope (clOf C.X.env.cells scope.names []) G.objs.size s₂ H₂ fp) ([]++zki fp s2.heap) σ4 (fun b' H5=>b'=b/\Same H4 H5)) (fun _ _=>False) s4:=by
     rcases ht (clOf C.X.env.cells scope.names []) G.objs.size s₂ H₂ fp with⟨ez,et⟩|⟨c,ez,et⟩
     ·subst ez
      subst et
      cases e2
      exact wpAny_tests_nil ⟨H4,I4,rfl,Same.refl _⟩
     ·subst ez
      exact wpAny_tests_one (et _ s4 σ4 H4 _ I4 ⟨ρ1,vw4,by rw[e2];exact fun H' s'=>⟨rfl,s'⟩⟩)
    refine thn tests fun b' s5 ⟨H5,I5,eb,sm5⟩=>?_
    subst eb
    have fin:∀{H7:Hp}{s7:Shared},Inv (zfk C.X N' scope (clOf C.X.env.cells scope.names []) G.objs.size s₂ H₂ fp) ([]++zki fp s2.heap) σ4 H7 s7->Inv (zfk C.X N' scope (clOf C.X.env.cells scope.names []) G.objs.size s₂ H₂ fp) [] σ4 H7 s7/\tn (i+1) s7.heap/\∀b∈fp,H7 b=none:=fun {H7 s7} I7=>by
     refine⟨I7.unpinned,T.keep _ _ _ st3 fun b hb o e=>(I7.pin (b,o) (List.mem_append_right _ (List.mem_append_right _ (zga hb e)))).1,fun b hb=>?_⟩
     obtain⟨o,e,_⟩:=T.obj _ _ st3 b hb
     exact(I7.pin (b,o) (List.mem_append_right _ (List.mem_append_right _ (zga hb e)))).2.1
    have sm25:Same H₂ H5:=(sm'.trans sm3).trans sm5
    have smd:Same H' H5:=sm3.trans sm5
    have vw5:View C.X.K H5 σ4 (zdl nt idx ρ):=View.weak (vw4.same sm5) low1 fun i l hi e=>ztd hi e
    have hl5:(zdl nt idx ρ).length=σ4.length:=by rw[← l1];exact hl4
    rcases e3 with⟨rfl,q,r,e4,e5,rfl⟩|⟨rfl,e4⟩
    ·rw[if_pos rfl]
     refine thn (he _ _ _ _ _ _ s5 σ4 H5 (fun v H6=>Same H5 H6/\Rep C.X.K H6 q v) I5 ⟨ρ1,vw4.same sm5,by rw[e4];exact fun v H' s' r=>⟨s',r⟩⟩) fun u6 s6 ⟨v,H6,I6,r6,sm6,rp6⟩=>?_
     have hD6:H6 s₂.heap.objs.size=some (.lst xs):=sm6 _ _ (smd _ _ hD')
     have hx:xs.length<sizeLine:=by
      have a1:=rp'.length
      have a2:qs.length=dn.length+(r.length+1):=by rw[← ea];simp
      omega
     refine thn (zl5 (X:=zfk C.X N' scope (clOf C.X.env.cells scope.names []) G.objs.size s₂ H₂ fp) _ s6 σ4 H6 (.ref s₂.heap.objs.size) [v] (.ref s₂.heap.objs.size) [u6] (fun _ H7=>H7=upd H6 s₂.heap.objs.size (.lst (xs++[v]))) I6 rfl (.cons r6 .nil) ⟨_,xs,v,rfl,rfl,hD6,hx,rfl⟩) fun _ s7 ⟨_,H7,I7,_,e7⟩=>?_
     subst e7
     obtain⟨J7,st7,fr7⟩:=fin I7
     have kp7:Kp H6 (upd H6 s₂.heap.objs.size (.lst (xs++[v]))):=Kp.upd hD6 rfl
     refine⟨ps.length-(i+1),by omega,i+1,σ4,_,xs++[v],dn++[q],r,rfl,hlt,J7,st7,fr7,(sm25.trans sm6).but nD (fun u h=>by rw[hD6] at h;cases h;rfl) (fun b hb=>zah hb),zai,?_,?_,hl5,e5,by rw[← ea];simp⟩
     ·exact Reps.append (Reps.kp kp7 _ ((rp'.same smd).same sm6)) (Reps.cons (Rep.kp kp7 _ rp6) Reps.nil)
     ·exact(vw5.same sm6).noOwn (fun i p e=>ztc e) (fun i p a e=>ztb e) kp7 ((vw5.same sm6).tb.but (fun u h=>by rw[hD6] at h;cases h;exact⟨rfl,rfl⟩) (fun b hb=>zah hb))
    ·rw[if_neg Bool.false_ne_true]
     obtain⟨J7,st7,fr7⟩:=fin I5
     exact⟨ps.length-(i+1),by omega,i+1,σ4,H5,xs,dn,rest,rfl,hlt,J7,st7,fr7,sm25,smd _ _ hD',rp'.same smd,vw5,hl5,e4,ea⟩
   ·have e:i=ps.length:=by omega
    subst e
    rw[List.drop_length] at e'
    cases e'
    rw[List.append_nil] at ea
    subst ea
    refine thn (T.done (zfk C.X N' scope (clOf C.X.env.cells scope.names []) G.objs.size s₂ H₂ fp) rfl rfl rfl rfl ps.length [] s σ' H' _ I' (fpk fr' (by simp)) st' (stp rfl)) fun r s1 ⟨hr,I1⟩=>?_
    subst hr
    exact hRR _ _ σ' H' s1 xs I1 sm' nD hD' rp' hGe
  ·show upd H₂ _ _ b=none
   rw[zah (Nat.ne_of_lt (fl b hb))]
   exact(hf b hb).1
 exact codeAny_compStart_list loop (T.self _ 0 _ _ _ (T.keep _ _ _ st fun b _ o e=>keep b o e) loop)
end
end PU
namespace PU
open PySem PySem.Spec PyProof.Rows L2
variable[TW]
section
variable{C : Cn}{elt tg iter : Expr}{ifs : List Expr}{scope : Scope}{pos : Pos}{N' : List Str}{nt : Nat}{idx : List Nat}{fi : PSt → R (List PV)}{h : Tgt}{t : PSt → R Bool}{fe : PSt → R PV}
theorem zmw{pins:List (Addr×Obj)}{σ σ':L2.St}{H₂ H':Hp}{s₂ s':Shared}{fp:List Addr}{cl:List (Str×Addr)}{L:Addr}(I:Inv C.X pins σ H₂ s₂)(hf:∀b∈fp,FpOk C.X pins H₂ b)
  (I':Inv (zfk C.X N' scope cl L s₂ H₂ fp) [] σ' H' s'):Inv C.X pins σ H' s':=
 I.call' (ch:=fp) I'.os I'.base I'.hok I'.bare fun b hb=>by
  obtain⟨g1,g2,g3,g4,g5,g6⟩:=hf b hb
  exact⟨g4,g2,g5,g6⟩
theorem zrm{α:Type}{H:Hp}{r:R α}{k:α->Prop}(q:RQ C H (noEr r) k):∃a,r=.ok a/\k a:=by
 cases r with
 | ok a=>exact⟨a,rfl,q⟩
 | er x=>exact False.elim q
 | no=>exact False.elim q
theorem zmu{pins:List (Addr×Obj)}{σ:L2.St}{H:Hp}{s:Shared}{L:Addr}{h':Heap}(I:Inv C.X pins σ H s)(hn:H L=none)(hL:L≠C.X.env.locals)(h1:C.X.s₀.heap.objs.size<=L)(h2:∀x c,C.X.env.cells.lookup x=some c->c≠L)
  (h3:∀p∈C.X.pn++pins,p.1≠L) (sb:Heap.SameBut L s.heap h'):Inv C.X pins σ H { s with heap:=h' }:=
 I.turned (t':=s.toks) (fun b o hb e=>(sb.2 b hb).trans e) hn hL (.inr h1) h2 h3
theorem zs0(O:CompOk C.X.N C.X.env.scope scope N' nt idx)(hc:C.X.calm=true)(hi:EI C tg iter fi)
  (hg:∀cl L s H fp,TCt (zhn C N' scope cl L s H fp) tg h) (hlow:LowT nt h) (ht:∀cl L s H fp,ETs (zhn C N' scope cl L s H fp) ifs t) (he:∀cl L s H fp,EV (zhn C N' scope cl L s H fp) elt fe)
  (hs:∀x,foldedSetIterable iter C.X.env x=pure x:=by intro _;rfl):EN C (.ListComp elt [⟨tg,iter,ifs,0⟩] scope pos) (zjv fi h t fe nt idx):=by
 intro pins s σ H Q I ⟨ρ,vw,q⟩
 rw[eval_ListComp]
 refine wpAny_comprehension_free (use:=none) rfl hs (zc4 fun y hy hk=>I.ok.has y.1 (O.free y hy hk)) O.kind O.names ?_
 refine thn (hi pins s σ H (fun J H'=>∃ps qs,Same H H'/\ItP C.X.K J H' ps/\zdr h t fe (zdl nt idx ρ) ps=.ok qs/\qs.length<=sizeLine/\∀a H'',Same H H''->H a=none->zco C.X.K H'' a (.lst qs)->Q (.ref a) H'') I
  ⟨ρ,vw,q.bind.imp fun ps _ k J H' s' ip=>?_⟩) fun v s1 h1=>thn h1 fun itv s2 h2=>?_
 ·obtain⟨qs,e1,k⟩:=zrm k.bind
  obtain⟨z,k⟩:=zjj k
  exact⟨ps,qs,s',ip,e1,z,k⟩
 ·obtain⟨it,fp,tn,J,H2,e,I2,T,st2,f2,ps,qs,sm,ip,e1,hz,k⟩:=h2
  subst e
  refine zmv O hc hg hlow ht he I2 T st2 f2 (vw.same sm) ip e1 hz fun D L σ' H' s' xs I' sm' nD hD rp hL=>?_
  obtain⟨m,hn,_⟩:=id I'.loc
  have IB:=zmw I2 f2 I'
  refine⟨m,hn,fun h' sb=>⟨.ref D,H',zmu IB I'.free ?_ (Nat.le_trans I2.sz hL) ?_ ?_ sb,rfl,k D H' (sm.trans sm') (sm.free nD) ⟨xs,hD,rp⟩⟩⟩
  ·exact Nat.ne_of_gt (Nat.lt_of_lt_of_le I2.lt hL)
  ·intro x c ec z
   obtain⟨v,qc⟩:=I2.cell x c ec
   have z:c=L:=z
   exact Nat.lt_irrefl _ (Nat.lt_of_lt_of_le (z▸qc.lt) hL)
  ·intro p hp z
   have z:p.1=L:=z
   exact Nat.lt_irrefl _ (Nat.lt_of_lt_of_le (z▸Heap.lt_size (I2.pin p hp).1) hL)
theorem RS.bind'{C:Cn}{B:Hp×Hp}{D:Ends}{H:Hp}{fi:PSt->R (List PV)}{h:Tgt}{t:PSt->R Bool}{fe:PSt->R PV}{nt:Nat}{idx:List Nat}{ρ:PSt}{g:PV->Sl}{i:Nat}
  (q:RS C B D (zjv fi h t fe nt idx ρ >>= fun p=>.ok (.next (ρ.set i (g p))))) (s:Same B.1 H) :
  RQ C H (fi ρ) fun ps=>∃qs,zdr h t fe (zdl nt idx ρ) ps=.ok qs/\qs.length<=sizeLine/\∀σ' H'',StOk C.X.K B H'' σ' (ρ.set i (g (.lst qs)))->D.nx σ' H'':=by
 unfold zjv at q
 rw[R.bind_assoc] at q
 refine(q.bind s).imp fun ps _ k=>?_
 rw[R.bind_assoc] at k
 cases hc:zdr h t fe (zdl nt idx ρ) ps with
 | ok qs=>
  rw[hc] at k
  have k:RS C B D ((zgk qs >>= fun qs=>R.ok (.lst qs)) >>= fun p=>.ok (.next (ρ.set i (g p)))):=k
  unfold zgk at k
  by_cases hz:qs.length<=16777216
  ·rw[if_pos hz] at k
   exact⟨qs,rfl,by rw[sizeLine_eq];exact hz,k⟩
  ·rw[if_neg hz] at k
   exact False.elim k
 | er x=>rw[hc] at k;exact False.elim k
 | no=>rw[hc] at k;exact False.elim k
theorem zqx(own:Bool)(i:Nat){x:Str}{px:Pos}{spos:Pos}(hN:C.X.N.Nodup)(hi':C.X.N[i]?=some x)(hx:Loc C.X.env.scope x)(O:CompOk C.X.N C.X.env.scope scope N' nt idx)(hc:C.X.calm=true)(hi:EI C tg iter fi)
  (hg:∀cl L s H fp,TCt (zhn C N' scope cl L s H fp) tg h) (hlow:LowT nt h) (ht:∀cl L s H fp,ETs (zhn C N' scope cl L s H fp) ifs t) (he:∀cl L s H fp,EV (zhn C N' scope cl L s H fp) elt fe)
  (hsw:swapsWith (.ListComp elt [⟨tg,iter,ifs,0⟩] scope pos) (some (.Name x px)) spos.line C.X.env=pure true:=by rfl)
  (hs:∀x,foldedSetIterable iter C.X.env x=pure x:=by intro _;rfl)
  (hf:C.X.fn x=true\/C.X.env.scope.names.lookup x=some .local:=by first | exact .inl rfl | exact .inr rfl | assumption) :
  SV C (.Assign [.Name x px] (.ListComp elt [⟨tg,iter,ifs,0⟩] scope pos) spos) ((if own=true then ownF else setF) i (zjv fi h t fe nt idx)):=by
 intro pins s σ H D I ⟨ρ,B,S,q⟩
 rw[exec_Assign_Name_used _ _ _ _ hsw]
 refine wpAny_bind (wpAny_standAt (wpAny_bind ?_))
 show wpAny _ C.X.A (do let _<- comprehension (.ListComp elt [⟨tg,iter,ifs,0⟩] scope pos) scope C.X.env _ (newList []) false (eval iter C.X.env) (some (assign (.Name x px) C.X.env))) _ _ s
 refine wpAny_bind (wpAny_mono (wpAny_comprehension_free (use:=some (assign (.Name x px) C.X.env)) (Q:=fun _ s'=>SP C.X pins D .next s') rfl hs (zc4 fun y hy hk=>I.ok.has y.1 (O.free y hy hk)) O.kind O.names ?_)
  (fun _ s' hq=>wpAny_pure (wpAny_pure hq)) fun _ _ e=>e)
 have q':RS C B D (zjv fi h t fe nt idx ρ >>= fun p=>.ok (.next (ρ.set i (if own=true then .own p else .val p)))):=by
  cases own with
  | true=>exact q
  | false=>exact q
 refine thn (hi pins s σ H (fun J H'=>∃ps qs,Same H H'/\ItP C.X.K J H' ps/\zdr h t fe (zdl nt idx ρ) ps=.ok qs/\qs.length<=sizeLine/\∀σ' H'',StOk C.X.K B H'' σ' (ρ.set i (if own=true then .own (.lst qs) else .val (.lst qs)))->D.nx σ' H'') I
  ⟨ρ,S.vw,(RS.bind' q' S.same).imp fun ps _ k J H' s' ip=>?_⟩) fun v s1 h1=>thn h1 fun itv s2 h2=>?_
 ·obtain⟨qs,e1,z,k⟩:=k
  exact⟨ps,qs,s',ip,e1,z,k⟩
 ·obtain⟨it,fp,tn,J,H2,e,I2,T,st2,f2,ps,qs,sm,ip,e1,hz,k⟩:=h2
  subst e
  refine zmv O hc hg hlow ht he I2 T st2 f2 (S.vw.same sm) ip e1 hz fun Da L σ' H' s' xs I' sm' nD hD rp hL=>?_
  obtain⟨m,⟨o,es,ep,ho,hrest⟩,_⟩:=id I'.loc
  have IB:=zmw I2 f2 I'
  have nL:L≠C.X.env.locals:=Nat.ne_of_gt (Nat.lt_of_lt_of_le I2.lt hL)
  have nC:∀x c,C.X.env.cells.lookup x=some c->c≠L:=fun x c ec z=>by
   obtain⟨v,qc⟩:=I2.cell x c ec
   have z:c=L:=z
   exact Nat.lt_irrefl _ (Nat.lt_of_lt_of_le (z▸qc.lt) hL)
  have nP:∀p∈C.X.pn++pins,p.1≠L:=fun p hp z=>by
   have z:p.1=L:=z
   exact Nat.lt_irrefl _ (Nat.lt_of_lt_of_le (z▸Heap.lt_size (I2.pin p hp).1) hL)
  have IP:Inv C.X (pins++[(L,o)]) σ H' s':=IB.pins_of fun p hp=>by
   rcases List.mem_append.mp hp with z | z
   ·exact IB.pin p (List.mem_append_right _ z)
   ·have:p=(L,o):=by simpa using z
    subst this
    exact⟨ho,I'.free,nL,I2.nofs hL,fun v z=>by rw[hrest.1] at z;cases z⟩
  have S2:=S.grow (sm.trans sm')
  have fin:∀{H3:Hp}{v:V},Inv C.X (pins++[(L,o)]) σ H3 s'->v=.ref Da->(∀σ3,σ3=σ.set i (some v)->D.nx σ3 H3)->
    wpAny (model C.X.prog C.X.w) C.X.A (assign (.Name x px) C.X.env (.ref Da)) (fun _ s''=>∃m,s''.heap.Ns L m/\∀h',Heap.SameBut L s''.heap h'->SP C.X pins D .next { s'' with heap:=h' }) C.X.xe s':=fun {H3 v} I3 ev k3=>by
   refine thn (zm9 hN hi' hx hf (pins++[(L,o)]) s' σ H3 v (.ref Da) (fun σ4 H4=>σ4=σ.set i (some v)/\H4=H3) I3 (by subst ev;rfl) ⟨rfl,rfl⟩) fun _ s4 ⟨σ4,H4,I4,e4,e5⟩=>?_
   have hp:=I4.pin (L,o) (by simp)
   have IU:Inv C.X pins σ4 H4 s4:=I4.unpinned
   refine⟨m,⟨o,es,ep,hp.1,hrest⟩,fun h' sb=>⟨σ4,H4,zmu IU hp.2.1 nL (Nat.le_trans I2.sz hL) nC nP sb,?_⟩⟩
   subst e5
   exact k3 σ4 e4
  cases own with
  | true=>
   exact fin IP rfl fun σ3 e3=>by
    subst e3
    exact k _ _ (S.setN (sm.trans sm') (sm.free nD) ⟨xs,hD,rp⟩)
  | false=>
   obtain⟨H3,I3,rp3,oth⟩:=L2.Inv.frz (a:=Da) (p:=.lst qs) IP ⟨xs,hD,rp⟩
   refine fin I3 rfl fun σ3 e3=>?_
   subst e3
   exact k _ _ ((S.grow ((sm.trans sm').but (sm.free nD) (fun u h=>by rw[hD] at h;cases h;rfl) oth)).setV rp3)
end
end PU
namespace PU
open PySem PySem.Spec PyProof.Rows L2 PySem.SeqAt
variable[TW]
section
variable{X : Cx}{pins : List (Addr×Obj)}{σ : L2.St}{H : Hp}{s : Shared}
theorem zie{a:Addr}{xs ys:List V}(I:Inv X pins σ H s)(h1:SqT X.K H a xs)(h2:SqO X.K H a ys):False:=by
 obtain⟨its,_,⟨o,e,c,_⟩,_⟩:=I.tuple h1
 obtain⟨_,its2,n,_,e2⟩:=h2.is I
 rw[e] at e2
 cases e2
 have c:Value.type "list"=Value.type "tuple":=c
 exact absurd c (by decide)
theorem zxh{a:Addr}{xs ys:List V}(I:Inv X pins σ H s)(h1:SqO X.K H a xs)(h2:SqO X.K H a ys):xs=ys:=I.list_inj h1.l h2.l
mutual
theorem zg8(I:Inv X pins σ H s):∀(p q:PV)(v:V)(b:Bool),RepO X.K H p v->RepO X.K H q v->peqO p q=some b->b=true
 | .non,q,v,b,h1,h2,e=>by
  cases (show v=.non from h1)
  cases q with
  | non=>simpa [peqO] using e.symm
  | bl j=>cases (show V.non=.bl j from h2)
  | int j=>cases (show V.non=.int j from h2)
  | str j=>cases (show V.non=.str j from h2)
  | tup qs=>obtain⟨a,xs,z,_⟩:=RepO.tup_inv h2;cases z
  | lst qs=>obtain⟨a,xs,z,_⟩:=RepO.lst_inv h2;cases z
  | _=>simp[peqO] at e
 | .bl i,q,v,b,h1,h2,e=>by
  cases (show v=.bl i from h1)
  cases q with
  | bl j=>cases (show V.bl i=.bl j from h2);simpa [peqO] using e.symm
  | non=>cases (show V.bl i=.non from h2)
  | int j=>cases (show V.bl i=.int j from h2)
  | str j=>cases (show V.bl i=.str j from h2)
  | tup qs=>obtain⟨a,xs,z,_⟩:=RepO.tup_inv h2;cases z
  | lst qs=>obtain⟨a,xs,z,_⟩:=RepO.lst_inv h2;cases z
  | _=>simp[peqO] at e
 | .int i,q,v,b,h1,h2,e=>by
  cases (show v=.int i from h1)
  cases q with
  | int j=>cases (show V.int i=.int j from h2);simpa [peqO] using e.symm
  | bl j=>cases (show V.int i=.bl j from h2)
  | non=>cases (show V.int i=.non from h2)
  | str j=>cases (show V.int i=.str j from h2)
  | tup qs=>obtain⟨a,xs,z,_⟩:=RepO.tup_inv h2;cases z
  | lst qs=>obtain⟨a,xs,z,_⟩:=RepO.lst_inv h2;cases z
  | _=>simp[peqO] at e
 | .str i,q,v,b,h1,h2,e=>by
  cases (show v=.str i from h1)
  cases q with
  | str j=>cases (show V.str i=.str j from h2);simpa [peqO] using e.symm
  | bl j=>cases (show V.str i=.bl j from h2)
  | non=>cases (show V.str i=.non from h2)
  | int j=>cases (show V.str i=.int j from h2)
  | tup qs=>obtain⟨a,xs,z,_⟩:=RepO.tup_inv h2;cases z
  | lst qs=>obtain⟨a,xs,z,_⟩:=RepO.lst_inv h2;cases z
  | _=>simp[peqO] at e
 | .tup ps,q,v,b,h1,h2,e=>by
  obtain⟨a,xs,rfl,g1,r1⟩:=RepO.tup_inv h1
  cases q with
  | tup qs=>
   obtain⟨a2,ys,z,g2,r2⟩:=RepO.tup_inv h2
   cases z
   cases I.tuple_inj g1 g2
   exact zi9 I ps qs xs b r1 r2 (by simpa [peqO] using e)
  | lst qs=>
   obtain⟨a2,ys,z,g2,r2⟩:=RepO.lst_inv h2
   cases z
   exact(zie I g1 g2).elim
  | non=>cases (show V.ref a=.non from h2)
  | bl j=>cases (show V.ref a=.bl j from h2)
  | int j=>cases (show V.ref a=.int j from h2)
  | str j=>cases (show V.ref a=.str j from h2)
  | _=>simp[peqO] at e
 | .lst ps,q,v,b,h1,h2,e=>by
  obtain⟨a,xs,rfl,g1,r1⟩:=RepO.lst_inv h1
  cases q with
  | lst qs=>
   obtain⟨a2,ys,z,g2,r2⟩:=RepO.lst_inv h2
   cases z
   cases zxh I g1 g2
   exact zi9 I ps qs xs b r1 r2 (by simpa [peqO] using e)
  | tup qs=>
   obtain⟨a2,ys,z,g2,r2⟩:=RepO.tup_inv h2
   cases z
   exact(zie I g2 g1).elim
  | non=>cases (show V.ref a=.non from h2)
  | bl j=>cases (show V.ref a=.bl j from h2)
  | int j=>cases (show V.ref a=.int j from h2)
  | str j=>cases (show V.ref a=.str j from h2)
  | _=>simp[peqO] at e
 | .dct _ _,_,_,_,_,_,e=>by simp[peqO] at e
 | .dtt _ _,_,_,_,_,_,e=>by simp[peqO] at e
 | .fn _ _,_,_,_,_,_,e=>by simp[peqO] at e
theorem zi9(I:Inv X pins σ H s):∀(ps qs:List PV)(xs:List V)(b:Bool),Reps X.K H ps xs->Reps X.K H qs xs->zdh ps qs=some b->b=true
 | [],qs,xs,b,r1,r2,e=>by
  cases r1
  cases qs with
  | nil=>simpa [zdh] using e.symm
  | cons q qs=>obtain⟨x,r,z,_⟩:=r2;cases z
 | p::ps,qs,xs,b,r1,r2,e=>by
  obtain⟨x,r,rfl,h1,t1⟩:=r1
  cases qs with
  | nil=>cases (show x::r=[] from r2)
  | cons q qs=>
   obtain⟨x2,r2',z,h2,t2⟩:=r2
   cases z
   simp only[zdh] at e
   obtain⟨b1,e1,e⟩:=Option.bind_eq_some_iff.mp e
   obtain⟨b2,e2,e⟩:=Option.bind_eq_some_iff.mp e
   cases e
   rw[zg8 I p q x b1 h1.o h2.o e1,zi9 I ps qs r b2 t1 t2 e2]
   rfl
end
theorem zkj{p q:PV}{ps qs:List PV}{j:Nat}:zgs (p::ps) (q::qs) (j+1)=zgs ps qs j:=by simp[zgs]
theorem ziq:∀(ps qs:List PV)(b:Bool),zdh ps qs=some b->((List.range (min ps.length qs.length)).all (zgs ps qs) && ps.length == qs.length)=b
 | [],[],b,e=>by simp[zdh] at e;simp[e]
 | [],_::_,b,e=>by simp[zdh] at e;simp[e]
 | _::_,[],b,e=>by simp[zdh] at e;simp[e]
 | p::ps,q::qs,b,e=>by
  simp only[zdh] at e
  obtain⟨b1,e1,e⟩:=Option.bind_eq_some_iff.mp e
  obtain⟨b2,e2,e⟩:=Option.bind_eq_some_iff.mp e
  cases e
  have ih:=ziq ps qs b2 e2
  have hm:min (p::ps).length (q::qs).length=min ps.length qs.length+1:=by simp only[List.length_cons];omega
  rw[hm,List.range_succ_eq_map,List.all_cons,List.all_map]
  have h0:zgs (p::ps) (q::qs) 0=b1:=by simp[zgs,e1]
  have hs:(zgs (p::ps) (q::qs) ∘ Nat.succ)=zgs ps qs:=by funext j;exact zkj
  rw[h0,hs,← ih,List.length_cons,List.length_cons]
  simp[Bool.and_assoc]
theorem zk5:∀{ps:List PV}{j:Nat}{p:PV},ps[j]?=some p->pdep p<=pdeps ps
 | [],_,_,h=>by simp at h
 | p::ps,0,_,h=>by simp at h;subst h;simp only[pdeps];omega
 | p::ps,j+1,q,h=>by
  have:=zk5 (ps:=ps) (j:=j) (p:=q) (by simpa using h)
  simp only[pdeps]
  omega
mutual
theorem zsy(I:Inv X pins σ H s):∀(p q:PV)(A:Around)(v u:V)(v' u':Value)(b:Bool),RepO X.K H p v->RepO X.K H q u->RelV v v'->RelV u u'->peqO p q=some b->A.units+pdep p<cLine->EqAt A s v' u' b
 | .non,q,A,v,u,v',u',b,h1,h2,e1,e2,e,hu=>by
  cases (show v=.non from h1)
  cases e1
  have hu:=Nat.lt_of_le_of_lt (Nat.le_add_right _ _) hu
  cases q with
  | non=>cases (show u=.non from h2);cases e2;simp[peqO] at e;subst e;exact EqAt.same _
  | bl j=>cases (show u=.bl j from h2);cases e2;simp[peqO] at e;subst e;exact EqAt.none_bool j
  | int j=>cases (show u=.int j from h2);obtain⟨t,rfl⟩:=e2;simp[peqO] at e;subst e;exact EqAt.none_int j t
  | str j=>cases (show u=.str j from h2);obtain⟨t,rfl⟩:=e2;simp[peqO] at e;subst e;exact EqAt.none_str j t
  | tup qs=>obtain⟨a,xs,rfl,g,_⟩:=RepO.tup_inv h2;cases e2;obtain⟨its,_,pl,_⟩:=I.tuple g;simp[peqO] at e;subst e;exact EqAt.none_tuple pl hu
  | lst qs=>obtain⟨a,xs,rfl,g,_⟩:=RepO.lst_inv h2;cases e2;obtain⟨its,_,pl,_⟩:=I.list g.l;simp[peqO] at e;subst e;exact EqAt.none_list pl.isList hu
  | _=>simp[peqO] at e
 | .bl i,q,A,v,u,v',u',b,h1,h2,e1,e2,e,hu=>by
  cases (show v=.bl i from h1)
  cases e1
  have hu:=Nat.lt_of_le_of_lt (Nat.le_add_right _ _) hu
  cases q with
  | non=>cases (show u=.non from h2);cases e2;simp[peqO] at e;subst e;exact EqAt.bool_none i
  | bl j=>cases (show u=.bl j from h2);cases e2;simp only[peqO,Option.some.injEq] at e;subst e;exact EqAt.bool_bool i j
  | int j=>cases (show u=.int j from h2);obtain⟨t,rfl⟩:=e2;simp only[peqO,Option.some.injEq] at e;subst e;exact EqAt.bool_int i j t
  | str j=>cases (show u=.str j from h2);obtain⟨t,rfl⟩:=e2;simp[peqO] at e;subst e;exact EqAt.bool_str i j t
  | tup qs=>obtain⟨a,xs,rfl,g,_⟩:=RepO.tup_inv h2;cases e2;obtain⟨its,_,pl,_⟩:=I.tuple g;simp[peqO] at e;subst e;exact EqAt.bool_tuple i pl hu
  | lst qs=>obtain⟨a,xs,rfl,g,_⟩:=RepO.lst_inv h2;cases e2;obtain⟨its,_,pl,_⟩:=I.list g.l;simp[peqO] at e;subst e;exact EqAt.bool_list i pl.isList hu
  | _=>simp[peqO] at e
 | .int i,q,A,v,u,v',u',b,h1,h2,e1,e2,e,hu=>by
  cases (show v=.int i from h1)
  obtain⟨t',rfl⟩:=e1
  have hu:=Nat.lt_of_le_of_lt (Nat.le_add_right _ _) hu
  cases q with
  | non=>cases (show u=.non from h2);cases e2;simp[peqO] at e;subst e;exact EqAt.int_none i t'
  | bl j=>cases (show u=.bl j from h2);cases e2;simp only[peqO,Option.some.injEq] at e;subst e;exact EqAt.int_bool i t' j
  | int j=>cases (show u=.int j from h2);obtain⟨t,rfl⟩:=e2;simp only[peqO,Option.some.injEq] at e;subst e;exact EqAt.int_int i t' j t
  | str j=>cases (show u=.str j from h2);obtain⟨t,rfl⟩:=e2;simp[peqO] at e;subst e;exact EqAt.int_str i t' j t
  | tup qs=>obtain⟨a,xs,rfl,g,_⟩:=RepO.tup_inv h2;cases e2;obtain⟨its,_,pl,_⟩:=I.tuple g;simp[peqO] at e;subst e;exact EqAt.int_tuple i t' pl hu
  | lst qs=>obtain⟨a,xs,rfl,g,_⟩:=RepO.lst_inv h2;cases e2;obtain⟨its,_,pl,_⟩:=I.list g.l;simp[peqO] at e;subst e;exact EqAt.int_list i t' pl.isList hu
  | _=>simp[peqO] at e
 | .str i,q,A,v,u,v',u',b,h1,h2,e1,e2,e,hu=>by
  cases (show v=.str i from h1)
  obtain⟨t',rfl⟩:=e1
  have hu:=Nat.lt_of_le_of_lt (Nat.le_add_right _ _) hu
  cases q with
  | non=>cases (show u=.non from h2);cases e2;simp[peqO] at e;subst e;exact EqAt.str_none i t'
  | bl j=>cases (show u=.bl j from h2);cases e2;simp[peqO] at e;subst e;exact EqAt.str_bool i t' j
  | int j=>cases (show u=.int j from h2);obtain⟨t,rfl⟩:=e2;simp[peqO] at e;subst e;exact EqAt.str_int i t' j t
  | str j=>cases (show u=.str j from h2);obtain⟨t,rfl⟩:=e2;simp only[peqO,Option.some.injEq] at e;subst e;exact EqAt.str_str i t' j t
  | tup qs=>obtain⟨a,xs,rfl,g,_⟩:=RepO.tup_inv h2;cases e2;obtain⟨its,_,pl,_⟩:=I.tuple g;simp[peqO] at e;subst e;exact EqAt.str_tuple i t' pl hu
  | lst qs=>obtain⟨a,xs,rfl,g,_⟩:=RepO.lst_inv h2;cases e2;obtain⟨its,_,pl,_⟩:=I.list g.l;simp[peqO] at e;subst e;exact EqAt.str_list i t' pl.isList hu
  | _=>simp[peqO] at e
 | .tup ps,q,A,v,u,v',u',b,h1,h2,e1,e2,e,hu=>by
  obtain⟨a,xs,rfl,g1,r1⟩:=RepO.tup_inv h1
  cases e1
  obtain⟨its,rv,pl,_⟩:=I.tuple g1
  simp only[pdep] at hu
  have hu0:A.units<cLine:=by omega
  cases q with
  | non=>cases (show u=.non from h2);cases e2;simp[peqO] at e;subst e;exact EqAt.tuple_none pl hu0
  | bl j=>cases (show u=.bl j from h2);cases e2;simp[peqO] at e;subst e;exact EqAt.tuple_bool j pl hu0
  | int j=>cases (show u=.int j from h2);obtain⟨t,rfl⟩:=e2;simp[peqO] at e;subst e;exact EqAt.tuple_int j t pl hu0
  | str j=>cases (show u=.str j from h2);obtain⟨t,rfl⟩:=e2;simp[peqO] at e;subst e;exact EqAt.tuple_str j t pl hu0
  | lst qs=>obtain⟨a2,ys,rfl,g,_⟩:=RepO.lst_inv h2;cases e2;obtain⟨its2,_,pl2,_⟩:=I.list g.l;simp[peqO] at e;subst e;exact EqAt.tuple_list pl pl2.isList hu0
  | tup qs=>
   by_cases hv:V.ref a=u
   ·subst hv
    rw[zg8 I _ _ _ b h1 h2 e]
    cases e2
    exact EqAt.same _
   ·obtain⟨a2,ys,rfl,g2,r2⟩:=RepO.tup_inv h2
    cases e2
    obtain⟨its2,rv2,pl2,_⟩:=I.tuple g2
    have l1:=r1.length
    have l2:=r2.length
    have l3:=rv.length
    have l4:=rv2.length
    have e':zdh ps qs=some b:=by simpa [peqO] using e
    rw[← ziq ps qs b e',show ps.length=its.toArray.size by simp;omega,show qs.length=its2.toArray.size by simp;omega]
    refine EqAt.of_refs (fun z=>hv (by rw[z])) (RcAt.tuples pl pl2 hu0 fun j j1 j2=>?_)
    have:=zjq I ps qs A.in1 xs ys its its2 b r1 r2 rv rv2 e' (by show A.units+1+_<_;omega) j (by simpa using j1) (by simpa using j2)
    simpa using this
  | _=>simp[peqO] at e
 | .lst ps,q,A,v,u,v',u',b,h1,h2,e1,e2,e,hu=>by
  obtain⟨a,xs,rfl,g1,r1⟩:=RepO.lst_inv h1
  cases e1
  obtain⟨its,rv,pl,_⟩:=I.list g1.l
  simp only[pdep] at hu
  have hu0:A.units<cLine:=by omega
  cases q with
  | non=>cases (show u=.non from h2);cases e2;simp[peqO] at e;subst e;exact EqAt.list_none pl.isList hu0
  | bl j=>cases (show u=.bl j from h2);cases e2;simp[peqO] at e;subst e;exact EqAt.list_bool j pl.isList hu0
  | int j=>cases (show u=.int j from h2);obtain⟨t,rfl⟩:=e2;simp[peqO] at e;subst e;exact EqAt.list_int j t pl.isList hu0
  | str j=>cases (show u=.str j from h2);obtain⟨t,rfl⟩:=e2;simp[peqO] at e;subst e;exact EqAt.list_str j t pl.isList hu0
  | tup qs=>obtain⟨a2,ys,rfl,g,_⟩:=RepO.tup_inv h2;cases e2;obtain⟨its2,_,pl2,_⟩:=I.tuple g;simp[peqO] at e;subst e;exact EqAt.list_tuple pl.isList pl2 hu0
  | lst qs=>
   by_cases hv:V.ref a=u
   ·subst hv
    rw[zg8 I _ _ _ b h1 h2 e]
    cases e2
    exact EqAt.same _
   ·obtain⟨a2,ys,rfl,g2,r2⟩:=RepO.lst_inv h2
    cases e2
    obtain⟨its2,rv2,pl2,_⟩:=I.list g2.l
    have l1:=r1.length
    have l2:=r2.length
    have l3:=rv.length
    have l4:=rv2.length
    have e':zdh ps qs=some b:=by simpa [peqO] using e
    have hp:=ziq ps qs b e'
    refine EqAt.of_refs (fun z=>hv (by rw[z])) ?_
    by_cases hl:ps.length=qs.length
    ·have hb:(List.range its.toArray.size).all (zgs ps qs)=b:=by
      rw[← hp,hl,Nat.min_self,beq_self_eq_true,Bool.and_true,show its.toArray.size=qs.length by simp;omega]
     rw[← hb]
     refine RcAt.lists pl.isList pl2.isList (by simp;omega) hu0 fun j j1 j2=>?_
     have:=zjq I ps qs A.in1 xs ys its its2 b r1 r2 rv rv2 e' (by show A.units+1+_<_;omega) j (by simpa using j1) (by simpa using j2)
     simpa using this
    ·have hb:b=false:=by
      rw[← hp,beq_eq_false_iff_ne.mpr hl,Bool.and_false]
     rw[hb]
     exact RcAt.lists_lengths pl.isList pl2.isList (by simp;omega) hu0
  | _=>simp[peqO] at e
 | .dct _ _,_,_,_,_,_,_,_,_,_,_,_,e,_=>by simp[peqO] at e
 | .dtt _ _,_,_,_,_,_,_,_,_,_,_,_,e,_=>by simp[peqO] at e
 | .fn _ _,_,_,_,_,_,_,_,_,_,_,_,e,_=>by simp[peqO] at e
theorem zjq(I:Inv X pins σ H s):∀(ps qs:List PV)(A:Around)(xs ys:List V)(vs ws:List Value)(b:Bool),Reps X.K H ps xs->Reps X.K H qs ys->Vals xs vs->Vals ys ws->zdh ps qs=some b->A.units+pdeps ps<cLine->
  ∀j (h1:j<vs.length) (h2:j<ws.length),EqAt A s vs[j] ws[j] (zgs ps qs j)
 | [],qs,A,xs,ys,vs,ws,b,r1,r2,rv,rw',e,hu,j,h1,h2=>by
  cases r1
  cases rv
  exact absurd h1 (Nat.not_lt_zero _)
 | p::ps,[],A,xs,ys,vs,ws,b,r1,r2,rv,rw',e,hu,j,h1,h2=>by
  cases r2
  cases rw'
  exact absurd h2 (Nat.not_lt_zero _)
 | p::ps,q::qs,A,xs,ys,vs,ws,b,r1,r2,rv,rw',e,hu,j,h1,h2=>by
  obtain⟨x,r,rfl,p1,t1⟩:=r1
  obtain⟨y,r',rfl,p2,t2⟩:=r2
  cases rv with
  | cons a1 c1=>
   cases rw' with
   | cons a2 c2=>
    simp only[zdh] at e
    obtain⟨b1,e1,e⟩:=Option.bind_eq_some_iff.mp e
    obtain⟨b2,e2,e⟩:=Option.bind_eq_some_iff.mp e
    simp only[pdeps] at hu
    cases j with
    | zero=>
     have:zgs (p::ps) (q::qs) 0=b1:=by simp[zgs,e1]
     rw[this]
     exact zsy I p q A x y _ _ b1 p1.o p2.o a1 a2 e1 (by omega)
    | succ j=>
     rw[zkj]
     exact zjq I ps qs A r r' _ _ b2 t1 t2 c1 c2 e2 (by omega) j (Nat.lt_of_succ_lt_succ h1) (Nat.lt_of_succ_lt_succ h2)
end
end
end PU
namespace PU
open PySem PySem.Spec PyProof.Rows L2 PySem.SeqAt PySem.Calls PyProof.V
variable[TW]
def EqW(P:Program)(w:World)(A:Around)(s:Shared)(y x:Value)(b:Bool):Prop:=∀(E:Value->Shared->Prop)(Q:Bool->Shared->Prop),Q b s->wpAny (model P w) A (eqBool y x) Q E s
theorem EqW.of{P:Program}{w:World}{A:Around}{s:Shared}{y x:Value}{b:Bool}(h:EqAt A s y x b):EqW P w A s y x b:=fun E Q q=>h P w E Q q
section
variable{P : Program}{w : World}{κ : Type}[DecidableEq κ]{kd : KeyKind P w κ}{A : Around}{E : Value → Shared → Prop}{s : Shared}
inductive HitW (P:Program) (w:World) (A:Around) (s:Shared) (other:List (κ×Value)):List (κ×Value)->Bool->Prop
 | done:HitW P w A s other [] true
 | lacks {k:κ} {v:Value} {t:List (κ×Value)}:valueAt other k=none->HitW P w A s other ((k,v)::t) false
 | meets {k:κ} {v y:Value} {t:List (κ×Value)} {e b:Bool}:valueAt other k=some y->EqW P w A s v y e->HitW P w A s other t b->HitW P w A s other ((k,v)::t) (e && b)
theorem HitW.split{other:List (κ×Value)}{k:κ}{v:Value}{t:List (κ×Value)}{b:Bool}(h:HitW P w A s other ((k,v)::t) b) :
  (valueAt other k=none/\b=false)\/∃y e c,valueAt other k=some y/\EqW P w A s v y e/\HitW P w A s other t c/\b=(e && c):=by
 cases h with
 | lacks n=>exact .inl ⟨n,rfl⟩
 | meets y1 y2 y3=>exact .inr ⟨_,_,_,y1,y2,y3,rfl⟩
theorem zpr{nm:String}{d1 d2:Addr}{l1 l2:List (κ×Value)}{r:Bool}{Q:Bool->Shared->Prop}(n1:(d1 == sysModules)=false)(n2:(d2 == sysModules)=false)(D1:s.heap.DictOf kd d1 l1)(D2:s.heap.DictOf kd d2 l2)
  (hh:l1.length=l2.length->HitW P w A s l2 l1 r) (q:Q (l1.length == l2.length && r) s):wpAny (model P w) A (Builtin.Dict.samePairs nm d1 d2) Q E s:=by
 obtain⟨o1,es1,c1,get1,_,dat1,ks1,prs1,_⟩:=D1
 obtain⟨o2,es2,c2,get2,_,dat2,ks2,prs2,_⟩:=D2
 have len1:l1.length=es1.size:=by rw[← prs1.length];exact Array.length_toList
 have len2:l2.length=es2.size:=by rw[← prs2.length];exact Array.length_toList
 have seek:∀k,findBy kd.is es2 k=valueAt l2 k:=fun k=>by
  rw[← prs2.find k]
  clear len2 prs2 ks2 dat2 get2
  cases es2
  simp[findBy]
 rw[len1,len2] at q
 unfold Builtin.Dict.samePairs Builtin.Dict.showsAll
 rw[if_neg (by rw[n1];exact Bool.false_ne_true),if_neg (by rw[n2];exact Bool.false_ne_true)]
 refine wpAny_bind (wpAny_pure (wpAny_bind (wpAny_pure (wpAny_bind (wpAny_dictEntries get1 dat1 ?_)))))
 dsimp only
 refine wpAny_bind (wpAny_dictEntries get2 dat2 ?_)
 by_cases sz:es1.size=es2.size
 case neg=>
  rw[if_pos (by simpa using sz)]
  have no:(es1.size == es2.size)=false:=by simpa using sz
  rw[no,Bool.false_and] at q
  exact wpAny_bind (wpAny_rule (wpAny_pure q))
 case pos=>
  have q':Q r s:=by simpa [sz] using q
  have hh':=hh (by rw[len1,len2];exact sz)
  rw[if_neg (by rw[sz];simp)]
  refine wpAny_bind (wpAny_dictEpoch get1 dat1 (wpAny_bind ?_))
  rw[Std.Legacy.Range.forIn_eq_forIn_range']
  simp only[Std.Legacy.Range.size,Nat.sub_zero,Nat.add_sub_cancel,Nat.div_one]
  refine wpAny_forIn_list _ (fun todo z s'=>s'=s/\z=(none,())/\∃j,todo=List.range' j (es1.size-j)/\j<=es1.size/\HitW P w A s l2 (l1.drop j) r) _ ?_ ?_ _ _ ⟨rfl,rfl,0,by simp,Nat.zero_le _,hh'⟩
  ·rintro x todo z s' ⟨rfl,rfl,j,et,hj,rest⟩
   have lt:j<es1.size:=by
    rcases Nat.lt_or_ge j es1.size with g | g
    ·exact g
    ·rw[Nat.sub_eq_zero_of_le g] at et;simp at et
   have e1:es1.size-j=(es1.size-(j+1))+1:=by omega
   rw[e1,List.range'_succ] at et
   injection et with ex et
   subst ex
   refine wpAny_bind (wpAny_dictEntries get1 dat1 ?_)
   rw[Array.getElem?_eq_getElem lt]
   have lt':x<l1.length:=by rw[len1];exact lt
   obtain⟨k,v,ekv⟩:∃k v,l1[x]=(k,v):=⟨_,_,rfl⟩
   have cut:l1.drop x=(k,v)::l1.drop (x+1):=by rw[← ekv];exact List.drop_eq_getElem_cons lt'
   obtain⟨isk,isv⟩:=prs1.get? (i:=x) (e:=es1[x]) (k:=k) (v:=v) (by rw[Array.getElem?_toList];exact Array.getElem?_eq_getElem lt) (by rw[List.getElem?_eq_getElem lt',ekv])
   obtain⟨k',isk',hs⟩:=ks1 es1[x] (Array.getElem_mem lt)
   have ek:k'=k:=kd.inj _ _ _ isk' isk
   rw[ek] at hs
   rw[cut] at rest
   show wpAny _ _ (holding [es1[x].key,es1[x].val] _ >>= _) _ _ _
   rw[hs]
   refine wpAny_bind (wpAny_holding (wpAny_bind (wpAny_dictFind_of isk get2 dat2 ks2 ?_)))
   cases at2:es2.findIdx? fun e=>kd.is k e.key with
   | none=>
    have nn:valueAt l2 k=none:=by rw[← seek k,findBy_of_findIdx?,at2]
    rcases rest.split with⟨_,er⟩|⟨y,_,_,hy,_⟩
    ·rw[er] at q'
     refine wpAny_pure ?_
     show wpAny _ _ (if (!false)=true then _ else _) _ _ _
     rw[if_pos (by decide)]
     exact wpAny_pure (wpAny_pure q')
    ·rw[nn] at hy;cases hy
   | some m=>
    obtain⟨mlt,_,_⟩:=Array.findIdx?_eq_some_iff_getElem.mp at2
    have vv:valueAt l2 k=some es2[m].val:=by
     rw[← seek k,findBy_of_findIdx?,at2]
     simp[Array.getElem?_eq_getElem mlt]
    refine wpAny_bind (wpAny_dictEntries get2 dat2 ?_)
    rw[Array.getElem?_eq_getElem mlt]
    rcases rest.split with⟨nn,_⟩|⟨y,e,c,hy,he,ht,er⟩
    ·rw[vv] at nn;cases nn
    ·have ey:es2[m].val=y:=Option.some.inj (vv.symm.trans hy)
     rw[← ey,← isv] at he
     refine wpAny_holding (he _ _ ?_)
     cases e with
     | false=>
      rw[er,Bool.false_and] at q'
      show wpAny _ _ (if (!false)=true then _ else _) _ _ _
      rw[if_pos (by decide)]
      exact wpAny_pure (wpAny_pure q')
     | true=>
      rw[Bool.true_and] at er
      rw[← er] at ht
      show wpAny _ _ (if (!true)=true then _ else _) _ _ _
      rw[if_neg (by decide)]
      refine wpAny_bind (wpAny_dictEpoch get1 dat1 ?_)
      rw[if_neg (by simp)]
      exact wpAny_pure ⟨rfl,rfl,x+1,et,lt,ht⟩
  ·rintro z s' ⟨rfl,rfl,j,et,hj,rest⟩
   have ej:j=es1.size:=by
    rcases Nat.lt_or_ge j es1.size with g | g
    ·have e1:es1.size-j=(es1.size-(j+1))+1:=by omega
     rw[e1,List.range'_succ] at et
     cases et
    ·exact Nat.le_antisymm hj g
   refine wpAny_pure ?_
   rw[ej,← len1,List.drop_length] at rest
   cases rest
   exact q'
theorem zix{d1 d2:Addr}{l1 l2:List (κ×Value)}{r:Bool}{Q:Value->Shared->Prop}(n1:(d1 == sysModules)=false)(n2:(d2 == sysModules)=false)(D1:s.heap.DictOf kd d1 l1)(D2:s.heap.DictOf kd d2 l2)(hu:A.units<cLine)
  (hh:l1.length=l2.length->HitW P w A.in1 s l2 l1 r) (q:Q (.bool (l1.length == l2.length && r)) s):wpAny (model P w) A (richCompare .Eq (.ref d1) (.ref d2)) Q E s:=by
 refine wpAny_richCompare_same_room (op:=.Eq) D1.typeIs D2.typeIs PySem.F.slot_dict_eq (wpAny_call_entry PySem.F.slot_dict_eq D1.typeIs PySem.F.entry_dict_eq ?_ (PySem.F.args_dict_eq_2 _ _)) hu
 show wpAny _ _ (Builtin.Dict.dictSlotArgs "__eq__" ⟨[.ref d1,.ref d2],[]⟩ >>= _) _ _ s
 unfold Builtin.Dict.dictSlotArgs
 refine wpAny_bind (wpAny_bind (wpAny_notOrdered_dict D1.typeIs ?_))
 show wpAny _ _ (pure (Value.ref d1,Value.ref d2)) _ _ s
 refine wpAny_pure (wpAny_bind (wpAny_isInstance (T:="dict") D2.typeIs PySem.F.sub_dict_dict ?_))
 simp only[Bool.not_true,Bool.false_eq_true,if_false]
 refine wpAny_bind (wpAny_pure (wpAny_bind (wpAny_pure (wpAny_bind (zpr n1 n2 D1 D2 hh (wpAny_pure ⟨_,rfl,(fun z=>nomatch z),?_⟩))))))
 simpa using q
end
section
variable{X : Cx}{pins : List (Addr×Obj)}{σ : L2.St}{H : Hp}{s : Shared}
theorem zj9{kvs:List (Key×V)}{vs:List (Key×Value)}(r:KV kvs vs)(k:Key):(valV kvs k=none/\valueAt vs k=none)\/∃v u,valV kvs k=some v/\valueAt vs k=some u/\RelV v u:=by
 induction r with
 | nil=>exact .inl ⟨rfl,rfl⟩
 | @cons p q ps qs h t ih=>
  obtain⟨h1,h2⟩:=h
  by_cases e:p.1=k
  ·refine .inr ⟨p.2,q.2,zg1 e,?_,h2⟩
   simp[valueAt,List.find?_cons,← h1,e]
  ·rw[ze1 e]
   have e2:valueAt (q::qs) k=valueAt qs k:=by simp[valueAt,List.find?_cons,← h1,e]
   rw[e2]
   exact ih
theorem zkn{k:Key}:∀{ks:List Key}{ps:List PV}{kvs:List (Key×V)},kvs.map (·.1)=ks->ps.length=kvs.length->zca ks ps k=none->valV kvs k=none
 | [],_,kvs,e,_,_=>by
  have:kvs=[]:=by simpa using e
  subst this
  rfl
 | j::ks,[],kvs,e,hl,_=>by
  have:kvs.length=0:=by simpa using hl.symm
  have:kvs=[]:=List.eq_nil_of_length_eq_zero this
  subst this
  cases e
 | j::ks,p::ps,kv::kvs,e,hl,h=>by
  have e1:kv.1=j:=by simpa using congrArg List.head? e
  have e2:kvs.map (·.1)=ks:=by simpa using congrArg List.tail e
  have h:(if j=k then some p else zca ks ps k)=none:=h
  split at h
  ·cases h
  ·rename_i hn
   rw[ze1 (by rw[e1];exact hn)]
   exact zkn e2 (by simpa using hl) h
 | j::ks,p::ps,[],e,_,_=>by cases e
theorem zhc{K:PySem.W.Frag}{H:Hp}{k:Key}:∀{ks:List Key}{ps:List PV}{kvs:List (Key×V)}{p:PV},kvs.map (·.1)=ks->Reps K H ps (kvs.map (·.2))->zca ks ps k=some p->∃v,valV kvs k=some v/\Rep K H p v
 | _,_,[],_,h1,h2,e=>by
  subst h1
  simp only[List.map_nil,zca] at e
  cases e
 | _,[],kv::kvs,_,h1,h2,e=>by
  cases h2
 | _,q::ps,kv::kvs,p,h1,h2,e=>by
  subst h1
  obtain⟨x,r,ex,hx,ht⟩:=h2
  simp only[List.map_cons,List.cons.injEq] at ex
  obtain⟨rfl,rfl⟩:=ex
  simp only[List.map_cons,zca] at e
  by_cases hk:kv.1=k
  ·rw[if_pos hk] at e
   cases e
   exact⟨kv.2,zg1 hk,hx⟩
  ·rw[if_neg hk] at e
   rw[ze1 hk]
   exact zhc rfl ht e
theorem zlc(A:Around)(eqf:PV->PV->Option Bool)(I:Inv X pins σ H s){ls:List Key}{qs:List PV}{kvs2:List (Key×V)}{vs2:List (Key×Value)}(e2:kvs2.map (·.1)=ls)(r2:Reps X.K H qs (kvs2.map (·.2)))(kv2:KV kvs2 vs2) :
  ∀(ks:List Key)(ps:List PV)(kvs1:List (Key×V))(vs1:List (Key×Value))(b:Bool),kvs1.map (·.1)=ks->Reps X.K H ps (kvs1.map (·.2))->KV kvs1 vs1->zhf eqf ks ps ls qs=some b->
   (∀p∈ps,∀(q:PV)(v u:V)(v' u':Value)(c:Bool),RepO X.K H p v->RepO X.K H q u->RelV v v'->RelV u u'->eqf p q=some c->EqW X.prog X.w A s v' u' c)->HitW X.prog X.w A s vs2 vs1 b
 | [],[],kvs1,vs1,b,e1,r1,kv1,h,_=>by
  have:kvs1=[]:=by simpa using e1
  subst this
  cases kv1
  have h:some true=some b:=h
  cases h
  exact .done
 | k::ks,p::ps,kvs1,vs1,b,e1,r1,kv1,h,he=>by
  cases kvs1 with
  | nil=>cases e1
  | cons kv kvs=>
   have ek:kv.1=k:=by simpa using congrArg List.head? e1
   have et:kvs.map (·.1)=ks:=by simpa using congrArg List.tail e1
   obtain⟨x,r,ex,rp,rt⟩:=r1
   have exx:kv.2=x:=by simpa using congrArg List.head? ex
   have err:kvs.map (·.2)=r:=by simpa using congrArg List.tail ex
   cases kv1 with
   | @cons _ q _ qs' hd tl=>
    obtain⟨k',u1⟩:=q
    obtain⟨h1,h2⟩:=hd
    have h1:kv.1=k':=h1
    have h2:RelV kv.2 u1:=h2
    subst err
    rw[← h1,ek]
    unfold zhf at h
    cases hl:zca ls qs k with
    | none=>
     rw[hl] at h
     have h:some false=some b:=h
     cases h
     have:=zkn e2 (by rw[r2.length,List.length_map]) hl
     rcases zj9 kv2 k with⟨_,z⟩|⟨v,u,z,_⟩
     ·exact .lacks z
     ·rw[this] at z;cases z
    | some q2=>
     rw[hl] at h
     have h:((eqf p q2).bind fun a=>(zhf eqf ks ps ls qs).bind fun b=>some (a && b))=some b:=h
     obtain⟨c1,g1,h⟩:=Option.bind_eq_some_iff.mp h
     obtain⟨c2,g2,h⟩:=Option.bind_eq_some_iff.mp h
     cases h
     obtain⟨v2,ev2,rp2⟩:=zhc e2 r2 hl
     rcases zj9 kv2 k with⟨z,_⟩|⟨v,u,z,z2,z3⟩
     ·rw[ev2] at z;cases z
     ·rw[ev2] at z
      cases z
      exact .meets z2 (he p List.mem_cons_self q2 kv.2 v2 u1 u c1 (exx▸rp.o) rp2.o h2 z3 g1) (zlc A eqf I e2 r2 kv2 ks ps kvs qs' c2 et rt tl g2 fun p' hp'=>he p' (List.mem_cons_of_mem _ hp'))
 | [],_::_,_,_,_,_,_,_,h,_=>by cases h
 | _::_,[],_,_,_,_,_,_,h,_=>by cases h
theorem zrs{k:Key}{r:PV}:∀(ks:List Key)(ps:List PV),ks.length=ps.length->k ∉ ks->∀(ls:List Key)(qs:List PV),zca (ks++k::ls) (ps++r::qs) k=some r
 | [],[],_,_,ls,qs=>by
  show (if k=k then some r else _)=_
  rw[if_pos rfl]
 | j::ks,p::ps,hl,hn,ls,qs=>by
  show (if j=k then some p else zca (ks++k::ls) (ps++r::qs) k)=_
  rw[if_neg (fun e=>hn (by rw[e];exact List.mem_cons_self))]
  exact zrs ks ps (by simpa using hl) (fun h=>hn (List.mem_cons_of_mem _ h)) ls qs
 | [],_::_,h,_,_,_=>by simp at h
 | _::_,[],h,_,_,_=>by simp at h
theorem zl1{P:Program}{w:World}{κ:Type}[DecidableEq κ]{kd:KeyKind P w κ}:∀{es:List DictEntry}{l1 l2:List (κ×Value)},Pairs kd es l1->Pairs kd es l2->l1=l2
 | _,_,_,.nil,.nil=>rfl
 | _,_,_,.cons a b c,.cons a' b' c'=>by
  rw[zl1 c c']
  have h1:=kd.inj _ _ _ a a'
  have h2:=b.symm.trans b'
  rw[Prod.ext h1 h2]
theorem zp7{P:Program}{w:World}{κ:Type}[DecidableEq κ]{kd:KeyKind P w κ}{h:Heap}{a:Addr}{l1 l2:List (κ×Value)}(d1:h.DictOf kd a l1)(d2:h.DictOf kd a l2):l1=l2:=by
 obtain⟨o1,es1,c1,get1,_,dat1,_,prs1,_⟩:=d1
 obtain⟨o2,es2,c2,get2,_,dat2,_,prs2,_⟩:=d2
 rw[get1] at get2
 cases get2
 rw[dat1] at dat2
 cases dat2
 exact zl1 prs1 prs2
theorem zwo:∀{l1 l2:List (Key×V)}{vs:List (Key×Value)},KV l1 vs->KV l2 vs->l1=l2
 | _,_,_,.nil,.nil=>rfl
 | _,_,_,.cons a c,.cons a' c'=>by
  rw[zwo c c']
  rw[Prod.ext (a.1.trans a'.1.symm) (RelV.inj a.2 a'.2)]
theorem zry:∀{l:List (Key×V)}{vs:List (Key×Value)},KV l vs->l.map (·.1)=vs.map (·.1)
 | _,_,.nil=>rfl
 | _,_,.cons a c=>by rw[List.map_cons,List.map_cons,zry c,a.1]
theorem zmg(eqf:PV->PV->Option Bool)(he:∀(p q:PV)(v:V)(c:Bool),Rep X.K H p v->Rep X.K H q v->eqf p q=some c->c=true):∀(kvs kvs0:List (Key×V))(qs0 qs ps:List PV)(b:Bool),
  ((kvs0++kvs).map (·.1)).Nodup->Reps X.K H qs0 (kvs0.map (·.2))->Reps X.K H qs (kvs.map (·.2))->Reps X.K H ps (kvs.map (·.2))->zhf eqf (kvs.map (·.1)) ps ((kvs0++kvs).map (·.1)) (qs0++qs)=some b->b=true
 | [],kvs0,qs0,qs,ps,b,nd,r0,rq,rp,h=>by
  have:ps=[]:=List.eq_nil_of_length_eq_zero (by rw[rp.length];rfl)
  subst this
  have h:some true=some b:=h
  cases h
  rfl
 | kv::kvs,kvs0,qs0,[],ps,b,nd,r0,rq,rp,h=>by
  have:=rq.length
  simp at this
 | kv::kvs,kvs0,qs0,q::qs,[],b,nd,r0,rq,rp,h=>by
  have:=rp.length
  simp at this
 | kv::kvs,kvs0,qs0,q::qs,p::ps,b,nd,r0,rq,rp,h=>by
  obtain⟨x,r,ex,rp1,rpt⟩:=rp
  obtain⟨y,r',ey,rq1,rqt⟩:=rq
  have exx:kv.2=x:=by simpa using congrArg List.head? ex
  have err:kvs.map (·.2)=r:=by simpa using congrArg List.tail ex
  have eyy:kv.2=y:=by simpa using congrArg List.head? ey
  have err':kvs.map (·.2)=r':=by simpa using congrArg List.tail ey
  subst exx eyy err
  rw[← err'] at rqt
  have nk:kv.1 ∉ kvs0.map (·.1):=fun z=>by
   rw[List.map_append,List.nodup_append] at nd
   exact nd.2.2 _ z _ (by simp) rfl
  have lk:zca ((kvs0++kv::kvs).map (·.1)) (qs0++q::qs) kv.1=some q:=by
   rw[List.map_append,List.map_cons]
   exact zrs _ _ (by rw[List.length_map,r0.length,List.length_map]) nk _ _
  rw[List.map_cons] at h
  unfold zhf at h
  rw[lk] at h
  have h:((eqf p q).bind fun a=>(zhf eqf (kvs.map (·.1)) ps ((kvs0++kv::kvs).map (·.1)) (qs0++q::qs)).bind fun b=>some (a && b))=some b:=h
  obtain⟨c1,g1,h⟩:=Option.bind_eq_some_iff.mp h
  obtain⟨c2,g2,h⟩:=Option.bind_eq_some_iff.mp h
  cases h
  rw[he p q kv.2 c1 rp1 rq1 g1]
  have:=zmg eqf he kvs (kvs0++[kv]) (qs0++[q]) qs ps c2 (by simpa using nd) (by rw[List.map_append];exact r0.append (Reps.cons rq1 Reps.nil)) rqt rpt (by simpa using g2)
  rw[this]
  rfl
theorem zrd(hw:X.w=TW.w)(I:Inv X pins σ H s):∀(n:Nat)(p q:PV)(v:V)(b:Bool),RepO X.K H p v->RepO X.K H q v->peqN n p q=some b->b=true:=by
 intro n
 induction n with
 | zero=>
  intro p q v b h1 h2 e
  have e:peqO p q=some b:=by cases p <;> exact e
  exact zg8 I p q v b h1 h2 e
 | succ n ih=>
  intro p q v b h1 h2 e
  by_cases hd:∃ks ps ls qs,p=.dct ks ps/\q=.dct ls qs
  ·obtain⟨ks,ps,ls,qs,rfl,rfl⟩:=hd
   have e:(if ks.length=ls.length then zhf (peqN n) ks ps ls qs else some false)=some b:=e
   obtain⟨a1,kvs1,rfl,d1,k1,r1⟩:=h1
   obtain⟨a2,kvs2,ea,d2,k2,r2⟩:=h2
   cases ea
   obtain⟨_,n1,vs1,kv1,D1⟩:=DkR.at hw I d1
   obtain⟨_,n2,vs2,kv2,D2⟩:=DkR.at hw I d2
   have:=zp7 D1 D2
   subst this
   have:=zwo kv1 kv2
   subst this
   subst k1
   subst k2
   rw[if_pos rfl] at e
   obtain⟨_,_,_,_,_,_,_,_,nd⟩:=D1
   exact zmg (peqN n) (fun p q v c g1 g2 g=>ih p q v c g1.o g2.o g) kvs1 [] [] qs ps b (by rw[List.nil_append,zry kv1];exact nd) Reps.nil r2 r1 (by simpa using e)
  ·have e:peqO p q=some b:=by
    rw[← e]
    cases p with
    | dct ks ps=>
     cases q with
     | dct ls qs=>exact absurd ⟨ks,ps,ls,qs,rfl,rfl⟩ hd
     | _=>rfl
    | _=>rfl
   exact zg8 I p q v b h1 h2 e
theorem zy6(hw:X.w=TW.w)(I:Inv X pins σ H s):∀(n:Nat)(p q:PV)(A:Around)(v u:V)(v' u':Value)(b:Bool),RepO X.K H p v->RepO X.K H q u->RelV v v'->RelV u u'->peqN n p q=some b->A.units+pdep p<cLine->EqW X.prog X.w A s v' u' b:=by
 intro n
 induction n with
 | zero=>
  intro p q A v u v' u' b h1 h2 e1 e2 e hu
  have e:peqO p q=some b:=by cases p <;> exact e
  exact .of (zsy I p q A v u v' u' b h1 h2 e1 e2 e hu)
 | succ n ih=>
  intro p q A v u v' u' b h1 h2 e1 e2 e hu
  by_cases hd:∃ks ps ls qs,p=.dct ks ps/\q=.dct ls qs
  ·obtain⟨ks,ps,ls,qs,rfl,rfl⟩:=hd
   have e0:=e
   have h10:=h1
   have h20:=h2
   have e:(if ks.length=ls.length then zhf (peqN n) ks ps ls qs else some false)=some b:=e
   obtain⟨a1,kvs1,rfl,d1,k1,r1⟩:=h1
   obtain⟨a2,kvs2,rfl,d2,k2,r2⟩:=h2
   cases e1
   cases e2
   obtain⟨_,n1,vs1,kv1,D1⟩:=DkR.at hw I d1
   obtain⟨_,n2,vs2,kv2,D2⟩:=DkR.at hw I d2
   have l1:vs1.length=ks.length:=by rw[← k1,List.length_map];exact(Paired.length kv1).symm
   have l2:vs2.length=ls.length:=by rw[← k2,List.length_map];exact(Paired.length kv2).symm
   simp only[pdep] at hu
   have hu0:A.units<cLine:=by omega
   have dep:∀p∈ps,pdep p<=pdeps ps:=fun p hp=>by
    obtain⟨j,hj⟩:=List.mem_iff_getElem?.mp hp
    exact zk5 hj
   by_cases same:a1=a2
   ·subst same
    rw[zrd hw I (n+1) _ _ _ b h10 h20 e0]
    exact .of (EqAt.same _)
   ·intro E Q hq
    unfold eqBool
    refine wpAny_holding (wpAny_ite_split (fun hab=>absurd (by have:=eq_of_beq hab;injection this) same) fun _=>wpAny_bind ?_)
    by_cases hl:ks.length=ls.length
    ·rw[if_pos hl] at e
     refine zix (r:=b) n1 n2 D1 D2 hu0 (fun _=>zlc A.in1 (peqN n) I k2 r2 kv2 ks ps kvs1 vs1 b k1 r1 kv1 e fun p hp q v u v' u' c g1 g2 g3 g4 g5=>ih p q A.in1 v u v' u' c g1 g2 g3 g4 g5 ?_) (wpAny_truthy_bool ?_)
     ·have:=dep p hp
      show A.units+1+_<_
      omega
     ·have:(vs1.length == vs2.length)=true:=by rw[l1,l2,hl];simp
      rw[this,Bool.true_and]
      exact hq
    ·rw[if_neg hl] at e
     cases e
     refine zix (r:=false) n1 n2 D1 D2 hu0 (fun z=>absurd (by rw[← l1,← l2];exact z) hl) (wpAny_truthy_bool ?_)
     rw[Bool.and_false]
     exact hq
  ·have e:peqO p q=some b:=by
    rw[← e]
    cases p with
    | dct ks ps=>
     cases q with
     | dct ls qs=>exact absurd ⟨ks,ps,ls,qs,rfl,rfl⟩ hd
     | _=>rfl
    | _=>rfl
   exact .of (zsy I p q A v u v' u' b h1 h2 e1 e2 e hu)
end
end PU
namespace PU
open PySem PySem.Spec PyProof.Rows L2 PySem.SeqAt
variable[TW]
theorem zch{K:PySem.W.Frag}{H:Hp}{p:PV}{v:V}(h:isSc p=true)(r:RepO K H p v):v=scV p:=by
 cases p with
 | non=>exact r
 | bl b=>exact r
 | int i=>exact r
 | str x=>exact r
 | _=>cases h
section
variable{X : Cx}
theorem zn5{pins:List (Addr×Obj)}{σ:L2.St}{H:Hp}{s:Shared}{ps qs:List PV}{v u:V}{v' u':Value}{b:Bool}(hu:X.A.units+64<cLine)(I:Inv X pins σ H s)(e:zdh ps qs=some b)(hd:pdeps ps<=60) :
  (RepO X.K H (.tup ps) v->RepO X.K H (.tup qs) u->RelV v v'->RelV u u'->RcAt X.A s v' u' b/\RcNeAt X.A s v' u' (!b))/\
  (RepO X.K H (.lst ps) v->RepO X.K H (.lst qs) u->RelV v v'->RelV u u'->RcAt X.A s v' u' b/\RcNeAt X.A s v' u' (!b)):=by
 have hu0:X.A.units<cLine:=by omega
 have hp:=ziq ps qs b e
 constructor
 ·intro h1 h2 e1 e2
  obtain⟨a,xs,rfl,g1,r1⟩:=RepO.tup_inv h1
  obtain⟨a2,ys,rfl,g2,r2⟩:=RepO.tup_inv h2
  cases e1
  cases e2
  obtain⟨its,rv,pl,_⟩:=I.tuple g1
  obtain⟨its2,rv2,pl2,_⟩:=I.tuple g2
  have l1:=r1.length
  have l2:=r2.length
  have l3:=rv.length
  have l4:=rv2.length
  have each:∀j (j1:j<its.toArray.size) (j2:j<its2.toArray.size),EqAt X.A.in1 s its.toArray[j] its2.toArray[j] (zgs ps qs j):=fun j j1 j2=>by
   have:=zjq I ps qs X.A.in1 xs ys its its2 b r1 r2 rv rv2 e (by show X.A.units+1+_<_;omega) j (by simpa using j1) (by simpa using j2)
   simpa using this
  rw[← hp,show ps.length=its.toArray.size by simp;omega,show qs.length=its2.toArray.size by simp;omega]
  exact⟨RcAt.tuples pl pl2 hu0 each,RcNeAt.tuples pl pl2 hu0 each⟩
 ·intro h1 h2 e1 e2
  obtain⟨a,xs,rfl,g1,r1⟩:=RepO.lst_inv h1
  obtain⟨a2,ys,rfl,g2,r2⟩:=RepO.lst_inv h2
  cases e1
  cases e2
  obtain⟨its,rv,pl,_⟩:=I.list g1.l
  obtain⟨its2,rv2,pl2,_⟩:=I.list g2.l
  have l1:=r1.length
  have l2:=r2.length
  have l3:=rv.length
  have l4:=rv2.length
  have each:∀j (j1:j<its.toArray.size) (j2:j<its2.toArray.size),EqAt X.A.in1 s its.toArray[j] its2.toArray[j] (zgs ps qs j):=fun j j1 j2=>by
   have:=zjq I ps qs X.A.in1 xs ys its its2 b r1 r2 rv rv2 e (by show X.A.units+1+_<_;omega) j (by simpa using j1) (by simpa using j2)
   simpa using this
  by_cases hl:ps.length=qs.length
  ·have hb:(List.range its.toArray.size).all (zgs ps qs)=b:=by
    rw[← hp,hl,Nat.min_self,beq_self_eq_true,Bool.and_true,show its.toArray.size=qs.length by simp;omega]
   rw[← hb]
   exact⟨RcAt.lists pl.isList pl2.isList (by simp;omega) hu0 each,RcNeAt.lists pl.isList pl2.isList (by simp;omega) hu0 each⟩
  ·have hb:b=false:=by
    rw[← hp,beq_eq_false_iff_ne.mpr hl,Bool.and_false]
   rw[hb]
   exact⟨RcAt.lists_lengths pl.isList pl2.isList (by simp;omega) hu0,RcNeAt.lists_lengths pl.isList pl2.isList (by simp;omega) hu0⟩
theorem opEq(hu:X.A.units+64<cLine)(hw:X.w=TW.w:=by rfl):OpR X (compareOp .Eq) (rP X.K gEq):=by
 intro pins s σ H x y v u Q I rx ry ⟨p,q,z,hp,hq,e,k⟩
 unfold gEq at e
 split at e
 ·rename_i ks ps ls qs
  split at e
  ·rename_i hd
   obtain⟨b,eb,ez⟩:=Option.map_eq_some_iff.mp e
   subst ez
   have eb:(if ks.length=ls.length then zhf (peqN 2) ks ps ls qs else some false)=some b:=eb
   obtain⟨a1,kvs1,rfl,d1,k1,r1⟩:=hp
   obtain⟨a2,kvs2,rfl,d2,k2,r2⟩:=hq
   cases rx
   cases ry
   obtain⟨_,n1,vs1,kv1,D1⟩:=DkR.at hw I d1
   obtain⟨_,n2,vs2,kv2,D2⟩:=DkR.at hw I d2
   have l1:vs1.length=ks.length:=by rw[← k1,List.length_map];exact(Paired.length kv1).symm
   have l2:vs2.length=ls.length:=by rw[← k2,List.length_map];exact(Paired.length kv2).symm
   have fin:EP X pins σ Q (.bool b) s:=⟨.bl b,H,I,rfl,k _ H (Same.refl H) rfl⟩
   have hu0:X.A.units<cLine:=by omega
   by_cases hl:ks.length=ls.length
   ·rw[if_pos hl] at eb
    refine zix (r:=b) n1 n2 D1 D2 hu0 (fun _=>zlc X.A.in1 (peqN 2) I k2 r2 kv2 ks ps kvs1 vs1 b k1 r1 kv1 eb fun p hp q v u v' u' c g1 g2 g3 g4 g5=>zy6 hw I 2 p q X.A.in1 v u v' u' c g1 g2 g3 g4 g5 ?_) ?_
    ·obtain⟨j,hj⟩:=List.mem_iff_getElem?.mp hp
     have:=zk5 hj
     show X.A.units+1+_<_
     omega
    ·have:(vs1.length == vs2.length)=true:=by rw[l1,l2,hl];simp
     rw[this,Bool.true_and]
     exact fin
   ·rw[if_neg hl] at eb
    cases eb
    refine zix (r:=false) n1 n2 D1 D2 hu0 (fun z=>absurd (by rw[← l1,← l2];exact z) hl) ?_
    rw[Bool.and_false]
    exact fin
  ·cases e
 ·split at e
  ·rename_i hd
   obtain⟨b,eb,ez⟩:=Option.map_eq_some_iff.mp e
   subst ez
   exact((zn5 hu I eb hd).1 hp hq rx ry).1 _ _ _ _ ⟨.bl b,H,I,rfl,k _ H (Same.refl H) rfl⟩
  ·cases e
 ·split at e
  ·rename_i hd
   obtain⟨b,eb,ez⟩:=Option.map_eq_some_iff.mp e
   subst ez
   exact((zn5 hu I eb hd).2 hp hq rx ry).1 _ _ _ _ ⟨.bl b,H,I,rfl,k _ H (Same.refl H) rfl⟩
  ·cases e
 ·split at e
  ·rename_i hc
   obtain⟨h1,h2,h3⟩:=hc
   cases e
   rw[zch h1 hp] at rx
   rw[zch h2 hq] at ry
   exact Zep pins s σ H _ _ v u Q I rx ry ⟨h3,k _ H (Same.refl H) rfl⟩
  ·cases e
theorem opNe(hu:X.A.units+64<cLine):OpR X (compareOp .NotEq) (rP X.K gNe):=by
 intro pins s σ H x y v u Q I rx ry ⟨p,q,z,hp,hq,e,k⟩
 unfold gNe at e
 split at e
 ·split at e
  ·rename_i hd
   obtain⟨b,eb,ez⟩:=Option.map_eq_some_iff.mp e
   subst ez
   exact((zn5 hu I eb hd).1 hp hq rx ry).2 _ _ _ _ ⟨.bl (!b),H,I,rfl,k _ H (Same.refl H) rfl⟩
  ·cases e
 ·split at e
  ·rename_i hd
   obtain⟨b,eb,ez⟩:=Option.map_eq_some_iff.mp e
   subst ez
   exact((zn5 hu I eb hd).2 hp hq rx ry).2 _ _ _ _ ⟨.bl (!b),H,I,rfl,k _ H (Same.refl H) rfl⟩
  ·cases e
 ·split at e
  ·rename_i hc
   obtain⟨h1,h2,h3⟩:=hc
   cases e
   rw[zch h1 hp] at rx
   rw[zch h2 hq] at ry
   exact Zel pins s σ H _ _ v u Q I rx ry ⟨h3,k _ H (Same.refl H) rfl⟩
  ·cases e
theorem opLt:OpR X (compareOp .Lt) (rP X.K gLt):=by
 intro pins s σ H x y v u Q I rx ry ⟨p,q,z,hp,hq,e,k⟩
 unfold gLt at e
 split at e
 ·rename_i i j
  cases e
  cases (show x=.int i from hp)
  cases (show y=.int j from hq)
  exact Zem pins s σ H _ _ v u Q I rx ry ⟨i,j,rfl,rfl,k _ H (Same.refl H) rfl⟩
 ·rename_i i j
  cases e
  cases (show x=.str i from hp)
  cases (show y=.str j from hq)
  exact zri pins s σ H _ _ v u Q I rx ry ⟨i,j,rfl,rfl,k _ H (Same.refl H) rfl⟩
 ·cases e
theorem opGt:OpR X (compareOp .Gt) (rP X.K gGt):=zlz Zeo fun p q z e=>by
 unfold gGt at e
 split at e
 ·rename_i i j
  cases e
  exact⟨i,j,rfl,rfl,_,fun _ _=>rfl,fun H Q q=>⟨i,j,rfl,rfl,q⟩⟩
 ·cases e
theorem opLe:OpR X (compareOp .LtE) (rP X.K gLe):=by
 intro pins s σ H x y v u Q I rx ry ⟨p,q,z,hp,hq,e,k⟩
 unfold gLe at e
 split at e
 ·rename_i i j
  cases e
  cases (show x=.int i from hp)
  cases (show y=.int j from hq)
  exact Zen pins s σ H _ _ v u Q I rx ry ⟨i,j,rfl,rfl,k _ H (Same.refl H) rfl⟩
 ·rename_i i j
  cases e
  cases (show x=.str i from hp)
  cases (show y=.str j from hq)
  obtain⟨t,rfl⟩:=rx
  obtain⟨t',rfl⟩:=ry
  exact PySem.P.le_str ⟨.bl _,H,I,rfl,k _ H (Same.refl H) rfl⟩
 ·cases e
theorem zxn{K:PySem.W.Frag}{H:Hp}{p:PV}{v:V}(r:RepO K H p v):decide (v=.non)=Zb6 p:=by
 cases p with
 | non=>cases (show v=.non from r);rfl
 | bl b=>cases (show v=.bl b from r);rfl
 | int b=>cases (show v=.int b from r);rfl
 | str b=>cases (show v=.str b from r);rfl
 | tup ps=>obtain⟨a,xs,rfl,_⟩:=RepO.tup_inv r;rfl
 | lst ps=>obtain⟨a,xs,rfl,_⟩:=RepO.lst_inv r;rfl
 | dct ks ps=>obtain⟨a,kvs,rfl,_⟩:=r;rfl
 | dtt ks ps=>obtain⟨a,kvs,rfl,_⟩:=r;rfl
 | fn L cs=>obtain⟨f,_,_,_,_,_,rfl,_⟩:=(show Rep K H (.fn L cs) v from r);rfl
theorem Zer:OpR X (compareOp .Is) (rP X.K gIsN):=by
 intro pins s σ H x y v u Q I rx ry ⟨p,q,z,hp,hq,e,k⟩
 unfold gIsN at e
 split at e
 ·cases e
  cases (show y=.non from hq)
  refine Za9 pins s σ H _ _ v u Q I rx ry ⟨rfl,?_⟩
  rw[zxn hp]
  exact k _ H (Same.refl H) rfl
 ·cases e
end
end PU
namespace PU
open PySem PySem.Spec PyProof.Rows L2 PySem.SeqAt
variable[TW]
theorem zd3{K:PySem.W.Frag}{H:Hp}{p:PV}{v:V}{k:Key}(e:zfl p=some k)(r:RepO K H p v):v=kV k:=by
 cases p with
 | int i=>cases e;exact r
 | str i=>cases e;exact r
 | _=>cases e
theorem zn7{K:PySem.W.Frag}{H:Hp}{ps:List PV}{xs:List V}{i:Int}{p:PV}(r:Reps K H ps xs)(e:atI ps i=some p):∃v,atI xs i=some v/\Rep K H p v:=by
 unfold atI at e ⊢
 rw[← r.length]
 obtain⟨j,ej,e2⟩:=Option.bind_eq_some_iff.mp e
 obtain⟨v,ev,rp⟩:=r.get e2
 exact⟨v,by rw[ej];exact ev,rp⟩
section
variable{X : Cx}
theorem ixP(hu:X.A.units+64<cLine)(hw:X.w=TW.w:=by rfl):IxR X (rP X.K gIx):=by
 intro value slice pins s σ H x y v u Q I rx ry ⟨p,q,z,hp,hq,e,k⟩ hs
 have h16:=sizeLine_eq
 unfold gIx at e
 split at e
 ·rename_i ps i
  obtain⟨a,xs,rfl,g,r⟩:=RepO.lst_inv hp
  cases (show y=.int i from hq)
  obtain⟨w,ew,rp⟩:=zn7 r e
  exact zym value slice pins s σ H _ _ v u Q I rx ry ⟨a,xs,i,w,rfl,rfl,g.l,ew,k w H (Same.refl H) rp⟩ hs
 ·rename_i ps i
  obtain⟨a,xs,rfl,g,r⟩:=RepO.tup_inv hp
  cases (show y=.int i from hq)
  obtain⟨w,ew,rp⟩:=zn7 r e
  exact Zb1 value slice pins s σ H _ _ v u Q I rx ry ⟨a,xs,i,w,rfl,rfl,g,ew,k w H (Same.refl H) rp⟩ hs
 ·rename_i t i
  split at e
  ·rename_i hl
   obtain⟨c,ec,ez⟩:=Option.map_eq_some_iff.mp e
   subst ez
   cases (show x=.str t from hp)
   cases (show y=.int i from hq)
   exact Zb2 value slice pins s σ H _ _ v u Q I rx ry ⟨t,i,c,rfl,rfl,by omega,ec,k _ H (Same.refl H) rfl⟩ hs
  ·cases e
 ·rename_i ks ps
  obtain⟨kk,ek,e⟩:=Option.bind_eq_some_iff.mp e
  obtain⟨a,kvs,rfl,g,e1,r⟩:=hp
  cases rx
  have hy:=zd3 ek hq
  subst hy
  obtain⟨w,ew,rp⟩:=zhc e1 r e
  obtain⟨zz,hd,vs,rel,dd⟩:=DkR.at hw I g
  obtain⟨w',hw,rw'⟩:=RelO.some_of (v:=w) (o:=valueAt vs kk) (by rw[← ew];exact rel.val kk)
  exact tail_any dd.typeIs PySem.F.slot_dict_getitem.lookup (wpAny_getItem_of (zj2 ry) dd.mapOf hw ⟨w,H,I.tok _,rw',k w H (Same.refl H) rp⟩) hs
 ·cases e
theorem zjz{K:PySem.W.Frag}{H:Hp}:∀{qs:List PV}{xs:List V},qs.all isSc=true->Reps K H qs xs->xs=qs.map scV/\xs.all zj3=true
 | [],_,_,r=>by cases r;exact⟨rfl,rfl⟩
 | q::qs,_,h,⟨x,t,e,h1,h2⟩=>by
  subst e
  simp only[List.all_cons,Bool.and_eq_true] at h
  obtain⟨e1,e2⟩:=zjz h.2 h2
  have hx:=zch h.1 h1.o
  refine⟨by rw[List.map_cons,hx,e1],?_⟩
  rw[List.all_cons,e2,Bool.and_true,hx]
  cases q <;> first | rfl | cases h.1
theorem zk1{p:PV}(h:isSc p=true):zj3 (scV p)=true:=by
 cases p <;> first | rfl | cases h
theorem opIn(hu:X.A.units+64<cLine)(hw:X.w=TW.w:=by rfl):OpR X (compareOp .In) (rP X.K gIn):=by
 intro pins s σ H x y v u Q I rx ry ⟨p,q,z,hp,hq,e,k⟩
 unfold gIn at e
 split at e
 ·rename_i i j
  cases e
  cases (show x=.str i from hp)
  cases (show y=.str j from hq)
  exact zrj pins s σ H _ _ v u Q I rx ry ⟨i,j,rfl,rfl,k _ H (Same.refl H) rfl⟩
 ·rename_i qs _
  split at e
  ·rename_i hc
   cases e
   obtain⟨a,xs,rfl,g,r⟩:=RepO.lst_inv hq
   obtain⟨e1,e2⟩:=zjz hc.2 r
   refine zl4 pins s σ H _ _ v u Q I rx ry ⟨a,xs,rfl,.inl g.l,by rw[zch hc.1 hp];exact zk1 hc.1,e2,?_⟩
   rw[zch hc.1 hp,e1]
   exact k _ H (Same.refl H) rfl
  ·cases e
 ·rename_i qs _
  split at e
  ·rename_i hc
   cases e
   obtain⟨a,xs,rfl,g,r⟩:=RepO.tup_inv hq
   obtain⟨e1,e2⟩:=zjz hc.2 r
   refine zl4 pins s σ H _ _ v u Q I rx ry ⟨a,xs,rfl,.inr g,by rw[zch hc.1 hp];exact zk1 hc.1,e2,?_⟩
   rw[zch hc.1 hp,e1]
   exact k _ H (Same.refl H) rfl
  ·cases e
 ·rename_i ks ps _
  obtain⟨kk,ek,ez⟩:=Option.map_eq_some_iff.mp e
  subst ez
  obtain⟨a,kvs,rfl,g,e1,r⟩:=hq
  cases ry
  have hx:=zd3 ek hp
  subst hx
  obtain⟨zz,hd,vs,rel,dd⟩:=DkR.at hw I g
  refine wpAny_in_of (zj2 rx) hd dd.mapOf ?_
  rw[← (rel.val kk).isSome_eq,← zin]
  refine⟨.bl _,H,I.tok _,rfl,k _ H (Same.refl H) ?_⟩
  subst e1
  rw[List.any_map]
  rfl
 ·cases e
theorem zx5(hu:X.A.units+64<cLine)(hw:X.w=TW.w:=by rfl):OpR X (compareOp .NotIn) (rP X.K zgl):=by
 intro pins s σ H x y v u Q I rx ry ⟨p,q,z,hp,hq,e,k⟩
 have e:=e
 obtain⟨z0,e1,ez⟩:=Option.bind_eq_some_iff.mp e
 clear e
 have e:=e1
 clear e1
 unfold gIn at e
 split at e
 ·rename_i i j _
  cases e
  cases ez
  cases (show x=.str i from hp)
  cases (show y=.str j from hq)
  exact zl3 pins s σ H _ _ v u Q I rx ry ⟨i,j,rfl,rfl,k _ H (Same.refl H) rfl⟩
 ·rename_i qs _
  split at e
  ·rename_i hc
   cases e
   cases ez
   obtain⟨a,xs,rfl,g,r⟩:=RepO.lst_inv hq
   obtain⟨e1,e2⟩:=zjz hc.2 r
   refine zig pins s σ H _ _ v u Q I rx ry ⟨a,xs,rfl,.inl g.l,by rw[zch hc.1 hp];exact zk1 hc.1,e2,?_⟩
   rw[zch hc.1 hp,e1]
   exact k _ H (Same.refl H) rfl
  ·cases e
 ·rename_i qs _
  split at e
  ·rename_i hc
   cases e
   cases ez
   obtain⟨a,xs,rfl,g,r⟩:=RepO.tup_inv hq
   obtain⟨e1,e2⟩:=zjz hc.2 r
   refine zig pins s σ H _ _ v u Q I rx ry ⟨a,xs,rfl,.inr g,by rw[zch hc.1 hp];exact zk1 hc.1,e2,?_⟩
   rw[zch hc.1 hp,e1]
   exact k _ H (Same.refl H) rfl
  ·cases e
 ·rename_i ks ps _
  obtain⟨kk,ek,ez'⟩:=Option.map_eq_some_iff.mp e
  subst ez'
  cases ez
  obtain⟨a,kvs,rfl,g,e1,r⟩:=hq
  cases ry
  have hx:=zd3 ek hp
  subst hx
  obtain⟨zz,hd,vs,rel,dd⟩:=DkR.at hw I g
  refine wpAny_notIn_of (zj2 rx) hd dd.mapOf ?_
  rw[← (rel.val kk).isSome_eq,← zin]
  refine⟨.bl _,H,I.tok _,rfl,k _ H (Same.refl H) ?_⟩
  subst e1
  rw[List.any_map]
  rfl
 ·cases e
theorem zxb(hw:X.w=TW.w):TruR X (fun v H Q=>∃p b,RepO X.K H p v/\truB p=some b/\Q b H):=by
 intro pins s σ H x v Q I rx ⟨p,b,rp,e,q⟩
 have h16:=sizeLine_eq
 cases p with
 | non=>
  cases (show x=.non from rp)
  cases e
  exact zkb pins s σ H _ v Q I rx ⟨_,rfl,q⟩
 | bl i=>
  cases (show x=.bl i from rp)
  cases e
  exact zkb pins s σ H _ v Q I rx ⟨_,rfl,q⟩
 | int i=>
  cases (show x=.int i from rp)
  cases e
  exact zkb pins s σ H _ v Q I rx ⟨_,rfl,q⟩
 | str i=>
  cases (show x=.str i from rp)
  simp only[truB] at e
  split at e
  ·cases e
   exact zkb pins s σ H _ v Q I rx ⟨_,⟨by omega,rfl⟩,q⟩
  ·cases e
 | tup ps=>
  obtain⟨a,xs,rfl,g,r⟩:=RepO.tup_inv rp
  cases e
  have:ps.isEmpty=xs.isEmpty:=by have:=r.length;cases ps <;> cases xs <;> simp_all
  exact zkb pins s σ H _ v Q I rx ⟨_,.inr (.inl ⟨xs,g,by rw[this]⟩),q⟩
 | lst ps=>
  obtain⟨a,xs,rfl,g,r⟩:=RepO.lst_inv rp
  cases e
  have:ps.isEmpty=xs.isEmpty:=by have:=r.length;cases ps <;> cases xs <;> simp_all
  exact zkb pins s σ H _ v Q I rx ⟨_,.inl ⟨xs,g.l,by rw[this]⟩,q⟩
 | dct ks ps=>
  obtain⟨a,kvs,rfl,g,e1,r⟩:=rp
  cases rx
  cases e
  obtain⟨hz,hS,vs,rel,m⟩:=DkR.at hw I g
  have hlen:kvs.length=vs.length:=Paired.length rel
  refine wpAny_truthy_dict hS m (by omega) ⟨H,I.tok _,?_⟩
  rw[zkq rel]
  subst e1
  have:(kvs.map (·.1)).isEmpty=kvs.isEmpty:=by cases kvs <;> rfl
  rw[this] at q
  exact q
 | dtt ks ps=>cases e
 | fn L cs=>cases e
end
section
variable{C : Cn}{a b c e : Expr}{f fa fb fc : PSt → R PV}{t u : PSt → R Bool}{rest : List Expr}{pos : Pos}
theorem zgd(ha:EO C a f)(he:∀whole,isTrue a C.X.env whole=(do let v<- whole;standAt a.pos;holding [v] (truthy v)):=by intro _;rfl)(hw:C.X.w=TW.w:=by rfl):ET C a (truF f):=by
 intro pins s σ H Q I ⟨ρ,vw,q⟩
 refine isTrue_plain (thn (ha pins s σ H (fun v H'=>∃p b,RepO C.X.K H' p v/\truB p=some b/\Q b H') I ⟨ρ,vw,q.bind.imp fun p _ k v H' s' r=>?_⟩) fun v s1 ⟨x,H1,I1,r1,q1⟩=>zxb hw pins s1 σ H1 x v Q I1 r1 q1) (he _)
 obtain⟨b,eb,k⟩:=k.ofO
 exact⟨p,b,r,eb,k H' s'⟩
def isBl(g:PV->PV->Option PV):Prop:=∀p q z,g p q=some z->∃b,z=.bl b
theorem zbb{op:CmpOp}{g:PV->PV->Option PV}(ho:OpR C.X (compareOp op) (rP C.X.K g))(hg:isBl g)(ha:EO C a fa)(hb:EO C b fb)(hm:behindInMarks op b=false):ET C (.Compare a [op] [b] pos) (truF (bin2 fa fb g)):=by
 intro pins s σ H Q I ⟨ρ,vw,q⟩
 refine zxu ho ha hb hm pins s σ H Q I ?_
 refine t2 vw (g:=g) (q.bind.imp fun p e k v H' s' r=>?_) fun _ _ _ _ h=>h
 have:∃b,p=.bl b:=by
  unfold bin2 at e
  cases h1:fa ρ with
  | ok x=>
   rw[h1] at e
   cases h2:fb ρ with
   | ok y=>
    rw[h2] at e
    cases h3:g x y with
    | some z=>
     simp only[R.ok_bind,h3,R.ofO_some] at e
     cases e
     exact hg x y _ h3
    | none=>simp only[R.ok_bind,h3,R.ofO_none] at e;cases e
   | er x=>rw[h2] at e;cases e
   | no=>rw[h2] at e;cases e
  | er x=>rw[h1] at e;cases e
  | no=>rw[h1] at e;cases e
 obtain⟨b,rfl⟩:=this
 cases (show v=.bl b from r)
 exact⟨b,rfl,k H' s'⟩
theorem EW.et(h:EW C e t):ET C e t:=PW.pt h
theorem znp(ha:ET C a t):EW C (.BoolOp .And [a] pos) t:=zxs ha
theorem zkr(ha:ET C a t):EW C (.BoolOp .Or [a] pos) t:=Zaq ha
theorem zsu(ha:ET C a t)(hb:EW C (.BoolOp .And (b::rest) pos) u):EW C (.BoolOp .And (a::b::rest) pos) (andB t u):=by
 intro wh pins s σ H Q I ⟨ρ,vw,q⟩
 refine Zar ha hb wh pins s σ H Q I ⟨ρ,vw,q.bind.imp fun c _ k H' s'=>?_⟩
 cases c with
 | true=>exact iteT ⟨ρ,vw.same s',(k.same s').imp fun b _ k2 H2 s2=>k2 H2 (s'.trans s2)⟩
 | false=>exact iteF (k H' s')
theorem zno(ha:ET C a t)(hb:EW C (.BoolOp .Or (b::rest) pos) u):EW C (.BoolOp .Or (a::b::rest) pos) (orB t u):=by
 intro wh pins s σ H Q I ⟨ρ,vw,q⟩
 refine Zee ha hb wh pins s σ H Q I ⟨ρ,vw,q.bind.imp fun c _ k H' s'=>?_⟩
 cases c with
 | true=>exact iteT (k H' s')
 | false=>exact iteF ⟨ρ,vw.same s',(k.same s').imp fun b _ k2 H2 s2=>k2 H2 (s'.trans s2)⟩
theorem zms(ha:ET C a t):ET C (.UnaryOp .Not a pos) (notB t):=by
 intro pins s σ H Q I ⟨ρ,vw,q⟩
 exact Zas ha pins s σ H Q I ⟨ρ,vw,q.bind.imp fun c _ k H' s'=>k H' s'⟩
theorem Zcg{op}(h:EV C a f):EV C (.BoolOp op [a] pos) f:=Zay h
theorem Zcj(ha:EV C a fa)(hb:EV C (.BoolOp .And (b::rest) pos) fb):EV C (.BoolOp .And (a::b::rest) pos) (andV fa fb):=by
 intro pins s σ H Q I ⟨ρ,vw,q⟩
 refine Za5 ha hb pins s σ H Q I ⟨ρ,vw,q.bind.imp fun p _ k v H' s' r=>?_⟩
 cases p with
 | bl c=>
  cases (show v=.bl c from r)
  refine⟨c,rfl,?_⟩
  cases c with
  | true=>exact iteT ⟨ρ,vw.same s',(RQ.same k s').imp fun z _ k2 v2 H2 s2 r2=>k2 v2 H2 (s'.trans s2) r2⟩
  | false=>exact iteF (k _ H' s' rfl)
 | _=>exact False.elim k
theorem Zci(hc:ET C c t)(ha:EV C a fa)(hb:EV C b fb):EV C (.IfExp c a b pos) (ifV t fa fb):=by
 intro pins s σ H Q I ⟨ρ,vw,q⟩
 refine zup hc ha hb pins s σ H Q I ⟨ρ,vw,q.bind.imp fun c _ k H' s'=>?_⟩
 cases c with
 | true=>exact iteT ⟨ρ,vw.same s',(RQ.same k s').imp fun z _ k2 v2 H2 s2 r2=>k2 v2 H2 (s'.trans s2) r2⟩
 | false=>exact iteF ⟨ρ,vw.same s',(RQ.same k s').imp fun z _ k2 v2 H2 s2 r2=>k2 v2 H2 (s'.trans s2) r2⟩
end
theorem zb8:isBl gEq:=fun p q z e=>by
 unfold gEq at e
 split at e
 ·split at e
  ·obtain⟨b,_,ez⟩:=Option.map_eq_some_iff.mp e
   exact⟨b,ez.symm⟩
  ·cases e
 ·split at e
  ·obtain⟨b,_,ez⟩:=Option.map_eq_some_iff.mp e
   exact⟨b,ez.symm⟩
  ·cases e
 ·split at e
  ·obtain⟨b,_,ez⟩:=Option.map_eq_some_iff.mp e
   exact⟨b,ez.symm⟩
  ·cases e
 ·split at e
  ·cases e
   exact⟨_,rfl⟩
  ·cases e
theorem znj:isBl gNe:=fun p q z e=>by
 unfold gNe at e
 split at e
 ·split at e
  ·obtain⟨b,_,ez⟩:=Option.map_eq_some_iff.mp e;exact⟨_,ez.symm⟩
  ·cases e
 ·split at e
  ·obtain⟨b,_,ez⟩:=Option.map_eq_some_iff.mp e;exact⟨_,ez.symm⟩
  ·cases e
 ·split at e
  ·cases e;exact⟨_,rfl⟩
  ·cases e
theorem zlb:isBl gLt:=fun p q z e=>by unfold gLt at e;split at e <;> cases e <;> exact⟨_,rfl⟩
theorem zys:isBl gLe:=fun p q z e=>by unfold gLe at e;split at e <;> cases e <;> exact⟨_,rfl⟩
theorem zyt:isBl gGt:=fun p q z e=>by unfold gGt at e;split at e <;> cases e <;> exact⟨_,rfl⟩
theorem zu9:isBl gIsN:=fun p q z e=>by unfold gIsN at e;split at e <;> cases e <;> exact⟨_,rfl⟩
theorem zr5:isBl gIn:=fun p q z e=>by
 unfold gIn at e
 split at e
 ·cases e;exact⟨_,rfl⟩
 ·split at e <;> cases e;exact⟨_,rfl⟩
 ·split at e <;> cases e;exact⟨_,rfl⟩
 ·obtain⟨b,_,ez⟩:=Option.map_eq_some_iff.mp e;exact⟨_,ez.symm⟩
 ·cases e
theorem zp2:isBl zgl:=fun p q z e=>by
 obtain⟨z0,e,ez⟩:=Option.bind_eq_some_iff.mp e
 cases z0 <;> cases ez
 exact⟨_,rfl⟩
end PU
namespace PU
open PySem PySem.Spec PyProof.Rows L2 PySem.SeqAt
variable[TW]
def r1(K:PySem.W.Frag)(g:PV->Option PV):List V->Hp->VK->Prop:=fun vs H Q=>∃v p z,vs=[v]/\RepO K H p v/\g p=some z/\∀w H',Same H H'->Rep K H' z w->Q w H'
def rn1(K:PySem.W.Frag)(g:PV->Option PV):List V->Hp->VK->Prop:=fun vs H Q=>∃v p z,vs=[v]/\RepO K H p v/\g p=some z/\∀a H',Same H H'->H a=none->zco K H' a z->Q (.ref a) H'
section
variable{C : Cn}{e : Expr}{f : PSt → R PV}{g : PV → Option PV}{x : Str}{p pos : Pos}{id T : String}
theorem t1{σ:L2.St}{H:Hp}{Q:VK}{ρ:PSt}(vw:View C.X.K H σ ρ)(q:RQ C H (un1 f g ρ) fun p=>∀v H',Same H H'->Rep C.X.K H' p v->Q v H'):tCB (r1 C.X.K g) (tA1 C f) σ H Q:=by
 refine⟨ρ,vw,q.bind.imp fun p _ k v H1 s1 r1=>?_⟩
 obtain⟨z,ez,k⟩:=k.ofO
 exact⟨v,p,z,rfl,r1,ez,fun w H' s' r'=>k w H' (s1.trans s') r'⟩
theorem tn1{σ:L2.St}{H:Hp}{Q:VK}{ρ:PSt}(vw:View C.X.K H σ ρ)(q:RQ C H (un1 f g ρ) fun p=>∀a H',Same H H'->H a=none->zco C.X.K H' a p->Q (.ref a) H'):tCB (rn1 C.X.K g) (tA1 C f) σ H Q:=by
 refine⟨ρ,vw,q.bind.imp fun p _ k v H1 s1 r1=>?_⟩
 obtain⟨z,ez,k⟩:=k.ofO
 exact⟨v,p,z,rfl,r1,ez,fun a H' s' n' r'=>k a H' (s1.trans s') (s1.free n') r'⟩
theorem zj5 (hc:zgz C.X (.builtin id) (r1 C.X.K g)) (hg:Gl C.X x) (hm:C.X.mg x=none) (hv:bootBuiltins x=some (.builtin id)) (ha:EO C e f) (hn:x≠"__name__":=by decide) (hdb:(x == ("__debug__":Str))=false:=by decide)
  (hs:starEach [e] C.X.env=[(false,eval e C.X.env)]:=by exact zcd rfl):EV C (.Call (.Name x p) [e] [] pos) (un1 f g):=by
 intro pins s σ H Q I ⟨ρ,vw,q⟩
 exact zog hc hg hm hv (zo8 ha hs) hn hdb hs (by rfl) pins s σ H Q I (t1 vw q)
theorem zy1 (hc:zgz C.X (.type T) (r1 C.X.K g)) (hg:Gl C.X x) (hm:C.X.mg x=none) (hv:bootBuiltins x=some (.type T)) (ha:EO C e f) (hn:x≠"__name__":=by decide) (hdb:(x == ("__debug__":Str))=false:=by decide)
  (hs:starEach [e] C.X.env=[(false,eval e C.X.env)]:=by exact zcd rfl):EV C (.Call (.Name x p) [e] [] pos) (un1 f g):=by
 intro pins s σ H Q I ⟨ρ,vw,q⟩
 exact zl0 hc hg hm hv (zo8 ha hs) hn hdb hs (by rfl) pins s σ H Q I (t1 vw q)
theorem zvm (hc:zgz C.X (.type T) (rn1 C.X.K g)) (hg:Gl C.X x) (hm:C.X.mg x=none) (hv:bootBuiltins x=some (.type T)) (ha:EO C e f) (hn:x≠"__name__":=by decide) (hdb:(x == ("__debug__":Str))=false:=by decide)
  (hs:starEach [e] C.X.env=[(false,eval e C.X.env)]:=by exact zcd rfl):EN C (.Call (.Name x p) [e] [] pos) (un1 f g):=by
 intro pins s σ H Q I ⟨ρ,vw,q⟩
 exact zl0 hc hg hm hv (zo8 ha hs) hn hdb hs (by rfl) pins s σ H Q I (tn1 vw q)
end
section
variable{X : Cx}
theorem cLen (hw:X.w=TW.w:=by rfl):zgz X (.builtin "len") (r1 X.K gLen):=by
 intro pins s σ H xs us Q I r ⟨v,p,z,e1,rp,ez,k⟩
 have h16:=sizeLine_eq
 subst e1
 cases p with
 | lst ps=>
  obtain⟨a,xs,rfl,g,rr⟩:=RepO.lst_inv rp
  cases ez
  exact zll pins s σ H _ us Q I r ⟨_,_,rfl,.inl ⟨xs,g.l,rfl⟩,by rw[← rr.length];exact k _ H (Same.refl H) rfl⟩
 | tup ps=>
  obtain⟨a,xs,rfl,g,rr⟩:=RepO.tup_inv rp
  cases ez
  exact zll pins s σ H _ us Q I r ⟨_,_,rfl,.inr ⟨xs,g,rfl⟩,by rw[← rr.length];exact k _ H (Same.refl H) rfl⟩
 | str x=>
  simp only[gLen] at ez
  split at ez
  ·cases ez
   cases (show v=.str x from rp)
   exact zll pins s σ H _ us Q I r ⟨_,_,rfl,⟨by omega,rfl⟩,k _ H (Same.refl H) rfl⟩
  ·cases ez
 | dct ks ps=>
  obtain⟨a,kvs,rfl,g,e1,rr⟩:=rp
  cases ez
  obtain⟨u,rfl,ru⟩:=vals1 r
  cases ru
  obtain⟨hz,hS,vs,rel,m⟩:=DkR.at hw I g
  have hlen:kvs.length=vs.length:=Paired.length rel
  subst e1
  rw[List.length_map,hlen] at k
  exact call_len_dict hS m (by omega) ⟨.int vs.length,H,I.tok _,⟨_,rfl⟩,k _ H (Same.refl H) rfl⟩
 | _=>cases ez
theorem cInt:zgz X (.type "int") (r1 X.K gInt):=by
 intro pins s σ H xs us Q I r ⟨v,p,z,e1,rp,ez,k⟩
 subst e1
 cases p with
 | int i=>cases ez;cases (show v=.int i from rp);exact zmz pins s σ H _ us Q I r (.inl ⟨i,rfl,k _ H (Same.refl H) rfl⟩)
 | bl i=>cases ez;cases (show v=.bl i from rp);exact zmz pins s σ H _ us Q I r (.inr ⟨i,rfl,k _ H (Same.refl H) rfl⟩)
 | _=>cases ez
theorem zw1:zgz X (.type "tuple") (r1 X.K zmh):=by
 intro pins s σ H xs us Q I r ⟨v,p,z,e1,rp,ez,k⟩
 subst e1
 cases p with
 | lst ps=>
  obtain⟨a,xs,rfl,g,rr⟩:=RepO.lst_inv rp
  cases ez
  exact zhr pins s σ H _ us Q I r ⟨a,xs,rfl,.inl ⟨g.l,fun l hl=>k _ _ (Same.new hl) ⟨l,xs,rfl,zai,rr.same (Same.new hl)⟩⟩⟩
 | tup ps=>
  obtain⟨a,xs,rfl,g,rr⟩:=RepO.tup_inv rp
  cases ez
  exact zhr pins s σ H _ us Q I r ⟨a,xs,rfl,.inr ⟨g,k _ H (Same.refl H) rp⟩⟩
 | _=>cases ez
end
section
variable{C : Cn}{e tg : Expr}{f : PSt → R PV}{pos : Pos}
theorem zyo{K:PySem.W.Frag}{H:Hp}{a:Addr}{xs:List V}{ps:List PV}(g:SqF K H a xs)(r:Reps K H ps xs):ItP K (Itl K a) H ps:=fun i H' k=>by
 have g':=(k.sqF g).l.l
 have r':=Reps.kp k ps r
 have hl:=r'.length
 refine⟨fun h=>⟨xs,g',by omega⟩,fun p e=>?_⟩
 obtain⟨x,ex,rp⟩:=r'.get e
 exact⟨⟨xs,x,g',ex⟩,fun y H2 ⟨eh,hy⟩=>by
  subst eh
  have:=hy xs g'
  rw[ex] at this
  cases this
  exact⟨Same.refl _,rp⟩⟩
theorem Zb3{K:PySem.W.Frag}{H:Hp}{a:Addr}{xs:List V}{ps:List PV}(g:SqT K H a xs)(r:Reps K H ps xs):ItP K (Itt K a) H ps:=fun i H' k=>by
 have g':=k.sqT g
 have r':=Reps.kp k ps r
 have hl:=r'.length
 refine⟨fun h=>⟨xs,g',by omega⟩,fun p e=>?_⟩
 obtain⟨x,ex,rp⟩:=r'.get e
 exact⟨⟨xs,x,g',ex⟩,fun y H2 ⟨eh,hy⟩=>by
  subst eh
  have:=hy xs g'
  rw[ex] at this
  cases this
  exact⟨Same.refl _,rp⟩⟩
theorem zov{K:PySem.W.Frag}{H:Hp}{lo:Int}{n:Nat}:ItP K (Itr lo n) H (zcb lo n):=fun i H' k=>by
 refine⟨fun h=>?_,fun p e=>?_⟩
 ·have:n<=i:=by simp[zcb] at h;omega
  exact this
 ·unfold zcb at e
  rw[List.getElem?_map] at e
  have hi:i<n:=by
   by_cases hi:i<n
   ·exact hi
   ·rw[List.getElem?_eq_none (by simpa using hi)] at e
    cases e
  rw[List.getElem?_range hi] at e
  cases e
  exact⟨hi,fun y H2 ⟨eh,hy⟩=>by subst eh hy;exact⟨Same.refl _,rfl⟩⟩
theorem zf4 {p:Pos} (hg:Gl C.X "range") (hm:C.X.mg "range"=none) (he:EV C e f) (hs:starEach [e] C.X.env=[(false,eval e C.X.env)]:=by exact zcd rfl):EI C tg (.Call (.Name "range" p) [e] [] pos) (rng1 f):=by
 intro pins s σ H Rk I ⟨ρ,vw,q⟩
 refine zra hg hm (zcj he zft hs) hs pins s σ H Rk I ⟨ρ,vw,q.bind.imp fun p _ k v H1 s1 r1=>?_⟩
 cases p with
 | int j=>
  cases (show v=.int j from r1)
  by_cases hj:j.natAbs<1000000000
  ·have k:RQ C H (if j.natAbs<1000000000 then R.ok (zcb 0 j.toNat) else R.no) fun ps=>∀J H',Same H H'->ItP C.X.K J H' ps->Rk J H':=k
   rw[if_pos hj] at k
   exact⟨j,rfl,by omega,by omega,k _ H1 s1 zov⟩
  ·have k:RQ C H (if j.natAbs<1000000000 then R.ok (zcb 0 j.toNat) else R.no) fun ps=>∀J H',Same H H'->ItP C.X.K J H' ps->Rk J H':=k
   rw[if_neg hj] at k
   exact False.elim k
 | _=>exact False.elim k
end
section
variable{C : Cn}{e : Expr}{f : PSt → R PV}{pos apos cpos : Pos}
theorem zdf(i:Nat){x:Str}{np:Pos}(hN:C.X.N[i]?=some x)(hv:Vis C.X.env.scope x)(he:EV C e f)(hs:starEach [e] C.X.env=[(false,eval e C.X.env)]:=by exact zcd rfl)
  (hb:attributeBase (.Name x np) "append" C.X.env (eval (.Name x np) C.X.env)=eval (.Name x np) C.X.env:=by rfl) (hline:(apos.endLine == cpos.line)=true:=by rfl)
  (hd:(x == ("__debug__":Str))=false:=by decide) (hcd:(x == ("__classdict__":Str))=false:=by decide):SV C (.Expr (.Call (.Attribute (.Name x np) "append" apos) [e] [] cpos) pos) (appF i f):=by
 intro pins s σ H D I ⟨ρ,B,S,q⟩
 unfold appF at q
 split at q
 ·rename_i ps e1
  obtain⟨a,e2,xs,hx,rr⟩:=S.vw i _ e1
  refine zq4 (Za4 PySem.F.plainAttrs_list PySem.F.slot_list_append PySem.F.type_list_append zl5 (zfi hN hv hd hcd) (zcj he zft hs) hb (by rw[hs];rfl) hline hs (by rfl)) (by rfl) pins s σ H D I ?_
  refine⟨_,e2,.inl ⟨rfl,xs,SqL.of hx⟩,ρ,S.vw,(RS.bind q S.same).imp fun p _ q' v H1 s1 r1=>?_⟩
  by_cases hl:ps.length<16777216
  ·rw[if_pos hl] at q'
   refine⟨a,xs,v,rfl,rfl,s1 _ _ hx,by rw[sizeLine_eq,← rr.length];exact hl,?_⟩
   refine q' σ _ ((S.grow s1).turn e1 e2 (fun b hb=>zah hb) ?_)
   have kp:Kp H1 (upd H1 a (.lst (xs++[v]))):=Kp.upd (s1 _ _ hx) rfl
   exact⟨a,rfl,xs++[v],zai,Reps.append (Reps.kp kp _ (rr.same s1)) (Reps.cons (Rep.kp kp _ r1) Reps.nil)⟩
  ·rw[if_neg hl] at q'
   exact False.elim q'
 ·exact False.elim q
end
end PU
namespace PU
open PySem PySem.Spec PyProof.Rows L2 PySem.SeqAt
variable[TW]
section
variable{C : Cn}
theorem ev_v(i:Nat){x:Str}{pos:Pos}(hN:C.X.N[i]?=some x:=by rfl)(hv:Vis C.X.env.scope x:=by first | exact Or.inl rfl | exact Or.inr (Or.inl rfl) | exact Or.inr (Or.inr rfl))
  (hd:(x == ("__debug__":Str))=false:=by decide) (hcd:(x == ("__classdict__":Str))=false:=by decide):EV C (.Name x pos) (getV i):=Zcf i hN hv hd hcd
theorem eo_v(i:Nat){x:Str}{pos:Pos}(hN:C.X.N[i]?=some x:=by rfl)(hv:Vis C.X.env.scope x:=by first | exact Or.inl rfl | exact Or.inr (Or.inl rfl) | exact Or.inr (Or.inr rfl))
  (hd:(x == ("__debug__":Str))=false:=by decide) (hcd:(x == ("__classdict__":Str))=false:=by decide):EO C (.Name x pos) (getO i):=Zcl i hN hv hd hcd
variable{a b c : Expr}{fa fb fc : PSt → R PV}{pos : Pos}
end
end PU
namespace PU
open PySem PySem.Spec PyProof.Rows L2 PySem.SeqAt
variable[TW]
section
variable{X : Cx}{pins : List (Addr×Obj)}{σ : L2.St}{H : Hp}{s : Shared}
theorem _root_.L2.Inv.turnedL{wr:List Addr}{h':Heap}{t':Nat}(I:L2.Inv X pins σ H s)(k:∀b o,b ∉ wr->s.heap.get? b=some o->h'.get? b=some o)(hw:∀b∈wr,FpOk X pins H b):L2.Inv X pins σ H { s with heap:=h',toks:=t' }:=by
 have nw:∀b u,H b=some u->b ∉ wr:=fun b u e z=>by rw[(hw b z).1] at e;cases e
 refine I.step (g':=s.gens) (d':=s.drawn) (ch:=wr) (fun b hb=>?_) (fun b o _ _ hc e _=>k b o hc e) (fun b o _ _ hc e _=>⟨o.slots,k b o hc e⟩) (fun _ _ _ _ n=>n)
  (fun b o hc e=>⟨o,k b o hc e⟩) (fun _ _ e=>e) (fun _ _ _ e=>e) (fun b ps e=>⟨#[],by rw[e];simp⟩) (fun m hm=>?_) (fun b u e=>?_) I.bare
 ·obtain⟨g1,g2,g3,g4,g5,g6⟩:=hw b hb
  exact⟨g4,g2,g5,g6⟩
 ·obtain⟨o,es,ep,ho,r⟩:=hm
  exact⟨o,es,ep,k _ o (fun z=>(hw _ z).2.1 rfl) ho,r⟩
 ·refine(I.hok b u e).stay (fun c v hc q=>k c v ?_ q) (fun _ q=>q) fun _ _ q=>q
  rcases hc with z | z
  ·rw[z];exact nw b u e
  ·exact nw c _ z
theorem _root_.L2.Inv.tupled{wr:List Addr}{h':Heap}{t':Nat}{T:Addr}{vals:List Value}{xs:List V}(I:L2.Inv X pins σ H s)(k:∀b o,b ∉ wr->s.heap.get? b=some o->h'.get? b=some o)(hw:∀b∈wr,FpOk X pins H b)(hws:∀b∈wr,b<s.heap.objs.size)
  (hT:s.heap.objs.size<=T) (ht:h'.IsTuple T vals.toArray) (rv:Vals xs vals) (hz:xs.length<=sizeLine) (hnr:¬ ∀v∈vals,∃b,v=Value.ref b):L2.Inv X pins σ (upd H T (.tup xs)) { s with heap:=h',toks:=t' }:=by
 have nw:∀b u,H b=some u->b ∉ wr:=fun b u e z=>by rw[(hw b z).1] at e;cases e
 have nT:H T=none:=I.hok.fresh hT
 have neT:∀b u,H b=some u->b≠T:=fun b u e=>zbk e nT
 have lo:∀b o,s.heap.get? b=some o->b≠T:=fun b o e z=>by
  subst z
  exact absurd (Heap.lt_size e) (Nat.not_lt.mpr hT)
 have hlt:X.env.locals≠T:=fun z=>absurd I.lt (by rw[z];exact Nat.not_lt.mpr hT)
 refine I.step (g':=s.gens) (d':=s.drawn) (ch:=wr) (fun b hb=>?_) (fun b o _ _ hc e _=>k b o hc e) (fun b o _ _ hc e _=>⟨o.slots,k b o hc e⟩) (fun b o _ e n=>by rw[zah (lo b o e)];exact n)
  (fun b o hc e=>⟨o,k b o hc e⟩) (fun b xs e=>by rw[zah (neT _ _ e)];exact e) (fun b o u e=>by rw[zah (neT _ _ e)];exact e) (fun b ps e=>⟨#[],by rw[zah (neT _ _ e),e];simp⟩) (fun m hm=>?_) (fun b u e=>?_) I.bare
 ·obtain⟨g1,g2,g3,g4,g5,g6⟩:=hw b hb
  exact⟨g4,g2,g5,g6⟩
 ·obtain⟨o,es,ep,ho,r⟩:=hm
  exact⟨o,es,ep,k _ o (fun z=>(hw _ z).2.1 rfl) ho,r⟩
 ·by_cases hb:b=T
  ·subst hb
   rw[zai] at e
   cases e
   obtain⟨o,e1,e2,e3⟩:=ht
   exact⟨hz,vals,rv,o,e1,e2,e3,fun h=>absurd h hnr⟩
  ·rw[zah hb] at e
   refine(I.hok b u e).stay (fun c v hc q=>k c v ?_ q) (fun c q=>by rw[zah (neT _ _ q)];exact q) fun c ys q=>by rw[zah (neT _ _ q)];exact q
   rcases hc with z | z
   ·rw[z];exact nw b u e
   ·exact nw c _ z
end
theorem zqu{P:Program}{w:World}{K:PySem.W.Frag}{elts:List Expr}{kk:Nat}{tp:Pos}{it:Addr}{fp wr:List Addr}{n:Nat}{own:Nat->Heap->Prop}{J:It}
  (W:∀(X:Cx)(pins:List (Addr×Obj))(σ:L2.St)(H:Hp)(s:Shared)(i:Nat),X.prog=P->X.w=w->X.K=K->X.calm=true->L2.Inv X pins σ H s->own i s.heap->J.go i H\/J.stop i H->
   ∃(more:List Addr)(Pt:Nat->Array Value->Prop)(St:Nat->Heap->Prop)(Mid:Nat->Addr->Heap->Prop),WalksT P w X.A it more wr n Pt St Mid/\St i s.heap/\(∀j h,St j h->own j h)/\
    ∀vals,Pt i vals->∃xs,Vals xs vals.toList/\xs.length<=sizeLine/\(¬ ∀v∈vals.toList,∃b,v=Value.ref b)/\∀T,H T=none->J.yld i H (.ref T) (upd H T (.tup xs)))
  (hI:it∈fp) (hwr:∀b∈wr,b∈fp)
  (obj:∀i h,own i h->∀b∈fp,∃o,h.get? b=some o/\∀v,o.data≠.cell v) (keep:∀i h h',own i h->(∀b∈fp,∀o,h.get? b=some o->h'.get? b=some o)->own i h')
  (hgo:∀i H,J.go i H->i<n) (hstop:∀i H,J.stop i H->i=n)
  (self:∀(A:Around)(i:Nat)(s:Shared)(Q:Value->Shared->Prop)(E:Value->Shared->Prop),own i s.heap->Q (.ref it) s->wpAny (model P w) A (pyIter (.ref it)) Q E s) :
  Turn P w K (.Tuple elts kk tp) J fp it own where
 mem:=hI
 obj:=obj
 keep:=keep
 item:=by
  intro X hP hw hK hc i pins s σ H E I hf st hg
  obtain⟨more,Pt,St,Mid,W',st',ofSt,hval⟩:=W X pins σ H s i hP hw hK hc I st (.inl hg)
  subst hP hw hK
  refine W'.item i s _ _ (hgo i H hg) st' fun T vals h' tk hPt hT hTup hMid hk=>?_
  obtain⟨xs,rv,hz,hnr,hy⟩:=hval vals hPt
  have nT:H T=none:=I.hok.fresh hT
  have hfw:∀b∈wr,FpOk X pins H b:=fun b hb=>hf b (hwr b hb)
  have hws:∀b∈wr,b<s.heap.objs.size:=fun b hb=>by
   obtain⟨o,e,_⟩:=obj i _ st b (hwr b hb)
   exact Heap.lt_size e
  have I1:L2.Inv X pins σ (upd H T (.tup xs)) { s with heap:=h',toks:=tk }:=I.tupled (vals:=vals.toList) hk hfw hws hT (by simpa using hTup) rv hz hnr
  refine⟨_,rfl,W'.go elts kk tp i T _ _ _ hMid fun h'' st'' hk''=>?_⟩
  have fne:∀b∈fp,upd H T (.tup xs) b=none:=fun b hb=>by
   obtain⟨o,e,_⟩:=obj i _ st b hb
   rw[zah (Nat.ne_of_lt (Nat.lt_of_lt_of_le (Heap.lt_size e) hT))]
   exact(hf b hb).1
  have I2:L2.Inv X pins σ (upd H T (.tup xs)) { s with heap:=h'',toks:=tk }:=L2.Inv.turnedL (s:={ s with heap:=h',toks:=tk }) (wr:=wr) (t':=tk) I1 hk'' fun b hb=>⟨fne b (hwr b hb),(hfw b hb).2⟩
  exact⟨.ref T,_,I2,rfl,hy T nT,ofSt _ _ st'',fne⟩
 done:=by
  intro X hP hw hK hc i pins s σ H E I hf st hg
  obtain⟨more,Pt,St,Mid,W',st',ofSt,hval⟩:=W X pins σ H s i hP hw hK hc I st (.inr hg)
  subst hP hw hK
  have e:=hstop i H hg
  subst e
  refine W'.done s _ _ st' fun h' tk hk=>⟨rfl,?_⟩
  exact I.turnedL hk fun b hb=>hf b (hwr b hb)
 self:=self
def zln(n:Nat)(Gd:Hp->Prop)(xs:List (List V)):It:=
 ⟨fun i H=>i<n/\Gd H,fun i H x H'=>∃T ys,x=.ref T/\H T=none/\xs[i]?=some ys/\H'=upd H T (.tup ys),fun i H=>i=n/\Gd H⟩
theorem zni{K:PySem.W.Frag}{H₁:Hp}{n:Nat}{Gd:Hp->Prop}{xs:List (List V)}{pss:List (List PV)}(hn:pss.length=n)(hg:∀H,Kp H₁ H->Gd H)(r:∀(i:Nat)(ps:List PV)(ys:List V),pss[i]?=some ps->xs[i]?=some ys->Reps K H₁ ps ys) :
  ItP K (zln n Gd xs) H₁ (pss.map PV.tup):=fun i H k=>by
 refine⟨fun h=>⟨by rw[h,List.length_map,hn],hg H k⟩,fun p e=>?_⟩
 rw[List.getElem?_map] at e
 cases hp:pss[i]? with
 | none=>rw[hp] at e;cases e
 | some ps=>
  rw[hp] at e
  cases e
  have hi:i<n:=by rw[← hn];exact(List.getElem?_eq_some_iff.mp hp).1
  refine⟨⟨hi,hg H k⟩,fun x H' ⟨T,ys,ex,nT,ey,eH⟩=>?_⟩
  subst ex eH
  refine⟨Same.new nT,T,ys,rfl,zai,?_⟩
  exact(Reps.kp k ps (r i ps ys hp ey)).same (Same.new nT)
end PU
namespace PU
open PySem PySem.Spec PyProof.Rows L2 PySem.SeqAt
variable[TW]
theorem zgn:bootBuiltins "enumerate"=some (.type "enumerate"):=by decide +kernel
def zlv(x:Str):List V:=x.cps.toList.map fun c=>.str ⟨#[c]⟩
theorem zpn{K:PySem.W.Frag}{H:Hp}(x:Str):Reps K H (zfo x) (zlv x):=by
 unfold zfo zlv
 induction x.cps.toList with
 | nil=>rfl
 | cons c r ih=>exact⟨_,_,rfl,rfl,ih⟩
def numV(xs:List V):List (List V):=(List.range xs.length).zipWith (fun (i:Nat) x=>[.int (i:Int),x]) xs
theorem znc{α β:Type}(f:Nat->α->β)(l:List α)(i:Nat):((List.range l.length).zipWith f l)[i]?=l[i]?.map (f i):=by
 rw[List.getElem?_zipWith]
 by_cases hi:i<l.length
 ·rw[List.getElem?_range hi]
  simp[hi]
 ·rw[List.getElem?_eq_none (by simpa using hi)]
  simp[hi]
theorem zk7{K:PySem.W.Frag}{H:Hp}{ps:List PV}{xs:List V}(r:Reps K H ps xs):∀(i:Nat)(qs:List PV)(ys:List V),(numP ps)[i]?=some qs->(numV xs)[i]?=some ys->Reps K H qs ys:=fun i qs ys h1 h2=>by
 unfold numP at h1
 unfold numV at h2
 rw[znc] at h1 h2
 cases e:ps[i]? with
 | none=>rw[e] at h1;cases h1
 | some p=>
  rw[e] at h1
  obtain⟨x,ex,rp⟩:=r.get e
  rw[ex] at h2
  cases h1
  cases h2
  exact⟨_,_,rfl,rfl,_,_,rfl,rp,rfl⟩
theorem zir(ps:List PV):(numP ps).length=ps.length:=by simp[numP]
section
variable{P : Program}{w : World}{K : PySem.W.Frag}{elts : List Expr}{kk : Nat}{tp : Pos}
theorem zka(a it e:Addr)(xs:List V)(hne:e≠it)(hae:a≠e)(hai:a≠it) :
  Turn P w K (.Tuple elts kk tp) (zln xs.length (fun H=>SqL K H a xs) (numV xs)) [e,it] e (fun i h=>(∃old,IsEnum h e it i old)/\h.IsListIter it a i):=by
 refine zqu (wr:=[e,it]) (n:=xs.length) (fun X pins σ H s i hP hw hK hc I st hg=>?_) (by simp) (fun b hb=>hb) (fun i h st b hb=>?_) (fun i h h' st k=>?_) (fun i H h=>h.1) (fun i H h=>h.1) fun A i s Q E st h=>wpAny_pyIter_enum st.1.choose_spec h
 ·subst hP hw hK
  have hq:SqL X.K H a xs:=by rcases hg with h | h <;> exact h.2
  obtain⟨its,rv,pl,hz⟩:=I.list hq
  have hl:=rv.length
  have W:=WalksT.enumerateD (A:=X.A) (Draws.list (prog:=X.prog) (w:=X.w) (A:=X.A.in1) (I.ok.hd hc) it a hai its.toArray) e hne (by simp[hne,Ne.symm hae]) (by simp)
  rw[show its.toArray.size=xs.length by simp[hl]] at W
  refine⟨_,_,_,_,W,⟨st.1,st.2,pl.isList⟩,fun j h st=>⟨st.1,st.2.1⟩,fun vals hv=>?_⟩
  obtain⟨t,x,hx,rfl⟩:=hv
  have hx:its[i]?=some x:=by simpa using hx
  have hi:i<xs.length:=by rw[hl];exact(List.getElem?_eq_some_iff.mp hx).1
  have e1:xs[i]?=some xs[i]:=by simp[hi]
  obtain⟨u,eu,ru⟩:=rv.get e1
  rw[hx] at eu
  cases eu
  refine⟨[.int i,xs[i]],.cons ⟨t,rfl⟩ (.cons ru .nil),by show 2<=sizeLine;decide,fun z=>(by obtain⟨b,z⟩:=z _ List.mem_cons_self;cases z),fun T hT=>⟨T,_,rfl,hT,?_,rfl⟩⟩
  unfold numV
  rw[znc,e1]
  rfl
 ·obtain⟨⟨old,he⟩,o,ho,hc,hd⟩:=st
  rcases List.mem_cons.mp hb with rfl | hb
  ·exact⟨_,he,fun v z=>by cases (show Data.fields _=Data.cell v from z)⟩
  ·have:b=it:=by simpa using hb
   subst this
   exact⟨o,ho,fun v z=>by rw[hd] at z;cases z⟩
 ·obtain⟨⟨old,he⟩,hi⟩:=st
  exact⟨⟨old,k e (by simp) _ he⟩,hi.at fun o x=>k it (by simp) o x⟩
theorem zs2{prog:Program}{w:World}{A:Around}(hh:A.handled=none)(it:Addr)(x:Str)(t:Tok) :
  Draws prog w A it [it] x.cps.size (fun i v=>∃c u,x.cps[i]?=some c/\v=.str ⟨#[c]⟩ u) (fun i h=>h.IsStrIter it (strIterType x) x t i):=by
 unfold strIterType
 split
 ·exact Draws.strAscii hh it x t
 ·exact Draws.strWide hh it x t
theorem zpk(it e:Addr)(x:Str)(t:Tok)(hne:e≠it) :
  Turn P w K (.Tuple elts kk tp) (zln x.cps.size (fun _=>True) (numV (zlv x))) [e,it] e (fun i h=>(∃old,IsEnum h e it i old)/\h.IsStrIter it (strIterType x) x t i):=by
 refine zqu (wr:=[e,it]) (n:=x.cps.size) (fun X pins σ H s i hP hw hK hc I st hg=>?_) (by simp) (fun b hb=>hb) (fun i h st b hb=>?_) (fun i h h' st k=>?_) (fun i H h=>h.1) (fun i H h=>h.1) fun A i s Q E st h=>wpAny_pyIter_enum st.1.choose_spec h
 ·subst hP hw hK
  refine⟨_,_,_,_,WalksT.enumerateD (A:=X.A) (zs2 (A:=X.A.in1) (I.ok.hd hc) it x t) e hne (by simp[hne]) (by simp),⟨st.1,st.2⟩,fun j h st=>⟨st.1,st.2⟩,fun vals hv=>?_⟩
  obtain⟨t',v,⟨c,u,hc',rfl⟩,rfl⟩:=hv
  have e1:(zlv x)[i]?=some (.str ⟨#[c]⟩):=by
   unfold zlv
   rw[List.getElem?_map]
   simp[hc']
  refine⟨[.int i,.str ⟨#[c]⟩],.cons ⟨t',rfl⟩ (.cons ⟨u,rfl⟩ .nil),by show 2<=sizeLine;decide,fun z=>(by obtain⟨b,z⟩:=z _ List.mem_cons_self;cases z),fun T hT=>⟨T,_,rfl,hT,?_,rfl⟩⟩
  unfold numV
  rw[znc,e1]
  rfl
 ·obtain⟨⟨old,he⟩,o,ho,hc,hd⟩:=st
  rcases List.mem_cons.mp hb with rfl | hb
  ·exact⟨_,he,fun v z=>by cases (show Data.fields _=Data.cell v from z)⟩
  ·have:b=it:=by simpa using hb
   subst this
   exact⟨o,ho,fun v z=>by rw[hd] at z;cases z⟩
 ·obtain⟨⟨old,he⟩,o,ho,r⟩:=st
  exact⟨⟨old,k e (by simp) _ he⟩,o,k it (by simp) o ho,r⟩
end
theorem zs1 {C:Cn} {e:Expr} {elts:List Expr} {kk:Nat} {tp p pos:Pos} {f:PSt->R PV} (hg:Gl C.X "enumerate") (hm:C.X.mg "enumerate"=none) (he:EV C e f) (hs:starEach [e] C.X.env=[(false,eval e C.X.env)]:=by exact zcd rfl) :
  EI C (.Tuple elts kk tp) (.Call (.Name "enumerate" p) [e] [] pos) (zsz f):=by
 intro pins s σ H Rk I ⟨ρ,vw,q⟩
 refine Call_ (zih I hg hm zgn (PyProof.Rows.callWith_type1 (thn ((zcj he zft hs) pos pins s σ H (fun vs H'=>∃v p ps,vs=[v]/\Same H H'/\Rep C.X.K H' p v/\zmt p=some ps/\∀J H2,Same H' H2->ItP C.X.K J H2 ps->Rk J H2) I ⟨ρ,vw,q.bind.imp fun p _ k v H' s' r=>?_⟩)
  fun us s1 ⟨vs,H1,I1,r1,v,p,ps,ev,sm,rp,ep,k⟩=>?_) hs rfl))
 ·obtain⟨ps,ep,k⟩:=k.ofO
  exact⟨v,p,ps,rfl,s',r,ep,fun J H2 s2 it=>k J H2 (s'.trans s2) it⟩
 ·subst ev
  obtain⟨u,rfl,ru⟩:=vals1 r1
  have hne:s1.heap.objs.size+1≠s1.heap.objs.size:=Nat.succ_ne_self _
  have fp:∀{h':Heap},(∀b o,s1.heap.get? b=some o->h'.get? b=some o)->L2.Inv C.X pins σ H1 { s1 with heap:=h' }/\∀b∈[s1.heap.objs.size+1,s1.heap.objs.size],FpOk C.X pins H1 b:=fun {h'} hk=>by
   refine⟨I1.kept (t':=s1.toks) hk,fun b hb=>?_⟩
   have hb:s1.heap.objs.size<=b:=by
    simp only[List.mem_cons,List.not_mem_nil,or_false] at hb
    rcases hb with rfl | rfl
    ·exact Nat.le_succ _
    ·exact Nat.le_refl _
   exact I1.fpOk hb (I1.hok.fresh hb)
  cases p with
  | lst qs=>
   cases ep
   obtain⟨a,xs,rfl,g,rr⟩:=rp
   cases ru
   obtain⟨its,rv,pl,hz⟩:=I1.list g.l.l
   have ha:a<s1.heap.objs.size:=by obtain⟨o,n,ho,_⟩:=pl;exact Heap.lt_size ho
   refine call_enumerate_list pl.isList fun h' he' hi' hsz hk=>wpAny_pyIter_enum he' ?_
   obtain⟨I2,hf⟩:=fp hk
   refine⟨_,_,_,_,H1,rfl,I2,zka a s1.heap.objs.size (s1.heap.objs.size+1) xs hne (Nat.ne_of_lt (Nat.lt_succ_of_lt ha)) (Nat.ne_of_lt ha),⟨⟨_,he'⟩,hi'⟩,hf,k _ H1 (Same.refl H1) ?_⟩
   exact zni (by rw[zir,rr.length]) (fun H2 k2=>(k2.sqF g).l.l) (zk7 rr)
  | str x=>
   cases ep
   cases (show v=.str x from rp)
   obtain⟨t,rfl⟩:=ru
   refine call_enumerate_str fun h' he' hi' hsz hk=>wpAny_pyIter_enum he' ?_
   obtain⟨I2,hf⟩:=fp hk
   refine⟨_,_,_,_,H1,rfl,I2,zpk s1.heap.objs.size (s1.heap.objs.size+1) x t hne,⟨⟨_,he'⟩,hi'⟩,hf,k _ H1 (Same.refl H1) ?_⟩
   exact zni (by rw[zir];simp[zfo]) (fun H2 k2=>trivial) (zk7 (zpn x))
  | _=>cases ep
end PU
namespace PU
open PySem PySem.Spec PyProof.Rows L2 PySem.SeqAt
variable[TW]
theorem zu4{K:PySem.W.Frag}{H:Hp}(k:Key):Rep K H (keyP k) (kV k):=by
 cases k <;> rfl
section
variable{P : Program}{w : World}{K : PySem.W.Frag}{elts : List Expr}{kk : Nat}{tp : Pos}
theorem zpx{kvs:List (Key×V)}{vs:List (Key×Value)}(rel:KV kvs vs):∀{i:Nat}{a:Key×V}{b:Key×Value},kvs[i]?=some a->vs[i]?=some b->a.1=b.1/\RelV a.2 b.2:=by
  induction rel with
  | nil=>intro i a b h _;simp at h
  | cons h t ih=>
   intro i a b h1 h2
   cases i with
   | zero=>simp at h1 h2;subst h1 h2;exact h
   | succ i=>exact ih (by simpa using h1) (by simpa using h2)
def DObj(K:PySem.W.Frag)(H:Hp)(d:Addr)(o:Obj)(kvs:List (Key×V)):Prop:=H d=some (.frz o (.dK kvs))\/(K.lookup d=some o/\KDict K d kvs)
theorem DObj.at{X:Cx}{pins:List (Addr×Obj)}{σ:L2.St}{H:Hp}{s:Shared}{d:Addr}{o:Obj}{kvs:List (Key×V)}{es:Array DictEntry}{ep:Nat}(hw:X.w=TW.w)(I:L2.Inv X pins σ H s)(h:DObj X.K H d o kvs)(ho:o.data=.dict es ep) :
  ∃vs,KV kvs vs/\s.heap.DictAt (zax X.prog X.w) d vs ep/\s.heap.get? d=some o/\o.ExactDict:=by
 rcases h with hq | ⟨hk,_,_,o2,es2,ep2,e,x,d2,r⟩
 ·obtain⟨e0,z,_,vs,rel,o',es',ep',e1,x1,d1,rest⟩:=I.hok d _ hq
  rw[e0] at e1
  cases e1
  rw[ho] at d1
  cases d1
  exact⟨vs,rel,⟨o,es,e0,x1,ho,rest⟩,e0,x1⟩
 ·rw[hk] at e
  cases e
  rw[ho] at d2
  cases d2
  obtain⟨vs,rel,rest⟩:=r X.prog
  rw[← hw] at rest
  exact⟨vs,rel,⟨o,es,I.kIn _ _ hk,x,ho,rest⟩,I.kIn _ _ hk,x⟩
end
end PU
namespace PU
open PySem PySem.Spec PyProof.Rows L2 PySem.SeqAt
variable[TW]
section
variable{P : Program}{w : World}{K : PySem.W.Frag}{tg : Expr}
def zw5(K:PySem.W.Frag)(d:Addr)(o:Obj)(kvs:List (Key×V)):It:=
 ⟨fun i H=>i<kvs.length/\DObj K H d o kvs,fun i H x H'=>H'=H/\∃kv,kvs[i]?=some kv/\x=kV kv.1,fun i H=>i=kvs.length/\DObj K H d o kvs⟩
theorem DObj.kp{H H':Hp}{d:Addr}{o:Obj}{kvs:List (Key×V)}(k:Kp H H')(h:DObj K H d o kvs):DObj K H' d o kvs:=by
 rcases h with h | h
 ·exact .inl (k _ _ h rfl)
 ·exact .inr h
theorem zyp{H:Hp}{d:Addr}{o:Obj}{kvs:List (Key×V)}{ks:List Key}(g:DObj K H d o kvs)(e:kvs.map (·.1)=ks):ItP K (zw5 K d o kvs) H (ks.map keyP):=fun i H' k=>by
 subst e
 refine⟨fun h=>⟨by simpa using h,g.kp k⟩,fun p ep=>?_⟩
 rw[List.getElem?_map,List.getElem?_map] at ep
 cases hk:kvs[i]? with
 | none=>rw[hk] at ep;cases ep
 | some kv=>
  rw[hk] at ep
  cases ep
  refine⟨⟨(List.getElem?_eq_some_iff.mp hk).1,g.kp k⟩,fun x H2 ⟨eh,kv',e1,e2⟩=>?_⟩
  rw[hk] at e1
  cases e1
  subst eh e2
  exact⟨Same.refl _,zu4 kv.1⟩
theorem zqt(d it:Addr)(o:Obj)(es:Array DictEntry)(ep:Nat)(ho:o.data=.dict es ep)(kvs:List (Key×V))(hw:w=TW.w):Turn P w K tg (zw5 K d o kvs) [it] it (fun i h=>h.IsKeyIter it d i kvs.length ep) where
 mem:=by simp
 obj:=fun i h st b hb=>by
  have e:b=it:=by simpa using hb
  subst e
  obtain⟨o,e,c,dd⟩:=st
  exact⟨o,e,fun v z=>by rw[dd] at z;cases z⟩
 keep:=fun i h h' st k=>st.at fun o e=>k it (by simp) o e
 item:=by
  intro X hP hw hK hc i pins s σ H E I hf st hg
  subst hP hw hK
  obtain⟨hi,hq⟩:=hg
  obtain⟨vs,rel,dat,_,_⟩:=hq.at hw I ho
  have hl:kvs.length=vs.length:=Paired.length rel
  obtain⟨f0,f1,f2,f3,f4,f5⟩:=hf it (by simp)
  have eg:vs[i]?=some vs[i]:=by simp[← hl,hi]
  have egk:kvs[i]?=some kvs[i]:=by simp[hi]
  obtain⟨hk1,hk2⟩:kvs[i].1=vs[i].1/\RelV kvs[i].2 vs[i].2:=zpx rel egk eg
  rw[hl] at st
  refine wpAny_pyNext_dict_item st dat (k:=vs[i].1) (v:=vs[i].2) eg fun key h' hkey st' sb=>?_
  have I1:Inv X pins σ H { s with heap:=h' }:=I.turned (t':=s.toks) (fun b o hb e=>(sb.2 b hb).trans e) f0 f1 f3 f4 f5
  obtain⟨oi,e,c,dd⟩:=id st'
  have rk:RelV (kV kvs[i].1) key:=by
   rw[hk1]
   rcases zbg hkey with⟨j,t,e1,e2⟩|⟨y,t,e1,e2⟩
   ·rw[e1,e2];exact⟨t,rfl⟩
   ·rw[e1,e2];exact⟨t,rfl⟩
  exact⟨key,rfl,zse (s:={ s with heap:=h' }) e c dd (by decide) ⟨kV kvs[i].1,H,I1,rk,⟨rfl,_,egk,rfl⟩,by rw[hl];exact st',fun b hb=>(hf b hb).1⟩⟩
 done:=by
  intro X hP hw hK hc i pins s σ H E I hf st hg
  subst hP hw hK
  obtain⟨hi,hq⟩:=hg
  obtain⟨vs,rel,dat,_,_⟩:=hq.at hw I ho
  have hl:kvs.length=vs.length:=Paired.length rel
  obtain⟨f0,f1,f2,f3,f4,f5⟩:=hf it (by simp)
  rw[hl] at st
  exact wpAny_pyNext_dict_end (I.ok.hd hc) st dat (by simp[← hl,hi]) fun h' eb=>⟨rfl,I.turned (t':=s.toks) (fun b o hb e=>eb b o hb e) f0 f1 f3 f4 f5⟩
 self:=fun _ _ _ _ _ st h=>wpAny_pyIter_keyiter st h
def zto(x:Str):It:=⟨fun i _=>i<x.cps.size,fun i H y H'=>H'=H/\∃c,x.cps[i]?=some c/\y=.str ⟨#[c]⟩,fun i _=>i=x.cps.size⟩
theorem zu7{H:Hp}{x:Str}:ItP K (zto x) H (zfo x):=fun i H' k=>by
 refine⟨fun h=>show i=x.cps.size by simpa [zfo] using h,fun p ep=>?_⟩
 unfold zfo at ep
 rw[List.getElem?_map] at ep
 cases hk:x.cps.toList[i]? with
 | none=>rw[hk] at ep;cases ep
 | some c=>
  rw[hk] at ep
  cases ep
  refine⟨show i<x.cps.size by simpa using (List.getElem?_eq_some_iff.mp hk).1,fun y H2 ⟨eh,c',e1,e2⟩=>?_⟩
  have:c'=c:=by
   rw[Array.getElem?_toList] at hk
   rw[hk] at e1
   exact(Option.some.inj e1).symm
  subst this eh e2
  exact⟨Same.refl _,rfl⟩
theorem zlo{A:Around}(hh:A.handled=none)(it:Addr)(x:Str)(t:Tok):Walks P w A it [it] [it] x.cps.size (SignAt x) (fun i h=>h.IsStrIter it (strIterType x) x t i):=by
 unfold strIterType
 split
 ·exact Walks.strAscii hh it x t
 ·exact Walks.strWide hh it x t
theorem zm7 (x:Str):["enumerate","zip","dict_itemiterator","dict_reverseitemiterator","odict_iterator","itertools.zip_longest","itertools.pairwise"].contains (strIterType x)=false:=by
 unfold strIterType
 split <;> decide
theorem zpi(it:Addr)(x:Str)(t:Tok):Turn P w K tg (zto x) [it] it (fun i h=>h.IsStrIter it (strIterType x) x t i) where
 mem:=by simp
 obj:=fun i h st b hb=>by
  have e:b=it:=by simpa using hb
  subst e
  obtain⟨o,e,c,dd⟩:=st
  exact⟨o,e,fun v z=>by rw[dd] at z;cases z⟩
 keep:=fun i h h' st k=>by
  obtain⟨o,e,r⟩:=st
  exact⟨o,k it (by simp) o e,r⟩
 item:=by
  intro X hP hw hK hc i pins s σ H E I hf st hg
  subst hP hw hK
  obtain⟨f0,f1,f2,f3,f4,f5⟩:=hf it (by simp)
  have W:=zlo (P:=X.prog) (w:=X.w) (I.ok.hd hc) it x t
  refine W.item i s _ _ hg st fun v h' tk hv st' kk=>?_
  obtain⟨c,u,ec,rfl⟩:=hv
  have I1:Inv X pins σ H { s with heap:=h',toks:=tk }:=I.turned (fun b o hb e=>kk b o (by simpa using hb) e) f0 f1 f3 f4 f5
  obtain⟨oi,e,cc,dd⟩:=id st'
  exact⟨_,rfl,zse (s:={ s with heap:=h',toks:=tk }) e cc dd (zm7 x) ⟨.str ⟨#[c]⟩,H,I1,⟨u,rfl⟩,⟨rfl,c,ec,rfl⟩,st',fun b hb=>(hf b hb).1⟩⟩
 done:=by
  intro X hP hw hK hc i pins s σ H E I hf st hg
  subst hP hw hK
  obtain⟨f0,f1,f2,f3,f4,f5⟩:=hf it (by simp)
  have W:=zlo (P:=X.prog) (w:=X.w) (I.ok.hd hc) it x t
  have hg:i=x.cps.size:=hg
  subst hg
  refine W.done s _ _ st fun h' tk hk=>⟨rfl,I.turned (fun b o hb e=>hk b o (by simpa using hb) e) f0 f1 f3 f4 f5⟩
 self:=fun A i s Q E st h=>by
  unfold strIterType at st
  split at st
  ·exact wpAny_pyIter_striter_ascii st h
  ·exact wpAny_pyIter_striter_wide st h
end
section
variable{C : Cn}{e tg : Expr}{f : PSt → R PV}
theorem zfj(he:EV C e f)(hw:C.X.w=TW.w:=by rfl):EI C tg e (itF f):=by
 intro pins s σ H R I ⟨ρ,vw,q⟩
 refine thn (he pins s σ H (fun v H'=>∃p ps,Same H H'/\Rep C.X.K H' p v/\zfw p=some ps/\∀J H2,Same H' H2->ItP C.X.K J H2 ps->R J H2) I ⟨ρ,vw,q.bind.imp fun p _ k v H' s' r=>?_⟩) fun v s1 ⟨x,H1,I1,r1,p,ps,sm,rp,ep,k⟩=>?_
 ·obtain⟨ps,ep,k⟩:=k.ofO
  exact⟨p,ps,s',r,ep,fun J H2 s2 it=>k J H2 (s'.trans s2) it⟩
 ·cases p with
  | lst qs=>
   cases ep
   obtain⟨a,xs,rfl,g,rr⟩:=rp
   cases r1
   obtain⟨its,rv,pl,hz⟩:=I1.list g.l.l
   refine wpAny_pyIter_list pl.isList ?_
   refine⟨s1.heap.objs.size,[s1.heap.objs.size],_,_,H1,rfl,I1.kept (t':=s1.toks) fun b o e=>Heap.get?_push_of_some _ e,zlr a _,⟨_,Heap.get?_push_size _ rfl,rfl,rfl⟩,fun b hb=>?_,k _ H1 (Same.refl H1) (zyo g rr)⟩
   have e:b=s1.heap.objs.size:=by simpa using hb
   subst e
   exact I1.fpOk (Nat.le_refl _) (I1.hok.fresh (Nat.le_refl _))
  | tup qs=>
   cases ep
   obtain⟨a,xs,rfl,g,rr⟩:=rp
   cases r1
   obtain⟨its,rv,pl,hz⟩:=I1.tuple (tq g)
   refine wpAny_pyIter_tuple (show s1.heap.IsTuple a its.toArray from pl) ?_
   refine⟨s1.heap.objs.size,[s1.heap.objs.size],_,_,H1,rfl,I1.kept (t':=s1.toks) fun b o e=>Heap.get?_push_of_some _ e,zph a _,⟨_,Heap.get?_push_size _ rfl,rfl,rfl⟩,fun b hb=>?_,k _ H1 (Same.refl H1) (Zb3 (tq g) rr)⟩
   have e:b=s1.heap.objs.size:=by simpa using hb
   subst e
   exact I1.fpOk (Nat.le_refl _) (I1.hok.fresh (Nat.le_refl _))
  | dct ks qs=>
   cases ep
   obtain⟨a,kvs,rfl,g,ek,rr⟩:=rp
   cases r1
   obtain⟨o,es,ep,ho,hq,hs⟩:∃o es ep,o.data=.dict es ep/\DObj C.X.K H1 a o kvs/\(a == sysModules)=false:=by
    rcases g with⟨o,g⟩ | g
    ·obtain⟨e0,z,hs,vs,rel,o',es',ep',e1,x1,d1,rest⟩:=I1.hok a _ g
     rw[e0] at e1
     cases e1
     exact⟨o,es',ep',d1,.inl g,hs⟩
    ·obtain⟨_,hs,o,es,ep,e,x,d,r⟩:=id g
     exact⟨o,es,ep,d,.inr ⟨e,g⟩,hs⟩
   obtain⟨vs,rel,dat,_,_⟩:=hq.at hw I1 ho
   have hl:kvs.length=vs.length:=Paired.length rel
   refine wpAny_pyIter_dict hs dat ?_
   refine⟨s1.heap.objs.size,[s1.heap.objs.size],_,_,H1,rfl,I1.kept (t':=s1.toks) fun b o e=>Heap.get?_push_of_some _ e,zqt a _ o es ep ho kvs hw,⟨_,Heap.get?_push_size _ rfl,rfl,by rw[hl];rfl⟩,fun b hb=>?_,k _ H1 (Same.refl H1) (zyp hq ek)⟩
   have e:b=s1.heap.objs.size:=by simpa using hb
   subst e
   exact I1.fpOk (Nat.le_refl _) (I1.hok.fresh (Nat.le_refl _))
  | str y=>
   cases ep
   cases (show x=.str y from rp)
   obtain⟨t,rfl⟩:=r1
   refine wpAny_pyIter_strU ?_
   refine⟨s1.heap.objs.size,[s1.heap.objs.size],_,_,H1,rfl,I1.kept (t':=s1.toks) fun b o e=>Heap.get?_push_of_some _ e,zpi _ y t,⟨_,Heap.get?_push_size _ rfl,rfl,rfl⟩,fun b hb=>?_,k _ H1 (Same.refl H1) zu7⟩
   have e:b=s1.heap.objs.size:=by simpa using hb
   subst e
   exact I1.fpOk (Nat.le_refl _) (I1.hok.fresh (Nat.le_refl _))
  | _=>cases ep
end
end PU
namespace PU
open PySem PySem.Spec PyProof.Rows L2 PySem.SeqAt
variable[TW]
def IsiC (K:PySem.W.Frag) (c:String):Prop:=∀t∈["NoneType","bool","int","str","tuple","list","dict"],PySem.W.kitOne K (.type t) (.type c)=some (isiB t c)
theorem zyq {K:PySem.W.Frag}:IsiC K "str":=by intro t ht;simp only[List.mem_cons,List.not_mem_nil,or_false] at ht;rcases ht with rfl | rfl | rfl | rfl | rfl | rfl | rfl <;> first | rfl | kernel_rfl
theorem zr4 {K:PySem.W.Frag}:IsiC K "tuple":=by intro t ht;simp only[List.mem_cons,List.not_mem_nil,or_false] at ht;rcases ht with rfl | rfl | rfl | rfl | rfl | rfl | rfl <;> first | rfl | kernel_rfl
theorem zu8 {K:PySem.W.Frag}:IsiC K "list":=by intro t ht;simp only[List.mem_cons,List.not_mem_nil,or_false] at ht;rcases ht with rfl | rfl | rfl | rfl | rfl | rfl | rfl <;> first | rfl | kernel_rfl
theorem zyy{c:String}{p z:PV}(h:gIsi c p=some z):z=.bl (isiB (tyN p) c):=by
 cases p <;> cases h <;> rfl
def rIsi(K:PySem.W.Frag)(c:String):List V->Hp->VK->Prop:=fun vs H Q=>∃v p,vs=[v,.ty c]/\RepO K H p v/\(gIsi c p).isSome=true/\Q (.bl (isiB (tyN p) c)) H
theorem cIsi {X:Cx} {c:String} (hw:X.w=TW.w) (h:IsiC X.K c):zgz X (.builtin "isinstance") (rIsi X.K c):=by
 intro pins s σ H xs us Q I r ⟨v,p,e1,rp,hsm,q⟩
 subst e1
 obtain⟨u,u2,rfl,ru,ru2⟩:=vals2 r
 cases (show u2=Value.type c from ru2)
 have fin:∀tk,EP X pins σ Q (.bool (isiB (tyN p) c)) { s with toks:=tk }:=fun tk=>⟨.bl _,H,I.tok _,rfl,q⟩
 have hk:=fun t ht=>h t ht
 cases p with
 | non=>cases (show v=.non from rp);cases ru;exact PySem.W.kia_one PySem.W.kitx_none I.kIn True.intro (hk _ (by simp[tyN])) (fun z=>nomatch z) fin
 | bl b=>cases (show v=.bl b from rp);cases ru;exact PySem.W.kia_one PySem.W.kitx_bool I.kIn True.intro (hk _ (by simp[tyN])) (fun z=>nomatch z) fin
 | int i=>cases (show v=.int i from rp);obtain⟨t,rfl⟩:=ru;exact PySem.W.kia_one PySem.W.kitx_int I.kIn True.intro (hk _ (by simp[tyN])) (fun z=>nomatch z) fin
 | str i=>cases (show v=.str i from rp);obtain⟨t,rfl⟩:=ru;exact PySem.W.kia_one PySem.W.kitx_str I.kIn True.intro (hk _ (by simp[tyN])) (fun z=>nomatch z) fin
 | tup ps=>
  obtain⟨a,ys,rfl,g,_⟩:=RepO.tup_inv rp
  cases ru
  obtain⟨its,_,⟨o,e,c',_⟩,_⟩:=I.tuple g
  exact PySem.W.kia_one PySem.W.kitx_tuple I.kIn ⟨o,e,c'⟩ (hk _ (by simp[tyN])) (fun z=>nomatch z) fin
 | lst ps=>
  obtain⟨a,ys,rfl,g,_⟩:=RepO.lst_inv rp
  cases ru
  obtain⟨_,its,n,_,e⟩:=g.is I
  exact PySem.W.kia_one PySem.W.kitx_list I.kIn ⟨_,e,rfl⟩ (hk _ (by simp[tyN])) (fun z=>nomatch z) fin
 | dct ks ps=>
  obtain⟨a,kvs,rfl,g,_⟩:=rp
  cases ru
  obtain⟨_,_,vs,_,o,es,ep,e,x,_⟩:=DkR.at hw I g
  exact PySem.W.kia_one PySem.W.kitx_dict I.kIn ⟨o,e,x.1⟩ (hk _ (by simp[tyN])) (fun z=>nomatch z) fin
 | dtt ks ps=>
  obtain⟨a,kvs,rfl,g,_⟩:=rp
  cases ru
  obtain⟨_,_,_,_,o,es,ep,e,x,_⟩:=znr I.hok g
  exact PySem.W.kia_one PySem.W.kitx_dict I.kIn ⟨o,e,x.1⟩ (hk _ (by simp[tyN])) (fun z=>nomatch z) fin
 | fn L cs=>cases hsm
theorem zsv {C:Cn} {e:Expr} {f:PSt->R PV} {c:Str} {cs:String} {p p2 pos:Pos} (h:IsiC C.X.K cs) (hg:Gl C.X "isinstance") (hm:C.X.mg "isinstance"=none) (hg2:Gl C.X c) (hm2:C.X.mg c=none) (hb2:bootBuiltins c=some (.type cs)) (ha:EO C e f)
  (hs:starEach [e,.Name c p2] C.X.env=[(false,eval e C.X.env),(false,eval (.Name c p2) C.X.env)]:=by exact zn4 rfl rfl) (hs2:starEach [.Name c p2] C.X.env=[(false,eval (.Name c p2) C.X.env)]:=by rfl)
  (hn:c≠"__name__":=by decide) (hd:(c == ("__debug__":Str))=false:=by decide) (hw:C.X.w=TW.w:=by rfl):EV C (.Call (.Name "isinstance" p) [e,.Name c p2] [] pos) (un1 f (gIsi cs)):=by
 intro pins s σ H Q I ⟨ρ,vw,q⟩
 have hpa:PA C.X [e,.Name c p2] (zxe (tO C f) (zxe (tC (.ty cs)) tNil)):=zcj ha (zcj (zx3 hg2 hm2 hb2 rfl hn hd) zft hs2) (by rw[hs,hs2])
 refine zog (cIsi hw h) hg hm (by decide +kernel) hpa (by decide) (by decide) (by rw[hs,hs2]) (by rw[hs2];rfl) pins s σ H Q I ⟨ρ,vw,q.bind.imp fun p _ k v H1 s1 r1=>?_⟩
 obtain⟨z,ez,k⟩:=RQ.ofO k
 have hz:=zyy ez
 subst hz
 exact⟨v,p,rfl,r1,by rw[ez];rfl,k _ H1 s1 rfl⟩
theorem zo7{C:Cn}{e:Expr}{f:PSt->R PV}{pos:Pos}(h:EV C e f):EV C (.UnaryOp .USub e pos) (un1 f gNeg):=by
 intro pins s σ H Q I ⟨ρ,vw,q⟩
 refine Zeh zz9 h pins s σ H Q I ⟨ρ,vw,q.bind.imp fun p _ k v H1 s1 r1=>?_⟩
 obtain⟨z,ez,k⟩:=k.ofO
 cases p with
 | int i=>cases ez;cases (show v=.int i from r1);exact⟨i,rfl,k _ H1 s1 rfl⟩
 | _=>cases ez
def rM1(K:PySem.W.Frag)(g:PV->PV->Option PV):V->List V->Hp->VK->Prop:=fun v vs H Q=>∃p q z u,vs=[u]/\RepO K H p v/\RepO K H q u/\g p q=some z/\∀w H',Same H H'->Rep K H' z w->Q w H'
structure StrM(name:Str)(id:String):Prop where
 slot:Slot "str" name id
 ty:typeOf (.builtin id)=pure (.type "method_descriptor")
theorem Zch{C:Cn}{o e:Expr}{fo fe:PSt->R PV}{g:PV->PV->Option PV}{name:Str}{id:String}{apos cpos:Pos}(S:StrM name id)(hm:MtR C.X id (rM1 C.X.K g))(ho:EV C o fo)(he:EO C e fe)
  (hbase:attributeBase o name C.X.env (eval o C.X.env)=eval o C.X.env:=by rfl) (hline:(apos.endLine == cpos.line)=true:=by rfl) (hs:starEach [e] C.X.env=[(false,eval e C.X.env)]:=by exact zcd rfl) :
  EV C (.Call (.Attribute o name apos) [e] [] cpos) (meth1 fo fe g):=by
 intro pins s σ H Q I ⟨ρ,vw,q⟩
 refine Za4 PySem.F.plainAttrs_str S.slot S.ty hm ho (zo8 he hs) hbase (by rw[hs];rfl) hline hs (by rfl) pins s σ H Q I ⟨ρ,vw,q.bind.imp fun p _ k v H1 s1 r1=>?_⟩
 cases p with
 | str x=>
  cases (show v=.str x from r1)
  have k:RQ C H (fe ρ >>= fun q=>R.ofO (g (.str x) q)) fun p=>∀v H',Same H H'->Rep C.X.K H' p v->Q v H':=k
  refine⟨rfl,ρ,vw.same s1,(k.bind.same s1).imp fun p2 _ k2 u H2 s2 r2=>?_⟩
  obtain⟨z,ez,k3⟩:=k2.ofO
  exact⟨.str x,p2,z,u,rfl,rfl,r2,ez,fun w H3 s3 r3=>k3 w H3 ((s1.trans s2).trans s3) r3⟩
 | _=>exact False.elim k
theorem zh9{K:PySem.W.Frag}{H:Hp}:∀{ps:List PV}{xs:List V}{us:List Value}{ys:List Str},zik ps=some ys->Reps K H ps xs->Vals xs us->StrsAre us ys
 | [],_,_,_,e,r,rv=>by cases e;cases r;cases rv;exact .nil
 | p::ps,_,_,_,e,⟨x,t,ex,h1,h2⟩,rv=>by
  subst ex
  cases p with
  | str y=>
   obtain⟨r,er,ez⟩:=Option.map_eq_some_iff.mp (show (zik ps).map (y::·)=some _ from e)
   subst ez
   cases (show x=.str y from h1)
   cases rv with
   | cons a b=>
    obtain⟨tt,rfl⟩:=a
    exact .cons y tt (zh9 er h2 b)
  | _=>cases e
theorem Zec:StrM "join" "str.join":=⟨PySem.F.slot_str_join,PySem.F.type_str_join⟩
theorem Zez {X:Cx}:MtR X "str.join" (rM1 X.K zsk):=by
 intro pins s σ H x xs v us Q I rx rs ⟨p,q,z,u,e1,rp,rq,ez,k⟩
 subst e1
 obtain⟨u',rfl,ru⟩:=vals1 rs
 unfold zsk at ez
 split at ez
 ·rename_i y ps
  obtain⟨ys,ey,ez⟩:=Option.bind_eq_some_iff.mp ez
  split at ez
  ·rename_i hl
   cases ez
   cases (show x=.str y from rp)
   obtain⟨t,rfl⟩:=rx
   obtain⟨a,zs,rfl,g,rr⟩:=RepO.lst_inv rq
   cases ru
   obtain⟨_,its,n,rv,e⟩:=g.is I
   exact join_list (items:=its.toArray) ⟨_,e,rfl,_,rfl⟩ (zh9 ey rr (by simpa using rv)) hl fun t' k'=>⟨.str _,H,I.tok _,⟨_,rfl⟩,k _ H (Same.refl H) rfl⟩
  ·cases ez
 ·rename_i y ps
  obtain⟨ys,ey,ez⟩:=Option.bind_eq_some_iff.mp ez
  split at ez
  ·rename_i hl
   cases ez
   cases (show x=.str y from rp)
   obtain⟨t,rfl⟩:=rx
   obtain⟨a,zs,rfl,g,rr⟩:=RepO.tup_inv rq
   cases ru
   obtain⟨its,rv,pl,_⟩:=I.tuple g
   exact join_tuple (items:=its.toArray) pl (zh9 ey rr (by simpa using rv)) hl fun t' k'=>⟨.str _,H,I.tok _,⟨_,rfl⟩,k _ H (Same.refl H) rfl⟩
  ·cases ez
 ·cases ez
end PU
namespace PU
open PySem PySem.Spec PyProof.Rows L2 PySem.SeqAt
variable[TW]
def rSlP(K:PySem.W.Frag):V->Option Int->Option Int->Hp->VK->Prop:=fun v lo hi H Q=>∃p z,RepO K H p v/\gSl p lo hi=some z/\∀w H',Same H H'->Rep K H' z w->Q w H'
def tOI(C:Cn)(f:PSt->R (Option Int)):TO:=fun σ H Q=>∃ρ,View C.X.K H σ ρ/\RQ C H (f ρ) fun o=>∀H',Same H H'->Q o H'
def EOI(C:Cn)(e:Option Expr)(f:PSt->R (Option Int)):Prop:=PO C.X e (tOI C f)
theorem zpb{K:PySem.W.Frag}{H:Hp}{ps:List PV}{xs:List V}(r:Reps K H ps xs)(lo hi:Option Int):Reps K H (cutP ps lo hi) (cutV xs lo hi):=by
 unfold cutP cutV
 rw[r.length]
 exact(r.drop _).take _
section
variable{C : Cn}{e : Expr}{f : PSt → R PV}{lo hi : Option Expr}{l h : PSt → R (Option Int)}{pos p2 : Pos}
theorem zgp:EOI C none zgi:=fun pins s σ H Q I ⟨ρ,vw,q⟩=>zxy pins s σ H Q I (q H (Same.refl H))
theorem zgo(he:EV C e f):EOI C (some e) (zj6 f):=by
 intro pins s σ H Q I ⟨ρ,vw,q⟩
 refine zxx he pins s σ H Q I ⟨ρ,vw,q.bind.imp fun p _ k v H1 s1 r1=>?_⟩
 cases p with
 | int i=>cases (show v=.int i from r1);exact⟨i,rfl,k H1 s1⟩
 | _=>exact False.elim k
theorem slP{X:Cx}:SlR X (rSlP X.K):=by
 intro pins s σ H x v vl vu lo hi sl Q I rx hs pl pu ⟨p,z,rp,ez,k⟩
 cases p with
 | lst ps=>
  cases ez
  obtain⟨a,xs,rfl,g,rr⟩:=RepO.lst_inv rp
  obtain⟨T,id,h1,h2,h3⟩:=zxi pins s σ H _ v vl vu lo hi sl (fun w H'=>∃b,w=.ref b/\H b=none/\H'=upd H b (.lst (cutV xs lo hi))) I rx hs pl pu ⟨a,xs,rfl,g.l,fun b hb=>⟨b,rfl,hb,rfl⟩⟩
  refine⟨T,id,h1,h2,thn h3 fun u s' ⟨w,H',I',rw',b,ew,nb,eH⟩=>?_⟩
  subst ew eH
  obtain⟨H2,I2,rp2,oth⟩:=L2.Inv.frz (a:=b) (p:=.lst (cutP ps lo hi)) I' ⟨_,zai,(zpb rr lo hi).same (Same.new nb)⟩
  refine⟨.ref b,H2,I2,rw',k _ H2 (.of fun c o ec=>?_) rp2⟩
  have hc:=zbk ec nb
  rw[oth c hc,zah hc]
  exact ec
 | tup ps=>
  simp only[gSl] at ez
  obtain⟨a,xs,rfl,g,rr⟩:=RepO.tup_inv rp
  by_cases hw:HT.sIx ps.length 0 lo=0/\HT.sIx ps.length ps.length hi=ps.length
  ·rw[if_pos hw] at ez
   cases ez
  ·rw[if_neg hw] at ez
   cases ez
   exact Zai pins s σ H _ v vl vu lo hi sl Q I rx hs pl pu ⟨a,xs,rfl,g,by rw[← rr.length];exact hw,fun b hb=>k _ _ (Same.new hb) ⟨b,_,rfl,zai,(zpb rr lo hi).same (Same.new hb)⟩⟩
 | _=>cases ez
theorem zo6(ha:EO C e f)(hl:EOI C lo l)(hh:EOI C hi h):EV C (.Subscript e (.Slice lo hi none p2) pos) (zlu f l h):=by
 intro pins s σ H Q I ⟨ρ,vw,q⟩
 refine zof slP ha hl hh pins s σ H Q I ⟨ρ,vw,q.bind.imp fun p _ k v H1 s1 r1=>⟨ρ,vw.same s1,(k.bind.same s1).imp fun o1 _ k2 H2 s2=>⟨ρ,(vw.same s1).same s2,(k2.bind.same (s1.trans s2)).imp fun o2 _ k3 H3 s3=>?_⟩⟩⟩
 obtain⟨z,ez,k4⟩:=k3.ofO
 exact⟨p,z,(r1.same s2).same s3,ez,fun w H4 s4 r4=>k4 w H4 (((s1.trans s2).trans s3).trans s4) r4⟩
end
theorem zly{K:PySem.W.Frag}{H:Hp}{k:Key}{p:PV}{v:V}(rp:Rep K H p v):∀{kvs:List (Key×V)}{ps:List PV},Reps K H ps (kvs.map (·.2))->Reps K H (zim (kvs.map (·.1)) ps k p) ((kvs.map fun kv=>if kv.1=k then (kv.1,v) else kv).map (·.2))
 | [],ps,r=>by
  cases ps with
  | nil=>rfl
  | cons q qs=>obtain⟨x,t,e,_⟩:=r;cases e
 | kv::kvs,ps,r=>by
  cases ps with
  | nil=>cases r
  | cons q qs=>
   obtain⟨x,t,e,h1,h2⟩:=r
   simp only[List.map_cons,List.cons.injEq] at e
   obtain⟨rfl,rfl⟩:=e
   have ih:=zly (k:=k) rp h2
   simp only[List.map_cons,zim,List.zipWith_cons_cons]
   by_cases hk:kv.1=k
   ·rw[if_pos hk,if_pos hk];exact⟨_,_,rfl,rp,ih⟩
   ·rw[if_neg hk,if_neg hk];exact⟨_,_,rfl,h1,ih⟩
theorem zn9{K:PySem.W.Frag}{H:Hp}{kvs:List (Key×V)}{ps:List PV}{k:Key}{p:PV}{v:V}(rr:Reps K H ps (kvs.map (·.2)))(rp:Rep K H p v) :
  ∃ks' ps',putP (kvs.map (·.1)) ps k p=.dct ks' ps'/\(putK kvs k v).map (·.1)=ks'/\Reps K H ps' ((putK kvs k v).map (·.2)):=by
 unfold putP
 have e:((kvs.map (·.1)).any fun j=>decide (j=k))=(kvs.any fun kv=>decide (kv.1=k)):=by rw[List.any_map];rfl
 rw[e]
 unfold putK
 split
 ·refine⟨_,_,rfl,?_,zly rp rr⟩
  rw[List.map_map]
  apply List.map_congr_left
  intro kv _
  simp only[Function.comp]
  split <;> rfl
 ·refine⟨_,_,rfl,by simp,?_⟩
  rw[List.map_append]
  exact Reps.append rr ⟨_,_,rfl,rp,rfl⟩
theorem zm8{K:PySem.W.Frag}{H:Hp}{a:Addr}{kvs:List (Key×V)}{ps:List PV}{k:Key}{p:PV}{v:V}(rr:Reps K H ps (kvs.map (·.2)))(rp:Rep K H p v)(ha:H a=some (.dK (putK kvs k v))):zco K H a (putP (kvs.map (·.1)) ps k p):=by
 obtain⟨ks',ps',e,e1,e2⟩:=zn9 (k:=k) rr rp
 rw[e]
 exact⟨_,ha,e1,e2⟩
theorem zfn{C:Cn}(i:Nat){x:Str}{ke e:Expr}{fk fv:PSt->R PV}{np pos' pos:Pos}(hu:C.X.A.units+64<cLine)(hk:EV C ke fk)(hv:EV C e fv)(hN:C.X.N[i]?=some x:=by rfl)(hvis:Vis C.X.env.scope x:=by first | exact Or.inl rfl | exact Or.inr (Or.inl rfl))
  (hs:swapsWith e (some (.Subscript (.Name x np) ke pos')) pos.line C.X.env=pure false:=by rfl) (hd:(x == ("__debug__":Str))=false:=by decide) (hcd:(x == ("__classdict__":Str))=false:=by decide) :
  SV C (.Assign [.Subscript (.Name x np) ke pos'] e pos) (putF i fk fv):=by
 intro pins s σ H D I ⟨ρ,B,S,q⟩
 unfold putF at q
 split at q
 ·rename_i ks ps e1
  obtain⟨a,e2,kvs,hx,ek,rr⟩:=S.vw i _ e1
  refine zq5 (by omega) (zfi hN hvis hd hcd) hk hv hs pins s σ H D I ⟨ρ,S.vw,(q.bind S.same).imp fun p _ q1 v H1 s1 r1=>⟨_,e2,ρ,S.vw.same s1,(q1.bind (S.same.trans s1)).imp fun kp _ q2 y H2 s2 r2=>?_⟩⟩
  obtain⟨k,e3,q3⟩:=RS.ofO q2
  by_cases hl:ks.length<16777216
  ·rw[if_pos hl] at q3
   have hy:=zd3 e3 r2.o
   subst hy
   subst ek
   have hx2:H2 a=some (.dK kvs):=s2 _ _ (s1 _ _ hx)
   refine⟨a,_,rfl,DPut.k hx2 (by rw[sizeLine_eq];simpa using hl),?_⟩
   have kp:Kp H2 (upd H2 a (.dK (putK kvs k v))):=Kp.upd hx2 rfl
   refine q3 σ _ (((S.grow s1).grow s2).turn e1 e2 (fun b hb=>zah hb) ⟨a,rfl,?_⟩)
   exact zm8 (Reps.kp kp _ ((rr.same s1).same s2)) (Rep.kp kp _ (r1.same s2)) zai
  ·rw[if_neg hl] at q3
   exact False.elim q3
 ·exact False.elim q
theorem zjr{C:Cn}{pos:Pos}:EN C (.Dict [] [] pos) newD:=fun pins s σ H Q I ⟨ρ,vw,q⟩=>zur pins s σ H Q I fun p hp=>q p _ (Same.new hp) hp ⟨[],zai,rfl,rfl⟩
def KReps(K:PySem.W.Frag)(H:Hp):List (Key×PV)->List (Key×V)->Prop
 | [],xs=>xs=[]
 | kp::r,xs=>∃v t,xs=(kp.1,v)::t/\Rep K H kp.2 v/\KReps K H r t
theorem KReps.kp{K:PySem.W.Frag}{H H':Hp}(k:Kp H H'):∀{kps:List (Key×PV)}{xs:List (Key×V)},KReps K H kps xs->KReps K H' kps xs
 | [],_,h=>h
 | kp::r,_,⟨v,t,e,h1,h2⟩=>⟨v,t,e,Rep.kp k _ h1,KReps.kp k h2⟩
def ED(C:Cn)(pos:Pos)(ks:List (Option Expr))(vs:List Expr)(f:PSt->R (List (Key×PV))):Prop:=∃trs,PPs C.X pos ks vs trs/\
 ∀σ H Q,(∃ρ,View C.X.K H σ ρ/\RQ C H (f ρ) fun kps=>∀kvs H',Same H H'->KReps C.X.K H' kps kvs->Q (kvs.map fun kv=>(kV kv.1,kv.2)) H')->zn1 trs σ H Q
theorem Zcp{C:Cn}{pos:Pos}:ED C pos [] [] nilD:=⟨[],zq6,fun σ H Q ⟨ρ,vw,q⟩=>q [] H (Same.refl H) rfl⟩
theorem znq{C:Cn}{pos:Pos}{k v:Expr}{ks:List (Option Expr)}{vs:List Expr}{fk fv:PSt->R PV}{f:PSt->R (List (Key×PV))}(hk:EV C k fk)(hv:EV C v fv)(h:ED C pos ks vs f):ED C pos (some k::ks) (v::vs) (zp9 fk fv f):=by
 obtain⟨trs,hp,ht⟩:=h
 refine⟨_,zod hk hv hp,fun σ H Q ⟨ρ,vw,q⟩=>⟨ρ,vw,q.bind.imp fun kp _ q1 x H1 s1 r1=>?_⟩⟩
 obtain⟨kk,ek,q1⟩:∃kk,zfl kp=some kk/\RQ C H (fv ρ >>= fun p=>f ρ >>= fun r=>R.ok ((kk,p)::r)) _:=by
  cases h:zfl kp with
  | none=>rw[h] at q1;exact False.elim q1
  | some kk=>rw[h] at q1;exact⟨kk,rfl,q1⟩
 refine⟨ρ,vw.same s1,(q1.bind.same s1).imp fun p _ q2 y H2 s2 r2=>ht σ H2 _ ⟨ρ,(vw.same s1).same s2,(q2.bind.same (s1.trans s2)).imp fun kps _ q3 kvs H3 s3 r3=>?_⟩⟩
 have hx:=zd3 ek r1.o
 subst hx
 exact q3 ((kk,y)::kvs) H3 ((s1.trans s2).trans s3) ⟨y,kvs,rfl,r2.same s3,r3⟩
def addP(d:PV)(kp:Key×PV):PV:=match d with
 | .dct ks ps=>putP ks ps kp.1 kp.2
 | d=>d
theorem zon(kps:List (Key×PV)):zeu kps=kps.foldl addP (.dct [] []):=rfl
theorem zjd{K:PySem.W.Frag}{H:Hp}:∀{kps:List (Key×PV)}{kvs acc:List (Key×V)}{ps:List PV},KReps K H kps kvs->Reps K H ps (acc.map (·.2))->
  ∃ks' ps',kps.foldl addP (PV.dct (acc.map (·.1)) ps)=PV.dct ks' ps'/\(zev acc kvs).map (·.1)=ks'/\Reps K H ps' ((zev acc kvs).map (·.2))
 | [],kvs,acc,ps,h,r=>by cases h;exact⟨_,_,rfl,rfl,r⟩
 | kp::kps,kvs,acc,ps,⟨v,t,e,h1,h2⟩,r=>by
  subst e
  obtain⟨ks',ps',g,g1,g2⟩:=zn9 (k:=kp.1) r h1
  obtain⟨ks2,ps2,f,f1,f2⟩:=zjd (acc:=putK acc kp.1 v) h2 g2
  refine⟨ks2,ps2,?_,f1,f2⟩
  rw[List.foldl_cons]
  have:addP (PV.dct (acc.map (·.1)) ps) kp=PV.dct ((putK acc kp.1 v).map (·.1)) ps':=by
   show putP _ _ _ _=_
   rw[g,g1]
  rw[this]
  exact f
theorem KReps.length{K:PySem.W.Frag}{H:Hp}:∀{kps:List (Key×PV)}{xs:List (Key×V)},KReps K H kps xs->kps.length=xs.length
 | [],_,h=>by cases h;rfl
 | kp::r,_,⟨v,t,e,h1,h2⟩=>by subst e;simp[KReps.length h2]
theorem zy8{C:Cn}{pos:Pos}{ks:List (Option Expr)}{vs:List Expr}{f:PSt->R (List (Key×PV))}(h:ED C pos ks vs f)(hall:ks.all (·.isSome)=true:=by rfl)(hl:ks.length=vs.length:=by rfl)(h0:ks≠[]:=by exact fun z=>nomatch z)
  (h15:ks.length<=15:=by decide):EN C (.Dict ks vs pos) (zvq f):=by
 obtain⟨trs,hp,ht⟩:=h
 intro pins s σ H Q I ⟨ρ,vw,q⟩
 refine zx1 hp hall hl h0 h15 pins s σ H Q I fun p hn=>ht σ _ _ ⟨ρ,vw.same (Same.new hn),(q.bind.same (Same.new hn)).imp fun kps _ q1 kvs H3 s3 r3=>?_⟩
 have sm:Same H H3:=(Same.new hn).trans s3
 have e3:H3 p=some (.dK []):=s3 _ _ zai
 by_cases hk:kps.length<=15
 ·rw[if_pos hk] at q1
  refine⟨e3,kvs,rfl,by rw[← r3.length];exact hk,?_⟩
  have kp:Kp H3 (upd H3 p (.dK (zev [] kvs))):=Kp.upd e3 rfl
  obtain⟨ks',ps',g,g1,g2⟩:=zjd (acc:=[]) (ps:=[]) (KReps.kp kp r3) Reps.nil
  refine q1 p _ (sm.but hn (fun u h=>by rw[e3] at h;cases h;rfl) (fun b hb=>zah hb)) hn ?_
  ·rw[zon]
   have g:kps.foldl addP (PV.dct [] [])=PV.dct ks' ps':=g
   rw[g]
   exact⟨_,zai,g1,g2⟩
 ·rw[if_neg hk] at q1
  exact False.elim q1
end PU
namespace PU
open PySem PySem.Spec PyProof.Rows L2 PySem.SeqAt
variable[TW]
structure Con(K:PySem.W.Frag)(mg:Str->Option Value)(x:Str)(c:PV):Prop where
 ex:∃v u,mg x=some u/\RelV v u/\∀H,Rep K H c v
theorem zsw {C:Cn} {x:Str} {c:PV} {pos:Pos} (hg:Gl C.X x) (h:Con C.X.K C.X.mg x c) (hd:(x == ("__debug__":Str))=false:=by decide):EV C (.Name x pos) (kP c):=by
 obtain⟨v,u,hm,r,rp⟩:=h.ex
 exact zy2 hg hm r rp hd
theorem Zev{P:Program}{w:World}{K:PySem.W.Frag}{mg:Str->Option Value}{base:Heap}{x qual:Str}{st:Stmt}{f:Addr}{fd:FuncData}{N ps:List Str}{k:Nat}{g:PSt->R Fl}(F:Fun K x qual st f fd)(S:FnScope N ps (zac st))
  (hbody:∀(cdv:Value)(A:Around)(outer:List Env)(s:Shared)(H:Hp)(E:XK),Room k (A.deeper (envOfC qual (zac st) s.heap.objs.size f cdv))->SVs (cnOf P w K mg base N qual (zac st) f cdv A outer s H E) (zar st) g) :
  FnOk P w K mg base CX0 (k+1) f fd ps (spP K ps.length (runF ps.length N.length g)):=by
 refine F.ok S (fun vs H Q E h=>h.1) (fun cdv A outer s H vs Q E hr h=>?_)
 obtain⟨hl,tb,qs,p,r,e,k⟩:=h
 refine⟨_,hbody cdv A outer s H E hr,start N.length qs,(H,H),zg4 tb r,?_⟩
 unfold runF at e
 rw[if_pos (by rw[r.length];exact hl)] at e
 cases hg:g (start N.length qs) with
 | ok fl=>
  rw[hg] at e
  cases fl with
  | next ρ=>cases e;exact fun σ H' S'=>k .non H' S'.same rfl
  | ret q=>cases e;exact fun v H' s' r'=>k v H' s' r'
  | brk ρ=>cases e
  | cont ρ=>cases e
 | er x=>rw[hg] at e;cases e
 | no=>rw[hg] at e;cases e
theorem zpo{K:PySem.W.Frag}{H:Hp}{a:Addr}{ns:List Int}(h:SqF K H a (ns.map V.int)):Reps K H [.lst (ns.map .int)] [.ref a]:=by
 have:∀l:List Int,Reps K H (l.map PV.int) (l.map V.int):=by
  intro l
  induction l with
  | nil=>rfl
  | cons x l ih=>exact⟨_,_,rfl,rfl,ih⟩
 exact⟨_,_,rfl,⟨a,_,rfl,h,this ns⟩,rfl⟩
end PU
namespace PU
open PySem PySem.Spec PyProof.Rows L2 PySem.SeqAt
section
variable{P : Program}{w : World}{A : Around}{E : Value → Shared → Prop}{s : Shared}{it a : Addr}{i n ep slot : Nat}
def Tells(P:Program)(w:World)(s:Shared)(a:Addr)(slot i ep:Nat)(r:Option (Value×Nat)):Prop:=∀(A:Around)(E:Value->Shared->Prop)(Q:Option (Value×Nat)->Shared->Prop),Q r s->wpAny (model P w) A (setNext a slot i ep) Q E s
end
end PU
section
namespace PU
def whF(t:PSt->R Bool)(g:PSt->R Fl):Nat->PSt->R Fl
 | 0,_=>.no
 | n+1,ρ=>t ρ >>= fun b=>if b=true then g ρ >>= fun fl=>(match fl with
  | .next ρ2=>whF t g n ρ2
  | .cont ρ2=>whF t g n ρ2
  | .brk ρ2=>.ok (.next ρ2)
  | .ret q=>.ok (.ret q)) else .ok (.next ρ)
def whS(n:Nat)(t:PSt->R Bool)(g:PSt->R Fl):PSt->R Fl:=whF t g n
end PU
namespace PU
open PySem PySem.Spec PyProof.Rows L2 PySem.SeqAt
variable[TW]
theorem zn3{C:Cn}{c:Expr}{body:List Stmt}{t:PSt->R Bool}{g:PSt->R Fl}{pos:Pos}(n:Nat)(hp:PassesOwn (model C.X.prog C.X.w) C.X.A C.X.env C.X.xe)(hc:ET C c t)(hb:SVs C body g):SV C (.While c body [] pos) (whS n t g):=by
 intro pins s σ H D I ⟨ρ,B,S,q⟩
 refine zuk hp hc hb pins s σ H D I ⟨fun m σ' H'=>∃ρ',StOk C.X.K B H' σ' ρ'/\RS C B D (whF t g m ρ'),⟨n,ρ,S,q⟩,?_⟩
 rintro m σ' H' ⟨ρ',S',q'⟩
 cases m with
 | zero=>exact False.elim q'
 | succ m=>
  have q':RS C B D (t ρ' >>= fun b=>if b=true then g ρ' >>= fun fl=>(match fl with
   | .next ρ2=>whF t g m ρ2
   | .cont ρ2=>whF t g m ρ2
   | .brk ρ2=>.ok (.next ρ2)
   | .ret q=>.ok (.ret q)) else .ok (.next ρ')):=q'
  refine⟨ρ',S'.vw,(q'.bind S'.same).imp fun b _ k H1 s1=>?_⟩
  cases b with
  | false=>
   rw[if_neg Bool.false_ne_true] at k ⊢
   exact k σ' H1 (S'.grow s1)
  | true=>
   rw[if_pos rfl] at k ⊢
   refine⟨fun σ2 H2=>∃ρ2,StOk C.X.K B H2 σ2 ρ2/\RS C B D (whF t g m ρ2),fun σ2 H2 z=>⟨m,Nat.lt_succ_self m,z⟩,ρ',B,S'.grow s1,?_⟩
   cases hgr:g ρ' with
   | ok fl=>
    rw[hgr] at k
    cases fl with
    | next ρ2=>exact fun σ4 H4 S4=>⟨ρ2,S4,k⟩
    | cont ρ2=>exact fun σ4 H4 S4=>⟨ρ2,S4,k⟩
    | brk ρ2=>exact fun σ4 H4 S4=>k σ4 H4 S4
    | ret p=>exact k
   | er x=>rw[hgr] at k;exact k
   | no=>rw[hgr] at k;exact k
end PU
end
namespace PU
open PySem PySem.Spec PyProof.Rows L2 PySem.SeqAt
variable[TW]
theorem zt2{K:PySem.W.Frag}{H:Hp}{p q z:PV}{x u:V}{v:Value}{us:List Value}{g:PV->PV->Option PV}(hg:∀p q z,g p q=some z->∃a b,p=.str a/\q=.str b)(rx:RelV x v)(rs:Vals [u] us)(rp:RepO K H p x)(rq:RepO K H q u)(ez:g p q=some z) :
  ∃a b t t2,p=.str a/\q=.str b/\v=.str a t/\us=[.str b t2]:=by
 obtain⟨a,b,rfl,rfl⟩:=hg p q z ez
 obtain⟨u',rfl,ru⟩:=vals1 rs
 cases (show x=.str a from rp)
 cases (show u=.str b from rq)
 obtain⟨t,rfl⟩:=rx
 obtain⟨t2,rfl⟩:=ru
 exact⟨a,b,t,t2,rfl,rfl,rfl,rfl⟩
end PU
namespace PU
open PySem PySem.Spec PyProof.Rows L2 PySem.SeqAt
variable[TW]
theorem zjs {C:Cn} {tg a b:Expr} {f f2:PSt->R PV} {p pos:Pos} (hg:Gl C.X "range") (hm:C.X.mg "range"=none) (ha:EV C a f) (hb:EV C b f2) (hs:starEach [a,b] C.X.env=[(false,eval a C.X.env),(false,eval b C.X.env)]:=by rfl)
  (hs2:starEach [b] C.X.env=[(false,eval b C.X.env)]:=by exact zcd rfl):EI C tg (.Call (.Name "range" p) [a,b] [] pos) (rng2 f f2):=by
 intro pins s σ H Rk I ⟨ρ,vw,q⟩
 refine zq9 hg hm (zcj ha (zcj hb zft hs2) (by rw[hs,hs2])) hs hs2 pins s σ H Rk I ⟨ρ,vw,q.bind.imp fun p _ k v H1 s1 r1=>⟨ρ,vw.same s1,(k.bind.same s1).imp fun p2 _ k2 v2 H2 s2 r2=>?_⟩⟩
 cases p with
 | int i=>
  cases p2 with
  | int j=>
   cases (show v=.int i from r1)
   cases (show v2=.int j from r2)
   have k2:RQ C H (if i.natAbs<1000000000/\j.natAbs<1000000000 then R.ok (zcb i (j-i).toNat) else R.no) fun ps=>∀J H',Same H H'->ItP C.X.K J H' ps->Rk J H':=k2
   by_cases hj:i.natAbs<1000000000/\j.natAbs<1000000000
   ·rw[if_pos hj] at k2
    exact⟨i,j,rfl,⟨by omega,by omega,by omega,by omega⟩,k2 _ H2 (s1.trans s2) zov⟩
   ·rw[if_neg hj] at k2
    exact False.elim k2
  | _=>exact False.elim k2
 | _=>exact False.elim k2
end PU
section
namespace PU
def zyr:PV->Bool
 | .dct _ _=>true
 | _=>false
end PU
namespace PU
open PySem PySem.Spec PyProof.Rows L2 PySem.SeqAt
variable[TW]
theorem zkm{K:PySem.W.Frag}{H:Hp}{k:Key}:∀{ks:List Key}{ps:List PV}{kvs:List (Key×V)},kvs.map (·.1)=ks->Reps K H ps (kvs.map (·.2))->zca ks ps k=none->valV kvs k=none
 | _,_,[],h1,h2,e=>rfl
 | _,[],kv::kvs,h1,h2,e=>by
  cases h2
 | _,q::ps,kv::kvs,h1,h2,e=>by
  subst h1
  obtain⟨x,r,ex,hx,ht⟩:=h2
  simp only[List.map_cons,List.cons.injEq] at ex
  obtain⟨rfl,rfl⟩:=ex
  simp only[List.map_cons,zca] at e
  by_cases hk:kv.1=k
  ·rw[if_pos hk] at e
   cases e
  ·rw[if_neg hk] at e
   rw[ze1 hk]
   exact zkm rfl ht e
end PU
end
namespace PU
open PySem PySem.Spec PyProof.Rows L2 PySem.SeqAt
theorem zkx:isSubtype (.type "dict") (.type "dict")=pure true:=by rw[isSubtype_type];kernel_rfl
section
variable{P : Program}{w : World}{A : Around}{E : Value → Shared → Prop}{s : Shared}{d : Addr}{kvs : List (Key×Value)}{ep : Nat}
theorem zma{Q:Value->Shared->Prop}(hh:A.handled=none)(hd:(d == sysModules)=false)(m:s.heap.DictAt (zax P w) d kvs ep)(hz:kvs.length<=sizeLine)
  (q:∀(h':Heap) (tk:Nat) (acc:Array Value) (c:Nat),(∀b o,s.heap.get? b=some o->h'.get? b=some o)->h'.get? s.heap.objs.size=some { cls:=.type "list",data:=.seq acc c }->
   ItemsOf (fun i v=>∃k x,kvs[i]?=some (k,x)/\(zax P w).is k v=true) acc kvs.length->Q (.ref s.heap.objs.size) { s with heap:=h',toks:=tk }):wpAny (model P w) A (call (.type "list") [.ref d]) Q E s:=by
 have ld:d<s.heap.objs.size:=by obtain⟨o,es,ho,_⟩:=m;exact Heap.lt_size ho
 refine callType_codes (Q₁:=fun obj s₁=>obj=.ref s.heap.objs.size/\s₁={ s with heap:=s.heap.push { cls:=.type "list",data:=.seq #[] } }) PySem.F.called_list (PySem.F.typeCall_list_1 _) PySem.F.entry_list_init (code_list_new _ ⟨rfl,rfl⟩) fun obj s₁ h₁=>?_
 obtain⟨rfl,rfl⟩:=h₁
 have g0:(s.heap.push { cls:=.type "list",data:=.seq #[] }).get? s.heap.objs.size=some { cls:=.type "list",data:=.seq #[] }:=Heap.get?_push_size _ rfl
 refine⟨⟨_,g0,rfl⟩,PySem.F.args_list_init_2 _ _,?_⟩
 show wpAny _ _ (do let old<- Builtin.List.listItems (.ref s.heap.objs.size);Builtin.List.listUpdate (.ref s.heap.objs.size) (fun _=>#[]);letGo old.toList.reverse;Builtin.List.listExtendWith (.ref s.heap.objs.size) (.ref d) .none) _ _ _
 refine wpAny_bind ?_
 unfold Builtin.List.listItems
 refine wpAny_bind (wpAny_seqItems g0 rfl (wpAny_pure ?_))
 show wpAny _ _ (updateSeq s.heap.objs.size (fun _=>#[]) >>= fun _=>letGo (#[]:Array Value).toList.reverse >>= fun _=>Builtin.List.listExtendWith (.ref s.heap.objs.size) (.ref d) .none) _ _ _
 refine wpAny_bind (wpAny_updateSeq g0 rfl ?_ (Nat.zero_le _) (Nat.zero_le _))
 have g1:=Heap.get?_update_self (Obj.mapSeq (fun _=>(#[]:Array Value))) g0 rfl
 have k1:∀b o,s.heap.get? b=some o->((s.heap.push { cls:=.type "list",data:=.seq #[] }).update s.heap.objs.size (Obj.mapSeq (fun _=>(#[]:Array Value)))).get? b=some o:=
  fun b o e=>(Heap.get?_update_other _ _ (Nat.ne_of_gt (Heap.lt_size e))).trans (Heap.get?_push_of_some _ e)
 have z1:((s.heap.push { cls:=.type "list",data:=.seq #[] }).update s.heap.objs.size (Obj.mapSeq (fun _=>(#[]:Array Value)))).objs.size=s.heap.objs.size+1:=by rw[Heap.size_update,Heap.size_push]
 refine wpAny_bind (wpAny_letGo ?_)
 generalize (s.heap.push { cls:=.type "list",data:=.seq #[] }).update s.heap.objs.size (Obj.mapSeq (fun _=>(#[]:Array Value)))=h1 at g1 k1 z1 ⊢
 have m1:h1.DictAt (zax P w) d kvs ep:=by
  obtain⟨o,es,ho,r⟩:=m
  exact⟨o,es,k1 _ _ ho,r⟩
 have t1:({ s with heap:=h1 }:Shared).TypeIs (.ref d) "dict":=m1.dictOf.typeIs
 unfold Builtin.List.listExtendWith
 refine wpAny_bind (wpAny_typeOf (T:="dict") t1 ?_)
 have r1:Builtin.List.listSameRef (.ref s.heap.objs.size) (.ref d)=false:=by
  show (s.heap.objs.size == d)=false
  simpa using Nat.ne_of_gt ld
 have r2:(Value.type "dict" == Value.type "list")=false:=by decide
 have r3:(Value.type "dict" == Value.type "tuple")=false:=by decide
 simp only[r1,r2,r3,Bool.or_false,Bool.false_eq_true,if_false]
 refine wpAny_bind (wpAny_pyIter_dict (knd:=zax P w) (s:={ s with heap:=h1 }) hd m1 ?_)
 refine wpAny_bind (wpAny_holding ?_)
 have m2:(h1.push { cls:=.type "dict_keyiterator",data:=.fields #[.ref d,.int 0 0,.int kvs.length 0,.int ep 0] }).DictAt (zax P w) d kvs ep:=by
  obtain⟨o,es,ho,r⟩:=m1
  exact⟨o,es,Heap.get?_push_of_some _ ho,r⟩
 have t2:=(show ({ s with heap:=h1.push { cls:=.type "dict_keyiterator",data:=.fields #[.ref d,.int 0 0,.int kvs.length 0,.int ep 0] } }:Shared).TypeIs (.ref d) "dict" from m2.dictOf.typeIs)
 unfold Builtin.List.listLengthHint
 refine wpAny_bind (wpAny_specialOf (T:="dict") (v:=.ref d) t2 PySem.F.slot_dict_len.lookup ?_)
 wp_delta
 refine wpAny_bind (wpAny_isInstance (T:="dict") (v:=.ref d) (b:=true) t2 zkx ?_)
 show wpAny _ _ (typeOf (Value.ref d) >>= _) _ _ _
 refine wpAny_bind (wpAny_typeOf (T:="dict") (v:=.ref d) t2 (wpAny_pure ?_))
 rw[if_pos (by decide)]
 refine wpAny_bind (wpAny_rule (wpAny_bind ?_))
 unfold Builtin.List.listTouch
 have nI:h1.objs.size≠s.heap.objs.size:=by rw[z1];exact Nat.succ_ne_self _
 have gL2:(h1.push { cls:=.type "dict_keyiterator",data:=.fields #[.ref d,.int 0 0,.int kvs.length 0,.int ep 0] }).get? s.heap.objs.size=some _:=Heap.get?_push_of_some _ g1
 have gI2:(h1.push { cls:=.type "dict_keyiterator",data:=.fields #[.ref d,.int 0 0,.int kvs.length 0,.int ep 0] }).get? h1.objs.size=some _:=Heap.get?_push_size _ rfl
 have k2:∀b o,s.heap.get? b=some o->(h1.push { cls:=.type "dict_keyiterator",data:=.fields #[.ref d,.int 0 0,.int kvs.length 0,.int ep 0] }).get? b=some o:=fun b o e=>Heap.get?_push_of_some _ (k1 b o e)
 refine wpAny_bind (wpAny_updateSeq gL2 rfl ?_ (Nat.zero_le _) (by show 1<=_;rw[sizeLine_eq];decide))
 have g3:=Heap.get?_update_self (Obj.mapSeq (·.push Value.none)) gL2 rfl
 refine wpAny_updateSeq g3 rfl ?_ (by show 1<=_;rw[sizeLine_eq];decide) (Nat.zero_le _)
 have g4:=Heap.get?_update_self (Obj.mapSeq (·.pop)) g3 rfl
 have k4:∀b ob,b≠s.heap.objs.size->(h1.push { cls:=.type "dict_keyiterator",data:=.fields #[.ref d,.int 0 0,.int kvs.length 0,.int ep 0] }).get? b=some ob->(((h1.push { cls:=.type "dict_keyiterator",data:=.fields #[.ref d,.int 0 0,.int kvs.length 0,.int ep 0] }).update s.heap.objs.size (Obj.mapSeq (·.push Value.none))).update s.heap.objs.size (Obj.mapSeq (·.pop))).get? b=some ob:=fun b ob hb e=>
  (Heap.get?_update_other _ _ (Ne.symm hb)).trans ((Heap.get?_update_other _ _ (Ne.symm hb)).trans e)
 show wpAny _ _ _ _ _ { s with heap:=(((h1.push { cls:=.type "dict_keyiterator",data:=.fields #[.ref d,.int 0 0,.int kvs.length 0,.int ep 0] }).update s.heap.objs.size (Obj.mapSeq (·.push Value.none))).update s.heap.objs.size (Obj.mapSeq (·.pop))) }
 generalize ((h1.push { cls:=.type "dict_keyiterator",data:=.fields #[.ref d,.int 0 0,.int kvs.length 0,.int ep 0] }).update s.heap.objs.size (Obj.mapSeq (·.push Value.none))).update s.heap.objs.size (Obj.mapSeq (·.pop))=h4 at g4 k4 ⊢
 have nd:d≠s.heap.objs.size:=Nat.ne_of_lt ld
 have ndI:d≠h1.objs.size:=by rw[z1];exact Nat.ne_of_lt (Nat.lt_succ_of_lt ld)
 have st4:h4.IsKeyIter h1.objs.size d 0 kvs.length ep/\h4.DictAt (zax P w) d kvs ep:=by
  refine⟨⟨_,k4 _ _ nI gI2,rfl,rfl⟩,?_⟩
  obtain⟨o,es,ho,r⟩:=m2
  exact⟨o,es,k4 _ _ nd ho,r⟩
 have nL:s.heap.objs.size ∉ [h1.objs.size,d]:=fun z=>by
  rcases List.mem_cons.mp z with e | z
  ·exact nI e.symm
  ·exact nd (List.mem_singleton.mp z).symm
 have W:∀A':Around,A'.handled=none->Walks P w A' h1.objs.size [h1.objs.size,d] [h1.objs.size] kvs.length _ _:=fun A' hA=>Walks.dictKeys (knd:=zax P w) hA h1.objs.size d ndI kvs ep
 refine wpAny_pure ⟨plainId_quiet PySem.F.plain_extend_loop _,codeAny_extend_loopS (W A.in1.in1 hh).toS hz _ nL _ kvs.length 0 _ _ _ rfl (Nat.zero_le _) st4 g4 (ItemsOf.nil _) fun s' acc c mm gA it'=>?_⟩
 rw[Moved.eq_with mm]
 refine⟨rfl,q s'.heap s'.toks acc c (fun b o e=>mm.heap b o (fun hb=>?_) (k4 b o (Nat.ne_of_lt (Heap.lt_size e)) (k2 b o e))) gA it'⟩
 have lt:=Heap.lt_size e
 rcases List.mem_cons.mp hb with z | z
 ·exact absurd lt (z▸Nat.lt_irrefl _)
 ·rw[List.mem_singleton.mp z,z1] at lt
  exact absurd lt (Nat.not_lt.mpr (Nat.le_succ _))
end
end PU
section
namespace PU
def zmi:PV->Option PV
 | .lst ps=>some (.lst ps)
 | .tup ps=>some (.lst ps)
 | .dct ks _=>some (.lst (ks.map keyP))
 | _=>none
end PU
namespace PU
open PySem PySem.Spec PyProof.Rows L2 PySem.SeqAt
variable[TW]
theorem zmd{K:PySem.W.Frag}{H:Hp}:∀ks:List Key,Reps K H (ks.map keyP) (ks.map kV)
 | []=>rfl
 | k::ks=>by
  refine⟨kV k,ks.map kV,rfl,?_,zmd ks⟩
  cases k <;> exact rfl
omit [TW] in
theorem zyi{P:Program}{w:World}{k:Key}{v:Value}(h:(zax P w).is k v=true):RelV (kV k) v:=by
 rcases zbg (show znh k v=true from h) with⟨i,t,rfl,rfl⟩|⟨x,t,rfl,rfl⟩
 ·exact⟨t,rfl⟩
 ·exact⟨t,rfl⟩
omit [TW] in
theorem zql{P:Program}{w:World}:∀(kvs:List (Key×Value))(us:List Value),us.length=kvs.length->(∀(i:Nat)(v:Value),us[i]?=some v->∃k x,kvs[i]?=some (k,x)/\(zax P w).is k v=true)->Vals ((kvs.map (·.1)).map kV) us
 | [],us,hl,_=>by
  cases us with
  | nil=>exact .nil
  | cons a r=>cases hl
 | kv::kvs,us,hl,h=>by
  cases us with
  | nil=>cases hl
  | cons a r=>
   obtain⟨k,x,e,hk⟩:=h 0 a rfl
   cases e
   exact .cons (zyi hk) (zql kvs r (by simpa using hl) fun i v e=>h (i+1) v e)
theorem zw2 {X:Cx} (hc:X.calm=true:=by rfl) (hw:X.w=TW.w:=by rfl):zgz X (.type "list") (rn1 X.K zmi):=by
 intro pins s σ H xs us Q I r ⟨v,p,z,e1,rp,ez,k⟩
 subst e1
 cases p with
 | lst ps=>
  obtain⟨a,xs,rfl,g,rr⟩:=RepO.lst_inv rp
  cases ez
  exact zij pins s σ H _ us Q I r ⟨a,xs,rfl,.inl g.l,fun l hl=>k _ _ (Same.new hl) hl ⟨xs,zai,rr.same (Same.new hl)⟩⟩
 | tup ps=>
  obtain⟨a,xs,rfl,g,rr⟩:=RepO.tup_inv rp
  cases ez
  exact zij pins s σ H _ us Q I r ⟨a,xs,rfl,.inr g,fun l hl=>k _ _ (Same.new hl) hl ⟨xs,zai,rr.same (Same.new hl)⟩⟩
 | dct ks ps=>
  obtain⟨a,kvs,rfl,g,e1,rr⟩:=rp
  cases ez
  obtain⟨u,rfl,ru⟩:=vals1 r
  cases ru
  obtain⟨hz,hS,vs,rel,o,es,ep,ho,x1,d1,rest⟩:=DkR.at hw I g
  have hl:kvs.length=vs.length:=Paired.length rel
  have hk:kvs.map (·.1)=vs.map (·.1):=by
   clear hl hz e1 rr g rest
   induction rel with
   | nil=>rfl
   | cons a b ih=>rw[List.map_cons,List.map_cons,ih,a.1]
  refine zma (kvs:=vs) (ep:=ep) (I.ok.hd hc) hS ⟨o,es,ho,x1,d1,rest⟩ (by omega) fun h' tk acc c keep gA it'=>?_
  obtain⟨i1,i2⟩:=it'
  have rv:Vals (ks.map kV) acc.toList:=by
   rw[← e1,hk]
   exact zql (P:=X.prog) (w:=X.w) vs acc.toList (by simpa using i1) fun i v e=>i2 i v (by simpa using e)
  have hlk:ks.length=kvs.length:=by rw[← e1,List.length_map]
  have I2:=I.laid (a:=s.heap.objs.size) (o:=.lst (ks.map kV)) (h':=h') (t':=tk) keep (Nat.le_refl _) ⟨by rw[List.length_map];omega,acc.toList,c,rv,by rw[Array.toArray_toList];exact gA⟩
  have nf:H s.heap.objs.size=none:=I.fresh
  exact⟨.ref _,_,I2,rfl,k _ _ (Same.new nf) nf ⟨_,zai,zmd ks⟩⟩
 | _=>cases ez
end PU
end
section
namespace PU
def zom(fo fe fd:PSt->R PV)(g:PV->PV->PV->Option PV):PSt->R PV:=fun ρ=>fo ρ >>= fun p=>if zyr p=true then fe ρ >>= fun q=>fd ρ >>= fun y=>R.ofO (g p q y) else .no
def zp5:PV->PV->PV->Option PV
 | .dct ks ps,q,y=>(zfl q).bind fun k=>some ((zca ks ps k).getD y)
 | _,_,_=>none
end PU
namespace PU
open PySem PySem.Spec PyProof.Rows L2 PySem.SeqAt
variable[TW]
theorem zy3{C:Cn}{o e d:Expr}{fo fe fd:PSt->R PV}{apos cpos:Pos}(ho:EO C o fo)(he:EV C e fe)(hd:EV C d fd)(hw:C.X.w=TW.w:=by rfl)
  (hbase:attributeBase o "get" C.X.env (eval o C.X.env)=eval o C.X.env:=by rfl) (hline:(apos.endLine == cpos.line)=true:=by rfl) (hs:starEach [e,d] C.X.env=[(false,eval e C.X.env),(false,eval d C.X.env)]:=by rfl) (hs2:starEach [d] C.X.env=[(false,eval d C.X.env)]:=by exact zcd rfl) :
  EV C (.Call (.Attribute o "get" apos) [e,d] [] cpos) (zom fo fe fd zp5):=by
 intro pins s σ H Q I ⟨ρ,vw,q⟩
 refine wpAny_Call_method_late hbase (by rw[hs];rfl) hline rfl (thn (ho pins s σ H (fun v H1=>∃p,RepO C.X.K H1 p v/\Same H H1/\RQ C H (if zyr p=true then fe ρ >>= fun q=>fd ρ >>= fun y=>R.ofO (zp5 p q y) else .no) fun p=>∀v H',Same H H'->Rep C.X.K H' p v->Q v H') I ⟨ρ,vw,q.bind.imp fun p _ k v H1 s1 r1=>⟨p,r1,s1,k⟩⟩) fun v s1 ⟨x,H1,I1,r1,p,ro,sm,k⟩=>?_)
 cases p with
 | dct ks ps=>
  have ro':=ro
  obtain⟨a,kvs,rfl,g,e1,r⟩:=ro
  cases r1
  obtain⟨hz,hdd,vs,rel,dd⟩:=DkR.at hw I1 g
  have k:RQ C H (fe ρ >>= fun q=>fd ρ >>= fun y=>R.ofO (zp5 (.dct ks ps) q y)) fun p=>∀v H',Same H H'->Rep C.X.K H' p v->Q v H':=k
  refine⟨"dict","dict.get",PySem.F.plainAttrs_dict,PySem.F.slot_dict_get,PySem.F.type_dict_get,dd.typeIs,dd.mapOf.noDict,?_⟩
  have hA:=(zcj he (zcj hd zft hs2) (by rw[hs,hs2])) cpos pins s1 σ H1 (fun xs H2=>∃q y z u x,xs=[u,x]/\Rep C.X.K H2 q u/\Rep C.X.K H2 y x/\zp5 (.dct ks ps) q y=some z/\Same H1 H2/\∀v H',Same H H'->Rep C.X.K H' z v->Q v H') I1 ⟨ρ,vw.same sm,(k.bind.same sm).imp fun q _ k2 u H2 s2 r2=>⟨ρ,vw.same (sm.trans s2),(k2.bind.same (sm.trans s2)).imp fun y _ k4 x H3 s3 r3=>by
   obtain⟨z,ez,k3⟩:=k4.ofO
   exact⟨q,y,z,u,x,rfl,r2.same s3,r3,ez,s2.trans s3,k3⟩⟩⟩
  rw[hs] at hA ⊢
  refine Calls.callWith_builtin rfl (Calls.evalArgs_plain ?_)
  refine thn hA fun us s2 ⟨xs,H2,I2,r2,q,y,z,u,x,eu,rq,ry,ez,s2',k3⟩=>?_
  subst eu
  obtain⟨u',x',rfl,ru,rx⟩:∃u' x',us=[u',x']/\RelV u u'/\RelV x x':=by
   cases r2 with
   | cons a b=>
    obtain⟨x',e,rx⟩:=vals1 b
    subst e
    exact⟨_,x',rfl,a,rx⟩
  obtain⟨kk,ek,ez⟩:=Option.bind_eq_some_iff.mp (show (zfl q).bind (fun k=>some ((zca ks ps k).getD y))=some z from ez)
  cases ez
  have hy:=zd3 ek rq.o
  subst hy
  obtain⟨a2,kvs2,ea,g2,e2,rr2⟩:=ro'.same s2'
  cases ea
  obtain⟨_,hd2,vs2,rel2,dd2⟩:=DkR.at hw I2 g2
  refine call_meetsIn PySem.F.slot_dict_get dd2.typeIs PySem.F.entry_dict_get (PySem.F.args_dict_get_3 _ _ _) (meets_dict_get_default (zax C.X.prog C.X.w) a (zj2 ru) hd2 x') ⟨_,dd2.mapOf,?_⟩
  cases el:zca ks ps kk with
  | some p'=>
   obtain⟨w,ew,rp⟩:=zhc e2 rr2 el
   obtain⟨w',hw',rw'⟩:=RelO.some_of (v:=w) (o:=valueAt vs2 kk) (by rw[← ew];exact rel2.val kk)
   rw[hw']
   rw[el] at k3
   exact⟨w,H2,I2.tok _,rw',k3 w H2 (sm.trans s2') rp⟩
  | none=>
   have ew:=zkm (k:=kk) e2 rr2 el
   have hn:valueAt vs2 kk=none:=RelO.none_of (by rw[← ew];exact rel2.val kk)
   rw[hn]
   rw[el] at k3
   exact⟨x,H2,I2.tok _,rx,k3 x H2 (sm.trans s2') ry⟩
 | _=>exact False.elim k
end PU
end
section
namespace PU
open PySem
def zmj:PV->PV->Option PV
 | .str x,.str y=>match Builtin.Str.occurrences x y 0 x.length 1 with
  | i::_=>some (.int i)
  | []=>none
 | _,_=>none
end PU
namespace PU
open PySem PySem.Spec PyProof.Rows L2 PySem.SeqAt
variable[TW]
theorem Zak:StrM "index" "str.index":=⟨PySem.F.slot_str_index,PySem.F.type_str_index⟩
theorem Zbi {X:Cx}:MtR X "str.index" (rM1 X.K zmj):=by
 intro pins s σ H x xs v us Q I rx rs ⟨p,q,z,u,e1,rp,rq,ez,k⟩
 subst e1
 obtain⟨a,b,t,t2,rfl,rfl,rfl,rfl⟩:=zt2 (g:=zmj) (fun p q z e=>by unfold zmj at e;split at e;exact⟨_,_,rfl,rfl⟩;cases e) rx rs rp rq ez
 have ez:(match Builtin.Str.occurrences a b 0 a.length 1 with
  | i::_=>some (PV.int i)
  | []=>none)=some z:=ez
 cases ho:Builtin.Str.occurrences a b 0 a.length 1 with
 | nil=>rw[ho] at ez;cases ez
 | cons i r=>
  rw[ho] at ez
  cases ez
  exact SC.index ho ⟨.int _,H,I.tok _,⟨_,rfl⟩,k _ H (Same.refl H) rfl⟩
end PU
end
namespace PU
open PySem PySem.Spec PyProof.Rows L2 PySem.SeqAt
theorem con_str{w:World}{tabs:List Addr}{qual:Nat->Nat->Str}{K:PySem.W.Frag}{h:Heap}{mg:Str->Option Value}{x:Str}{i:Str}{t:Tok}(X:K.In h)(G:h.Ns mainGlobals mg)(n1:PySem.W.nsIn K mainGlobals x=some (some (.str i t))):@Con ⟨w,tabs,qual⟩ K mg x (.str i):=by
 letI:TW:=⟨w,tabs,qual⟩
 exact⟨.str i,.str i t,PySem.W.mg_of X G n1,⟨t,rfl⟩,fun H=>rfl⟩
end PU
namespace PU
open PySem PySem.Spec PyProof.Rows L2 PySem.SeqAt
variable[TW]
theorem zvj{C:Cn}{a b c:Expr}{fa fb fc:PSt->R PV}{pos:Pos}{op op':CmpOp}{g g':PV->PV->Option PV}(ho:OpR C.X (compareOp op) (rP C.X.K g))(ho':OpR C.X (compareOp op') (rP C.X.K g'))(hg:isBl g)(hg':isBl g')(ha:EO C a fa)(hb:EO C b fb)(hc:EO C c fc)
  (hm:lastMarks [op,op'] [b,c]=false:=by with_unfolding_all rfl):ET C (.Compare a [op,op'] [b,c] pos) (truF (chain2 fa fb fc g g')):=by
 intro pins s σ H Q I ⟨ρ,vw,q⟩
 refine zuj ho ho' ha hb hc hm pins s σ H Q I ?_
 have q1:=q.bind
 refine⟨ρ,vw,q1.bind.imp fun p _ k v H1 s1 r1=>⟨ρ,vw.same s1,(k.bind.same s1).imp fun p2 _ k2 u H2 s2 r2=>?_⟩⟩
 obtain⟨z,ez,k3⟩:=k2.bind.ofO
 obtain⟨bb,rfl⟩:=hg _ _ _ ez
 refine⟨p,p2,.bl bb,r1.same s2,r2,ez,fun w H3 s3 r3=>?_⟩
 cases (show w=.bl bb from r3)
 refine⟨bb,rfl,?_⟩
 have s13:=(s1.trans s2).trans s3
 cases bb with
 | true=>
  refine iteT ⟨ρ,vw.same s13,?_⟩
  refine(RQ.same (RQ.bind k3) s13).imp fun p3 _ k4 w4 H4 s4 r4=>?_
  obtain⟨z2,ez2,k5⟩:=k4.ofO
  obtain⟨b2,rfl⟩:=hg' _ _ _ ez2
  refine⟨p2,p3,.bl b2,(r2.same s3).same s4,r4,ez2,fun w5 H5 s5 r5=>?_⟩
  cases (show w5=.bl b2 from r5)
  obtain⟨b3,eb,k6⟩:=k5.ofO
  cases eb
  exact⟨b2,rfl,k6 H5 ((s13.trans s4).trans s5)⟩
 | false=>
  have k3:RQ C H (R.ofO (truB (.bl false))) (fun b=>∀H',Same H H'->Q b H'):=k3
  obtain⟨b3,eb,k6⟩:=RQ.ofO k3
  cases eb
  exact iteF ⟨false,rfl,k6 H3 s13⟩
end PU
namespace PU
open PySem PySem.Spec PyProof.Rows L2 PySem.SeqAt
def gSlA:PV->Option Int->Option Int->Option PV
 | .str x,lo,hi=>if x.length<=16777216 then some (.str (PySem.Txt.slice x lo hi)) else none
 | .lst ps,lo,hi=>gSl (.lst ps) lo hi
 | .tup ps,lo,hi=>gSl (.tup ps) lo hi
 | _,_,_=>none
def zic(f:PSt->R PV)(l h:PSt->R (Option Int)):PSt->R PV:=fun ρ=>f ρ >>= fun p=>l ρ >>= fun lo=>h ρ >>= fun hi=>R.ofO (gSlA p lo hi)
variable[TW]
def rSlA(K:PySem.W.Frag):V->Option Int->Option Int->Hp->VK->Prop:=fun v lo hi H Q=>∃p z,RepO K H p v/\gSlA p lo hi=some z/\∀w H',Same H H'->Rep K H' z w->Q w H'
theorem slA{X:Cx}:SlR X (rSlA X.K):=by
 intro pins s σ H x v vl vu lo hi sl Q I rx hs pl pu ⟨p,z,rp,ez,k⟩
 cases p with
 | lst ps=>exact slP pins s σ H x v vl vu lo hi sl Q I rx hs pl pu ⟨_,z,rp,ez,k⟩
 | tup ps=>exact slP pins s σ H x v vl vu lo hi sl Q I rx hs pl pu ⟨_,z,rp,ez,k⟩
 | str y=>
  simp only[gSlA] at ez
  split at ez
  ·rename_i hz
   cases ez
   cases (show x=.str y from rp)
   obtain⟨t,rfl⟩:=rx
   have fin:∀(lo hi:Option Int) t' kk,(∀w H',Same H H'->Rep X.K H' (.str (PySem.Txt.slice y lo hi)) w->Q w H')->EP X pins σ Q (.str (PySem.Txt.slice y lo hi) t') { s with toks:=kk }:=fun lo hi t' kk k=>⟨.str _,H,I.tok _,⟨t',rfl⟩,k _ H (Same.refl H) rfl⟩
   obtain⟨o,e1,e2,e3⟩:=hs
   have hz:y.length<=sizeLine:=by rw[sizeLine_eq];exact hz
   refine⟨"str",_,PySem.F.slot_str_getitem.lookup,typeIs_str _ _ _,?_⟩
   cases pl with
   | none=>
    cases pu with
    | none=>exact wpAny_getItem_str_slice (l:=none) (u:=none) (st:=none) ⟨o,e1,e2,e3⟩ rfl (post_val_or_str ⟨Nat.le_trans (PySem.Txt.slice_le y _ _) hz,fun t' kk=>fin none none t' kk k⟩)
    | int j uj=>exact wpAny_getItem_str_slice (l:=none) (u:=some (j,uj)) (st:=none) ⟨o,e1,e2,e3⟩ rfl (post_val_or_str ⟨Nat.le_trans (PySem.Txt.slice_le y _ _) hz,fun t' kk=>fin none (some j) t' kk k⟩)
   | int i ui=>
    cases pu with
    | none=>exact wpAny_getItem_str_slice (l:=some (i,ui)) (u:=none) (st:=none) ⟨o,e1,e2,e3⟩ rfl (post_val_or_str ⟨Nat.le_trans (PySem.Txt.slice_le y _ _) hz,fun t' kk=>fin (some i) none t' kk k⟩)
    | int j uj=>exact wpAny_getItem_str_slice (l:=some (i,ui)) (u:=some (j,uj)) (st:=none) ⟨o,e1,e2,e3⟩ rfl (post_val_or_str ⟨Nat.le_trans (PySem.Txt.slice_le y _ _) hz,fun t' kk=>fin (some i) (some j) t' kk k⟩)
  ·cases ez
 | _=>cases ez
theorem zf3{C:Cn}{e:Expr}{f:PSt->R PV}{lo hi:Option Expr}{l h:PSt->R (Option Int)}{pos p2:Pos}(ha:EO C e f)(hl:EOI C lo l)(hh:EOI C hi h):EV C (.Subscript e (.Slice lo hi none p2) pos) (zic f l h):=by
 intro pins s σ H Q I ⟨ρ,vw,q⟩
 refine zof slA ha hl hh pins s σ H Q I ⟨ρ,vw,q.bind.imp fun p _ k v H1 s1 r1=>⟨ρ,vw.same s1,(k.bind.same s1).imp fun o1 _ k2 H2 s2=>⟨ρ,(vw.same s1).same s2,(k2.bind.same (s1.trans s2)).imp fun o2 _ k3 H3 s3=>?_⟩⟩⟩
 obtain⟨z,ez,k4⟩:=k3.ofO
 exact⟨p,z,(r1.same s2).same s3,ez,fun w H4 s4 r4=>k4 w H4 (((s1.trans s2).trans s3).trans s4) r4⟩
end PU
namespace PU
open PySem PySem.Spec PyProof.Rows L2 PySem.SeqAt
def zipP(ps qs:List PV):List (List PV):=ps.zipWith (fun a b=>[a,b]) qs
def zgw:PV->Bool
 | .non | .bl _ | .int _ | .str _=>true
 | _=>false
def zipF(f g:PSt->R PV):PSt->R (List PV):=fun ρ=>f ρ >>= fun p=>g ρ >>= fun q=>(match p,q with
 | .lst ps,.lst qs=>if (ps.all zgw || qs.all zgw)=true then .ok ((zipP ps qs).map .tup) else .no
 | _,_=>.no)
variable[TW]
section
variable{P : Program}{w : World}{K : PySem.W.Frag}{elts : List Expr}{kk : Nat}{tp : Pos}
def zipV(xs ys:List V):List (List V):=xs.zipWith (fun a b=>[a,b]) ys
theorem zo4{x:V}{u:Value}(r:RelV x u)(h:∀b,x≠.ref b):¬ ∃b,u=Value.ref b:=fun ⟨b,e⟩=>by
 subst e
 cases x with
 | ref a=>exact h a rfl
 | non=>cases r
 | bl b=>cases r
 | ty n=>cases r
 | int i=>obtain⟨t,r⟩:=r;cases r
 | str i=>obtain⟨t,r⟩:=r;cases r
 | byt i=>obtain⟨t,r⟩:=r;cases r
 | flt i=>obtain⟨t,r⟩:=r;cases r
theorem zvh{K:PySem.W.Frag}{H:Hp}{p:PV}{x:V}(hf:zgw p=true)(r:Rep K H p x):∀b,x≠.ref b:=fun b e=>by
 subst e
 cases p with
 | non=>cases (show V.ref b=_ from r)
 | bl _=>cases (show V.ref b=_ from r)
 | int _=>cases (show V.ref b=_ from r)
 | str _=>cases (show V.ref b=_ from r)
 | _=>cases hf
theorem zmn{K:PySem.W.Frag}{H:Hp}{ps:List PV}{xs:List V}(hf:ps.all zgw=true)(r:Reps K H ps xs):∀x∈xs,∀b,x≠.ref b:=fun x hx=>by
 obtain⟨i,hi⟩:=List.mem_iff_getElem?.mp hx
 have hl:=r.length
 have hlt:i<ps.length:=by rw[hl];exact(List.getElem?_eq_some_iff.mp hi).1
 have e1:ps[i]?=some ps[i]:=by simp[hlt]
 obtain⟨y,ey,ry⟩:=r.get e1
 rw[hi] at ey
 cases ey
 exact zvh (List.all_eq_true.mp hf _ (List.getElem_mem hlt)) ry
theorem zt3(z TI TO i1 i2 a b:Addr)(D:ZipApart z TI TO i1 i2 a b)(xs ys:List V)(hfl:(∀x∈xs,∀b,x≠V.ref b)\/(∀y∈ys,∀b,y≠V.ref b)) :
  Turn P w K (.Tuple elts kk tp) (zln (min xs.length ys.length) (fun H=>SqL K H a xs/\SqL K H b ys) (zipV xs ys)) [z,TI,TO,i1,i2] z
   (fun i h=>IsZip h z TI TO .none/\IsPair h TI (.ref i1) (.ref i2)/\(∃a b,IsPair h TO a b)/\h.IsListIter i1 a i/\h.IsListIter i2 b i):=by
 refine zqu (wr:=[z,TO,i1,i2]) (n:=min xs.length ys.length) (fun X pins σ H s i hP hw hK hc I st hg=>?_) (by simp) (fun b hb=>by simp at hb ⊢;rcases hb with rfl | rfl | rfl | rfl <;> simp) (fun i h st b hb=>?_) (fun i h h' st k=>?_) (fun i H h=>h.1) (fun i H h=>h.1) fun A i s Q E st h=>wpAny_pyIter_zip st.1 h
 ·subst hP hw hK
  obtain⟨hq1,hq2⟩:SqL X.K H a xs/\SqL X.K H b ys:=by rcases hg with h | h <;> exact h.2
  obtain⟨its1,rv1,pl1,hz1⟩:=I.list hq1
  obtain⟨its2,rv2,pl2,hz2⟩:=I.list hq2
  have hl1:=rv1.length
  have hl2:=rv2.length
  have W:=WalksT.zip2 (prog:=X.prog) (w:=X.w) (A:=X.A) (I.ok.hd hc) z TI TO i1 i2 a b D its1.toArray its2.toArray
  rw[show min its1.toArray.size its2.toArray.size=min xs.length ys.length by simp[hl1,hl2]] at W
  refine⟨_,_,_,_,W,⟨st.1,st.2.1,st.2.2.1,st.2.2.2.1,st.2.2.2.2,pl1.isList,pl2.isList⟩,fun j h st=>⟨st.1,st.2.1,st.2.2.1,st.2.2.2.1,st.2.2.2.2.1⟩,fun vals hv=>?_⟩
  obtain⟨x,y,hx,hy,rfl⟩:=hv
  have hx:its1[i]?=some x:=by simpa using hx
  have hy:its2[i]?=some y:=by simpa using hy
  have h1:i<xs.length:=by rw[hl1];exact(List.getElem?_eq_some_iff.mp hx).1
  have h2:i<ys.length:=by rw[hl2];exact(List.getElem?_eq_some_iff.mp hy).1
  have e1:xs[i]?=some xs[i]:=by simp[h1]
  have e2:ys[i]?=some ys[i]:=by simp[h2]
  obtain⟨u,eu,ru⟩:=rv1.get e1
  rw[hx] at eu
  cases eu
  obtain⟨v,ev,rv⟩:=rv2.get e2
  rw[hy] at ev
  cases ev
  refine⟨[xs[i],ys[i]],.cons ru (.cons rv .nil),by show 2<=sizeLine;decide,fun z=>?_,fun T hT=>⟨T,_,rfl,hT,?_,rfl⟩⟩
  ·rcases hfl with g | g
   ·exact zo4 ru (g _ (List.getElem_mem h1)) (z _ List.mem_cons_self)
   ·exact zo4 rv (g _ (List.getElem_mem h2)) (z _ (List.mem_cons_of_mem _ List.mem_cons_self))
  unfold zipV
  rw[List.getElem?_zipWith,e1,e2]
 ·obtain⟨hz,hTI,⟨u,v,hTO⟩,⟨o1,ho1,_,hd1⟩,o2,ho2,_,hd2⟩:=st
  simp only[List.mem_cons,List.not_mem_nil,or_false] at hb
  rcases hb with rfl | rfl | rfl | rfl | rfl
  ·exact⟨_,hz,fun v z=>by cases (show Data.fields _=Data.cell v from z)⟩
  ·exact⟨_,hTI,fun v z=>by cases (show Data.seq _ _=Data.cell v from z)⟩
  ·exact⟨_,hTO,fun v z=>by cases (show Data.seq _ _=Data.cell v from z)⟩
  ·exact⟨o1,ho1,fun v z=>by rw[hd1] at z;cases z⟩
  ·exact⟨o2,ho2,fun v z=>by rw[hd2] at z;cases z⟩
 ·obtain⟨hz,hTI,⟨u,v,hTO⟩,h1,h2⟩:=st
  exact⟨k z (by simp) _ hz,k TI (by simp) _ hTI,⟨u,v,k TO (by simp) _ hTO⟩,h1.at fun o x=>k i1 (by simp) o x,h2.at fun o x=>k i2 (by simp) o x⟩
end
theorem zts{K:PySem.W.Frag}{H:Hp}{ps qs:List PV}{xs ys:List V}(r1:Reps K H ps xs)(r2:Reps K H qs ys):∀(i:Nat)(zs:List PV)(ws:List V),(zipP ps qs)[i]?=some zs->(zipV xs ys)[i]?=some ws->Reps K H zs ws:=fun i zs ws h1 h2=>by
 unfold zipP at h1
 unfold zipV at h2
 rw[List.getElem?_zipWith] at h1 h2
 cases e:ps[i]? with
 | none=>rw[e] at h1;cases h1
 | some p=>
  cases e2:qs[i]? with
  | none=>rw[e,e2] at h1;cases h1
  | some q=>
   rw[e,e2] at h1
   obtain⟨x,ex,rp⟩:=r1.get e
   obtain⟨y,ey,rq⟩:=r2.get e2
   rw[ex,ey] at h2
   cases h1
   cases h2
   exact⟨_,_,rfl,rp,_,_,rfl,rq,rfl⟩
theorem Zco {C:Cn} {e e2:Expr} {elts:List Expr} {kk:Nat} {tp p pos:Pos} {f g:PSt->R PV} (hg:Gl C.X "zip") (hm:C.X.mg "zip"=none) (he:EV C e f) (he2:EV C e2 g)
  (hs:starEach [e,e2] C.X.env=[(false,eval e C.X.env),(false,eval e2 C.X.env)]:=by exact zn4 rfl rfl) (hs2:starEach [e2] C.X.env=[(false,eval e2 C.X.env)]:=by exact zcd rfl) :
  EI C (.Tuple elts kk tp) (.Call (.Name "zip" p) [e,e2] [] pos) (zipF f g):=by
 intro pins s σ H Rk I ⟨ρ,vw,q⟩
 refine Call_ (zih I hg hm PyProof.Rows.boot_zip (PyProof.Rows.callWith_type1 (thn ((zcj he (zcj he2 zft hs2) (by rw[hs,hs2])) pos pins s σ H (fun vs H'=>∃v u ps qs,vs=[v,u]/\Same H H'/\Rep C.X.K H' (.lst ps) v/\Rep C.X.K H' (.lst qs) u/\(ps.all zgw || qs.all zgw)=true/\∀J H2,Same H' H2->ItP C.X.K J H2 ((zipP ps qs).map .tup)->Rk J H2) I ⟨ρ,vw,q.bind.imp fun p _ k v H1 s1 r1=>⟨ρ,vw.same s1,(k.bind.same s1).imp fun p2 _ k2 u H2 s2 r2=>?_⟩⟩)
  fun us s1 ⟨vs,H1,I1,r1,v,u,ps,qs,ev,sm,rp,rq,hfl,k⟩=>?_) (by rw[hs,hs2]) (by rw[hs2];rfl)))
 ·cases p with
  | lst ps=>
   cases p2 with
   | lst qs=>
    by_cases hfl:(ps.all zgw || qs.all zgw)=true
    ·simp only[if_pos hfl] at k2
     exact⟨v,u,ps,qs,rfl,s1.trans s2,r1.same s2,r2,hfl,fun J H3 s3 it=>k2 J H3 ((s1.trans s2).trans s3) it⟩
    ·simp only[if_neg hfl] at k2
     exact False.elim k2
   | _=>exact False.elim k2
  | _=>exact False.elim k2
 ·subst ev
  obtain⟨w1,w2,rfl,rw1,rw2⟩:=vals2 r1
  obtain⟨a,xs,rfl,g1,rr1⟩:=rp
  obtain⟨b,ys,rfl,g2,rr2⟩:=rq
  cases rw1
  cases rw2
  obtain⟨its1,rv1,pl1,hz1⟩:=I1.list g1.l.l
  obtain⟨its2,rv2,pl2,hz2⟩:=I1.list g2.l.l
  have ha:a<s1.heap.objs.size:=by obtain⟨o,n,ho,_⟩:=pl1;exact Heap.lt_size ho
  have hb:b<s1.heap.objs.size:=by obtain⟨o,n,ho,_⟩:=pl2;exact Heap.lt_size ho
  have hfl2:(∀x∈xs,∀b,x≠V.ref b)\/(∀y∈ys,∀b,y≠V.ref b):=by
   cases hA:ps.all zgw with
   | true=>exact .inl (zmn hA rr1)
   | false=>
    rw[hA,Bool.false_or] at hfl
    exact .inr (zmn hfl rr2)
  refine call_zip_2 pl1.isList pl2.isList fun h' z1 z2 z3 z4 z5 hsz hk=>wpAny_pyIter_zip z1 ?_
  refine⟨_,[s1.heap.objs.size+4,s1.heap.objs.size+2,s1.heap.objs.size+3,s1.heap.objs.size,s1.heap.objs.size+1],_,_,H1,rfl,I1.kept (t':=s1.toks) hk,zt3 (s1.heap.objs.size+4) (s1.heap.objs.size+2) (s1.heap.objs.size+3) s1.heap.objs.size (s1.heap.objs.size+1) a b (zipApart_new ha hb) xs ys hfl2,⟨z1,z2,⟨_,_,z3⟩,z4,z5⟩,fun c hc=>?_,k _ H1 (Same.refl H1) ?_⟩
  ·have hc:s1.heap.objs.size<=c:=by
    simp only[List.mem_cons,List.not_mem_nil,or_false] at hc
    rcases hc with rfl | rfl | rfl | rfl | rfl <;> omega
   exact I1.fpOk hc (I1.hok.fresh hc)
  ·refine zni ?_ (fun H2 k2=>⟨(k2.sqF g1).l.l,(k2.sqF g2).l.l⟩) (zts rr1 rr2)
   unfold zipP
   rw[List.length_zipWith,rr1.length,rr2.length]
end PU
namespace PU
open PySem PySem.Spec PyProof.Rows L2
variable[TW]
def spN(K:PySem.W.Frag)(n:Nat)(F:List PV->Option PV):Sp:=fun vs H Q _=>vs.length=n/\Tabs H/\∃ps p,Reps K H ps vs/\F ps=some p/\∀a H',Same H H'->H a=none->zco K H' a p->Q (.ref a) H'
structure PFN(P:Program)(w:World)(K:PySem.W.Frag)(mg:Str->Option Value)(base:Heap)(k:Nat)(x:Str)(F:List PV->Option PV):Prop where
 ex:∃(f:Addr)(fd:FuncData)(ps:List Str),FnOk P w K mg base CX0 k f fd ps (spN K ps.length F)/\mg x=some (.ref f)/\PySem.W.keepIn K (.ref f)=true/\Binds K fd ps []/\∀qs p,F qs=some p->qs.length=ps.length
section
variable{C : Cn}{e : Expr}{es : List Expr}{fs : PSt → R (List PV)}{x : Str}{k : Nat}{F : List PV → Option PV}{p pos : Pos}
theorem zlg(G:PFN C.X.prog C.X.w C.X.K C.X.mg C.X.base k x F)(hr:Room k C.X.A)(hg:Gl C.X x)(ha:EA C (e::es) fs)
  (hdb:(x == ("__debug__":Str))=false:=by decide) (he:starEach (e::es) C.X.env=(false,eval e C.X.env)::starEach es C.X.env:=by exact zck rfl) (hpl:(backTo pos (starEach es C.X.env)).any (·.1)=false:=by exact zio rfl) :
  EN C (.Call (.Name x p) (e::es) [] pos) (za0 fs F):=by
 obtain⟨f,fd,ps,a,b,c,d,l⟩:=G.ex
 intro pins s σ H Q I ⟨ρ,vw,q⟩
 refine zre (dvs:=[]) (ds:=[]) (E:=E0) a hr hg b c d .nil pass0 ha hdb he hpl pins s σ H Q I ⟨ρ,vw,q.bind.imp fun qs _ k vs H1 s1 r1=>?_⟩
 obtain⟨z,ez,k⟩:=k.ofO
 rw[List.append_nil]
 exact⟨by rw[← r1.length];exact l qs z ez,s1.tabs vw.tb,qs,z,r1,ez,fun v H' s' n' r'=>k v H' (s1.trans s') (s1.free n') r'⟩
end
section
variable{P : Program}{w : World}{K : PySem.W.Frag}{mg : Str → Option Value}{base : Heap}
theorem Zav{x qual:Str}{st:Stmt}{f:Addr}{fd:FuncData}{N ps:List Str}{k:Nat}{e:Expr}{rp:Pos}{fe:PSt->R PV}(F:Fun K x qual st f fd)(S:FnScope N ps (zac st))(hm:mg x=some (.ref f))(hb:Binds K fd ps [])
  (hd:zar st=[.Return (some e) rp])
  (hbody:∀(cdv:Value)(A:Around)(outer:List Env)(s:Shared)(H:Hp)(E:XK),Room k (A.deeper (envOfC qual (zac st) s.heap.objs.size f cdv))->EN (cnOf P w K mg base N qual (zac st) f cdv A outer s H E) e fe) :
  PFN P w K mg base (k+1) x (runF ps.length N.length (retF fe)):=by
 refine⟨f,fd,ps,F.ok S (fun vs H Q E h=>h.1) (fun cdv A outer s H vs Q E hr h=>?_),hm,F.kp,hb,fun qs p h=>?_⟩
 ·obtain⟨hl,tb,qs,p,r,e0,k⟩:=h
  rw[hd]
  refine⟨_,zk3 (zoc (hbody cdv A outer s H E hr)),start N.length qs,(zg4 tb r).vw,?_⟩
  unfold runF at e0
  rw[if_pos (by rw[r.length];exact hl)] at e0
  unfold retF at e0
  cases hg:fe (start N.length qs) with
  | ok q=>rw[hg] at e0;cases e0;exact fun a H' s' n' w'=>k a H' s' n' w'
  | er x=>rw[hg] at e0;cases e0
  | no=>rw[hg] at e0;cases e0
 ·unfold runF at h
  split at h
  ·rename_i hl;exact hl
  ·cases h
end
end PU
namespace PU
open PySem PySem.Spec PyProof.Rows L2
variable[TW]
def RN(C:Cn)(B:Hp×Hp)(D:Ends):R Fl->Prop
 | .ok (.ret p)=>∀a H,Same B.1 H->B.1 a=none->zco C.X.K H a p->D.rt (.ref a) H
 | _=>False
def tSN(C:Cn)(g:PSt->R Fl):TS:=fun D σ H=>∃ρ B,StOk C.X.K B H σ ρ/\RN C B D (g ρ)
def SVN(C:Cn)(st:List Stmt)(g:PSt->R Fl):Prop:=PSs C.X st (tSN C g)
section
variable{C : Cn}{st : Stmt}{sts : List Stmt}{e : Expr}{f : PSt → R PV}{g g' : PSt → R Fl}{pos : Pos}
theorem zxf(he:EN C e f):SVN C [.Return (some e) pos] (retF f):=by
 intro pins s σ H D I ⟨ρ,B,S,h⟩
 refine zk3 (zoc he) pins s σ H D I ⟨ρ,S.vw,?_⟩
 unfold retF at h
 cases hf:f ρ with
 | ok p=>rw[hf] at h;exact fun a H' s' n' w'=>h a H' (S.same.trans s') (S.same.free n') w'
 | er x=>rw[hf] at h;exact False.elim h
 | no=>rw[hf] at h;exact False.elim h
theorem zec(hn:∀ρ p,g ρ≠.ok (.ret p))(h1:SV C st g)(h2:SVN C sts g'):SVN C (st::sts) (seqF g g'):=by
 intro pins s σ H D I ⟨ρ,B,S,h⟩
 refine zob h1 h2 pins s σ H D I ⟨ρ,B,S,?_⟩
 unfold seqF at h
 cases hg:g ρ with
 | ok fl=>
  rw[hg] at h
  cases fl with
  | next ρ'=>exact fun σ' H' S'=>⟨ρ',B,S',h⟩
  | brk ρ'=>exact False.elim h
  | cont ρ'=>exact False.elim h
  | ret p=>exact absurd hg (hn ρ p)
 | er x=>rw[hg] at h;exact False.elim h
 | no=>rw[hg] at h;exact False.elim h
omit [TW] in
theorem zfp(i:Nat)(f:PSt->R PV)(ρ:PSt)(p:PV):setF i f ρ≠.ok (.ret p):=by
 unfold setF
 cases f ρ with
 | ok q=>intro h;cases h
 | er x=>intro h;cases h
 | no=>intro h;cases h
end
section
variable{P : Program}{w : World}{K : PySem.W.Frag}{mg : Str → Option Value}{base : Heap}
omit [TW] in
theorem zvl(f:PSt->R PV)(ρ:PSt):(∃p,retF f ρ=.ok (.ret p))\/∀fl,retF f ρ≠.ok fl:=by
 unfold retF
 cases f ρ with
 | ok q=>exact .inl ⟨q,rfl⟩
 | er x=>exact .inr fun fl h=>by cases h
 | no=>exact .inr fun fl h=>by cases h
omit [TW] in
theorem zvk(i:Nat)(f:PSt->R PV)(g:PSt->R Fl)(h:∀ρ,(∃p,g ρ=.ok (.ret p))\/∀fl,g ρ≠.ok fl)(ρ:PSt):(∃p,seqF (setF i f) g ρ=.ok (.ret p))\/∀fl,seqF (setF i f) g ρ≠.ok fl:=by
 unfold seqF setF
 cases f ρ with
 | ok q=>exact h _
 | er x=>exact .inr fun fl h=>by cases h
 | no=>exact .inr fun fl h=>by cases h
end
theorem _root_.L2.Inv.thaw{X:Cx}{pins:List (Addr×Obj)}{σ:L2.St}{H H':Hp}{s s':Shared}{a:Addr}{o:Obj}{xs:List V}(I0:L2.Inv X pins σ H s)(I:L2.Inv X pins σ H' s')(h0:H a=some (.lst xs))(h1:H' a=some (.frz o (.lst xs))) :
  L2.Inv X pins σ (upd H' a (.lst xs)) s':=by
 have ne:∀b u,H' b=u->u≠some (.frz o (.lst xs))->b≠a:=fun b u e n z=>by
  subst z
  rw[h1] at e
  exact n e.symm
 refine⟨I.ok,I.os,I.bare,⟨I.base.keep,I.base.slot,fun b q e n hx=>?_,I.base.there,fun b ys e=>?_,fun b q u e=>?_,fun b ps e=>?_⟩,I.loc,I.cell,?_,fun x c e=>?_,fun p hp=>?_,fun b u e=>?_,I.len⟩
 ·have:=I.base.free b q e n hx
  rw[zah (ne b _ this (by intro h;cases h))]
  exact this
 ·have:=I.base.tups b ys e
  rw[zah (ne b _ this (by intro h;cases h))]
  exact this
 ·have h2:=I.base.frzs b q u e
  have h3:=I0.base.frzs b q u e
  have hb:b≠a:=fun z=>by subst z;rw[h0] at h3;cases h3
  rw[zah hb]
  exact h2
 ·obtain⟨m,e2⟩:=I.base.tbls b ps e
  refine⟨m,?_⟩
  rw[zah (ne b _ e2 (by intro h;cases h))]
  exact e2
 ·have:=I.free
  rw[zah (ne _ _ this (by intro h;cases h))]
  exact this
 ·have:=I.freeC x c e
  rw[zah (ne _ _ this (by intro h;cases h))]
  exact this
 ·obtain⟨p1,p2,p3⟩:=I.pin p hp
  refine⟨p1,?_,p3⟩
  rw[zah (ne _ _ p2 (by intro h;cases h))]
  exact p2
 ·by_cases hb:b=a
  ·subst hb
   rw[zai] at e
   cases e
   exact(I.hok b _ h1).2
  ·rw[zah hb] at e
   refine(I.hok b u e).stay (fun c v hc q=>q) (fun c q=>?_) fun c ys q=>?_
   ·rw[zah (ne _ _ q (by intro h;cases h))]
    exact q
   ·rw[zah (ne _ _ q (by intro h;cases h))]
    exact q
def Zb5:Sl->Bool
 | .own _=>true
 | .pin _ _=>true
 | _=>false
def zt4(i:Nat)(f:PSt->R Bool):PSt->R Bool:=fun ρ=>match ρ[i]? with
 | some (.own (.lst ps))=>if (ρ.set i (.val (.lst ps))).any Zb5=false then noEr (f (ρ.set i (.val (.lst ps)))) else .no
 | _=>.no
theorem zy4{C:Cn}(i:Nat){e:Expr}{f:PSt->R Bool}(he:ET C e f):ET C e (zt4 i f):=by
 intro pins s σ H Q I ⟨ρ,vw,q⟩
 unfold zt4 at q
 split at q
 ·rename_i ps e1
  split at q
  ·rename_i hno
   obtain⟨b,eb,k⟩:=zrm q
   obtain⟨a,ea,xs,hx,rr⟩:=vw i _ e1
   obtain⟨z,its,m,rv,eo⟩:=I.hok a _ hx
   obtain⟨ob,hob⟩:∃ob:Obj,ob={ cls:=.type "list",data:=.seq its.toArray m }:=⟨_,rfl⟩
   have I2:L2.Inv C.X pins σ (upd H a (.frz ob (.lst xs))) s:=I.reH hx rfl rfl (by intro _ h;cases h) (by intro _ h;cases h) ⟨by rw[hob];exact eo,z,its,m,rv,eo⟩
   have kp:Kp H (upd H a (.frz ob (.lst xs))):=Kp.upd hx rfl
   refine thn (he pins s σ (upd H a (.frz ob (.lst xs))) (fun b' H'=>b'=b/\Same (upd H a (.frz ob (.lst xs))) H') I2 ⟨ρ.set i (.val (.lst ps)),⟨fun j l ej=>?_,vw.tb.but (fun u h=>by rw[hx] at h;cases h;exact⟨rfl,rfl⟩) (fun b hb=>zah hb)⟩,?_⟩) fun b' s1 ⟨H1,I1,eb',sm⟩=>?_
   ·rcases za3 ej with⟨rfl,rfl,_⟩|⟨hne,ej⟩
    ·exact⟨_,ea,a,xs,rfl,.inl ⟨_,zai⟩,Reps.kp kp ps rr⟩
    ·have hl:=vw j l ej
     cases l with
     | no=>exact trivial
     | val p=>obtain⟨v,ev,rp⟩:=hl;exact⟨v,ev,Rep.kp kp p rp⟩
     | own p=>
      exfalso
      have hm:Sl.own p∈ρ.set i (.val (.lst ps)):=by
       have:(ρ.set i (.val (.lst ps)))[j]?=some (.own p):=by rw[List.getElem?_set_ne (Ne.symm hne)];exact ej
       exact List.mem_of_getElem? this
      have:=List.any_eq_false.mp hno _ hm
      exact this rfl
     | pin p b=>
      exfalso
      have hm:Sl.pin p b∈ρ.set i (.val (.lst ps)):=by
       have:(ρ.set i (.val (.lst ps)))[j]?=some (.pin p b):=by rw[List.getElem?_set_ne (Ne.symm hne)];exact ej
       exact List.mem_of_getElem? this
      have:=List.any_eq_false.mp hno _ hm
      exact this rfl
   ·rw[eb]
    exact fun H' s'=>⟨rfl,s'⟩
   ·subst eb'
    have h1:=sm a _ zai
    refine⟨_,I.thaw I1 hx h1,k _ ⟨fun c u ec n=>?_,fun c qs ec=>?_⟩⟩
    ·by_cases hc:c=a
     ·subst hc
      rw[hx] at ec
      cases ec
      exact zai
     ·rw[zah hc]
      exact sm.at_ c u (by rw[zah hc];exact ec) n
    ·have hc:c≠a:=fun z=>by subst z;rw[hx] at ec;cases ec
     obtain⟨q1,e1,k1⟩:=sm.tb c qs (by rw[zah hc];exact ec)
     refine⟨q1,by rw[zah hc];exact e1,fun t=>?_⟩
     have t1:=k1 (t.kp kp)
     refine⟨t1.1,fun pos v e=>?_⟩
     obtain⟨c2,f1,f2⟩:=t1.2 pos v e
     have hc2:c2≠a:=fun z=>by subst z;rw[h1] at f2;cases f2
     exact⟨c2,f1,by rw[zah hc2];exact f2⟩
  ·exact False.elim q
 ·exact False.elim q
def zv9:V->List V->Hp->VK->Prop:=fun x vs H Q=>∃l xs,x=.ref l/\vs=[]/\H l=some (.lst xs)/\Q .non (upd H l (.lst []))
theorem zu1 {X:Cx}:MtM X "list.clear" zv9:=by
 intro pins s σ H x vs v us Q I rx rv h
 obtain⟨l,xs,rfl,rfl,hH,q⟩:=h
 cases rx
 cases rv
 obtain⟨z,its,n,r,hl,e⟩:=I.lstM hH
 refine call_meets PySem.F.slot_list_clear ⟨_,e,rfl⟩ PySem.F.entry_list_clear (PySem.F.args_list_clear_1 _) (AutoSeq1.list_clear_list_0 l its.toArray n (by rw[List.size_toArray];omega)) ⟨e,?_⟩
 exact⟨.non,_,I.lset (its':=[]) hH e (by simp) .nil (by simp),rfl,q⟩
def clrF(i:Nat):PSt->R Fl:=fun ρ=>match ρ[i]? with
 | some (.own (.lst _))=>.ok (.next (ρ.set i (.own (.lst []))))
 | _=>.no
theorem zt6{C:Cn}{pos apos cpos:Pos}(i:Nat){x:Str}{np:Pos}(hN:C.X.N[i]?=some x)(hv:Vis C.X.env.scope x)
  (hb:attributeBase (.Name x np) "clear" C.X.env (eval (.Name x np) C.X.env)=eval (.Name x np) C.X.env:=by rfl) (hline:(apos.endLine == cpos.line)=true:=by rfl)
  (hd:(x == ("__debug__":Str))=false:=by decide) (hcd:(x == ("__classdict__":Str))=false:=by decide):SV C (.Expr (.Call (.Attribute (.Name x np) "clear" apos) [] [] cpos) pos) (clrF i):=by
 intro pins s σ H D I ⟨ρ,B,S,q⟩
 unfold clrF at q
 split at q
 ·rename_i ps e1
  obtain⟨a,e2,xs,hx,rr⟩:=S.vw i _ e1
  refine zq4 (Za3 PySem.F.plainAttrs_list PySem.F.slot_list_clear PySem.F.type_list_clear zu1 (zfi hN hv hd hcd) hb hline) (by rfl) pins s σ H D I ?_
  refine⟨_,e2,.inl ⟨rfl,xs,SqL.of hx⟩,a,xs,rfl,rfl,hx,?_⟩
  refine q σ _ (S.turn e1 e2 (fun b hb=>zah hb) ?_)
  exact⟨a,rfl,[],zai,Reps.nil⟩
 ·exact False.elim q
end PU
namespace PU
open PySem PySem.Spec PyProof.Rows L2 PySem.SeqAt
theorem zi0:typeLookup (.type "tuple") "keys"=pure none:=by rw[typeLookup_type,builtinLookup_eq_fast];kernel_rfl
theorem zhs{prog:Program}{w:World}{A:Around}{E:Value->Shared->Prop}{s:Shared}{a:Addr}{o:Obj}{xs:Array Value}{k:Nat}{name:Str}{Q:Option Value->Shared->Prop}
  (hx:s.heap.get? a=some o) (hc:o.cls=.type "tuple") (hdat:o.data=.seq xs k) (hd:o.dict=none) (hmiss:typeLookup (.type "tuple") name=pure none) (hname:(["__module__","__name__","__qualname__","__doc__","__annotations__"]:List Str).contains name=false) (hA:A.handled=none)
  (h:∀h' tk e,Heap.NewExcOf s.heap h' e "AttributeError"->Q none { s with heap:=h',toks:=tk }) (hsz:name.length+100<=sizeLine:=by size_fits) :
  wpAny (model prog w) A (getAttr? (.ref a) name) Q E s:=by
 obtain⟨c,dct,dat,sl⟩:=o
 simp only at hc hdat hd
 subst hc hdat hd
 obtain⟨hp,g,d,tk,os⟩:=s
 have hT:∀tk',(⟨hp,g,d,tk',os⟩:Shared).TypeIs (.ref a) "tuple":=fun _=>⟨_,hx,rfl⟩
 have f1:=sub_AttributeError
 have f3:=F.slot_tuple_getattribute.lookup
 have f4:=F.slot_tuple_getattribute.bind (.ref a)
 have f5:=am_tuple_getattr_none
 unfold getAttr? getAttrBy? getAttrBy
 repeat (any_goals (first | assumption | exact hT _ | ((with_reducible show wpAny _ _ (call (Value.builtin "tuple.__getattribute__") _ _) _ _ _);refine call_meets F.slot_tuple_getattribute (hT _) am_entry_tuple_getattribute (F.args_tuple_getattribute_2 _ _) (meets_getattribute_miss_tuple a xs k sl name _ hmiss hname hsz) ⟨hx,hA,fun h' tk' e hx'=>?_⟩) | wp_step))
 obtain⟨t',u',he⟩:=hx'.there
 show wpAny _ _ (getattributeRaised _ _ _ _ _ _ _) _ _ _
 unfold getattributeRaised
 repeat (any_goals (first | assumption | wp_step))
 exact h _ _ _ hx'.of
theorem zgm:entryFor table "dict.update.loop"=some Builtin.«dict.update.loop»:=entryFor_of_tree (by kernel_rfl)
section
variable{prog : Program}{w : World}{K : Type}[DecidableEq K]{knd : KeyKind prog w K}{A : Around}
def storeAll(acc:List (K×Value))(l:List (K×Value)):List (K×Value):=l.foldl (fun a p=>stored a p.1 p.2) acc
theorem zny{R:Result->Shared->Prop}{h0:Heap}{d it a:Addr}{items:Array Value}{kvs:List (K×Value)}{result:Value}(hh:A.handled=none)(hda:a≠d)(hia:a≠it)(hdi:d≠it)(ha:h0.IsTuple a items)(hn:items.size=kvs.length)
  (hp:∀(j:Nat)(x:Value),items[j]?=some x->∃(p:Addr)(key:Value)(k:K)(v:Value),x=.ref p/\kvs[j]?=some (k,v)/\p≠d/\p≠it/\h0.IsTuple p #[key,v]/\knd.is k key=true) :
  ∀(m i:Nat)(s:Shared)(acc:List (K×Value)),m=items.size-i->i<=items.size->(∀b o,b≠d->b≠it->h0.get? b=some o->s.heap.get? b=some o)->s.heap.IsTupleIter it a i->s.heap.DictOf knd d acc->acc.length+m<=sizeLine->
   (∀h' tk,(∀b o,b≠d->b≠it->h0.get? b=some o->h'.get? b=some o)->h'.DictOf knd d (storeAll acc (kvs.drop i))->R (.ok (.ret result)) { s with heap:=h',toks:=tk })->
   codeAny (model prog w) A (.builtin "dict.update.loop" ⟨[.ref d,.ref it,rawInt (i:Int),result],[]⟩) R s
 | 0,i,s,acc,hm,hi,hk,hit,hd,hz,hR=>by
  have e:i=items.size:=by omega
  have hq:s.heap.IsTuple a items:=ha.at fun o e=>hk a o hda hia e
  refine codeAny_builtin zgm ?_
  unfold Builtin.«dict.update.loop»
  show wpAny _ _ (pyNext (.ref it) >>= _) _ _ s
  refine wpAny_bind (wpAny_pyNext_tuple_end (by exact hh) hit hq (by rw[e];simp) fun h' eb=>?_)
  have hd':h'.DictOf knd d acc:=hd.extBut eb hdi
  show wpAny _ _ (Builtin.Dict.addKeywords d [] >>= _) _ _ _
  refine wpAny_bind (wpAny_pure (wpAny_pure (hR h' s.toks (fun b o hb1 hb2 q=>eb b o hb2 (hk b o hb1 hb2 q)) ?_)))
  rw[e,hn,List.drop_length]
  exact hd'
 | m+1,i,s,acc,hm,hi,hk,hit,hd,hz,hR=>by
  have hlt:i<items.size:=by omega
  have hq:s.heap.IsTuple a items:=ha.at fun o e=>hk a o hda hia e
  have hx:items[i]?=some items[i]:=by simp[hlt]
  obtain⟨p,key,k,v,ex,ek,h1,h2,h3,h4⟩:=hp i _ hx
  refine codeAny_builtin zgm ?_
  unfold Builtin.«dict.update.loop»
  show wpAny _ _ (pyNext (.ref it) >>= _) _ _ s
  refine wpAny_bind (wpAny_pyNext_tuple_item hit hq hx fun h' hit' sb=>?_)
  rw[ex]
  have hd':h'.DictOf knd d acc:=hd.extBut sb.extBut hdi
  have hpt:h'.IsTuple p #[key,v]:=h3.at fun o e=>(sb.2 p h2).trans (hk p o h1 h2 e)
  obtain⟨op,hop,hcp,np,hdp⟩:=id hpt
  dsimp only
  refine wpAny_bind (wpAny_holding (wpAny_bind (wpAny_tryCatch ?_)))
  unfold Builtin.Dict.pairItems
  refine wpAny_bind (wpAny_typeOf hpt.typeIs ?_)
  rw[if_pos (by decide)]
  refine wpAny_bind ?_
  have hsi:wpAny (model prog w) (A.under (Code.builtin "dict.update.loop" ⟨[.ref d,.ref it,rawInt (i:Int),result],[]⟩)) (seqItems? (.ref p)) (fun r s'=>r=some #[key,v]/\s'={ s with heap:=h' }) (fun _ _=>False) { s with heap:=h' }:=by
   repeat (any_goals (first | assumption | wp_step))
   rw[hdp]
   exact wpAny_pure ⟨rfl,rfl⟩
  refine wpAny_mono hsi (fun r s' hr=>?_) fun _ _ h=>h.elim
  obtain⟨rfl,rfl⟩:=hr
  refine wpAny_pure ?_
  show wpAny _ _ (holding [key,v] (dictSet d key v)) _ _ _
  refine wpAny_holding (wpAny_dictSet_pairs h4 hd' (fun h'' hd'' sb'=>?_) (by omega))
  refine wpAny_pure ⟨Code.quiet_builtin _ (by decide +kernel),?_⟩
  have ei:((i:Int)+1)=((i+1:Nat):Int):=by omega
  rw[ei]
  have hlen:=stored_length_le acc k v
  refine zny hh hda hia hdi ha hn hp m (i+1) _ (stored acc k v) (by omega) hlt (fun b o hb1 hb2 q=>?_) ?_ hd'' (by omega) fun h3 tk hk3 hd3=>hR h3 tk hk3 ?_
  ·exact(sb'.2 b hb1).trans ((sb.2 b hb2).trans (hk b o hb1 hb2 q))
  ·exact hit'.at fun o e=>(sb'.2 it (Ne.symm hdi)).trans e
  ·have hdr:kvs.drop i=(k,v)::kvs.drop (i+1):=by
    obtain⟨hl,e⟩:=List.getElem?_eq_some_iff.mp ek
    rw[List.drop_eq_getElem_cons hl,e]
   rw[hdr]
   exact hd3
theorem zjw {E:Value->Shared->Prop} {s:Shared} {a:Addr} {o:Obj} {items:Array Value} {n0:Nat} {kvs:List (K×Value)} {Q:Value->Shared->Prop} (hA:A.handled=none) (hx:s.heap.get? a=some o) (hc:o.cls=.type "tuple") (hdat:o.data=.seq items n0) (hdn:o.dict=none)
  (hn:items.size=kvs.length) (hz:kvs.length<=sizeLine)
  (hp:∀(j:Nat)(x:Value),items[j]?=some x->∃(p:Addr)(key:Value)(k:K)(v:Value),x=.ref p/\kvs[j]?=some (k,v)/\s.heap.IsTuple p #[key,v]/\knd.is k key=true)
  (h:∀h' tk,(∀b o,s.heap.get? b=some o->h'.get? b=some o)->h'.DictOf knd s.heap.objs.size (storeAll [] kvs)->Q (.ref s.heap.objs.size) { s with heap:=h',toks:=tk }) :
  wpAny (model prog w) A (call (.type "dict") [.ref a]) Q E s:=by
 refine callType_codes (Q₁:=fun obj s₁=>obj=.ref s.heap.objs.size/\s₁={ s with heap:=s.heap.push { cls:=.type "dict",data:=.dict #[] } }) F.kt_called_dict (F.kt_typeCall_dict_1 _) F.entry_dict_init (kt_code_dict_new _ ⟨rfl,rfl⟩) ?_
 rintro obj s₁ ⟨rfl,rfl⟩
 have hnew:(s.heap.push { cls:=.type "dict",data:=.dict #[] }).DictOf knd s.heap.objs.size []:=Heap.DictOf.new s.heap
 have hx':(s.heap.push { cls:=.type "dict",data:=.dict #[] }).get? a=some o:=Heap.get?_push_of_some _ hx
 have hT:Shared.TypeIs { s with heap:=s.heap.push { cls:=.type "dict",data:=.dict #[] } } (.ref a) "tuple":=⟨o,hx',hc⟩
 refine⟨hnew.typeIs,F.args_dict_init_2 _ _,?_⟩
 unfold Builtin.«dict.__init__»
 refine wpAny_bind ?_
 unfold Builtin.Dict.selfAndRest
 refine wpAny_bind (wpAny_notOrdered_dict hnew.typeIs ?_)
 show wpAny _ _ (pure (s.heap.objs.size,[Value.ref a])) _ _ _
 refine wpAny_pure ?_
 show wpAny _ _ (Builtin.Dict.updateFrom "dict.__init__" s.heap.objs.size (.ref a) [] .none) _ _ _
 unfold Builtin.Dict.updateFrom
 refine wpAny_bind (wpAny_typeOf hT ?_)
 rw[if_pos (by decide)]
 refine wpAny_bind (zhs hx' hc hdat hdn zi0 (by decide +kernel) (by exact hA) fun h1 tk1 e1 ne=>?_)
 have k1:∀b u,(s.heap.push { cls:=.type "dict",data:=.dict #[] }).get? b=some u->h1.get? b=some u:=fun b u q=>ne.keeps b u q
 rw[if_pos (show (none:Option Value).isNone=true from rfl)]
 have ht:h1.IsTuple a items:=⟨o,k1 a o hx',hc,n0,hdat⟩
 refine wpAny_bind (wpAny_rule (wpAny_bind (wpAny_pyIter_tuple ht ?_)))
 have sD:s.heap.objs.size<h1.objs.size:=by
  obtain⟨od,_,_,hod,_⟩:=hnew
  exact Heap.lt_size (k1 _ _ hod)
 have k2:∀b u,s.heap.get? b=some u->(h1.push { cls:=.type "tuple_iterator",data:=.fields #[.ref a,.int 0 0] }).get? b=some u:=fun b u q=>Heap.get?_push_of_some _ (k1 b u (Heap.get?_push_of_some _ q))
 refine wpAny_pure ⟨Code.quiet_builtin _ (by decide +kernel),?_⟩
 have lts:∀b u,s.heap.get? b=some u->b≠s.heap.objs.size/\b≠h1.objs.size:=fun b u q=>⟨Nat.ne_of_lt (Heap.lt_size q),Nat.ne_of_lt (Nat.lt_trans (Heap.lt_size q) sD)⟩
 refine zny (knd:=knd) (h0:=h1.push { cls:=.type "tuple_iterator",data:=.fields #[.ref a,.int 0 0] }) (kvs:=kvs) (by exact hA) (lts a o hx).1 (lts a o hx).2 (Nat.ne_of_lt sD) (ht.push _) hn (fun j x hj=>?_) items.size 0 _ [] (by omega) (Nat.zero_le _) (fun b u _ _ q=>q) ⟨_,Heap.get?_push_size _ rfl,rfl,rfl⟩ ?_ (by simp;omega) fun h' tk hk' hd'=>?_
 ·obtain⟨p,key,k,v,e1,e2,e3,e4⟩:=hp j x hj
  obtain⟨op,hop,r⟩:=id e3
  exact⟨p,key,k,v,e1,e2,(lts p op hop).1,(lts p op hop).2,⟨op,k2 p op hop,r⟩,e4⟩
 ·obtain⟨od,es,ep,hod,r⟩:=hnew
  exact⟨od,es,ep,Heap.get?_push_of_some _ (k1 _ _ hod),r⟩
 ·exact⟨rfl,h h' tk (fun b u q=>hk' b u (lts b u q).1 (lts b u q).2 (k2 b u q)) hd'⟩
end
end PU
namespace PU
open PySem L2
def zif:List PV->Option (List (Key×PV))
 | []=>some []
 | .tup [.str k,v]::r=>(zif r).map fun l=>(.inr k,v)::l
 | _=>none
def zmk:PV->Option PV
 | .tup ps=>if ps.length<=1000 then (zif ps).map zeu else none
 | _=>none
end PU
namespace PU
open PySem PySem.Spec PyProof.Rows L2 PySem.SeqAt
variable[TW]
theorem zoi{X:Cx}{pins:List (Addr×Obj)}{σ:L2.St}{H:Hp}{s:Shared}(I:L2.Inv X pins σ H s):∀{ps:List PV}{kps:List (Key×PV)}{xs:List V}{its:List Value},zif ps=some kps->Reps X.K H ps xs->Vals xs its->
  ∃(kvs:List (Key×V))(vs:List (Key×Value)),KReps X.K H kps kvs/\KV kvs vs/\its.length=vs.length/\∀(j:Nat)(x:Value),its[j]?=some x->∃(p:Addr)(key:Value)(k:Key)(v:Value),x=.ref p/\vs[j]?=some (k,v)/\s.heap.IsTuple p #[key,v]/\(zax X.prog X.w).is k key=true
 | [],kps,xs,its,e,r,rv=>by
  cases e
  cases r
  cases rv
  exact⟨[],[],rfl,.nil,rfl,fun j x h=>by simp at h⟩
 | p::ps,kps,xs,its,e,r,rv=>by
  obtain⟨x,t,rfl,r1,r2⟩:=r
  cases rv with
  | cons ru rv=>
  unfold zif at e
  split at e
  ·rename_i h;cases h
  ·rename_i k v r' h
   cases h
   obtain⟨l,el,ez⟩:=Option.map_eq_some_iff.mp e
   cases ez
   obtain⟨kvs,vs,q1,q2,q3,q4⟩:=zoi I el r2 rv
   obtain⟨a,ys,rfl,g,rr⟩:=r1
   obtain⟨y1,t1,rfl,h1,y2,t2,rfl,h2,h3⟩:=rr
   cases h3
   cases h1
   cases ru
   obtain⟨its2,rv2,pl,hz⟩:=I.tuple (tq g)
   cases rv2 with
   | cons ra rv2=>
   cases rv2 with
   | cons rb rv2=>
   cases rv2
   obtain⟨tk,rfl⟩:=ra
   refine⟨(.inr k,y2)::kvs,(.inr k,_)::vs,⟨y2,kvs,rfl,h2,q1⟩,.cons ⟨rfl,rb⟩ q2,by simp[q3],fun j x hj=>?_⟩
   cases j with
   | zero=>
    simp at hj
    subst hj
    exact⟨a,_,_,_,rfl,rfl,pl,zjc _ _ _ _⟩
   | succ j=>
    obtain⟨p,key,k',v',e1,e2,e3,e4⟩:=q4 j x (by simpa using hj)
    exact⟨p,key,k',v',e1,by simpa using e2,e3,e4⟩
  ·cases e
omit [TW] in
theorem zib{K:Type}[DecidableEq K]:∀(l acc:List (K×Value)),(storeAll acc l).length<=acc.length+l.length
 | [],acc=>by simp[storeAll]
 | p::l,acc=>by
  have h1:=zib l (stored acc p.1 p.2)
  have h2:=stored_length_le acc p.1 p.2
  have e:storeAll acc (p::l)=storeAll (stored acc p.1 p.2) l:=rfl
  rw[e,List.length_cons]
  omega
theorem zw3 {X:Cx} (hc:X.calm=true:=by rfl) (hw:X.w=TW.w:=by rfl):zgz X (.type "dict") (rn1 X.K zmk):=by
 intro pins s σ H xs us Q I r ⟨v,p,z,e1,rp,ez,k⟩
 subst e1
 cases p with
 | tup ps=>
  have ez:(if ps.length<=1000 then (zif ps).map zeu else none)=some z:=ez
  by_cases hlen:ps.length<=1000
  ·rw[if_pos hlen] at ez
   obtain⟨kps,ek,rfl⟩:=Option.map_eq_some_iff.mp ez
   obtain⟨a,xs,rfl,g,rr⟩:=rp
   obtain⟨u,rfl,ru⟩:=vals1 r
   cases ru
   obtain⟨its,rv,⟨o,ho,hcl,⟨n0,hdat⟩,hdn⟩,hz⟩:=I.tupleX (tq g)
   obtain⟨kvs,vs,q1,q2,q3,q4⟩:=zoi I ek rr rv
   have hl1:=rr.length
   have hl2:=rv.length
   have hs:=sizeLine_eq
   refine zjw (knd:=zax X.prog X.w) (kvs:=vs) (I.ok.hd hc) ho hcl hdat (hdn fun v hv=>(by obtain⟨j,hj⟩:=List.mem_iff_getElem?.mp hv;obtain⟨p,_,_,_,e,_⟩:=q4 j v (by simpa using hj);exact⟨p,e⟩)) (by rw[List.size_toArray];exact q3) (by omega) (fun j x hj=>q4 j x (by simpa using hj)) fun h' tk keep D'=>?_
   have nf:H s.heap.objs.size=none:=I.fresh
   have hne:(s.heap.objs.size == sysModules)=false:=by
    have hb:=I.big
    refine beq_eq_false_iff_ne.mpr fun e=>?_
    rw[e] at hb
    exact Nat.lt_irrefl _ hb
   have hm:KV (zev [] kvs) (storeAll [] vs):=KV.merge q2 .nil
   have hml:(zev [] kvs).length<=sizeLine:=by
    have a1:(zev [] kvs).length=(storeAll [] vs).length:=Paired.length hm
    have a2:=zib vs []
    simp only[List.length_nil] at a2
    omega
   have I2:=I.laid (a:=s.heap.objs.size) (o:=.dK (zev [] kvs)) (h':=h') (t':=tk) keep (Nat.le_refl _) ⟨hml,hne,_,hm,D'⟩
   have kp:Kp H (upd H s.heap.objs.size (.dK (zev [] kvs))):=Same.kp (Same.new nf)
   obtain⟨ks',ps',g1,g2,g3⟩:=zjd (acc:=[]) (ps:=[]) (KReps.kp kp q1) Reps.nil
   refine⟨.ref _,_,I2,rfl,k _ _ (Same.new nf) nf ?_⟩
   rw[zon]
   have g1:kps.foldl addP (PV.dct [] [])=PV.dct ks' ps':=g1
   rw[g1]
   exact⟨_,zai,g2,g3⟩
  ·rw[if_neg hlen] at ez
   cases ez
 | _=>cases ez
end PU
namespace PU
open PySem PySem.Spec PyProof.Rows L2 PySem.SeqAt
def zh5:List PV->Option (List Int)
 | []=>some []
 | .int i::r=>(zh5 r).map (i::·)
 | _=>none
theorem zfx:∀{ps:List PV}{xs:List Int},zh5 ps=some xs->ps=xs.map .int
 | [],_,e=>by cases e;rfl
 | p::ps,xs,e=>by
  cases p with
  | int i=>
   simp only[zh5] at e
   obtain⟨r,er,rfl⟩:=Option.map_eq_some_iff.mp e
   rw[zfx er]
   rfl
  | _=>cases e
theorem znw:∀xs ys:List Int,xs.length=ys.length->(List.range xs.length).all (fun m=>decide (xs.getD m 0=ys.getD m 0))=decide (xs=ys)
 | [],[],_=>rfl
 | [],_::_,h=>by simp at h
 | _::_,[],h=>by simp at h
 | x::xs,y::ys,h=>by
  have ih:=znw xs ys (by simpa using h)
  rw[List.length_cons,List.range_succ_eq_map,List.all_cons,List.all_map]
  have e:((fun m=>decide ((x::xs).getD m 0=(y::ys).getD m 0)) ∘ Nat.succ)=fun m=>decide (xs.getD m 0=ys.getD m 0):=by
   funext m
   simp only[Function.comp,Nat.succ_eq_add_one,List.getD_cons_succ]
  rw[e,ih]
  simp only[List.getD_cons_zero,List.cons.injEq,Bool.decide_and]
variable[TW]
theorem zhe{K:PySem.W.Frag}{H:Hp}:∀{ns:List Int}{xs:List V}{us:List Value},Reps K H (ns.map .int) xs->Vals xs us->∀j (h:j<us.length),∃t,us[j]=.int (ns.getD j 0) t
 | [],xs,us,r,v,j,h=>by
  cases r
  cases v
  simp at h
 | n::ns,xs,us,r,v,j,h=>by
  obtain⟨x,xs',rfl,r1,r2⟩:∃x xs',xs=x::xs'/\Rep K H (.int n) x/\Reps K H (ns.map .int) xs':=by
   cases xs with
   | nil=>have:=r.length;simp at this
   | cons x xs'=>
    obtain⟨a,b,e,c,d⟩:=r
    cases e
    exact⟨x,xs',rfl,c,d⟩
  cases v with
  | cons v1 v2=>
   cases (show x=.int n from r1)
   cases j with
   | zero=>obtain⟨t,e⟩:=v1;exact⟨t,by simpa using e⟩
   | succ j=>simpa using zhe r2 v2 j (by simpa using h)
theorem zg6{K:PySem.W.Frag}{H:Hp}:∀{ns:List Int}{xs:List V},Reps K H (ns.map .int) xs->xs=ns.map V.int
 | [],xs,r=>by
  cases xs with
  | nil=>rfl
  | cons x xs=>have:=r.length;simp at this
 | n::ns,xs,r=>by
  cases xs with
  | nil=>have:=r.length;simp at this
  | cons x xs'=>
   obtain⟨a,b,e,c,d⟩:=r
   cases e
   cases (show x=.int n from c)
   rw[zg6 d]
   rfl
end PU
namespace PU
open PySem PySem.Spec PyProof.Rows L2
def retO(i:Nat):PSt->R Fl:=fun ρ=>match ρ[i]? with
 | some (.own p)=>.ok (.ret p)
 | _=>.no
def runN(m n:Nat)(g:PSt->R Fl)(ps:List PV):Option PV:=if ps.length=m then (match g (start n ps) with
 | .ok (.ret p)=>some p
 | _=>none) else none
section
variable{g g' : PSt → R Fl}{t : PSt → R Bool}{f fk fv : PSt → R PV}{i : Nat}
theorem zja(i:Nat)(f:PSt->R PV)(ρ:PSt)(p:PV):ownF i f ρ≠.ok (.ret p):=by
 unfold ownF
 cases f ρ with
 | ok q=>intro h;cases h
 | er x=>intro h;cases h
 | no=>intro h;cases h
theorem zm4(i:Nat)(f:PSt->R PV)(ρ:PSt)(p:PV):appF i f ρ≠.ok (.ret p):=by
 unfold appF
 intro h
 split at h
 ·cases hf:f ρ with
  | ok q=>
   rw[hf,R.ok_bind] at h
   repeat' split at h
   all_goals cases h
  | er x=>rw[hf] at h;cases h
  | no=>rw[hf] at h;cases h
 ·cases h
theorem zmm{h:Tgt}{fi:PSt->R (List PV)}(hg:∀ρ p,g ρ≠.ok (.ret p))(ρ:PSt)(p:PV):forS fi h g ρ≠.ok (.ret p):=by
 have go:∀(ps:List PV)(ρ:PSt),forF h g ps ρ≠.ok (.ret p):=by
  intro ps
  induction ps with
  | nil=>intro ρ h;cases h
  | cons x ps ih=>
   intro ρ e
   unfold forF at e
   cases h1:h x ρ with
   | none=>rw[h1] at e;cases e
   | some ρ1=>
    rw[h1,R.ofO_some,R.ok_bind] at e
    cases h2:g ρ1 with
    | ok fl=>
     rw[h2,R.ok_bind] at e
     cases fl with
     | next ρ2=>exact ih ρ2 e
     | cont ρ2=>exact ih ρ2 e
     | brk ρ2=>cases e
     | ret q=>exact hg ρ1 q h2
    | er x=>rw[h2] at e;cases e
    | no=>rw[h2] at e;cases e
 unfold forS
 intro e
 cases h1:fi ρ with
 | ok ps=>rw[h1,R.ok_bind] at e;exact go ps ρ e
 | er x=>rw[h1] at e;cases e
 | no=>rw[h1] at e;cases e
end
variable[TW]
section
variable{C : Cn}
theorem zn2(i:Nat){x:Str}{np pos:Pos}(hN:C.X.N[i]?=some x:=by rfl)(hv:Vis C.X.env.scope x:=by first | exact Or.inl rfl | exact Or.inr (Or.inl rfl) | exact Or.inr (Or.inr rfl))
  (hd:(x == ("__debug__":Str))=false:=by decide) (hcd:(x == ("__classdict__":Str))=false:=by decide):SVN C [.Return (some (.Name x np)) pos] (retO i):=by
 intro pins s σ H D I ⟨ρ,B,S,h⟩
 unfold retO at h
 split at h
 ·rename_i p e1
  obtain⟨a,ea,nw⟩:=S.vw i _ e1
  exact zk3 (zoc (zfi hN hv hd hcd)) pins s σ H D I ⟨.ref a,ea,h a H S.same (S.fresh i p a e1 ea) nw⟩
 ·exact False.elim h
end
section
variable{P : Program}{w : World}{K : PySem.W.Frag}{mg : Str → Option Value}{base : Heap}
theorem zrc{x qual:Str}{st:Stmt}{f:Addr}{fd:FuncData}{N ps:List Str}{k:Nat}{g:PSt->R Fl}(F:Fun K x qual st f fd)(S:FnScope N ps (zac st))(hm:mg x=some (.ref f))(hb:Binds K fd ps [])
  (hbody:∀(cdv:Value)(A:Around)(outer:List Env)(s:Shared)(H:Hp)(E:XK),Room k (A.deeper (envOfC qual (zac st) s.heap.objs.size f cdv))->SVN (cnOf P w K mg base N qual (zac st) f cdv A outer s H E) (zar st) g) :
  PFN P w K mg base (k+1) x (runN ps.length N.length g):=by
 refine⟨f,fd,ps,F.ok S (fun vs H Q E h=>h.1) (fun cdv A outer s H vs Q E hr' h=>?_),hm,F.kp,hb,fun qs p h=>?_⟩
 ·obtain⟨hl,tb,qs,p,r,e0,k⟩:=h
  refine⟨_,hbody cdv A outer s H E hr',start N.length qs,(H,H),zg4 tb r,?_⟩
  unfold runN at e0
  rw[if_pos (by rw[r.length];exact hl)] at e0
  split at e0
  ·rename_i q hq
   rw[hq]
   cases e0
   exact fun a H' s' n' w'=>k a H' s' n' w'
  ·cases e0
 ·unfold runN at h
  split at h
  ·rename_i hl;exact hl
  ·cases h
end
end PU
namespace PU
open PySem L2
def rngP(p:PV):R (List PV):=match p with
 | .int j=>if j.natAbs<1000000000 then .ok (zcb 0 j.toNat) else .no
 | _=>.no
def rngQ(p q:PV):R (List PV):=match p,q with
 | .int i,.int j=>if i.natAbs<1000000000/\j.natAbs<1000000000 then .ok (zcb i (j-i).toNat) else .no
 | _,_=>.no
theorem zqn{j:Int}(h0:0<=j)(h1:j<1000000000):rngP (.int j)=.ok (zcb 0 j.toNat):=by
 unfold rngP
 exact if_pos (by omega)
theorem zqm{i j:Int}(h0:0<=i)(h1:i<1000000000)(h2:0<=j)(h3:j<1000000000):rngQ (.int i) (.int j)=.ok (zcb i (j-i).toNat):=by
 unfold rngQ
 exact if_pos ⟨by omega,by omega⟩
section
def seqK(g':PSt->R Fl):R Fl->R Fl
 | .ok (.next ρ)=>g' ρ
 | .ok (.brk ρ)=>.ok (.brk ρ)
 | .ok (.cont ρ)=>.ok (.cont ρ)
 | .ok (.ret p)=>.ok (.ret p)
 | .er x=>.er x
 | .no=>.no
def mapK{α β:Type}(f:α->β):R α->R β
 | .ok a=>.ok (f a)
 | .er x=>.er x
 | .no=>.no
def bndK{α β:Type}(f:α->R β):R α->R β
 | .ok a=>f a
 | .er x=>.er x
 | .no=>.no
def ifK{α:Type}(g g':PSt->R α)(ρ:PSt):R Bool->R α
 | .ok true=>g ρ
 | .ok false=>g' ρ
 | .er x=>.er x
 | .no=>.no
def twoK{α β γ:Type}(f:α->β->R γ):R α->R β->R γ
 | .ok a,.ok b=>f a b
 | .ok _,.er x=>.er x
 | .ok _,.no=>.no
 | .er x,_=>.er x
 | .no,_=>.no
variable{α : Type}{ρ : PSt}{f fa fb fc : PSt → R PV}{g g' : PSt → R Fl}{t u : PSt → R Bool}{i : Nat}
@[simp] theorem zko:seqK g' (.ok (.next ρ))=g' ρ:=by unfold seqK;exact Eq.refl _
@[simp] theorem zr2(p:PV):seqK g' (.ok (.ret p))=.ok (.ret p):=by unfold seqK;exact Eq.refl _
@[simp] theorem Zbv{β:Type}(f:α->β)(a:α):mapK f (.ok a)=.ok (f a):=by unfold mapK;exact Eq.refl _
@[simp] theorem zh4{β:Type}(f:α->R β)(a:α):bndK f (.ok a)=f a:=by unfold bndK;exact Eq.refl _
@[simp] theorem Zgf(g g':PSt->R α):ifK g g' ρ (.ok true)=g ρ:=by unfold ifK;exact Eq.refl _
@[simp] theorem Zgg(g g':PSt->R α):ifK g g' ρ (.ok false)=g' ρ:=by unfold ifK;exact Eq.refl _
@[simp] theorem zr1{β γ:Type}(f:α->β->R γ)(a:α)(b:β):twoK f (.ok a) (.ok b)=f a b:=by unfold twoK;exact Eq.refl _
@[simp] theorem zqh:seqF g g' ρ=seqK g' (g ρ):=by
 unfold seqF
 cases g ρ with
 | ok fl=>cases fl <;> rfl
 | er x=>rfl
 | no=>rfl
@[simp] theorem Zdp:zcq ρ=.ok (.next ρ):=by unfold zcq;exact Eq.refl _
@[simp] theorem zv3:retF f ρ=mapK .ret (f ρ):=by unfold retF;cases f ρ <;> rfl
@[simp] theorem Zgp:ifF t g g' ρ=ifK g g' ρ (t ρ):=by
 unfold ifF
 cases t ρ with
 | ok b=>cases b <;> rfl
 | er x=>rfl
 | no=>rfl
def setP(i:Nat)(ρ:PSt)(p:PV):Fl:=.next (ρ.set i (.val p))
def ownP(i:Nat)(ρ:PSt)(p:PV):Fl:=.next (ρ.set i (.own p))
@[simp] theorem Ze3(p:PV):setP i ρ p=.next (ρ.set i (.val p)):=by unfold setP;exact Eq.refl _
@[simp] theorem Zgv(p:PV):ownP i ρ p=.next (ρ.set i (.own p)):=by unfold ownP;exact Eq.refl _
@[simp] theorem zzr:setF i f ρ=mapK (setP i ρ) (f ρ):=by unfold setF;cases f ρ <;> rfl
@[simp] theorem Zfx:ownF i f ρ=mapK (ownP i ρ) (f ρ):=by unfold ownF;cases f ρ <;> rfl
@[simp] theorem Zf4:frzS i g ρ=g (frzF i ρ):=by unfold frzS;exact Eq.refl _
@[simp] theorem x_kI(j:Int):kI j ρ=.ok (.int j):=by unfold kI;exact Eq.refl _
@[simp] theorem x_kB(j:Bool):kB j ρ=.ok (.bl j):=by unfold kB;exact Eq.refl _
@[simp] theorem x_kN:kN ρ=.ok .non:=by unfold kN;exact Eq.refl _
@[simp] theorem x_kS(j:Str):kS j ρ=.ok (.str j):=by unfold kS;exact Eq.refl _
@[simp] theorem x_kP(j:PV):kP j ρ=.ok j:=by unfold kP;exact Eq.refl _
@[simp] theorem Zf0:nilA ρ=.ok []:=by unfold nilA;exact Eq.refl _
def zzd(p:PV)(ps:List PV):R (List PV):=.ok (p::ps)
@[simp] theorem Zgj(p:PV)(ps:List PV):zzd p ps=.ok (p::ps):=by unfold zzd;exact Eq.refl _
@[simp] theorem Zdv{fs:PSt->R (List PV)}:zab f fs ρ=twoK zzd (f ρ) (fs ρ):=by unfold zab;cases f ρ <;> cases fs ρ <;> rfl
def tupP(ps:List PV):R PV:=if ps.length<=16777216 then .ok (.tup ps) else .no
def lstP(ps:List PV):R PV:=if ps.length<=16777216 then .ok (.lst ps) else .no
@[simp] theorem Ze2(ps:List PV):tupP ps=if ps.length<=16777216 then .ok (.tup ps) else .no:=by unfold tupP;exact Eq.refl _
@[simp] theorem Zbw(ps:List PV):lstP ps=if ps.length<=16777216 then .ok (.lst ps) else .no:=by unfold lstP;exact Eq.refl _
@[simp] theorem Zft{fs:PSt->R (List PV)}:tupF fs ρ=bndK tupP (fs ρ):=by
 unfold tupF
 cases fs ρ with
 | ok ps=>simp only[R.ok_bind,zgk,zh4,Ze2];split <;> rfl
 | er x=>rfl
 | no=>rfl
@[simp] theorem Zf2{fs:PSt->R (List PV)}:lstF fs ρ=bndK lstP (fs ρ):=by
 unfold lstF
 cases fs ρ with
 | ok ps=>simp only[R.ok_bind,zgk,zh4,Zbw];split <;> rfl
 | er x=>rfl
 | no=>rfl
def opP(g:PV->PV->Option PV)(p q:PV):R PV:=R.ofO (g p q)
def op1(g:PV->Option PV)(p:PV):R PV:=R.ofO (g p)
@[simp] theorem k_op(g:PV->PV->Option PV)(p q:PV):opP g p q=R.ofO (g p q):=by unfold opP;exact Eq.refl _
@[simp] theorem Zbu(g:PV->Option PV)(p:PV):op1 g p=R.ofO (g p):=by unfold op1;exact Eq.refl _
@[simp] theorem Zf6{g:PV->PV->Option PV}:bin2 fa fb g ρ=twoK (opP g) (fa ρ) (fb ρ):=by unfold bin2;cases fa ρ <;> cases fb ρ <;> rfl
@[simp] theorem zzq{g:PV->Option PV}:un1 f g ρ=bndK (op1 g) (f ρ):=by unfold un1;cases f ρ <;> rfl
def truP(p:PV):R Bool:=R.ofO (truB p)
@[simp] theorem Zgr(p:PV):truP p=R.ofO (truB p):=by unfold truP;exact Eq.refl _
@[simp] theorem Zfu:truF f ρ=bndK truP (f ρ):=by unfold truF;cases f ρ <;> rfl
@[simp] theorem Zf9:andB t u ρ=ifK u (fun _=>.ok false) ρ (t ρ):=by
 unfold andB
 cases t ρ with
 | ok b=>cases b <;> rfl
 | er x=>rfl
 | no=>rfl
@[simp] theorem Zgn:orB t u ρ=ifK (fun _=>.ok true) u ρ (t ρ):=by
 unfold orB
 cases t ρ with
 | ok b=>cases b <;> rfl
 | er x=>rfl
 | no=>rfl
@[simp] theorem Zfy:notB t ρ=mapK not (t ρ):=by unfold notB;cases t ρ <;> rfl
def andK(fb:PSt->R PV)(ρ:PSt)(p:PV):R PV:=match p with
 | .bl true=>fb ρ
 | .bl false=>.ok (.bl false)
 | _=>.no
@[simp] theorem Zfb:andK fb ρ (.bl true)=fb ρ:=by unfold andK;exact Eq.refl _
@[simp] theorem Zf8:andV fa fb ρ=bndK (andK fb ρ) (fa ρ):=by unfold andV;cases fa ρ <;> rfl
@[simp] theorem Zgo:ifV t fa fb ρ=ifK fa fb ρ (t ρ):=by
 unfold ifV
 cases t ρ with
 | ok b=>cases b <;> rfl
 | er x=>rfl
 | no=>rfl
@[simp] theorem zv1:yesB ρ=.ok true:=by unfold yesB;exact Eq.refl _
def zzj(F:List PV->Option PV)(ps:List PV):R PV:=R.ofO (F ps)
@[simp] theorem Zgk(F:List PV->Option PV)(ps:List PV):zzj F ps=R.ofO (F ps):=by unfold zzj;exact Eq.refl _
@[simp] theorem Zdx{fs:PSt->R (List PV)}{F:List PV->Option PV}:za0 fs F ρ=bndK (zzj F) (fs ρ):=by unfold za0;cases fs ρ <;> rfl
def itQ(F:PV->Option (List PV))(p:PV):R (List PV):=R.ofO (F p)
@[simp] theorem k_it(F:PV->Option (List PV))(p:PV):itQ F p=R.ofO (F p):=by unfold itQ;exact Eq.refl _
@[simp] theorem Zdq:itF f ρ=bndK (itQ zfw) (f ρ):=by unfold itF;cases f ρ <;> rfl
@[simp] theorem Zds:zsz f ρ=bndK (itQ zmt) (f ρ):=by unfold zsz;cases f ρ <;> rfl
def forP(h:Tgt)(g:PSt->R Fl)(ρ:PSt)(ps:List PV):R Fl:=forF h g ps ρ
@[simp] theorem zyl(h:Tgt)(ps:List PV):forP h g ρ ps=forF h g ps ρ:=by unfold forP;exact Eq.refl _
@[simp] theorem zqi{fi:PSt->R (List PV)}{h:Tgt}:forS fi h g ρ=bndK (forP h g ρ) (fi ρ):=by unfold forS;cases fi ρ <;> rfl
@[simp] theorem Zfv:rng1 f ρ=bndK rngP (f ρ):=by unfold rng1;cases f ρ <;> rfl
@[simp] theorem zv2:rng2 fa fb ρ=twoK rngQ (fa ρ) (fb ρ):=by unfold rng2;cases fa ρ <;> cases fb ρ <;> rfl
@[simp] theorem Zc6{g:PV->PV->Option PV}(x:Str):meth1 (kS x) fb g ρ=bndK (opP g (.str x)) (fb ρ):=by unfold meth1;cases fb ρ <;> rfl
@[simp] theorem Zc3:zgi ρ=.ok none:=by unfold zgi;exact Eq.refl _
def aP(p:PV):R (Option Int):=match p with
 | .int i=>.ok (some i)
 | _=>.no
@[simp] theorem k_aP(i:Int):aP (.int i)=.ok (some i):=by unfold aP;exact Eq.refl _
@[simp] theorem Zdy:zj6 f ρ=bndK aP (f ρ):=by unfold zj6;cases f ρ <;> rfl
def slQ(p:PV)(lh:Option Int×Option Int):R PV:=R.ofO (gSl p lh.1 lh.2)
def zuv(a b:Option Int):R (Option Int×Option Int):=.ok (a,b)
@[simp] theorem k_sl(p:PV)(a b:Option Int):slQ p (a,b)=R.ofO (gSl p a b):=by unfold slQ;exact Eq.refl _
@[simp] theorem Zgd(a b:Option Int):zuv a b=.ok (a,b):=by unfold zuv;exact Eq.refl _
@[simp] theorem Zc1{l h:PSt->R (Option Int)}:zlu f l h ρ=twoK slQ (f ρ) (twoK zuv (l ρ) (h ρ)):=by unfold zlu;cases f ρ <;> cases l ρ <;> cases h ρ <;> rfl
@[simp] theorem Zf1:newD ρ=.ok (.dct [] []):=by unfold newD;exact Eq.refl _
@[simp] theorem Zfz:nilD ρ=.ok []:=by unfold nilD;exact Eq.refl _
def keyQ(p:PV):R Key:=R.ofO (zfl p)
@[simp] theorem zws(p:PV):keyQ p=R.ofO (zfl p):=by unfold keyQ;exact Eq.refl _
def kvQ(k:Key)(p:PV):R (Key×PV):=.ok (k,p)
@[simp] theorem Zgw(k:Key)(p:PV):kvQ k p=.ok (k,p):=by unfold kvQ;exact Eq.refl _
def zzc(a:Key×PV)(r:List (Key×PV)):R (List (Key×PV)):=.ok (a::r)
@[simp] theorem Ze8(a:Key×PV)(r:List (Key×PV)):zzc a r=.ok (a::r):=by unfold zzc;exact Eq.refl _
@[simp] theorem Zdu{fd:PSt->R (List (Key×PV))}:zp9 fa fb fd ρ=twoK zzc (twoK kvQ (bndK keyQ (fa ρ)) (fb ρ)) (fd ρ):=by
 unfold zp9
 cases fa ρ with
 | ok p=>simp only[R.ok_bind,zh4,zws];cases zfl p <;> cases fb ρ <;> cases fd ρ <;> rfl
 | er x=>cases fb ρ <;> cases fd ρ <;> rfl
 | no=>cases fb ρ <;> cases fd ρ <;> rfl
def zy9(kps:List (Key×PV)):R PV:=if kps.length<=15 then .ok (zeu kps) else .no
@[simp] theorem Ze6(kps:List (Key×PV)):zy9 kps=if kps.length<=15 then .ok (zeu kps) else .no:=by unfold zy9;exact Eq.refl _
@[simp] theorem Zdt{fd:PSt->R (List (Key×PV))}:zvq fd ρ=bndK zy9 (fd ρ):=by unfold zvq;cases fd ρ <;> rfl
def zze(h:Tgt)(t:PSt->R Bool)(fe:PSt->R PV)(ρ:PSt)(ps:List PV):R PV:=bndK lstP (noEr (zdr h t fe ρ ps))
@[simp] theorem Zbx(h:Tgt)(ps:List PV):zze h t f ρ ps=bndK lstP (noEr (zdr h t f ρ ps)):=by unfold zze;exact Eq.refl _
@[simp] theorem Zdw{fi:PSt->R (List PV)}{h:Tgt}{nt:Nat}{idx:List Nat}:zjv fi h t f nt idx ρ=bndK (zze h t f (zdl nt idx ρ)) (fi ρ):=by
 unfold zjv
 cases fi ρ with
 | ok ps=>
  simp only[R.ok_bind,zh4,Zbx]
  cases zdr h t f (zdl nt idx ρ) ps with
  | ok qs=>simp only[noEr,R.ok_bind,zh4,Zbw,zgk];split <;> rfl
  | er x=>rfl
  | no=>rfl
 | er x=>rfl
 | no=>rfl
@[simp] theorem zkv(p:PV):zan i p ρ=some (ρ.set i (.val p)):=by unfold zan;exact Eq.refl _
@[simp] theorem Zc4(a:α):noEr (.ok a)=.ok a:=by unfold noEr;exact Eq.refl _
end
section
variable{p : PV}{l : Sl}{ρ : PSt}{i : Nat}
@[simp] theorem zm5:getV 0 (.val p::ρ)=.ok p:=by unfold getV;exact Eq.refl _
@[simp] theorem zw6:getV (i+1) (l::ρ)=getV i ρ:=by unfold getV;rw[List.getElem?_cons_succ]
@[simp] theorem Zc8:getO 0 (.own p::ρ)=.ok p:=by unfold getO;exact Eq.refl _
@[simp] theorem Zc7(qs:List PV)(a:Nat):getO 0 (.pin qs a::ρ)=.ok (.lst qs):=by unfold getO;exact Eq.refl _
@[simp] theorem Zdr:getO (i+1) (l::ρ)=getO i ρ:=by unfold getO;rw[List.getElem?_cons_succ]
@[simp] theorem Zf5:frzF 0 (.own p::ρ)=.val p::ρ:=by unfold frzF;exact Eq.refl _
theorem zsl:frzF (i+1) (l::ρ)=l::frzF i ρ:=by
 unfold frzF
 simp only[List.getElem?_cons_succ]
 cases ρ[i]? with
 | none=>rfl
 | some x=>cases x <;> rfl
@[simp] theorem Zf3:frzF (i+1) (l::ρ)=l::frzF i ρ:=zsl
def roA(i:Nat)(ρ:PSt):Sl:=roS ρ[i]?
@[simp] theorem Zgu:roA 0 (.val p::ρ)=.val p:=by unfold roA roS;exact Eq.refl _
@[simp] theorem Zgt:roA (i+1) (l::ρ)=roA i ρ:=by unfold roA;rw[List.getElem?_cons_succ]
theorem zqj(nt:Nat)(idx:List Nat):zdl nt idx ρ=List.replicate nt .no++idx.map fun i=>roA i ρ:=by unfold zdl roA;exact Eq.refl _
def appQ(i:Nat)(ρ:PSt)(p:PV):R PSt:=match ρ[i]? with
 | some (.own (.lst ps))=>if ps.length<16777216 then .ok (ρ.set i (.own (.lst (ps++[p])))) else .no
 | _=>.no
def hasL(i:Nat)(ρ:PSt):Bool:=match ρ[i]? with
 | some (.own (.lst _))=>true
 | _=>false
def zvr(l:Sl)(ρ:PSt):PSt:=l::ρ
@[simp] theorem Ze7:zvr l ρ=l::ρ:=by unfold zvr;exact Eq.refl _
@[simp] theorem Zgm(ps:List PV):appQ 0 (.own (.lst ps)::ρ) p=if ps.length<16777216 then .ok (.own (.lst (ps++[p]))::ρ) else .no:=by unfold appQ;exact Eq.refl _
@[simp] theorem Zgl:appQ (i+1) (l::ρ) p=mapK (zvr l) (appQ i ρ p):=by
 unfold appQ
 rw[List.getElem?_cons_succ]
 cases ρ[i]? with
 | none=>rfl
 | some x=>
  cases x with
  | own q=>
   cases q with
   | lst ps=>dsimp only;split <;> rfl
   | _=>rfl
  | _=>rfl
@[simp] theorem Zgi(ps:List PV):hasL 0 (.own (.lst ps)::ρ)=true:=by unfold hasL;exact Eq.refl _
@[simp] theorem Zgh:hasL (i+1) (l::ρ)=hasL i ρ:=by unfold hasL;rw[List.getElem?_cons_succ]
def appZ(i:Nat)(ρ:PSt)(p:PV):R Fl:=mapK .next (appQ i ρ p)
@[simp] theorem Zby:appZ i ρ p=mapK .next (appQ i ρ p):=by unfold appZ;exact Eq.refl _
theorem zzl(f:PSt->R PV)(h:hasL i ρ=true):appF i f ρ=bndK (appZ i ρ) (f ρ):=by
 unfold hasL at h
 unfold appF
 cases e:ρ[i]? with
 | none=>rw[e] at h;cases h
 | some x=>
  rw[e] at h
  cases x with
  | own q=>
   cases q with
   | lst ps=>
    dsimp only
    cases f ρ with
    | ok p=>
     simp only[R.ok_bind,zh4,Zby]
     unfold appQ
     rw[e]
     dsimp only
     split <;> rfl
    | er x=>rfl
    | no=>rfl
   | _=>cases h
  | _=>cases h
def appC(b:Bool)(i:Nat)(ρ:PSt)(r:R PV):R Fl:=if b=true then bndK (appZ i ρ) r else .no
@[simp] theorem Zbz(r:R PV):appC true i ρ r=bndK (appZ i ρ) r:=by unfold appC;exact if_pos rfl
@[simp] theorem Zf7(f:PSt->R PV):appF i f ρ=appC (hasL i ρ) i ρ (f ρ):=by
 cases h:hasL i ρ with
 | true=>rw[zzl f h,Zbz]
 | false=>
  unfold appC
  rw[if_neg Bool.false_ne_true]
  unfold hasL at h
  unfold appF
  split
  ·rename_i ps e
   rw[e] at h
   cases h
  ·rfl
def putQ(i:Nat)(ρ:PSt)(k:Key)(p:PV):R PSt:=match ρ[i]? with
 | some (.own (.dct ks ps))=>if ks.length<16777216 then .ok (ρ.set i (.own (putP ks ps k p))) else .no
 | _=>.no
def hasD(i:Nat)(ρ:PSt):Bool:=match ρ[i]? with
 | some (.own (.dct _ _))=>true
 | _=>false
@[simp] theorem Zgc(ks:List Key)(ps:List PV)(k:Key):putQ 0 (.own (.dct ks ps)::ρ) k p=if ks.length<16777216 then .ok (.own (putP ks ps k p)::ρ) else .no:=by unfold putQ;exact Eq.refl _
@[simp] theorem Zgb(k:Key):putQ (i+1) (l::ρ) k p=mapK (zvr l) (putQ i ρ k p):=by
 unfold putQ
 rw[List.getElem?_cons_succ]
 cases ρ[i]? with
 | none=>rfl
 | some x=>
  cases x with
  | own q=>
   cases q with
   | dct ks ps=>dsimp only;split <;> rfl
   | _=>rfl
  | _=>rfl
@[simp] theorem Ze5(ks:List Key)(ps:List PV):hasD 0 (.own (.dct ks ps)::ρ)=true:=by unfold hasD;exact Eq.refl _
@[simp] theorem Ze4:hasD (i+1) (l::ρ)=hasD i ρ:=by unfold hasD;rw[List.getElem?_cons_succ]
def putZ(i:Nat)(ρ:PSt)(p:PV)(k:Key):R Fl:=mapK .next (putQ i ρ k p)
@[simp] theorem Zbs(k:Key):putZ i ρ p k=mapK .next (putQ i ρ k p):=by unfold putZ;exact Eq.refl _
def putC(b:Bool)(i:Nat)(ρ:PSt)(v:R PV)(k:R PV):R Fl:=if b=true then twoK (putZ i ρ) v (bndK keyQ k) else .no
@[simp] theorem Zbt(v k:R PV):putC true i ρ v k=twoK (putZ i ρ) v (bndK keyQ k):=by unfold putC;exact if_pos rfl
@[simp] theorem Zfw(fk fv:PSt->R PV):putF i fk fv ρ=putC (hasD i ρ) i ρ (fv ρ) (fk ρ):=by
 unfold putF hasD
 cases e:ρ[i]? with
 | none=>rfl
 | some x=>
  cases x with
  | own q=>
   cases q with
   | dct ks ps=>
    dsimp only
    rw[Zbt]
    cases fv ρ with
    | ok p=>
     simp only[R.ok_bind]
     cases fk ρ with
     | ok kp=>
      simp only[R.ok_bind,zh4,zws]
      cases zfl kp with
      | none=>rfl
      | some k=>
       simp only[R.ofO_some,R.ok_bind,zr1,Zbs]
       unfold putQ
       rw[e]
       dsimp only
       split <;> rfl
     | er x=>rfl
     | no=>rfl
    | er x=>rfl
    | no=>rfl
   | _=>rfl
  | _=>rfl
end
@[simp] theorem zz8(a b:Int):gAdd (.int a) (.int b)=some (.int (a+b)):=rfl
theorem ziz{a b:Str}(h:a.length+b.length<=16777216):gAdd (.str a) (.str b)=some (.str (a++b)):=if_pos h
theorem zqr{a b:List PV}(h:a.length+b.length<=16777216):gAdd (.lst a) (.lst b)=some (.lst (a++b)):=if_pos h
@[simp] theorem zz7(a b:List PV):gAdd (.tup a) (.tup b)=if a.length+b.length<=16777216 then some (.tup (a++b)) else none:=rfl
@[simp] theorem Zgq(a b:Int):gSub (.int a) (.int b)=some (.int (a-b)):=rfl
theorem zqp{a b:Int}(h:a.natAbs<18446744073709551616\/b.natAbs<18446744073709551616):gMul (.int a) (.int b)=some (.int (a * b)):=if_pos h
theorem zqq{a b:Int}(h:0<b/\b<1073741824):gDiv (.int a) (.int b)=some (.int (a / b)):=if_pos h
theorem zdm{a b:Int}(h:0<b):gMod (.int a) (.int b)=some (.int (a % b)):=if_pos h
@[simp] theorem v_lt(a b:Int):gLt (.int a) (.int b)=some (.bl (decide (a<b))):=rfl
@[simp] theorem v_le(a b:Int):gLe (.int a) (.int b)=some (.bl (decide (a<=b))):=rfl
@[simp] theorem v_gt(a b:Int):gGt (.int a) (.int b)=some (.bl (decide (b<a))):=rfl
@[simp] theorem v_ge(a b:Int):gGe (.int a) (.int b)=some (.bl (decide (b<=a))):=rfl
@[simp] theorem Zdd(x y:Str):gLt (.str x) (.str y)=some (.bl (decide (x.cps.toList<y.cps.toList))):=rfl
@[simp] theorem Zdl(a b:Int):gEq (.int a) (.int b)=some (.bl (decide (a=b))):=by simp[gEq,isSc,scV,scal]
@[simp] theorem ztz(a b:Str):gEq (.str a) (.str b)=some (.bl (decide (a=b))):=by simp[gEq,isSc,scV,scal]
@[simp] theorem Zdc(a b:Int):gNe (.int a) (.int b)=some (.bl (!decide (a=b))):=by simp[gNe,isSc,scV,scal]
@[simp] theorem Zda(b:Bool):truB (.bl b)=some b:=rfl
@[simp] theorem zzw(ps:List PV):truB (.lst ps)=some (!ps.isEmpty):=rfl
@[simp] theorem zzx(ks:List Key)(ps:List PV):truB (.dct ks ps)=some (!ks.isEmpty):=rfl
@[simp] theorem zz2(ps:List PV):gLen (.lst ps)=some (.int ps.length):=rfl
@[simp] theorem zz1(ps:List PV):gLen (.tup ps)=some (.int ps.length):=rfl
theorem zg2{x:Str}(h:x.length<=16777216):gLen (.str x)=some (.int x.length):=if_pos h
@[simp] theorem Zdf(ps:List PV)(i:Int):gIx (.lst ps) (.int i)=atI ps i:=rfl
@[simp] theorem Zde(ps:List PV)(i:Int):gIx (.tup ps) (.int i)=atI ps i:=rfl
theorem zty{z:Str}{i:Int}{c:Nat}(h:z.length<=16777216)(e:atI z.cps.toList i=some c):gIx (.str z) (.int i)=some (.str ⟨#[c]⟩):=by
 show (if z.length<=16777216 then (atI z.cps.toList i).map fun c=>PV.str ⟨#[c]⟩ else none)=_
 rw[if_pos h,e]
 rfl
@[simp] theorem Zdg(ks:List Key)(ps:List PV)(k:PV):gIx (.dct ks ps) k=(zfl k).bind fun k=>zca ks ps k:=rfl
@[simp] theorem zz4(i:Int):zfl (.int i)=some (.inl i):=rfl
@[simp] theorem zz3(x:Str):zfl (.str x)=some (.inr x):=rfl
@[simp] theorem ziy(k j:Key)(ks:List Key)(p:PV)(ps:List PV):zca (k::ks) (p::ps) j=if k=j then some p else zca ks ps j:=rfl
@[simp] theorem Zdk(b:Bool):gInt (.bl b)=some (.int (if b then 1 else 0)):=rfl
@[simp] theorem zz6(b:Int):gInt (.int b)=some (.int b):=rfl
@[simp] theorem zzv(ps:List PV):zmh (.lst ps)=some (.tup ps):=rfl
@[simp] theorem zzu(ps:List PV):zmh (.tup ps)=some (.tup ps):=rfl
@[simp] theorem Zdi(ps:List PV):zfw (.lst ps)=some ps:=rfl
@[simp] theorem Zdh(ps:List PV):zfw (.tup ps)=some ps:=rfl
@[simp] theorem Zdj(ks:List Key)(ps:List PV):zfw (.dct ks ps)=some (ks.map keyP):=rfl
@[simp] theorem Zga(x:Str):keyP (.inr x)=.str x:=rfl
@[simp] theorem zzo(ps:List PV):zmt (.lst ps)=some ((numP ps).map .tup):=rfl
@[simp] theorem zzn(x:Str):zmt (.str x)=some ((numP (zfo x)).map .tup):=rfl
@[simp] theorem zzz(i:Int):gStr (.int i)=if i.natAbs.log2<1920 then some (.str (toString i)) else none:=rfl
@[simp] theorem zzy(x:Str):gStr (.str x)=some (.str x):=rfl
@[simp] theorem Zd1(x:Str):Zb4 (.str x)=true:=rfl
@[simp] theorem Zdb(ps:List PV)(lo hi:Option Int):gSl (.lst ps) lo hi=some (.lst (cutP ps lo hi)):=rfl
theorem zby{α:Type}{xs:List α}{i:Int}{n:Nat}{x:α}(hi:i=n)(h:xs[n]?=some x):atI xs i=some x:=by
 subst hi
 have hl:=(List.getElem?_eq_some_iff.mp h).1
 unfold atI ixN
 rw[if_pos (by omega),if_pos (by omega)]
 simpa using h
@[simp] theorem Zg1{α:Type}(x:α)(xs:List α):atI (x::xs) 0=some x:=zby (n:=0) rfl rfl
@[simp] theorem Zg0{α:Type}(x y:α)(xs:List α):atI (x::y::xs) 1=some y:=zby (n:=1) rfl rfl
@[simp] theorem Zgz{α:Type}(x y z:α)(xs:List α):atI (x::y::z::xs) 2=some z:=zby (n:=2) rfl rfl
@[simp] theorem Zgy{α:Type}(x y z u:α)(xs:List α):atI (x::y::z::u::xs) 3=some u:=zby (n:=3) rfl rfl
theorem zso{h:Tgt}{g:PSt->R Fl}(I:Nat->PSt->Prop):∀(ps:List PV)(n:Nat)(ρ:PSt),I n ρ->
  (∀(i:Nat)(p:PV)(ρ:PSt),ps[i]?=some p->I (n+i) ρ->∃ρ1 ρ2,h p ρ=some ρ1/\(g ρ1=.ok (.next ρ2)\/g ρ1=.ok (.cont ρ2))/\I (n+i+1) ρ2)->
  ∃ρ',forF h g ps ρ=.ok (.next ρ')/\I (n+ps.length) ρ'
 | [],n,ρ,h0,_=>⟨ρ,rfl,h0⟩
 | p::ps,n,ρ,h0,hs=>by
  obtain⟨ρ1,ρ2,e1,e2,i2⟩:=hs 0 p ρ rfl h0
  obtain⟨ρ3,e3,i3⟩:=zso I ps (n+1) ρ2 i2 fun i q ρ' hq hi=>by
   have:=hs (i+1) q ρ' (by simpa using hq) (by rw[show n+(i+1)=n+1+i by omega];exact hi)
   rw[show n+(i+1)+1=n+1+i+1 by omega] at this
   exact this
  refine⟨ρ3,?_,by rw[List.length_cons,show n+(ps.length+1)=n+1+ps.length by omega];exact i3⟩
  unfold forF
  rw[e1]
  rcases e2 with e2 | e2 <;> (simp only[R.ofO_some,R.ok_bind,e2];exact e3)
theorem zvf{h:Tgt}{g:PSt->R Fl}{ps:List PV}{ρ:PSt}(I:Nat->PSt->Prop)(h0:I 0 ρ)
  (hs:∀(i:Nat)(p:PV)(ρ:PSt),ps[i]?=some p->I i ρ->∃ρ1 ρ2,h p ρ=some ρ1/\(g ρ1=.ok (.next ρ2)\/g ρ1=.ok (.cont ρ2))/\I (i+1) ρ2) :
  ∃ρ',forF h g ps ρ=.ok (.next ρ')/\I ps.length ρ':=by
 have:=zso I ps 0 ρ h0 fun i p ρ hp hi=>by
  rw[Nat.zero_add] at hi ⊢
  exact hs i p ρ hp hi
 simpa using this
theorem zpt(lo:Int)(n:Nat):(zcb lo n).length=n:=by simp[zcb]
theorem zpu{lo:Int}{n i:Nat}{p:PV}(h:(zcb lo n)[i]?=some p):i<n/\p=.int (lo+i):=by
 unfold zcb at h
 rw[List.getElem?_map] at h
 by_cases hi:i<n
 ·rw[List.getElem?_range hi] at h
  exact⟨hi,(Option.some.inj h).symm⟩
 ·rw[List.getElem?_eq_none (by simpa using hi)] at h
  cases h
theorem forR{h:Tgt}{g:PSt->R Fl}{lo:Int}{n:Nat}{ρ:PSt}(I:Nat->PSt->Prop)(h0:I 0 ρ)
  (hs:∀(i:Nat)(ρ:PSt),i<n->I i ρ->∃ρ1 ρ2,h (.int (lo+i)) ρ=some ρ1/\(g ρ1=.ok (.next ρ2)\/g ρ1=.ok (.cont ρ2))/\I (i+1) ρ2) :
  ∃ρ',forF h g (zcb lo n) ρ=.ok (.next ρ')/\I n ρ':=by
 obtain⟨ρ',e,i'⟩:=zvf (ps:=zcb lo n) I h0 fun i p ρ hp hi=>by
  obtain⟨hn,rfl⟩:=zpu hp
  exact hs i ρ hn hi
 rw[zpt] at i'
 exact⟨ρ',e,i'⟩
theorem zsn{α:Type}{enc:α->PV}{h:Tgt}{g:PSt->R Fl}{xs:List α}(I:List α->PSt->Prop)
  (hs:∀(pre:List α)(x:α)(post:List α)(ρ:PSt),xs=pre++x::post->I pre ρ->∃ρ1 ρ2,h (enc x) ρ=some ρ1/\(g ρ1=.ok (.next ρ2)\/g ρ1=.ok (.cont ρ2))/\I (pre++[x]) ρ2) :
  ∀(ys pre:List α)(ρ:PSt),xs=pre++ys->I pre ρ->∃ρ',forF h g (ys.map enc) ρ=.ok (.next ρ')/\I xs ρ'
 | [],pre,ρ,e,h0=>⟨ρ,rfl,by rw[e,List.append_nil];exact h0⟩
 | y::ys,pre,ρ,e,h0=>by
  obtain⟨ρ1,ρ2,e1,e2,i2⟩:=hs pre y ys ρ e h0
  obtain⟨ρ3,e3,i3⟩:=zsn I hs ys (pre++[y]) ρ2 (by rw[e];simp) i2
  refine⟨ρ3,?_,i3⟩
  rw[List.map_cons]
  unfold forF
  rw[e1]
  rcases e2 with e2 | e2 <;> (simp only[R.ofO_some,R.ok_bind,e2];exact e3)
theorem forM{α:Type}{enc:α->PV}{h:Tgt}{g:PSt->R Fl}{xs:List α}{ρ:PSt}(I:List α->PSt->Prop)(h0:I [] ρ)
  (hs:∀(pre:List α)(x:α)(post:List α)(ρ:PSt),xs=pre++x::post->I pre ρ->∃ρ1 ρ2,h (enc x) ρ=some ρ1/\(g ρ1=.ok (.next ρ2)\/g ρ1=.ok (.cont ρ2))/\I (pre++[x]) ρ2) :
  ∃ρ',forF h g (xs.map enc) ρ=.ok (.next ρ')/\I xs ρ':=zsn I hs xs [] ρ rfl h0
end PU
namespace PU
open PySem PySem.Spec PyProof.Rows L2 PySem.SeqAt
def toKs:List PV->Option (List Key)
 | []=>some []
 | p::r=>(zfl p).bind fun k=>(toKs r).map fun l=>k::l
def toTK:PV->Option (List Key)
 | .tup ps=>toKs ps
 | _=>none
def zl9:List (List Key)->List PV->List Key->Option PV
 | k::ks,p::ps,j=>if k=j then some p else zl9 ks ps j
 | _,_,_=>none
def gIxT:PV->PV->Option PV
 | .dtt ks ps,q=>(toTK q).bind fun k=>zl9 ks ps k
 | _,_=>none
def gInT:PV->PV->Option PV
 | q,.dtt ks _=>(toTK q).map fun k=>.bl (ks.any fun j=>decide (j=k))
 | _,_=>none
def zfb:PV->PV->Option PV
 | q,.dtt ks _=>(toTK q).map fun k=>.bl (!(ks.any fun j=>decide (j=k)))
 | _,_=>none
def zxm(ks:List (List Key))(ps:List PV)(k:List Key)(p:PV):List PV:=List.zipWith (fun j q=>if j=k then p else q) ks ps
def putT(ks:List (List Key))(ps:List PV)(k:List Key)(p:PV):PV:=if (ks.any fun j=>decide (j=k))=true then .dtt ks (zxm ks ps k p) else .dtt (ks++[k]) (ps++[p])
def zj1(i:Nat)(fk fv:PSt->R PV):PSt->R Fl:=fun ρ=>match ρ[i]? with
 | some (.own (.dtt ks ps))=>fv ρ >>= fun p=>fk ρ >>= fun kp=>R.ofO (toTK kp) >>= fun k=>if ks.length<16777216 then .ok (.next (ρ.set i (.own (putT ks ps k p)))) else .no
 | _=>.no
def zvp(fk fv:PSt->R PV):PSt->R PV:=fun ρ=>fk ρ >>= fun kp=>fv ρ >>= fun p=>R.ofO (toTK kp) >>= fun k=>.ok (.dtt [k] [p])
def newT:PSt->R PV:=fun _=>.ok (.dtt [] [])
variable[TW]
theorem zls{K:PySem.W.Frag}{H:Hp}:∀{ps:List PV}{xs:List V}{ks:List Key},toKs ps=some ks->Reps K H ps xs->xs=ks.map kV
 | [],_,_,e,r=>by cases e;cases r;rfl
 | p::ps,_,_,e,⟨x,t,ex,h1,h2⟩=>by
  obtain⟨k,ek,e⟩:=Option.bind_eq_some_iff.mp e
  obtain⟨l,el,e⟩:=Option.map_eq_some_iff.mp e
  subst e ex
  rw[List.map_cons,← zd3 ek h1.o,← zls el h2]
theorem zg3{K:PySem.W.Frag}{H:Hp}{p:PV}{v:V}{k:List Key}(e:toTK p=some k)(r:RepO K H p v):∃b,v=.ref b/\H b=some (.tup (k.map kV)):=by
 cases p with
 | tup ps=>
  obtain⟨a,xs,ev,g,rr⟩:=r
  exact⟨a,ev,by rw[← zls e rr];exact g⟩
 | _=>cases e
theorem zl7{K:PySem.W.Frag}{H:Hp}{k:List Key}:∀{ks:List (List Key)}{ps:List PV}{kvs:List (List Key×V)}{p:PV},kvs.map (·.1)=ks->Reps K H ps (kvs.map (·.2))->zl9 ks ps k=some p->∃v,valV kvs k=some v/\Rep K H p v
 | _,_,[],_,h1,h2,e=>by
  subst h1
  simp only[List.map_nil,zl9] at e
  cases e
 | _,[],kv::kvs,_,h1,h2,e=>by
  cases h2
 | _,q::ps,kv::kvs,p,h1,h2,e=>by
  subst h1
  obtain⟨x,r,ex,hx,ht⟩:=h2
  simp only[List.map_cons,List.cons.injEq] at ex
  obtain⟨rfl,rfl⟩:=ex
  simp only[List.map_cons,zl9] at e
  by_cases hk:kv.1=k
  ·rw[if_pos hk] at e
   cases e
   exact⟨_,by simp[valV,hk],hx⟩
  ·rw[if_neg hk] at e
   obtain⟨v,ev,rv⟩:=zl7 rfl ht e
   exact⟨v,by unfold valV at ev ⊢;rw[List.find?_cons_of_neg (by simp[hk])];exact ev,rv⟩
theorem znx{kvs:List (List Key×V)}{k:List Key}:(valV kvs k).isSome=((kvs.map (·.1)).any fun j=>decide (j=k)):=by
 rw[List.any_map]
 unfold valV
 rw[Option.isSome_map]
 induction kvs with
 | nil=>rfl
 | cons kv r ih=>
  rw[List.any_cons,List.find?_cons]
  simp only[Function.comp]
  cases decide (kv.1=k) with
  | true=>rfl
  | false=>exact ih
section
variable{X : Cx}
theorem ixT(hu:X.A.units+64<cLine):IxR X (rP X.K gIxT):=by
 intro value slice pins s σ H x y v u Q I rx ry ⟨p,q,z,hp,hq,e,k⟩ hs
 unfold gIxT at e
 split at e
 ·rename_i ks ps
  obtain⟨kk,ek,e⟩:=Option.bind_eq_some_iff.mp e
  obtain⟨a,kvs,rfl,g,e1,r⟩:=hp
  cases rx
  obtain⟨b,rfl,hb⟩:=zg3 ek hq
  obtain⟨w,ew,rp⟩:=zl7 e1 r e
  have dg:DGet H a (.ref b) (some w):=.inr ⟨kvs,kk,b,g,rfl,hb,ew.symm⟩
  obtain⟨_,_,_,_,dd⟩:=znr I.hok g
  exact tail_any (zns I dg) PySem.F.slot_dict_getitem.lookup (zs8 (by omega) I dg ry fun w' s' I' rw'=>⟨w,H,I',rw',k w H (Same.refl H) rp⟩) hs
 ·cases e
theorem Zes(hu:X.A.units+64<cLine):OpR X (compareOp .In) (rP X.K gInT):=by
 intro pins s σ H x y v u Q I rx ry ⟨p,q,z,hp,hq,e,k⟩
 unfold gInT at e
 split at e
 ·rename_i ks ps
  obtain⟨kk,ek,ez⟩:=Option.map_eq_some_iff.mp e
  subst ez
  obtain⟨a,kvs,rfl,g,e1,r⟩:=hq
  cases ry
  obtain⟨b,rfl,hb⟩:=zg3 ek hp
  have dg:DGet H a (.ref b) (valV kvs kk):=.inr ⟨kvs,kk,b,g,rfl,hb,rfl⟩
  refine d_in (by omega) I dg rx fun s' I'=>⟨.bl _,H,I',rfl,k _ H (Same.refl H) ?_⟩
  subst e1
  rw[znx]
  rfl
 ·cases e
theorem zok(hu:X.A.units+64<cLine):OpR X (compareOp .NotIn) (rP X.K zfb):=by
 intro pins s σ H x y v u Q I rx ry ⟨p,q,z,hp,hq,e,k⟩
 unfold zfb at e
 split at e
 ·rename_i ks ps
  obtain⟨kk,ek,ez⟩:=Option.map_eq_some_iff.mp e
  subst ez
  obtain⟨a,kvs,rfl,g,e1,r⟩:=hq
  cases ry
  obtain⟨b,rfl,hb⟩:=zg3 ek hp
  have dg:DGet H a (.ref b) (valV kvs kk):=.inr ⟨kvs,kk,b,g,rfl,hb,rfl⟩
  refine zza (by omega) I dg rx fun s' I'=>⟨.bl _,H,I',rfl,k _ H (Same.refl H) ?_⟩
  subst e1
  rw[znx]
  rfl
 ·cases e
end
theorem zva:isBl gInT:=fun p q z e=>by
 unfold gInT at e
 split at e
 ·obtain⟨b,_,ez⟩:=Option.map_eq_some_iff.mp e;exact⟨_,ez.symm⟩
 ·cases e
theorem zjf:isBl zfb:=fun p q z e=>by
 unfold zfb at e
 split at e
 ·obtain⟨b,_,ez⟩:=Option.map_eq_some_iff.mp e;exact⟨_,ez.symm⟩
 ·cases e
theorem zkg{K:PySem.W.Frag}{H:Hp}{k:List Key}{p:PV}{v:V}(rp:Rep K H p v):∀{kvs:List (List Key×V)}{ps:List PV},Reps K H ps (kvs.map (·.2))->Reps K H (zxm (kvs.map (·.1)) ps k p) ((kvs.map fun kv=>if kv.1=k then (kv.1,v) else kv).map (·.2))
 | [],ps,r=>by
  cases ps with
  | nil=>rfl
  | cons q qs=>obtain⟨x,t,e,_⟩:=r;cases e
 | kv::kvs,ps,r=>by
  cases ps with
  | nil=>cases r
  | cons q qs=>
   obtain⟨x,t,e,h1,h2⟩:=r
   simp only[List.map_cons,List.cons.injEq] at e
   obtain⟨rfl,rfl⟩:=e
   have ih:=zkg (k:=k) rp h2
   simp only[List.map_cons,zxm,List.zipWith_cons_cons]
   by_cases hk:kv.1=k
   ·rw[if_pos hk,if_pos hk];exact⟨_,_,rfl,rp,ih⟩
   ·rw[if_neg hk,if_neg hk];exact⟨_,_,rfl,h1,ih⟩
theorem zq3{K:PySem.W.Frag}{H:Hp}{kvs:List (List Key×V)}{ps:List PV}{k:List Key}{p:PV}{v:V}(rr:Reps K H ps (kvs.map (·.2)))(rp:Rep K H p v) :
  ∃ks' ps',putT (kvs.map (·.1)) ps k p=.dtt ks' ps'/\(putK kvs k v).map (·.1)=ks'/\Reps K H ps' ((putK kvs k v).map (·.2)):=by
 unfold putT
 have e:((kvs.map (·.1)).any fun j=>decide (j=k))=(kvs.any fun kv=>decide (kv.1=k)):=by rw[List.any_map];rfl
 rw[e]
 unfold putK
 split
 ·refine⟨_,_,rfl,?_,zkg rp rr⟩
  rw[List.map_map]
  apply List.map_congr_left
  intro kv _
  simp only[Function.comp]
  split <;> rfl
 ·refine⟨_,_,rfl,by simp,?_⟩
  rw[List.map_append]
  exact Reps.append rr ⟨_,_,rfl,rp,rfl⟩
theorem zui{K:PySem.W.Frag}{H:Hp}{a:Addr}{kvs:List (List Key×V)}{ps:List PV}{k:List Key}{p:PV}{v:V}(rr:Reps K H ps (kvs.map (·.2)))(rp:Rep K H p v)(ha:H a=some (.dT (putK kvs k v))):zco K H a (putT (kvs.map (·.1)) ps k p):=by
 obtain⟨ks',ps',e,e1,e2⟩:=zq3 (k:=k) rr rp
 rw[e]
 exact⟨_,ha,e1,e2⟩
theorem zqv{C:Cn}(i:Nat){x:Str}{ke e:Expr}{fk fv:PSt->R PV}{np pos' pos:Pos}(hu:C.X.A.units+64<cLine)(hk:EV C ke fk)(hv:EV C e fv)(hN:C.X.N[i]?=some x:=by rfl)(hvis:Vis C.X.env.scope x:=by first | exact rfl | decide)
  (hs:swapsWith e (some (.Subscript (.Name x np) ke pos')) pos.line C.X.env=pure false:=by rfl) (hd:(x == ("__debug__":Str))=false:=by decide) (hcd:(x == ("__classdict__":Str))=false:=by decide) :
  SV C (.Assign [.Subscript (.Name x np) ke pos'] e pos) (zj1 i fk fv):=by
 intro pins s σ H D I ⟨ρ,B,S,q⟩
 unfold zj1 at q
 split at q
 ·rename_i ks ps e1
  obtain⟨a,e2,kvs,hx,ek,rr⟩:=S.vw i _ e1
  refine zq5 (by omega) (zfi hN hvis hd hcd) hk hv hs pins s σ H D I ⟨ρ,S.vw,(q.bind S.same).imp fun p _ q1 v H1 s1 r1=>⟨_,e2,ρ,S.vw.same s1,(q1.bind (S.same.trans s1)).imp fun kp _ q2 y H2 s2 r2=>?_⟩⟩
  obtain⟨k,e3,q3⟩:=RS.ofO q2
  by_cases hl:ks.length<16777216
  ·rw[if_pos hl] at q3
   obtain⟨b,rfl,hb⟩:=zg3 e3 r2.o
   subst ek
   have hx2:H2 a=some (.dT kvs):=s2 _ _ (s1 _ _ hx)
   refine⟨a,_,rfl,DPut.t hx2 hb (by rw[sizeLine_eq];simpa using hl),?_⟩
   have kp:Kp H2 (upd H2 a (.dT (putK kvs k v))):=Kp.upd hx2 rfl
   refine q3 σ _ (((S.grow s1).grow s2).turn e1 e2 (fun b hb=>zah hb) ⟨a,rfl,?_⟩)
   exact zui (Reps.kp kp _ ((rr.same s1).same s2)) (Rep.kp kp _ (r1.same s2)) zai
  ·rw[if_neg hl] at q3
   exact False.elim q3
 ·exact False.elim q
theorem Zcu{X:Cx}{pins:List (Addr×Obj)}{σ:L2.St}{H:Hp}{s:Shared}{a b:Addr}{v:V}{r:Value}{A:Around}{E:Value->Shared->Prop}{kvs:List (List Key×V)}{k:List Key}{Q:Unit->Shared->Prop}(hu:A.units+1<cLine)(I:Inv X pins σ H s)
  (e:H a=some (.dT kvs)) (eb:H b=some (.tup (k.map kV))) (l:kvs.length<sizeLine) (rv:RelV v r) (h:∀s',Inv X pins σ (upd H a (.dT (putK kvs k v))) s'->Q () s') :
  wpAny (model X.prog X.w) A (dictSet a (.ref b) r) Q E s:=by
 obtain⟨z,hd,xs,rel,dd⟩:=Zcs I.hok e
 have hz:xs.length<=sizeLine:=by rw[← Paired.length rel];exact z
 have hl:(putK kvs k v).length<=sizeLine:=by have:=ze9 kvs k v;omega
 refine wpAny_dictSet_heap (hsz:=hz) (knd:=tupleKind (zax X.prog X.w)) (show A.units<cLine by omega) (key_of I.hok eb) dd fun h' dd' hs=>h _ ?_
 obtain⟨q,es,ep,hq,h2,h3,h4,_,h5⟩:=dd'
 refine zli I (by rw[e];exact True.intro) hs ⟨q,hq⟩ ⟨hl,hd,_,(rel.put k eb rv).keeps fun c ys ec=>?_,q,es,ep,hq,h2,h3,h4,h5⟩
 rw[zah (Zbg ec e (fun z=>nomatch z))]
 exact ec
theorem zvn{C:Cn}{k v:Expr}{fk fv:PSt->R PV}{pos:Pos}(hu:C.X.A.units+64<cLine)(hk:EV C k fk)(hv:EV C v fv):EN C (.Dict [some k] [v] pos) (zvp fk fv):=by
 intro pins s σ H Q I ⟨ρ,vw,q⟩
 have hn:=I.hok.fresh (Nat.le_refl s.heap.objs.size)
 have I1:=I.laid (a:=s.heap.objs.size) (o:=.dT []) (h':=s.heap.push { cls:=.type "dict",data:=.dict #[] }) (t':=s.toks) (fun _ _ q=>Heap.get?_push_of_some _ q) (Nat.le_refl _) (zo9 s.heap I.big)
 refine wpAny_Dict_any rfl rfl (by simp) (show 1<=15 by decide) (thn (zod hk hv zq6 pins _ σ _ (fun ps H3=>∃b k y,ps=[(.ref b,y)]/\H3 b=some (.tup (k.map kV))/\H3 s.heap.objs.size=some (.dT [])/\Q (.ref s.heap.objs.size) (upd H3 s.heap.objs.size (.dT (putK [] k y)))) I1
  ⟨ρ,vw.same (Same.new hn),(q.bind.same (Same.new hn)).imp fun kp _ q1 x H1 s1 r1=>⟨ρ,vw.same ((Same.new hn).trans s1),(q1.bind.same ((Same.new hn).trans s1)).imp fun p _ q2 y H2 s2 r2=>?_⟩⟩) fun ws s2 ⟨ps,H2,I2,rel,b,k,y,ep,hb,hd,q2⟩=>?_)
 ·obtain⟨k,ek,q3⟩:=q2.bind.ofO
  obtain⟨b,rfl,hb⟩:=zg3 ek (r1.same s2).o
  have hd:H2 s.heap.objs.size=some (.dT []):=s2 _ _ (s1 _ _ zai)
  refine⟨b,k,y,rfl,hb,hd,?_⟩
  have kp:Kp H2 (upd H2 s.heap.objs.size (.dT (putK [] k y))):=Kp.upd hd rfl
  exact q3 s.heap.objs.size _ ((((Same.new hn).trans s1).trans s2).but hn (fun u h=>by rw[hd] at h;cases h;rfl) (fun b hb=>zah hb)) hn ⟨_,zai,rfl,⟨_,_,rfl,Rep.kp kp _ r2,rfl⟩⟩
 ·subst ep
  cases rel with
  | @cons _ w _ ws h t=>
  cases t
  obtain⟨w1,w2⟩:=w
  cases (show w1=Value.ref b from h.1)
  unfold PySem.storeAll
  rw[List.forIn_cons]
  refine wpAny_bind (wpAny_bind (Zcu (by omega) I2 hd hb (by rw[sizeLine_eq];decide) h.2 fun s' I'=>wpAny_pure ?_))
  dsimp only
  rw[List.forIn_nil]
  exact wpAny_pure ⟨.ref s.heap.objs.size,_,I',rfl,q2⟩
theorem zy7{C:Cn}{pos:Pos}:EN C (.Dict [] [] pos) newT:=fun pins s σ H Q I ⟨ρ,vw,q⟩=>zuq pins s σ H Q I fun p hp=>q p _ (Same.new hp) hp ⟨[],zai,rfl,rfl⟩
end PU
namespace PU
open PySem PySem.Spec PyProof.Rows L2 PySem.SeqAt
def augF(i:Nat)(f:PSt->R PV):PSt->R Fl:=fun ρ=>match ρ[i]? with
 | some (.val (.int a))=>f ρ >>= fun q=>match q with
  | .int b=>.ok (.next (ρ.set i (.val (.int (a+b)))))
  | _=>.no
 | _=>.no
variable[TW]
theorem Zah{C:Cn}{e:Expr}{f:PSt->R PV}{pos:Pos}(i:Nat){x:Str}{pos':Pos}(hN:C.X.N.Nodup)(hi:C.X.N[i]?=some x)(hx:Loc C.X.env.scope x)(he:EV C e f)
  (hf:C.X.fn x=true\/C.X.env.scope.names.lookup x=some .local:=by first | exact .inl rfl | exact .inr rfl | assumption) :
  SV C (.AugAssign (.Name x pos') .Add e pos) (augF i f):=by
 intro pins s σ H D I ⟨ρ,B,S,h⟩
 unfold augF at h
 split at h
 ·rename_i a e1
  obtain⟨v,ev,rv⟩:=S.vw i _ e1
  cases (show v=.int a from rv)
  refine Zat hN hi hx he Zb7 hf pins s σ H D I ⟨_,ev,ρ,S.vw,(h.bind S.same).imp fun q _ k w H1 s1 r1=>?_⟩
  cases q with
  | int b=>
   cases (show w=.int b from r1)
   exact⟨a,b,rfl,rfl,k _ H1 ((S.grow s1).setV rfl)⟩
  | _=>exact False.elim k
 ·exact False.elim h
end PU
namespace PU
open PySem PySem.Spec PyProof.Rows L2 PySem.SeqAt
variable[TW]
def trC(H:Hp)(l:List (Addr×Obj)):Hp:=fun b=>match l.lookup b with
 | some o=>some (.frz o (.own 0))
 | none=>H b
def drC(H:Hp)(l:List (Addr×Obj)):Hp:=fun b=>match l.lookup b with
 | some _=>none
 | none=>H b
theorem zi1{H:Hp}{l:List (Addr×Obj)}{b:Addr}{o:Obj}(h:l.lookup b=some o):trC H l b=some (.frz o (.own 0)):=by unfold trC;rw[h]
theorem za4{H:Hp}{l:List (Addr×Obj)}{b:Addr}(h:l.lookup b=none):trC H l b=H b:=by unfold trC;rw[h]
theorem zjt{H:Hp}{l:List (Addr×Obj)}{b:Addr}{o:Obj}(h:l.lookup b=some o):drC H l b=none:=by unfold drC;rw[h]
theorem zbd{H:Hp}{l:List (Addr×Obj)}{b:Addr}(h:l.lookup b=none):drC H l b=H b:=by unfold drC;rw[h]
structure Cls(X:Cx)(H:Hp)(s:Shared)(l:List (Addr×Obj)):Prop where
 at_:∀c o,l.lookup c=some o->s.heap.get? c=some o
 fr:∀c o,l.lookup c=some o->H c=none
 bs:∀c o,l.lookup c=some o->X.base.get? c=none
 st:∀c o,l.lookup c=some o->c ∉ frs X.stack
section
variable{X : Cx}{pins : List (Addr×Obj)}{σ : L2.St}{H H' : Hp}{s s' : Shared}{l : List (Addr×Obj)}
theorem Cls.out(hc:Cls X H s l){b:Addr}{o:HO}(e:H b=some o):l.lookup b=none:=by
 cases q:l.lookup b with
 | none=>rfl
 | some u=>rw[hc.fr b u q] at e;cases e
theorem env0C(I:L2.Inv X pins σ H s)(hc:Cls X H s l):Env0 X.prog X.w X.K X.mg X.base X.A X.stack s (trC H l):=by
 have e:=I.env0
 refine⟨e.frames,e.mod,fun b o h=>⟨(e.bs b o h).1,?_⟩,e.bsz,e.funs,fun b hb=>?_,fun b o h=>?_,e.bare⟩
 ·cases q:l.lookup b with
  | none=>rw[za4 q];exact(e.bs b o h).2
  | some u=>rw[hc.bs b u q] at h;cases h
 ·cases q:l.lookup b with
  | none=>rw[za4 q];exact e.frf b hb
  | some u=>exact absurd hb (hc.st b u q)
 ·cases q:l.lookup b with
  | some u=>
   rw[zi1 q] at h
   cases h
   exact⟨hc.at_ b u q,u,hc.at_ b u q⟩
  | none=>
   rw[za4 q] at h
   exact(e.hok b o h).stay (fun _ _ _ z=>z) (fun c z=>by rw[za4 (hc.out z)];exact z) fun c xs z=>by rw[za4 (hc.out z)];exact z
theorem zoj(un:Un (frs X.stack) [] (trC H l) H' s.heap s'.heap){b:Addr}{o:HO}(e:H' b=some o)(n:∀q,o≠.frz q (.own 0)):l.lookup b=none:=by
 cases q:l.lookup b with
 | none=>rfl
 | some u=>
  rw[un.frzs b u _ (zi1 q)] at e
  cases e
  exact absurd rfl (n u)
theorem unC(hc:Cls X H s l)(un:Un (frs X.stack) [] (trC H l) H' s.heap s'.heap)(hok:HOk X.prog X.w H' s'.heap):Un (frs X.stack) [] H (drC H' l) s.heap s'.heap where
 keep:=fun b o e n hb hx=>by
  cases q:l.lookup b with
  | none=>exact un.keep b o e (by rw[za4 q];exact n) hb hx
  | some u=>
   have h1:=hc.at_ b u q
   rw[e] at h1
   cases h1
   exact(hok b _ (un.frzs b o _ (zi1 q))).1
 slot:=fun b o e n hb hx=>by
  cases q:l.lookup b with
  | none=>exact un.slot b o e (by rw[za4 q];exact n) hb hx
  | some u=>exact absurd hb (hc.st b u q)
 free:=fun b o e n hx=>by
  cases q:l.lookup b with
  | none=>rw[zbd q];exact un.free b o e (by rw[za4 q];exact n) hx
  | some u=>exact zjt q
 there:=un.there
 tups:=fun b xs e=>by
  have q:=hc.out e
  rw[zbd q]
  exact un.tups b xs (by rw[za4 q];exact e)
 frzs:=fun b o u e=>by
  have q:=hc.out e
  rw[zbd q]
  exact un.frzs b o u (by rw[za4 q];exact e)
 tbls:=fun b ps e=>by
  have q:=hc.out e
  rw[zbd q]
  exact un.tbls b ps (by rw[za4 q];exact e)
theorem hokC(un:Un (frs X.stack) [] (trC H l) H' s.heap s'.heap)(hok:HOk X.prog X.w H' s'.heap):HOk X.prog X.w (drC H' l) s'.heap:=fun b o e=>by
 cases q:l.lookup b with
 | some u=>rw[zjt q] at e;cases e
 | none=>
  rw[zbd q] at e
  exact(hok b o e).stay (fun _ _ _ z=>z) (fun c z=>by rw[zbd (zoj un z fun _ h=>by cases h)];exact z) fun c xs z=>by rw[zbd (zoj un z fun _ h=>by cases h)];exact z
theorem Zea(hc:Cls X H s l)(un:Un (frs X.stack) [] (trC H l) H' s.heap s'.heap)(sm:Same (trC H l) H'):Same H (drC H' l):=
 ⟨fun b o e n=>by
  have q:=hc.out e
  rw[zbd q]
  exact sm.at_ b o (by rw[za4 q];exact e) n,fun b ps e=>by
  have q:=hc.out e
  obtain⟨p1,e1,k1⟩:=sm.tb b ps (by rw[za4 q];exact e)
  refine⟨p1,by rw[zbd q];exact e1,fun t=>?_⟩
  have t1:=k1 ⟨t.1,fun pos v h=>let ⟨c,f1,f2⟩:=t.2 pos v h;⟨c,f1,by rw[za4 (hc.out f2)];exact f2⟩⟩
  exact⟨t1.1,fun pos v h=>let ⟨c,f1,f2⟩:=t1.2 pos v h;⟨c,f1,by rw[zbd (zoj un f2 fun _ h=>by cases h)];exact f2⟩⟩⟩
theorem Zc0{Q:VK}{u:Value}(I:L2.Inv X pins σ H s)(hc:Cls X H s l)(h:CE X.stack X.prog X.w (trC H l) s (fun v H'=>Un (frs X.stack) [] (trC H l) H' s.heap s'.heap->Q v (drC H' l)) u s'):EP X pins σ Q u s':=by
 obtain⟨v,H',os,bare,un,hok,r,q⟩:=h
 obtain⟨hh,g,d,t,os'⟩:=s'
 obtain rfl:os'=s.os:=os
 exact⟨v,drC H' l,I.call (h':=hh) (g':=g) (d':=d) (t':=t) (ch:=[]) (unC hc un hok) (hokC un hok) bare (fun b z=>absurd z (by simp)),r,q un⟩
end
mutual
def noFn:PV->Bool
 | .fn _ _=>false
 | .tup ps=>zbq ps
 | .lst ps=>zbq ps
 | .dct _ ps=>zbq ps
 | .dtt _ ps=>zbq ps
 | _=>true
def zbq:List PV->Bool
 | []=>true
 | p::ps=>noFn p && zbq ps
end
def isPl:HO->Bool
 | .tup _=>true
 | .frz _ (.lst _)=>true
 | .frz _ (.dK _)=>true
 | .frz _ (.dT _)=>true
 | _=>false
mutual
theorem Rep.pl{K:PySem.W.Frag}{H H':Hp}(k:∀b u,H b=some u->isPl u=true->H' b=some u):∀(p:PV){v:V},noFn p=true->Rep K H p v->Rep K H' p v
 | .non,_,_,h=>h
 | .bl _,_,_,h=>h
 | .int _,_,_,h=>h
 | .str _,_,_,h=>h
 | .tup ps,_,n,⟨a,xs,e,h,r⟩=>⟨a,xs,e,k _ _ h rfl,Reps.pl k ps n r⟩
 | .lst ps,_,n,⟨a,xs,e,h,r⟩=>⟨a,xs,e,by
   rcases h with⟨o,h⟩ | h
   ·exact .inl ⟨o,k _ _ h rfl⟩
   ·exact .inr h,Reps.pl k ps n r⟩
 | .dct ks ps,_,n,⟨a,kvs,e,h,ek,r⟩=>⟨a,kvs,e,by
   rcases h with⟨o,h⟩ | h
   ·exact .inl ⟨o,k _ _ h rfl⟩
   ·exact .inr h,ek,Reps.pl k ps n r⟩
 | .dtt ks ps,_,n,⟨a,o,kvs,e,h,ek,r⟩=>⟨a,o,kvs,e,k _ _ h rfl,ek,Reps.pl k ps n r⟩
 | .fn _ _,_,n,_=>by cases n
theorem Reps.pl{K:PySem.W.Frag}{H H':Hp}(k:∀b u,H b=some u->isPl u=true->H' b=some u):∀(ps:List PV){xs:List V},zbq ps=true->Reps K H ps xs->Reps K H' ps xs
 | [],_,_,h=>h
 | p::ps,_,n,⟨x,r,e,h1,h2⟩=>by
  have n:(noFn p && zbq ps)=true:=n
  rw[Bool.and_eq_true] at n
  exact⟨x,r,e,Rep.pl k p n.1 h1,Reps.pl k ps n.2 h2⟩
end
theorem zow{u:HO}(h:isPl u=true):∀q,u≠.frz q (.own 0):=fun q e=>by subst e;cases h
end PU
namespace PU
open PySem PySem.Spec PyProof.Rows L2 PySem.SeqAt
variable[TW]
theorem ztl{p:Pos}{r:List Value}(l:List Value)(h:TriplesOk l):codeAmong p (l++r)=(codeAmong p l).or (codeAmong p r):=by
 fun_induction TriplesOk l with
 | case1=>simp[codeAmong]
 | case2 a t b u x rest ih=>
  simp only[List.cons_append,codeAmong]
  split
  ·rfl
  ·exact ih h
 | case3 l h1 h2=>exact h.elim
theorem ztk{p pos:Pos}{c v:Value}(h:codeAmong p [rawInt pos.line,rawInt pos.col,c]=some v):v=c/\p.line=pos.line/\p.col=pos.col:=by
 simp only[codeAmong,rawInt] at h
 split at h
 ·rename_i hc
  cases h
  simp only[Bool.and_eq_true,beq_iff_eq] at hc
  exact⟨rfl,by omega,by omega⟩
 ·cases h
section
variable{X : Cx}{pins : List (Addr×Obj)}{σ : L2.St}{H : Hp}{s : Shared}
theorem zyu{H':Hp}{h':Heap}{P:Addr}{ps more:Array Value}{t':Nat}(I:L2.Inv X pins σ H s)(hP:H P=some (.tbl ps))(hx:Heap.ExtBut P s.heap h')(hp:H' P=some (.tbl (ps++more)))(gP:h'.get? P=some (PySem.W.tabObj (ps++more)))
  (old:∀b,b<s.heap.objs.size->b≠P->H' b=H b) (new:∀b o,s.heap.objs.size<=b->H' b=some o->zdz X.prog X.w H' h' b o):L2.Inv X pins σ H' { s with heap:=h',toks:=t' }:=by
 have lt:∀b o,H b=some o->b<s.heap.objs.size:=fun b o e=>I.hok.lt e
 have k:∀b o,b≠P->H b=some o->H' b=some o:=fun b o n e=>by rw[old b (lt b o e) n];exact e
 have nP:∀{b:Addr}{o:HO},H b=some o->(∀q,o≠.tbl q)->b≠P:=fun {b o} e n z=>by subst z;rw[hP] at e;cases e;exact n _ rfl
 refine I.un ⟨fun b o e n _ _=>hx b o (fun z=>by subst z;rw[hP] at n;cases n) e,fun b o e n _ _=>⟨o.slots,hx b o (fun z=>by subst z;rw[hP] at n;cases n) e⟩,
  fun b o e n _=>by rw[old b (Heap.lt_size e) (fun z=>by subst z;rw[hP] at n;cases n)];exact n,fun b o e _=>?_,fun b xs e=>k b _ (nP e fun _ z=>by cases z) e,fun b o u e=>k b _ (nP e fun _ z=>by cases z) e,fun b qs e=>?_⟩ fun b o e=>?_
 ·by_cases hb:b=P
  ·subst hb;exact⟨_,gP⟩
  ·exact⟨o,hx b o hb e⟩
 ·by_cases hb:b=P
  ·subst hb
   rw[hP] at e
   cases e
   exact⟨more,hp⟩
  ·exact⟨#[],by rw[k b _ hb e];simp⟩
 ·by_cases hl:b<s.heap.objs.size
  ·by_cases hb:b=P
   ·subst hb
    rw[hp] at e
    cases e
    exact gP
   ·rw[old b hl hb] at e
    refine(I.hok b o e).stay (fun c u hc q=>hx c u (fun z=>?_) q) (fun c q=>k c _ (nP q fun _ z=>by cases z) q) fun c xs q=>k c _ (nP q fun _ z=>by cases z) q
    rcases hc with h | h
    ·exact hb (h▸z)
    ·exact nP h (fun _ z=>by cases z) z
  ·exact new b o (Nat.le_of_not_lt hl) e
theorem Zbm{params:Arguments}{body:Expr}{scope:Scope}{pos:Pos}{c P:Addr}{ps:Array Value}{Q:Value->Shared->Prop}{E:Value->Shared->Prop}(I:L2.Inv X pins σ H s)(hP:H P=some (.tbl ps))(tk:TOk H ps)(hcode:X.env.code=.ref c)
  (CH:PySem.W.CodeHd X.base c P) (hbn:∃bm o,X.mg "__builtins__"=some (.ref bm)/\bm≠builtinsNs/\bm≠mainGlobals/\X.base.get? bm=some o/\o.cls=.type "module"/\o.dict=some builtinsNs/\o.data=.plain)
  (hdef:defaultsOf params X.env=([],[])) (hq:TW.qual pos.line pos.col=X.env.qual++"<lambda>") (hfree:∀y∈scope.names,y.2=.free->∃c,X.env.cells.lookup y.1=some c)
  (h:∀f c' pm ct H' s',L2.Inv X pins σ H' s'->Same H H'->H' f=some (FnAt f (PySem.W.kla_obj "<lambda>" (X.env.qual++"<lambda>") params body scope (clOf X.env.cells scope.names []) pm c' ct))->H' c'=some (zht c' (X.env.qual++"<lambda>"))->Q (.ref f) s') :
  wpAny (model X.prog X.w) X.A (eval (.Lambda params body scope pos) X.env) Q E s:=by
 have gP:s.heap.get? P=some (PySem.W.tabObj ps):=I.hok P _ hP
 have nb:∀b o,X.base.get? b=some o->b≠P:=fun b o e z=>by subst z;have:=(I.bs b o e).2;rw[hP] at this;cases this
 obtain⟨bm,ob,b1,b2,b3,b4,b5,b6,b7⟩:=hbn
 have hg:s.heap.Ns mainGlobals X.mg:=I.mod.glob.keeps I.bk
 have hgP:mainGlobals≠P:=by
  obtain⟨o,es,ep,e,_⟩:=I.mod.glob
  exact nb _ o e
 have hB:s.heap.BuiltinsAt X.mg P:=⟨bm,ob,b1,b2,b3,nb _ _ b4,I.bk _ _ b4,b5,b6,b7⟩
 refine PySem.W.kla_eval hdef ?_
 cases hf:codeAmong pos ps.toList with
 | some cv=>
  obtain⟨c',rfl,hc'⟩:=tk.2 pos cv hf
  rw[hq] at hc'
  refine PySem.W.kla_makeFunctionHit (mg:=X.mg) (zc4 hfree) I.ok.glob hg hcode (CH.keeps I.bk) gP tk.1 hf hB fun ctv h' t' hk hsz=>?_
  have nf:H h'.objs.size=none:=I.hok.fresh hsz
  have I1:L2.Inv X pins σ H { s with heap:=h',toks:=t' }:=I.kept (t':=t') hk
  refine h h'.objs.size c' _ ctv (upd H h'.objs.size (FnAt h'.objs.size _)) _ (I1.laid (a:=h'.objs.size) (t':=t') (fun _ _ q=>Heap.get?_push_of_some _ q) (Nat.le_refl _) ⟨Heap.get?_push_size _ rfl,⟨_,Heap.get?_push_size _ rfl⟩,fun h1 h2 e k=>k _ e⟩) (Same.new nf) zai ?_
  rw[zah (zbk hc' nf)]
  exact hc'
 | none=>
  refine PySem.W.kla_makeFunction (mg:=X.mg) (zc4 hfree) I.ok.glob hg hcode (CH.keeps I.bk) gP tk.1 hf hgP hB fun c' ctv h' t' hx hge hlt hrec htb=>?_
  have hPs:P<s.heap.objs.size:=Heap.lt_size gP
  have hsz:s.heap.objs.size<=h'.objs.size:=Nat.le_of_lt (Nat.lt_of_le_of_lt hge hlt)
  have nc:H c'=none:=I.hok.fresh hge
  have nf:H h'.objs.size=none:=I.hok.fresh hsz
  have c1:c'≠P:=Nat.ne_of_gt (Nat.lt_of_lt_of_le hPs hge)
  have f1:h'.objs.size≠P:=Nat.ne_of_gt (Nat.lt_of_lt_of_le hPs hsz)
  have cf:c'≠h'.objs.size:=Nat.ne_of_lt hlt
  obtain⟨F,hF⟩:∃F:Obj,F=PySem.W.kla_obj "<lambda>" (X.env.qual++"<lambda>") params body scope (clOf X.env.cells scope.names []) ((X.mg "__name__").getD .none) c' ctv:=⟨_,rfl⟩
  obtain⟨H',hH⟩:∃H':Hp,H'=upd (upd (upd H P (.tbl (ps++#[rawInt pos.line,rawInt pos.col,.ref c']))) c' (zht c' (X.env.qual++"<lambda>"))) h'.objs.size (FnAt h'.objs.size F):=⟨_,rfl⟩
  have eP:H' P=some (.tbl (ps++#[rawInt pos.line,rawInt pos.col,.ref c'])):=by rw[hH,zah (Ne.symm f1),zah (Ne.symm c1),zai]
  have ec:H' c'=some (zht c' (X.env.qual++"<lambda>")):=by rw[hH,zah cf,zai]
  have ef:H' h'.objs.size=some (FnAt h'.objs.size F):=by rw[hH,zai]
  have old:∀b,b<s.heap.objs.size->b≠P->H' b=H b:=fun b hb hn=>by rw[hH,zah (Nat.ne_of_lt (Nat.lt_of_lt_of_le hb hsz)),zah (Nat.ne_of_lt (Nat.lt_of_lt_of_le hb hge)),zah hn]
  have lt:∀b o,H b=some o->b<s.heap.objs.size:=fun b o e=>I.hok.lt e
  rw[← hF]
  have hx2:Heap.ExtBut P s.heap (h'.push F):=fun b o n e=>Heap.get?_push_of_some _ (hx b o n e)
  refine h h'.objs.size c' _ ctv H' _ (zyu (t':=t') I hP hx2 eP (Heap.get?_push_of_some _ htb) old fun b o hb e=>?_) ⟨fun b o e n=>?_,fun b qs e=>?_⟩ (by rw[← hF];exact ef) ec
  ·by_cases hbf:b=h'.objs.size
   ·subst hbf
    rw[ef] at e
    cases e
    have hfr:F.isFreed=false:=by rw[hF];rfl
    exact⟨Heap.get?_push_size _ hfr,⟨_,Heap.get?_push_size _ hfr⟩,fun h1 h2 e k=>k _ e⟩
   ·by_cases hbc:b=c'
    ·subst hbc
     rw[ec] at e
     cases e
     obtain⟨c2,oc,vs,tq,e1,e2,e3,e4⟩:=hrec
     cases e1
     refine⟨⟨b,oc,vs,tq,rfl,Heap.get?_push_of_some _ e2,e3,e4⟩,⟨oc,Heap.get?_push_of_some _ e2⟩,?_⟩
     intro h1 h2 ⟨c3,oc3,vs3,tq3,g1,g2,g3,g4⟩ k
     cases g1
     exact⟨_,oc3,vs3,tq3,rfl,k _ g2,g3,g4⟩
    ·exfalso
     rw[hH,zah hbf,zah hbc,zah (Nat.ne_of_gt (Nat.lt_of_lt_of_le hPs hb)),I.hok.fresh hb] at e
     cases e
  ·have hb:b≠P:=fun z=>by subst z;rw[hP] at e;cases e;cases n
   rw[old b (lt b o e) hb]
   exact e
  ·have keep:∀d q,H d=some (zht d q)->H' d=some (zht d q):=fun d q e=>by
    rw[old d (lt d _ e) (fun z=>by subst z;rw[hP] at e;cases e)]
    exact e
   by_cases hb:b=P
   ·subst hb
    rw[hP] at e
    cases e
    refine⟨_,eP,fun t=>⟨?_,fun p v hv=>?_⟩⟩
    ·rw[Array.toList_append]
     exact TriplesOk_snoc _ _ _ _ t.1
    ·rw[Array.toList_append,ztl _ t.1] at hv
     cases hl:codeAmong p ps.toList with
     | some u=>
      rw[hl] at hv
      cases hv
      obtain⟨d,d1,d2⟩:=t.2 p _ hl
      exact⟨d,d1,keep d _ d2⟩
     | none=>
      rw[hl] at hv
      obtain⟨e1,e2,e3⟩:=ztk hv
      subst e1
      exact⟨c',rfl,by rw[e2,e3,hq];exact ec⟩
   ·refine⟨qs,by rw[old b (lt b _ e) hb];exact e,fun t=>⟨t.1,fun p v hv=>?_⟩⟩
    obtain⟨d,d1,d2⟩:=t.2 p v hv
    exact⟨d,d1,keep d _ d2⟩
end
end PU
namespace PU
open PySem PySem.Spec PyProof.Rows L2 PySem.SeqAt
variable[TW]
structure LScope(ps fr:List Str)(sc:Scope):Prop where
 kind:sc.kind=.function
 co:sc.isCoroutine=false
 gen:sc.isGenerator=false
 nocell:∀x∈sc.names,x.2≠.cell
 par:∀x∈ps,sc.names.lookup x=some .local
 fre:∀x,sc.names.lookup x=some .free->x∈fr
 frk:∀x∈fr,sc.names.lookup x=some .free
 nd:(ps++fr).Nodup
def cxL(P:Program)(w:World)(K:PySem.W.Frag)(mg:Str->Option Value)(base:Heap)(N:List Str)(qual:Str)(scope:Scope)(f:Addr)(cd:Value)(cl:List (Str×Addr))(A:Around)(outer:List Env)(s:Shared)(H:Hp):Cx where
 prog:=P
 w:=w
 K:=K
 mg:=mg
 base:=base
 A:=A.deeper (PySem.W.envX qual scope s.heap.objs.size f cd cl)
 N:=N
 s₀:=s
 H₀:=H
 env:=PySem.W.envX qual scope s.heap.objs.size f cd cl
 outer:=outer
 stack:=PySem.W.envX qual scope s.heap.objs.size f cd cl::outer
 ex:=[]
 calm:=true
 fn:=fun _=>false
 pn:=[]
 xe:=fun _ _=>False
theorem zl6{cl:List (Str×Addr)}(nd:(cl.map (·.1)).Nodup):∀{i:Nat}{x:Str}{c:Addr},cl[i]?=some (x,c)->cl.lookup x=some c:=by
 induction cl with
 | nil=>intro i x c h;simp at h
 | cons p r ih=>
  intro i x c h
  obtain⟨y,d⟩:=p
  rw[List.map_cons,List.nodup_cons] at nd
  cases i with
  | zero=>simp at h;obtain⟨rfl,rfl⟩:=h;simp[List.lookup]
  | succ i=>
   have h:r[i]?=some (x,c):=by simpa using h
   have hne:(x == y)=false:=by
    rw[beq_eq_false_iff_ne]
    rintro rfl
    exact nd.1 (List.mem_map.mpr ⟨_,List.mem_of_getElem? h,rfl⟩)
   rw[List.lookup_cons,hne]
   exact ih nd.2 h
theorem Zbh{cl:List (Str×Addr)}{x:Str}{c:Addr}(h:cl.lookup x=some c):∃i:Nat,cl[i]?=some (x,c):=by
 have:=PySem.mem_of_lookup h
 obtain⟨i,hi,e⟩:=List.getElem_of_mem this
 exact⟨i,by rw[List.getElem?_eq_getElem hi,e]⟩
theorem zr7{x y:Str}{c:Addr}:∀{cl:List (Str×Addr)},(cl.map (·.2)).Nodup->(x,c)∈cl->(y,c)∈cl->x=y
 | [],_,h,_=>nomatch h
 | (z,d)::r,nd,h1,h2=>by
  rw[List.map_cons,List.nodup_cons] at nd
  rcases List.mem_cons.mp h1 with e1 | m1
  ·rcases List.mem_cons.mp h2 with e2 | m2
   ·cases e1;cases e2;rfl
   ·cases e1
    exact(nd.1 (List.mem_map.mpr ⟨_,m2,rfl⟩)).elim
  ·rcases List.mem_cons.mp h2 with e2 | m2
   ·cases e2
    exact(nd.1 (List.mem_map.mpr ⟨_,m1,rfl⟩)).elim
   ·exact zr7 nd.2 m1 m2
theorem Zb9{cl:List (Str×Addr)}(nd:(cl.map (·.2)).Nodup){x y:Str}{c:Addr}(h1:cl.lookup x=some c)(h2:cl.lookup y=some c):x=y:=
 zr7 nd (PySem.mem_of_lookup h1) (PySem.mem_of_lookup h2)
theorem zp0{cl:List (Str×Value)}(nd:(cl.map (·.1)).Nodup):∀{i:Nat}{x:Str}{c:Value},cl[i]?=some (x,c)->cl.lookup x=some c:=by
 induction cl with
 | nil=>intro i x c h;simp at h
 | cons p r ih=>
  intro i x c h
  obtain⟨y,d⟩:=p
  rw[List.map_cons,List.nodup_cons] at nd
  cases i with
  | zero=>simp at h;obtain⟨rfl,rfl⟩:=h;simp[List.lookup]
  | succ i=>
   have h:r[i]?=some (x,c):=by simpa using h
   have hne:(x == y)=false:=by
    rw[beq_eq_false_iff_ne]
    rintro rfl
    exact nd.1 (List.mem_map.mpr ⟨_,List.mem_of_getElem? h,rfl⟩)
   rw[List.lookup_cons,hne]
   exact ih nd.2 h
theorem zpg{ps:List Str}{us:List Value}(nd:ps.Nodup)(hl:us.length=ps.length){i:Nat}{x:Str}{u:Value}(h1:ps[i]?=some x)(h2:us[i]?=some u):(ps.zip us).reverse.lookup x=some u:=by
 have hm:(x,u)∈ps.zip us:=by
  refine List.mem_of_getElem? (i:=i) ?_
  rw[List.getElem?_zip_eq_some]
  exact⟨h1,h2⟩
 have hn:((ps.zip us).map (·.1)).Nodup:=by
  rw[List.map_fst_zip (by omega)]
  exact nd
 have hr:((ps.zip us).reverse.map (·.1)).Nodup:=by rw[List.map_reverse];exact List.pairwise_reverse.mpr (List.Pairwise.imp (fun h=>Ne.symm h) hn)
 obtain⟨j,hj,e⟩:=List.getElem_of_mem (List.mem_reverse.mpr hm)
 exact zp0 hr (by rw[List.getElem?_eq_getElem hj,e])
section
variable{P : Program}{w : World}{K : PySem.W.Frag}{mg : Str → Option Value}{base : Heap}{ps fr : List Str}{qual : Str}{scope : Scope}{f : Addr}{cd : Value}{cl : List (Str×Addr)}{A : Around}{outer : List Env}{s : Shared}{H : Hp}{l : List (Addr×Obj)}
theorem zyf{us:List Value}{vs xs:List V}{h':Heap}{t':Nat}(S:LScope ps fr scope)(hd:A.handled=none)(e0:Env0 P w K mg base A outer s H)(hl:∀c o,l.lookup c=some o->H c=some (.frz o (.own 0)))
  (hcl:cl.map (·.1)=fr) (nd:(cl.map (·.2)).Nodup) (hxs:xs.length=cl.length) (hx:∀(i:Nat)(x:Str)(c:Addr),cl[i]?=some (x,c)->∃v o u,xs[i]?=some v/\l.lookup c=some o/\o.data=.cell (some u)/\RelV v u)
  (r:Vals vs us) (hv:vs.length=ps.length) (ns:h'.Ns s.heap.objs.size (fun x=>(ps.zip us).reverse.lookup x)) (hk:∀b o,s.heap.get? b=some o->h'.get? b=some o) :
  L2.Inv (cxL P w K mg base (ps++fr) qual scope f cd cl A outer s (drC H l)) [] ((vs++xs).map some) (drC H l) { s with heap:=h',toks:=t' }:=by
 have noA:∀b:Addr,b ∉ ([]:List Addr):=fun b z=>nomatch z
 have ndf:(cl.map (·.1)).Nodup:=by rw[hcl];exact(List.nodup_append.mp S.nd).2.1
 have ndp:ps.Nodup:=(List.nodup_append.mp S.nd).1
 have cellOf:∀x c,cl.lookup x=some c->∃(i:Nat)(v:V)(o:Obj)(u:Value),cl[i]?=some (x,c)/\xs[i]?=some v/\l.lookup c=some o/\o.data=.cell (some u)/\RelV v u/\s.heap.get? c=some o:=fun x c h=>by
  obtain⟨i,e⟩:=Zbh h
  obtain⟨v,o,u,e1,e2,e3,e4⟩:=hx i x c e
  exact⟨i,v,o,u,e,e1,e2,e3,e4,(e0.hok c _ (hl c o e2)).1⟩
 have drn:∀b,H b=none->drC H l b=none:=fun b n=>by
  cases q:l.lookup b with
  | none=>rw[zbd q];exact n
  | some o=>exact zjt q
 have hok:HOk P w (drC H l) s.heap:=fun b o e=>by
  cases q:l.lookup b with
  | some u=>rw[zjt q] at e;cases e
  | none=>
   rw[zbd q] at e
   have out:∀{c:Addr}{o:HO},H c=some o->(∀q,o≠.frz q (.own 0))->l.lookup c=none:=fun {c o} e n=>by
    cases q:l.lookup c with
    | none=>rfl
    | some u=>rw[hl c u q] at e;cases e;exact absurd rfl (n u)
   exact(e0.hok b o e).stay (fun _ _ _ z=>z) (fun c z=>by rw[zbd (out z fun _ h=>by cases h)];exact z) fun c xs z=>by rw[zbd (out z fun _ h=>by cases h)];exact z
 refine⟨⟨e0.mod,S.kind,rfl,rfl,Nat.le_refl _,fun y z c h1 h2=>Zb9 nd h1 h2,fun y hy=>?_,fun y c h _=>(by cases h),fun _=>hd,Around.frames_deeper e0.frames,.inr ⟨rfl,rfl⟩,fun b z=>absurd z (noA b),fun b o e=>⟨(e0.bs b o e).1,drn b (e0.bs b o e).2⟩,e0.bsz,fun b _ _=>noA b,fun b z=>absurd z (noA b),e0.funs,fun b hb=>drn b (e0.frf b hb)⟩,
  rfl,e0.bare,Un.kept hk,⟨_,ns,fun i y v h1 h2 h3=>?_⟩,fun y c h=>?_,drn _ (e0.hok.fresh (Nat.le_refl _)),fun y c h=>?_,fun p hp=>absurd (show p∈([]:List (Addr×Obj)) from hp) (by simp),hok.kept hk,?_⟩
 ·have hy:scope.names.lookup y=some .cell\/scope.names.lookup y=some .free:=hy
  rcases hy with hy | hy
  ·exact absurd rfl (S.nocell _ (PySem.mem_of_lookup hy))
  ·have:=S.fre y hy
   rw[← hcl] at this
   obtain⟨p,hp,e⟩:=List.mem_map.mp this
   obtain⟨i,hi,e2⟩:=List.getElem_of_mem hp
   obtain⟨a,b⟩:=p
   cases e
   exact⟨b,zl6 ndf (by rw[List.getElem?_eq_getElem hi,e2])⟩
 ·have h1:(ps++fr)[i]?=some y:=h1
  rw[List.getElem?_map] at h2
  obtain⟨v',h2,e⟩:=Option.map_eq_some_iff.mp h2
  cases e
  by_cases hi:i<ps.length
  ·rw[List.getElem?_append_left hi] at h1
   rw[List.getElem?_append_left (by omega)] at h2
   obtain⟨u,hu,rv⟩:=r.get h2
   exact⟨u,rv,.inl ⟨S.par y (List.mem_of_getElem? h1),zpg ndp (by rw[← r.length];exact hv) h1 hu⟩⟩
  ·rw[List.getElem?_append_right (by omega)] at h1
   rw[List.getElem?_append_right (by omega),hv] at h2
   have hf:=S.frk y (List.mem_of_getElem? h1)
   rw[← hcl,List.getElem?_map] at h1
   obtain⟨p,g1,e⟩:=Option.map_eq_some_iff.mp h1
   obtain⟨a,c⟩:=p
   cases e
   obtain⟨v2,o,u,e1,e2,e3,e4⟩:=hx _ _ _ g1
   rw[h2] at e1
   cases e1
   exact⟨u,e4,.inr ⟨.inr hf,c,zl6 ndf g1,o,hk _ _ (e0.hok c _ (hl c o e2)).1,e3⟩⟩
 ·obtain⟨i,v,o,u,_,_,_,e3,_,e5⟩:=cellOf y c h
  exact⟨_,o,hk _ _ e5,e3⟩
 ·obtain⟨i,v,o,u,_,_,e2,_,_,_⟩:=cellOf y c h
  exact zjt e2
 ·show _=(ps++fr).length
  rw[List.length_map,List.length_append,List.length_append,hv,hxs,← hcl,List.length_map]
theorem zye{k:Nat}{params:Arguments}{body:Expr}{pm ct:Value}{c:Addr}{us:List Value}{vs xs:List V}{qs cs:List PV}{p:PV}{fe:PSt->R PV}{Q:VK}{E:XK}(S:LScope ps fr scope)(hr:Room (k+1) A)(e0:Env0 P w K mg base A outer s H)
  (hf:H f=some (FnAt f (PySem.W.kla_obj "<lambda>" qual params body scope cl pm c ct))) (hc:H c=some (zht c qual)) (hl:∀c o,l.lookup c=some o->H c=some (.frz o (.own 0)))
  (hcl:cl.map (·.1)=fr) (nd:(cl.map (·.2)).Nodup) (hxs:xs.length=cl.length) (hx:∀(i:Nat)(x:Str)(c:Addr),cl[i]?=some (x,c)->∃v o u,xs[i]?=some v/\l.lookup c=some o/\o.data=.cell (some u)/\RelV v u)
  (hb:bindArgs (PySem.W.kla_fn "<lambda>" qual params body scope cl pm (.ref c) ct) ⟨us,[]⟩=pure (ps.zip us))
  (hbody:EV ⟨cxL P w K mg base (ps++fr) qual scope f (.ref c) cl A outer s (drC H l),fun _ _=>False⟩ body fe)
  (r:Vals vs us) (hv:vs.length=ps.length) (rq:Reps K H qs vs) (rc:Reps K H cs xs) (nq:zbq qs=true) (nc:zbq cs=true) (tb:Tabs H) (e:fe ((qs++cs).map .val)=.ok p)
  (hQ:∀v H',Same H H'->Rep K H' p v->Q v H') :
  codeAny (model P w) A (.call (.ref f) ⟨us,[]⟩) (CR CX0 outer P w H s Q E) s:=by
 have lim:s.heap.NoLimit:=e0.mod.nolimit.keeps fun b o e=>(e0.bs b o e).1
 have out:∀{b:Addr}{o:HO},H b=some o->(∀q,o≠.frz q (.own 0))->l.lookup b=none:=fun {b o} e n=>by
  cases q:l.lookup b with
  | none=>rfl
  | some u=>rw[hl b u q] at e;cases e;exact absurd rfl (n u)
 have outn:∀{b:Addr},H b=none->l.lookup b=none:=fun {b} n=>by
  cases q:l.lookup b with
  | none=>rfl
  | some u=>rw[hl b u q] at n;cases n
 have drn:∀{b:Addr},H b=none->drC H l b=none:=fun {b} n=>by rw[zbd (outn n)];exact n
 have pl:∀b u,H b=some u->isPl u=true->drC H l b=some u:=fun b u e h=>by rw[zbd (out e (zow h))];exact e
 have tok:∀{qs:Array Value},TOk H qs->TOk (drC H l) qs:=fun t=>⟨t.1,fun pos v h=>let ⟨c,f1,f2⟩:=t.2 pos v h;⟨c,f1,by rw[zbd (out f2 fun _ h=>by cases h)];exact f2⟩⟩
 refine PySem.W.kla_callFunE (by have:=hr.dp;omega) (e0.hok f _ hf).1 rfl S.co S.gen rfl (e0.hok c _ hc).1 ?_
 rw[hb]
 refine wpAny_pure (wpAny_newFunctionEnv S.nocell (fun y hy=>S.par _ (List.of_mem_zip hy).1) (fun h₁ hns hsb=>⟨lim.fresh _ hsb,?_⟩) S.kind)
 have hk:∀b o,s.heap.get? b=some o->h₁.get? b=some o:=fun b o e=>hsb.extBut b o (Nat.ne_of_lt (Heap.lt_size e)) (Heap.get?_push_of_some _ e)
 have I:=zyf (qual:=qual) (f:=f) (cd:=.ref c) (t':=s.toks+(ps.zip us).length) S hr.hd e0 hl hcl nd hxs hx r hv hns hk
 have rr:Reps K (drC H l) (qs++cs) (vs++xs):=Reps.append (Reps.pl pl qs nq rq) (Reps.pl pl cs nc rc)
 show codeAny _ _ (.expr body (PySem.W.envX qual scope s.heap.objs.size f (.ref c) cl)) _ _
 refine PySem.W.kla_codeExpr (wpAny_mono (hbody [] _ _ _ (fun v H1=>Same (drC H l) H1/\Rep K H1 p v) I ⟨(qs++cs).map .val,⟨fun i z ez=>?_,fun P hP=>?_⟩,by rw[e];exact fun v H' s' r'=>⟨s',r'⟩⟩) (fun u s' hq=>?_) fun _ _ h=>False.elim h)
 ·rw[List.getElem?_map] at ez
  obtain⟨q,eq,e2⟩:=Option.map_eq_some_iff.mp ez
  cases e2
  obtain⟨v,ev,rp⟩:=rr.get eq
  exact⟨v,by rw[List.getElem?_map,ev];rfl,rp⟩
 ·obtain⟨qs',e1,t⟩:=tb P hP
  exact⟨qs',by rw[zbd (out e1 fun _ h=>by cases h)];exact e1,tok t⟩
 ·obtain⟨v,H1,J,rv,sm,rp⟩:=hq
  have un:Un (frs outer) [] (drC H l) H1 s.heap s'.heap:=J.base
  have n1:∀{c:Addr}{o:Obj},l.lookup c=some o->H1 c=none/\s'.heap.get? c=some o:=fun {c o} q=>by
   have g:=(e0.hok c _ (hl c o q)).1
   refine⟨un.free c o g (zjt q) (by simp),un.keep c o g (zjt q) (fun z=>?_) (by simp)⟩
   have:=e0.frf c z
   rw[hl c o q] at this
   cases this
  have out1:∀{b:Addr}{o:HO},H1 b=some o->l.lookup b=none:=fun {b o} e=>by
   cases q:l.lookup b with
   | none=>rfl
   | some u=>rw[(n1 q).1] at e;cases e
  refine⟨v,trC H1 l,J.os,J.bare,⟨fun b o e n hb hx=>un.keep b o e (drn n) hb hx,fun b o e n hb hx=>un.slot b o e (drn n) hb hx,fun b o e n hx=>by rw[za4 (outn n)];exact un.free b o e (drn n) hx,un.there,fun b ys e=>?_,fun b o u e=>?_,fun b qs e=>?_⟩,fun b o e=>?_,rv,hQ v _ ⟨fun b o e n=>?_,fun b qs e=>?_⟩ (rp.same (.of fun b o e=>by rw[za4 (out1 e)];exact e))⟩
  ·have q:=out e fun _ h=>by cases h
   rw[za4 q]
   exact un.tups b ys (by rw[zbd q];exact e)
  ·cases q:l.lookup b with
   | some o'=>rw[hl b o' q] at e;cases e;exact zi1 q
   | none=>rw[za4 q];exact un.frzs b o u (by rw[zbd q];exact e)
  ·have q:=out e fun _ h=>by cases h
   rw[za4 q]
   exact un.tbls b qs (by rw[zbd q];exact e)
  ·cases q:l.lookup b with
   | some o'=>
    rw[zi1 q] at e
    cases e
    exact⟨(n1 q).2,o',(n1 q).2⟩
   | none=>
    rw[za4 q] at e
    exact(J.hok b o e).stay (fun _ _ _ z=>z) (fun c z=>by rw[za4 (out1 z)];exact z) fun c xs z=>by rw[za4 (out1 z)];exact z
  ·cases q:l.lookup b with
   | some o'=>rw[hl b o' q] at e;cases e;exact zi1 q
   | none=>rw[za4 q];exact sm.at_ b o (by rw[zbd q];exact e) n
  ·have q:=out e fun _ h=>by cases h
   obtain⟨p1,e1,k1⟩:=sm.tb b qs (by rw[zbd q];exact e)
   refine⟨p1,by rw[za4 q];exact e1,fun t=>?_⟩
   have t1:=k1 (tok t)
   exact⟨t1.1,fun pos v h=>let ⟨c,f1,f2⟩:=t1.2 pos v h;⟨c,f1,by rw[za4 (out1 f2)];exact f2⟩⟩
end
end PU
namespace PU
open PySem PySem.Spec PyProof.Rows L2 PySem.SeqAt
variable[TW]
theorem zkt{H:Hp}:∀{cl:List (Str×Addr)}{xs:List V},zel H cl xs->xs.length=cl.length/\∃l:List (Addr×Obj),(∀c o,l.lookup c=some o->H c=some (.frz o (.own 0)))/\
  ∀(i:Nat)(x:Str)(c:Addr),cl[i]?=some (x,c)->∃v o u,xs[i]?=some v/\l.lookup c=some o/\o.data=.cell (some u)/\RelV v u
 | [],xs,h=>by cases h;exact⟨rfl,[],fun c o h=>(by cases h),fun i x c h=>(by simp at h)⟩
 | p::cl,_,⟨x,r,o,u,e,h,d,v,t⟩=>by
  subst e
  obtain⟨hl,l,h1,h2⟩:=zkt t
  have look:∀c o',((p.2,o)::l).lookup c=some o'->H c=some (.frz o' (.own 0)):=fun c o' e=>by
   rw[List.lookup_cons] at e
   cases hb:(c == p.2) with
   | true=>rw[hb] at e;cases e;rw[eq_of_beq hb];exact h
   | false=>rw[hb] at e;exact h1 c o' e
  refine⟨by simp[hl],(p.2,o)::l,look,fun i y c e=>?_⟩
  cases i with
  | zero=>
   simp at e
   subst e
   exact⟨x,o,u,rfl,by simp[List.lookup],d,v⟩
  | succ i=>
   obtain⟨v',o',u',e1,e2,e3,e4⟩:=h2 i y c (by simpa using e)
   refine⟨v',o',u',by simpa using e1,?_,e3,e4⟩
   rw[List.lookup_cons]
   cases hb:(c == p.2) with
   | false=>exact e2
   | true=>
    have:=h1 c o' e2
    rw[eq_of_beq hb,h] at this
    cases this
    rfl
structure LamB(P:Program)(w:World)(K:PySem.W.Frag)(mg:Str->Option Value)(base:Heap)(k:Nat)(L:Lam)(ps:List Str)(fe:PSt->R PV):Prop where
 sc:LScope ps L.kept L.scope
 bd:∀(cl:List (Str×Addr)) (pm ct:Value) (c:Addr) (us:List Value),us.length=ps.length->bindArgs (PySem.W.kla_fn "<lambda>" L.qual L.args L.body L.scope cl pm (.ref c) ct) ⟨us,[]⟩=pure (ps.zip us)
 ev:∀(f c:Addr)(cl:List (Str×Addr))(A:Around)(outer:List Env)(s:Shared)(H:Hp),Room k (A.deeper (PySem.W.envX L.qual L.scope s.heap.objs.size f (.ref c) cl))->
  EV ⟨cxL P w K mg base (ps++L.kept) L.qual L.scope f (.ref c) cl A outer s H,fun _ _=>False⟩ L.body fe
def LamT(P:Program)(w:World)(K:PySem.W.Frag)(mg:Str->Option Value)(base:Heap)(k:Nat)(app:Lam->List PV->List PV->Option PV):Prop:=
 ∀L qs cs p,app L qs cs=some p->∃ps fe,LamB P w K mg base k L ps fe/\qs.length=ps.length/\fe ((qs++cs).map .val)=.ok p
def zjx(i:Nat)(fs:PSt->R (List PV))(app:Lam->List PV->List PV->Option PV):PSt->R PV:=fun ρ=>match ρ[i]? with
 | some (.val (.fn L cs))=>fs ρ >>= fun qs=>if zbq qs=true/\zbq cs=true then R.ofO (app L qs cs) else .no
 | _=>.no
theorem zle{C:Cn}{x:Str}{e:Expr}{es:List Expr}{fs:PSt->R (List PV)}{app:Lam->List PV->List PV->Option PV}{k:Nat}{p pos:Pos}(i:Nat)(T:LamT C.X.prog C.X.w C.X.K C.X.mg C.X.base k app)(hr:Room (k+1) C.X.A)(ha:EA C (e::es) fs)
  (hN:C.X.N[i]?=some x:=by rfl) (hvis:Vis C.X.env.scope x:=by first | exact .inl rfl | exact .inr (.inl rfl) | exact .inr (.inr rfl)) (hdb:(x == ("__debug__":Str))=false:=by decide) (hcd:(x == ("__classdict__":Str))=false:=by decide)
  (he:starEach (e::es) C.X.env=(false,eval e C.X.env)::starEach es C.X.env:=by exact zck rfl) (hpl:(backTo pos (starEach es C.X.env)).any (·.1)=false:=by exact zio rfl) :
  EV C (.Call (.Name x p) (e::es) [] pos) (zjx i fs app):=by
 intro pins s σ H Q I ⟨ρ,vw,q⟩
 unfold zjx at q
 split at q
 ·rename_i L cs e1
  obtain⟨v,ev,f,c,cl,pm,ct,xs,rfl,hf,hc,hk,nd,ca,rc⟩:=vw i _ e1
  refine wpAny_Call_Name_kw (thn (zfi hN hvis hdb hcd pins s σ H (fun v' H'=>v'=.ref f/\H'=H) I ⟨_,ev,rfl,rfl⟩) fun u s1 ⟨v',H',I1,ru,e2,e3⟩=>?_)
  subst e2 e3
  cases (show u=Value.ref f from ru)
  have fnAt:∀{H2:Hp}{s2:Shared},L2.Inv C.X pins σ H2 s2->Same H' H2->PySem.W.FnAt f s2.heap:=fun {H2 s2} I2 sm=>⟨_,_,_,_,(I2.hok f _ (sm _ _ hf)).1⟩
  refine PySem.W.callWith_F (fnAt I1 (Same.refl _)) (thn (ha pos pins s1 σ H' (fun vs H2=>∃qs z,Reps C.X.K H2 qs vs/\Same H' H2/\zbq qs=true/\zbq cs=true/\app L qs cs=some z/\∀v H3,Same H' H3->Rep C.X.K H3 z v->Q v H3) I1
   ⟨ρ,vw,q.bind.imp fun qs _ k1 vs H2 sm2 r2=>?_⟩) fun us s2 ⟨vs,H2,I2,r,qs,z,r2,sm2,n1,n2,ea,k2⟩=>⟨fnAt I2 sm2,?_⟩) he hpl
  ·split at k1
   ·rename_i hn
    obtain⟨z,ez,k3⟩:=k1.ofO
    exact⟨qs,z,r2,sm2,hn.1,hn.2,ez,fun v H3 s3 r3=>k3 v H3 s3 r3⟩
   ·exact False.elim k1
  ·obtain⟨ps,fe,B,hl,ef⟩:=T L qs cs z ea
   have ca2:=zel.kp sm2.kp ca
   obtain⟨hxl,l,l1,l2⟩:=zkt ca2
   have hus:us.length=ps.length:=by rw[← r.length,← r2.length];exact hl
   refine wpAny_call (codeAny_mono (zye (l:=l) (E:=E0) (Q:=Q) B.sc hr I2.env0 (sm2 _ _ hf) (sm2 _ _ hc) l1 hk nd hxl l2 (B.bd cl pm ct c us hus) (B.ev f c cl C.X.A C.X.stack s2 (drC H2 l) (hr.deeper _)) r (by rw[← r2.length];exact hl) r2 (rc.same sm2) n1 n2 (sm2.tabs vw.tb) ef
    fun v H3 s3 r3=>k2 v H3 (sm2.trans s3) r3) fun r' s' hq=>?_)
   cases r' with
   | error e=>exact False.elim hq
   | ok fl=>
    cases fl with
    | ret u=>exact I2.after hq
    | next=>exact False.elim hq
    | brk=>exact False.elim hq
    | cont=>exact False.elim hq
 ·exact False.elim q
end PU
namespace PU
open PySem PySem.Spec PyProof.Rows L2 PySem.SeqAt
variable[TW]
def zml(l:List (Str×NameKind)):List Str:=(l.filter fun y=>y.2 == .free).map (·.1)
theorem zlj{cells:List (Str×Addr)}:∀{l:List (Str×NameKind)}{acc:List (Str×Addr)},(∀y∈l,y.2=.free->∃c,cells.lookup y.1=some c)->(clOf cells l acc).map (·.1)=(zml l).reverse++acc.map (·.1)
 | [],acc,_=>rfl
 | (n,k)::r,acc,h=>by
  unfold clOf
  have hr:∀y∈r,y.2=.free->∃c,cells.lookup y.1=some c:=fun y hy=>h y (List.mem_cons_of_mem _ hy)
  by_cases hk:(k == NameKind.free)=true
  ·rw[if_pos hk]
   obtain⟨c,hc⟩:=h (n,k) List.mem_cons_self (eq_of_beq hk)
   have hc:cells.lookup n=some c:=hc
   rw[hc]
   dsimp only
   rw[zlj hr]
   unfold zml
   rw[List.filter_cons,if_pos hk]
   simp
  ·rw[if_neg hk,zlj hr]
   unfold zml
   rw[List.filter_cons,if_neg hk]
theorem zho{cells:List (Str×Addr)}{p:Str×Addr}:∀{l:List (Str×NameKind)}{acc:List (Str×Addr)},p∈clOf cells l acc->cells.lookup p.1=some p.2\/p∈acc
 | [],acc,h=>.inr h
 | (n,k)::r,acc,h=>by
  unfold clOf at h
  split at h
  ·split at h
   ·rename_i c hc
    rcases zho h with z | z
    ·exact .inl z
    ·rcases List.mem_cons.mp z with z | z
     ·subst z;exact .inl hc
     ·exact .inr z
   ·exact zho h
  ·exact zho h
theorem zv6{cells:List (Str×Addr)}(inj:∀x y c,cells.lookup x=some c->cells.lookup y=some c->x=y):∀{l:List (Str×Addr)},(∀p∈l,cells.lookup p.1=some p.2)->(l.map (·.1)).Nodup->(l.map (·.2)).Nodup
 | [],_,_=>List.nodup_nil
 | p::r,h,nd=>by
  rw[List.map_cons,List.nodup_cons] at nd ⊢
  refine⟨fun m=>nd.1 ?_,zv6 inj (fun q hq=>h q (List.mem_cons_of_mem _ hq)) nd.2⟩
  obtain⟨q,hq,e⟩:=List.mem_map.mp m
  have h1:=h p List.mem_cons_self
  have h2:=h q (List.mem_cons_of_mem _ hq)
  have e:q.2=p.2:=e
  rw[e] at h2
  exact List.mem_map.mpr ⟨q,hq,inj _ _ _ h2 h1⟩
def capL(ρ:PSt):List Nat->R (List PV)
 | []=>.ok []
 | i::r=>match ρ[i]? with
  | some (.val p)=>capL ρ r >>= fun ps=>.ok (p::ps)
  | _=>.no
def PRep(X:Cx)(H:Hp)(σ:L2.St):PV->V->Prop
 | .fn L cs,v=>∃f c pm ct xs,v=.ref f/\H f=some (FnAt f (PySem.W.kla_obj "<lambda>" L.qual L.args L.body L.scope (clOf X.env.cells L.scope.names []) pm c ct))/\H c=some (zht c L.qual)/\
   (clOf X.env.cells L.scope.names []).map (·.1)=L.kept/\((clOf X.env.cells L.scope.names []).map (·.2)).Nodup/\xs.length=L.kept.length/\Reps X.K H cs xs/\
   ∀(j:Nat)(y:Str),L.kept[j]?=some y->∃(i:Nat)(v:V),X.N[i]?=some y/\σ[i]?=some (some v)/\xs[j]?=some v/\X.env.scope.names.lookup y=some .cell
 | p,v=>Rep X.K H p v/\noFn p=true
def PReps(X:Cx)(H:Hp)(σ:L2.St):List PV->List V->Prop
 | [],xs=>xs=[]
 | p::ps,xs=>∃x r,xs=x::r/\PRep X H σ p x/\PReps X H σ ps r
theorem PRep.same{X:Cx}{H H':Hp}{σ:L2.St}{p:PV}{v:V}(h:PRep X H σ p v)(s:Same H H'):PRep X H' σ p v:=by
 cases p with
 | fn L cs=>
  obtain⟨f,c,pm,ct,xs,e,h1,h2,h3,h4,h5,h6,h7⟩:=h
  exact⟨f,c,pm,ct,xs,e,s _ _ h1,s _ _ h2,h3,h4,h5,h6.same s,h7⟩
 | _=>exact⟨Rep.same h.1 s,h.2⟩
def tL(C:Cn)(f:PSt->R (List PV)):TA:=fun σ H Q=>∃ρ,View C.X.K H σ ρ/\RQ C H (f ρ) fun ps=>∀vs H',Same H H'->PReps C.X H' σ ps vs->Q vs H'
def EL(C:Cn)(es:List Expr)(f:PSt->R (List PV)):Prop:=PA C.X es (tL C f)
def lamA(L:Lam)(idx:List Nat)(fs:PSt->R (List PV)):PSt->R (List PV):=fun ρ=>capL ρ idx >>= fun cs=>fs ρ >>= fun ps=>.ok (.fn L cs::ps)
def valA(f:PSt->R PV)(fs:PSt->R (List PV)):PSt->R (List PV):=fun ρ=>f ρ >>= fun p=>if noFn p=true then fs ρ >>= fun ps=>.ok (p::ps) else .no
theorem zmy{K:PySem.W.Frag}{H:Hp}{σ:L2.St}{ρ:PSt}(vw:View K H σ ρ):∀{idx:List Nat}{cs:List PV},capL ρ idx=.ok cs->∃xs,Reps K H cs xs/\xs.length=idx.length/\∀(j i:Nat),idx[j]?=some i->∃v,σ[i]?=some (some v)/\xs[j]?=some v
 | [],cs,e=>by cases e;exact⟨[],rfl,rfl,fun j i h=>(by simp at h)⟩
 | i::r,cs,e=>by
  unfold capL at e
  split at e
  ·rename_i p hp
   cases hc:capL ρ r with
   | ok ps=>
    rw[hc] at e
    cases e
    obtain⟨xs,h1,h2,h3⟩:=zmy vw hc
    obtain⟨v,ev,rp⟩:=vw i _ hp
    refine⟨v::xs,⟨v,xs,rfl,rp,h1⟩,by simp[h2],fun j k hj=>?_⟩
    cases j with
    | zero=>simp at hj;subst hj;exact⟨v,ev,rfl⟩
    | succ j=>simpa using h3 j k (by simpa using hj)
   | er x=>rw[hc] at e;cases e
   | no=>rw[hc] at e;cases e
  ·cases e
theorem zpe{ρ:PSt}:∀(idx:List Nat)(x:PX),capL ρ idx≠.er x
 | [],x,e=>by cases e
 | i::r,x,e=>by
  unfold capL at e
  split at e
  ·cases hc:capL ρ r with
   | ok ps=>rw[hc] at e;cases e
   | er y=>exact zpe r y hc
   | no=>rw[hc] at e;cases e
  ·cases e
structure LamC(C:Cn)(L:Lam)(idx:List Nat)(pos:Pos)(c P:Addr):Prop where
 qual:L.qual=C.X.env.qual++"<lambda>"
 tq:TW.qual pos.line pos.col=L.qual
 code:C.X.env.code=.ref c
 hd:PySem.W.CodeHd C.X.base c P
 tab:P∈TW.tabs
 bn:∃bm o,C.X.mg "__builtins__"=some (.ref bm)/\bm≠builtinsNs/\bm≠mainGlobals/\C.X.base.get? bm=some o/\o.cls=.type "module"/\o.dict=some builtinsNs/\o.data=.plain
 df:defaultsOf L.args C.X.env=([],[])
 free:∀y∈L.scope.names,y.2=.free->C.X.env.scope.names.lookup y.1=some .cell
 kept:(zml L.scope.names).reverse=L.kept
 nd:L.kept.Nodup
 ix:idx.map (fun i=>C.X.N[i]?)=L.kept.map some
def tLam(C:Cn)(L:Lam)(idx:List Nat):TE:=fun σ H Q=>∃ρ cs,View C.X.K H σ ρ/\capL ρ idx=.ok cs/\∀v H',Same H H'->PRep C.X H' σ (.fn L cs) v->Q v H'
theorem Za1{C:Cn}{L:Lam}{idx:List Nat}{pos:Pos}{c P:Addr}(h:LamC C L idx pos c P):PE C.X (.Lambda L.args L.body L.scope pos) (tLam C L idx):=by
 intro pins s σ H Q I ⟨ρ,cs,vw,ec,q⟩
 obtain⟨ps,eP,tk⟩:=vw.tb P h.tab
 have has:∀y∈L.scope.names,y.2=.free->∃c,C.X.env.cells.lookup y.1=some c:=fun y hy hk=>I.ok.has y.1 (.inl (h.free y hy hk))
 refine Zbm (c:=c) (P:=P) I eP tk h.code h.hd h.bn h.df (h.tq.trans h.qual) has fun f c' pm ct H' s' I' sm hf hc=>?_
 rw[← h.qual] at hf hc
 obtain⟨xs,x1,x2,x3⟩:=zmy (vw.same sm) ec
 have hm:(clOf C.X.env.cells L.scope.names []).map (·.1)=L.kept:=by rw[zlj has,List.map_nil,List.append_nil];exact h.kept
 have hlen:idx.length=L.kept.length:=by have:=congrArg List.length h.ix;simpa using this
 refine⟨.ref f,H',I',rfl,q _ H' sm ⟨f,c',pm,ct,xs,rfl,hf,hc,hm,zv6 I.ok.inj (fun p hp=>?_) (by rw[hm];exact h.nd),by rw[x2];exact hlen,x1,fun j y hy=>?_⟩⟩
 ·rcases zho hp with z | z
  ·exact z
  ·exact nomatch z
 ·have hj:j<idx.length:=by rw[hlen];exact(List.getElem?_eq_some_iff.mp hy).1
  have e1:idx[j]?=some idx[j]:=List.getElem?_eq_getElem hj
  have e2:=congrArg (fun l=>l[j]?) h.ix
  simp only[List.getElem?_map,e1,hy,Option.map_some] at e2
  obtain⟨v,ev,xv⟩:=x3 j _ e1
  refine⟨idx[j],v,by simpa using e2,ev,xv,?_⟩
  have hmem:=List.mem_of_getElem? hy
  rw[← h.kept,List.mem_reverse] at hmem
  unfold zml at hmem
  obtain⟨z,hz,ez⟩:=List.mem_map.mp hmem
  obtain⟨hz1,hz2⟩:=List.mem_filter.mp hz
  have:=h.free z hz1 (eq_of_beq hz2)
  rw[ez] at this
  exact this
section
variable{C : Cn}{e : Expr}{es : List Expr}{f : PSt → R PV}{fs : PSt → R (List PV)}
theorem Zcn:EL C [] nilA:=fun pos pins s σ H Q I ⟨_,_,q⟩=>zft pos pins s σ H Q I (q [] H (Same.refl H) rfl)
theorem Zcm(ha:EV C e f)(hr:EL C es fs)(hs:starEach (e::es) C.X.env=(false,eval e C.X.env)::starEach es C.X.env:=by exact zck rfl):EL C (e::es) (valA f fs):=by
 intro pos pins s σ H Q I ⟨ρ,vw,q⟩
 refine zcj ha hr hs pos pins s σ H Q I ⟨ρ,vw,q.bind.imp fun p _ k v H1 s1 r1=>?_⟩
 split at k
 ·rename_i hn
  refine⟨ρ,vw.same s1,(k.bind.same s1).imp fun ps _ k2 vs H2 s2 r2=>k2 (v::vs) H2 (s1.trans s2) ⟨v,vs,rfl,?_,r2⟩⟩
  cases p with
  | fn L cs=>cases hn
  | _=>exact⟨r1.same s2,hn⟩
 ·exact False.elim k
theorem zwx{L:Lam}{idx:List Nat}{lp:Pos}{c P:Addr}(h:LamC C L idx lp c P)(hr:EL C es fs)(hs:starEach (.Lambda L.args L.body L.scope lp::es) C.X.env=(false,eval (.Lambda L.args L.body L.scope lp) C.X.env)::starEach es C.X.env:=by exact zck rfl) :
  EL C (.Lambda L.args L.body L.scope lp::es) (lamA L idx fs):=by
 intro pos pins s σ H Q I ⟨ρ,vw,q⟩
 unfold lamA at q
 cases hc:capL ρ idx with
 | ok cs=>
  rw[hc] at q
  have q:RQ C H (fs ρ >>= fun ps=>R.ok (.fn L cs::ps)) _:=q
  refine zcj (Za1 h) hr hs pos pins s σ H Q I ⟨ρ,cs,vw,hc,fun v H1 s1 r1=>⟨ρ,vw.same s1,(q.bind.same s1).imp fun ps _ k2 vs H2 s2 r2=>k2 (v::vs) H2 (s1.trans s2) ⟨v,vs,rfl,r1.same s2,r2⟩⟩⟩
 | er x=>
  exact absurd hc (zpe idx x)
 | no=>rw[hc] at q;exact False.elim q
end
def zhq(X:Cx)(h:Heap)(ys:List Str):List (Addr×Obj):=ys.filterMap fun y=>(X.env.cells.lookup y).map fun c=>(c,(h.get? c).getD default)
theorem zex{X:Cx}{h:Heap}{c:Addr}{o:Obj}:∀{ys:List Str},(zhq X h ys).lookup c=some o->o=(h.get? c).getD default/\∃y,X.env.cells.lookup y=some c
 | [],e=>by cases e
 | y::r,e=>by
  unfold zhq at e
  rw[List.filterMap_cons] at e
  cases hy:X.env.cells.lookup y with
  | none=>rw[hy] at e;exact zex (ys:=r) e
  | some d=>
   rw[hy] at e
   simp only[Option.map_some] at e
   rw[List.lookup_cons] at e
   cases hb:(c == d) with
   | true=>rw[hb] at e;cases e;have:=eq_of_beq hb;subst this;exact⟨rfl,y,hy⟩
   | false=>rw[hb] at e;exact zex (ys:=r) e
theorem zlk{X:Cx}{h:Heap}{c:Addr}{y:Str}(hy:X.env.cells.lookup y=some c):∀{ys:List Str},y∈ys->(zhq X h ys).lookup c=some ((h.get? c).getD default)
 | [],m=>nomatch m
 | z::r,m=>by
  unfold zhq
  rw[List.filterMap_cons]
  cases hz:X.env.cells.lookup z with
  | none=>
   rcases List.mem_cons.mp m with e | m
   ·subst e;rw[hy] at hz;cases hz
   ·exact zlk hy m
  | some d=>
   simp only[Option.map_some]
   rw[List.lookup_cons]
   cases hb:(c == d) with
   | true=>have:=eq_of_beq hb;subst this;rfl
   | false=>
    rcases List.mem_cons.mp m with e | m
    ·subst e;rw[hy] at hz;cases hz;simp at hb
    ·exact zlk hy m
section
variable{X : Cx}{pins : List (Addr×Obj)}{σ : L2.St}{H : Hp}{s : Shared}
theorem zw0(I:L2.Inv X pins σ H s)(hfn:∀y,X.fn y=true)(ys:List Str):Cls X H s (zhq X s.heap ys):=by
 have at_:∀c o,(zhq X s.heap ys).lookup c=some o->s.heap.get? c=some o:=fun c o e=>by
  obtain⟨e1,y,e2⟩:=zex e
  obtain⟨v,o',g,_⟩:=I.cell y c e2
  rw[e1,g]
  rfl
 have big:∀c o,(zhq X s.heap ys).lookup c=some o->X.s₀.heap.objs.size<=c:=fun c o e=>by
  obtain⟨_,y,e2⟩:=zex e
  exact I.ok.cab y c (hfn y) e2
 refine⟨at_,fun c o e=>?_,fun c o e=>?_,fun c o e hs=>?_⟩
 ·obtain⟨_,y,e2⟩:=zex e
  exact I.freeC y c e2
 ·exact Heap.get?_none_of_le (Nat.le_trans I.ok.bsz (big c o e))
 ·obtain⟨_,y,e2⟩:=zex e
  rcases List.mem_cons.mp (I.stkSub c hs) with z | z
  ·obtain⟨v,o',g,d⟩:=I.cell y c e2
   obtain⟨m,⟨o2,es,ep,g2,d2,_⟩,_⟩:=I.loc
   rw[← z,g] at g2
   cases g2
   rw[d] at d2
   cases d2
  ·obtain⟨_,o2,g2,_⟩:=I.ok.funs.mem z
   exact absurd (Heap.lt_size g2) (Nat.not_lt_of_le (big c o e))
theorem zum{p:PV}{v:V}(I:L2.Inv X pins σ H s)(hfn:∀y,X.fn y=true)(h:PRep X H σ p v):Rep X.K (trC H (zhq X s.heap (X.env.scope.names.map (·.1)))) p v:=by
 have hc:=zw0 I hfn (X.env.scope.names.map (·.1))
 have ext:Same H (trC H (zhq X s.heap (X.env.scope.names.map (·.1)))):=.of fun b o e=>by rw[za4 (hc.out e)];exact e
 cases p with
 | fn L cs=>
  obtain⟨f,c,pm,ct,xs,e,h1,h2,h3,h4,h5,h6,h7⟩:=h
  refine⟨f,c,_,pm,ct,xs,e,ext _ _ h1,ext _ _ h2,h3,h4,?_,h6.same ext⟩
  have gen:∀(cl:List (Str×Addr))(zs:List V),zs.length=cl.length->(∀p∈cl,X.env.cells.lookup p.1=some p.2)->(∀(j:Nat)(y:Str),(cl.map (·.1))[j]?=some y->∃(i:Nat)(v:V),X.N[i]?=some y/\σ[i]?=some (some v)/\zs[j]?=some v/\X.env.scope.names.lookup y=some .cell)->
    zel (trC H (zhq X s.heap (X.env.scope.names.map (·.1)))) cl zs:=by
   intro cl
   induction cl with
   | nil=>intro zs hl _ _;exact List.eq_nil_of_length_eq_zero hl
   | cons p r ih=>
    intro zs hl hm hj
    cases zs with
    | nil=>cases hl
    | cons z zs=>
     obtain⟨i,v,n1,n2,n3,n4⟩:=hj 0 p.1 (by simp)
     simp at n3
     subst n3
     obtain⟨m,hn,hloc⟩:=I.loc
     obtain⟨u,ru,lk⟩:=hloc i p.1 z n1 n2 (.inr (.inl n4))
     have hp:=hm p List.mem_cons_self
     rcases lk with⟨k1,_⟩|⟨_,c',c1,o,c2,c3⟩
     ·have k1:X.env.scope.names.lookup p.1=some .local:=k1
      rw[n4] at k1;cases k1
     ·rw[hp] at c1
      cases c1
      refine⟨z,zs,o,u,rfl,zi1 ?_,c3,ru,ih zs (by simpa using hl) (fun q hq=>hm q (List.mem_cons_of_mem _ hq)) fun j y hy=>?_⟩
      ·rw[zlk hp (List.mem_map.mpr ⟨_,PySem.mem_of_lookup n4,rfl⟩),c2];rfl
      ·obtain⟨i,v,a1,a2,a3,a4⟩:=hj (j+1) y (by simpa using hy)
       exact⟨i,v,a1,a2,by simpa using a3,a4⟩
  refine gen _ xs (by rw[h5,← h3,List.length_map]) (fun p hp=>?_) fun j y hy=>h7 j y (by rw[← h3];exact hy)
  rcases zho hp with z | z
  ·exact z
  ·exact nomatch z
 | _=>exact Rep.same h.1 ext
theorem zkh(I:L2.Inv X pins σ H s)(hfn:∀y,X.fn y=true):∀{ps:List PV}{vs:List V},PReps X H σ ps vs->Reps X.K (trC H (zhq X s.heap (X.env.scope.names.map (·.1)))) ps vs
 | [],_,h=>h
 | p::ps,_,⟨x,r,e,h1,h2⟩=>⟨x,r,e,zum I hfn h1,zkh I hfn h2⟩
end
def zpf(fs:PSt->R (List PV))(F:List PV->Option PV):PSt->R PV:=fun ρ=>fs ρ >>= fun qs=>R.ofO (F qs) >>= fun z=>if noFn z=true then .ok z else .no
theorem zco.pl{K:PySem.W.Frag}{H H':Hp}{a:Addr}{z:PV}(k:∀b u,H b=some u->(∀q,u≠.frz q (.own 0))->H' b=some u)(n:noFn z=true)(h:zco K H a z):zco K H' a z:=by
 have k2:∀b u,H b=some u->isPl u=true->H' b=some u:=fun b u e h=>k b u e (zow h)
 cases z with
 | lst ps=>obtain⟨xs,w,r⟩:=h;exact⟨xs,k _ _ w (fun _ h=>by cases h),Reps.pl k2 ps n r⟩
 | dct ks ps=>obtain⟨xs,w,e,r⟩:=h;exact⟨xs,k _ _ w (fun _ h=>by cases h),e,Reps.pl k2 ps n r⟩
 | dtt ks ps=>obtain⟨xs,w,e,r⟩:=h;exact⟨xs,k _ _ w (fun _ h=>by cases h),e,Reps.pl k2 ps n r⟩
 | _=>exact h
theorem zvo{C:Cn}{e:Expr}{es:List Expr}{fs:PSt->R (List PV)}{x:Str}{k:Nat}{F:List PV->Option PV}{p pos:Pos}(G:PFN C.X.prog C.X.w C.X.K C.X.mg C.X.base k x F)(hr:Room k C.X.A)(hg:Gl C.X x)(ha:EL C (e::es) fs)(hfn:∀y,C.X.fn y=true)
  (hdb:(x == ("__debug__":Str))=false:=by decide) (he:starEach (e::es) C.X.env=(false,eval e C.X.env)::starEach es C.X.env:=by exact zck rfl) (hpl:(backTo pos (starEach es C.X.env)).any (·.1)=false:=by exact zio rfl) :
  EN C (.Call (.Name x p) (e::es) [] pos) (zpf fs F):=by
 obtain⟨f,fd,ps,a,b,c,d,l⟩:=G.ex
 intro pins s σ H Q I ⟨ρ,vw,q⟩
 refine wpAny_Call_Name_kw (znf I hg b ?_ hdb)
 refine PySem.W.callWith_K (h₀:=C.X.base) I.ok.mod.kin c (thn (ha pos pins s σ H (fun vs H1=>∃qs z,PReps C.X H1 σ qs vs/\Same H H1/\F qs=some z/\noFn z=true/\∀a H',Same H H'->H a=none->zco C.X.K H' a z->Q (.ref a) H') I
  ⟨ρ,vw,q.bind.imp fun qs _ k1 vs H1 s1 r1=>?_⟩) fun us s1 ⟨vs,H1,I1,r,qs,z,r1,sm,ez,nz,k2⟩=>⟨I1.kIn,?_⟩) he hpl
 ·obtain⟨z,ez,k3⟩:=k1.bind.ofO
  split at k3
  ·rename_i hn
   exact⟨qs,z,r1,s1,ez,hn,fun v H' s' n' r'=>k3 v H' s' n' r'⟩
  ·exact False.elim k3
 ·have hc:=zw0 I1 hfn (C.X.env.scope.names.map (·.1))
  have rr:=zkh I1 hfn r1
  have hl:=l qs z ez
  have hv:vs.length=ps.length:=by rw[← rr.length];exact hl
  have ext:Same H1 (trC H1 (zhq C.X s1.heap (C.X.env.scope.names.map (·.1)))):=.of fun b o e=>by rw[za4 (hc.out e)];exact e
  have hu:(us++[]).length=ps.length:=by rw[List.append_nil,← r.length];exact hv
  have hb:=d s1 us I1.kIn hu
  rw[List.append_nil] at hb
  refine wpAny_call (codeAny_mono (a.run C.X.A C.X.stack s1 _ ⟨us,[]⟩ us vs (fun v H'=>∃a,v=.ref a/\Same (trC H1 (zhq C.X s1.heap (C.X.env.scope.names.map (·.1)))) H'/\trC H1 (zhq C.X s1.heap (C.X.env.scope.names.map (·.1))) a=none/\zco C.X.K H' a z) E0 hr (env0C I1 hc) hb r
   ⟨hv,ext.tabs (sm.tabs vw.tb),qs,z,rr,ez,fun a H' s' n' r'=>⟨a,rfl,s',n',r'⟩⟩) fun r' s' hq=>?_)
  cases r' with
  | error e=>exact False.elim hq
  | ok fl=>
   cases fl with
   | ret u=>
    obtain⟨v,H',os,bare,un,hok,rv,a,ea,sm2,na,nw⟩:=hq
    subst ea
    refine Zc0 I1 hc ⟨.ref a,H',os,bare,un,hok,rv,fun un=>k2 a _ (sm.trans (Zea hc un sm2)) (sm.free (ext.free na)) (zco.pl (fun b u e h=>?_) nz nw)⟩
    rw[zbd (zoj un e h)]
    exact e
   | next=>exact False.elim hq
   | brk=>exact False.elim hq
   | cont=>exact False.elim hq
end PU
section
namespace L2
open PySem PySem.Spec PyProof.Rows
theorem zrv{P:Program}{w:World}{K:PySem.W.Frag}{mg mb:Str->Option Value}{CX:CXT}{k:Nat}{fa a:Addr}{fd:FuncData}{x:Str}{sp:Sp}{s₁:Shared}{vs:List Value}{ns:List Int}
  (KX:K.In s₁.heap) (hns:s₁.heap.Ns mainGlobals mg) (hb:s₁.heap.Ns builtinsNs mb) (hbb:∀x:Str,x≠"__name__"->mb x=bootBuiltins x) (hlim:s₁.heap.NoLimit) (hg:s₁.gens=#[]) (ts:List Addr) (hts:∀P∈ts,s₁.heap.get? P=some (PySem.W.tabObj #[])) (htc:∀P∈ts,∃c,PySem.W.CodeHd s₁.heap c P) (htk:∀P∈ts,K.lookup P=none)
  (hbn:∃bm o,mg "__builtins__"=some (.ref bm)/\bm≠builtinsNs/\bm≠mainGlobals/\s₁.heap.get? bm=some o/\o.cls=.type "module"/\o.dict=some builtinsNs/\o.data=.plain)
  (ha:s₁.heap.get? a=some { cls:=.type "list",data:=.seq vs.toArray }) (hi:IntsAre vs ns) (hl:ns.length<=sizeLine) (hr:Room k callerA)
  (F:∀base:Heap,K.In base->base.Ns mainGlobals mg->(∃bm o,mg "__builtins__"=some (.ref bm)/\bm≠builtinsNs/\bm≠mainGlobals/\base.get? bm=some o/\o.cls=.type "module"/\o.dict=some builtinsNs/\o.data=.plain)->FnOk P w K mg base CX k fa fd [x] sp) (hbind:∀(s:Shared) (u:Value),BindsTo s fd ⟨[u],[]⟩ [(x,u)])
  (hsp:∀H:Hp,(∀P∈ts,H P=some (.tbl #[]))->PU.SqF K H a (ns.map V.int)->sp [.ref a] H (fun v _=>v=.bl true) fun _ _ _=>False)
  (hCX:∀H e s',CX [] H s₁ (fun _ _ _=>False) e s'->False) :
  codeAny (model P w) callerA (.call (.ref fa) ⟨[.ref a],[]⟩) (fun r s'=>r=.ok (.ret (.bool true))/\OldK s₁.heap s'.heap/\s'.os=s₁.os/\AllBare s'.gens) s₁:=by
 have rv:=zlq hi
 have lenV:=hi.length
 have core:∀H:Hp,(∀b,H b=none\/(∃ob xs,H b=some (.frz ob (.lst xs)))\/(b∈ts/\H b=some (.tbl #[])))->PU.SqF K H a (ns.map V.int)->HOk P w H s₁.heap->(∀b,H b≠none->b=a\/b∈ts)->(∀P∈ts,H P=some (.tbl #[]))->(H a≠none->K.lookup a=none)->
   codeAny (model P w) callerA (.call (.ref fa) ⟨[.ref a],[]⟩) (fun r s'=>r=.ok (.ret (.bool true))/\OldK s₁.heap s'.heap/\s'.os=s₁.os/\AllBare s'.gens) s₁:=by
  intro H hO hS hok hA hT hK
  have base_of:∀{b:Addr}{o:Obj},s₁.heap.get? b=some o->H b=none->(hidT s₁.heap H).get? b=some o:=fun e n=>zvd e n
  have noA:∀{b:Addr}{o:Obj}{es:Array DictEntry}{ep:Nat},s₁.heap.get? b=some o->o.data=.dict es ep->H b=none:=fun {b o es ep} e d=>by
   cases q:H b with
   | none=>rfl
   | some u=>
    rcases hA b (by rw[q];simp) with e' | e'
    ·subst e'
     rw[ha] at e;cases e
     have d':Data.seq vs.toArray _=Data.dict es ep:=d
     cases d'
    ·rw[hts b e'] at e;cases e
     cases d
  have nsK:∀{b:Addr}{m:Str->Option Value},s₁.heap.Ns b m->(hidT s₁.heap H).Ns b m:=fun {b m} ⟨o,es,ep,e,d,r⟩=>⟨o,es,ep,base_of e (noA e d),d,r⟩
  have hKb:K.In (hidT s₁.heap H):=fun b o e=>base_of (KX b o e) (by
   cases q:H b with
   | none=>rfl
   | some u=>
    rcases hA b (by rw[q];simp) with e' | e'
    ·subst e'
     rw[hK (by rw[q];simp)] at e;cases e
    ·rw[htk b e'] at e;cases e)
  obtain⟨bm,ob,b1,b2,b3,b4,b5,b6,b7⟩:=hbn
  have hbm:H bm=none:=by
   cases q:H bm with
   | none=>rfl
   | some u=>
    rcases hA bm (by rw[q];simp) with e' | e'
    ·rw[e',ha] at b4;cases b4;cases b7
    ·rw[hts bm e'] at b4;cases b4;cases b5
  have hM:Mod K mg (hidT s₁.heap H):=⟨hKb,nsK hns,⟨mb,nsK hb,hbb⟩,let ⟨mc,h1,h2⟩:=hlim;⟨mc,nsK h1,h2⟩⟩
  have e0:Env0 P w K mg (hidT s₁.heap H) callerA [] s₁ H:=⟨rfl,hM,fun b o e=>zx6 e,Nat.le_of_eq (zr8 _ _),trivial,fun b hb=>absurd (show b∈([]:List Addr) from hb) (by simp),hok,.of_eq hg⟩
  refine codeAny_mono ((F _ hKb (nsK hns) ⟨bm,ob,b1,b2,b3,base_of b4 hbm,b5,b6,b7⟩).run callerA [] s₁ H ⟨[.ref a],[]⟩ [.ref a] [.ref a] _ _ hr e0 (hbind s₁ (.ref a)) (.cons rfl .nil) (hsp H hT hS)) fun r s' h=>?_
  cases r with
  | error e=>exact(hCX H e s' h).elim
  | ok fl=>
   cases fl with
   | next=>exact False.elim h
   | brk=>exact False.elim h
   | cont=>exact False.elim h
   | ret u=>
    obtain⟨v,H',os,bare,un,hok',r',q⟩:=h
    have q':v=.bl true:=q
    subst q'
    obtain rfl:u=Value.bool true:=r'
    refine⟨rfl,⟨fun b o e=>?_,fun b o e=>un.there b o e (by simp)⟩,os,bare⟩
    cases q:H b with
    | none=>exact .inl (un.keep b o e q (by intro z;exact absurd (show b∈([]:List Addr) from z) (by simp)) (by simp))
    | some u=>
     rcases hO b with z | ⟨ob,xs,z⟩|⟨hb,z⟩
     ·rw[q] at z;cases z
     ·have z2:=un.frzs b ob _ z
      obtain⟨e1,_⟩:=hok b _ z
      obtain⟨e2,_⟩:=hok' b _ z2
      rw[e] at e1;cases e1
      exact .inl e2
     ·obtain⟨more,z2⟩:=un.tbls b _ z
      have e2:s'.heap.get? b=some (PySem.W.tabObj (#[]++more)):=hok' b _ z2
      have e1:=hts b hb
      obtain⟨c,hc⟩:=htc b hb
      have tc:=(hc.tab e1).isCodeTable
      rw[e] at e1;cases e1
      exact .inr (.inl ⟨tc,rfl,#[],more,rfl,e2⟩)
 have nta:∀P∈ts,P≠a:=fun P hP z=>by rw[z] at hP;have:=hts a hP;rw[ha] at this;cases this
 cases hk:K.lookup a with
 | some o=>
  have e:=KX a o hk
  rw[ha] at e
  cases e
  refine core (fun b=>if b∈ts then some (.tbl #[]) else none) (fun b=>?_) (.inr ⟨vs,_,hk,by rw[List.length_map];exact hl,rv⟩) (fun b u z=>?_) (fun b z=>?_) (fun P hP=>if_pos hP) fun z=>absurd (if_neg fun h=>nta a h rfl) z
  ·by_cases hb:b∈ts
   ·exact .inr (.inr ⟨hb,if_pos hb⟩)
   ·exact .inl (if_neg hb)
  ·by_cases hb:b∈ts
   ·have z':=(if_pos hb).symm.trans z
    cases z'
    exact hts b hb
   ·have z':=(if_neg hb).symm.trans z
    cases z'
  ·by_cases hb:b∈ts
   ·exact .inr hb
   ·exact absurd (if_neg hb) z
 | none=>
  refine core (fun b=>if b=a then some (.frz { cls:=.type "list",data:=.seq vs.toArray } (.lst (ns.map V.int))) else if b∈ts then some (.tbl #[]) else none) (fun b=>?_) (.inl ⟨{ cls:=.type "list",data:=.seq vs.toArray },if_pos rfl⟩) (fun b u z=>?_) (fun b z=>?_) (fun P hP=>by
   show (if P=a then _ else if P∈ts then _ else _)=_
   rw[if_neg (nta P hP),if_pos hP]) fun _=>hk
  ·by_cases hb:b=a
   ·exact .inr (.inl ⟨_,_,if_pos hb⟩)
   ·by_cases hb2:b∈ts
    ·exact .inr (.inr ⟨hb2,(if_neg hb).trans (if_pos hb2)⟩)
    ·exact .inl ((if_neg hb).trans (if_neg hb2))
  ·by_cases hb:b=a
   ·have z':=(if_pos hb).symm.trans z
    cases z'
    subst hb
    exact⟨ha,by rw[List.length_map];exact hl,vs,_,rv,ha⟩
   ·by_cases hb2:b∈ts
    ·have z':=((if_neg hb).trans (if_pos hb2)).symm.trans z
     cases z'
     exact hts b hb2
    ·have z':=((if_neg hb).trans (if_neg hb2)).symm.trans z
     cases z'
  ·by_cases hb:b=a
   ·exact .inl hb
   ·by_cases hb2:b∈ts
    ·exact .inr hb2
    ·exact absurd ((if_neg hb).trans (if_neg hb2)) z
theorem walk_ofT{l:PySem.W.OpenLaw}{n k:Nat}{q:Program}{loose:List Str}{XP:(Str->Option Value)->Heap->Prop}{YP:World->Heap->Prop}{d:DefRec}{K:Params->PySem.W.Frag}{CX:World->CXT}{sp:World->Sp}{x:Str}
  (hn:l.most=some n) (hn2:n<=sizeLine) (hdf:d.params.defaults=[]) (hr:Room k callerA) (ts:List Addr)
  (hY:∀(w:World)(h:Heap),YP w h->(K w.params).In h) (hT:∀(w:World)(h:Heap),YP w h->∀P∈ts,h.get? P=some (PySem.W.tabObj #[])) (hC:∀(w:World),∀P∈ts,∃c,PySem.W.codeHdIn (K w.params) c P=true) (hL:∀(w:World),∀P∈ts,(K w.params).lookup P=none)
  (F:∀(w:World)(mg:Str->Option Value)(fa:Addr)(h:Heap),(K w.params).In h->h.Ns mainGlobals mg->mg d.name=some (.ref fa)->
   ∃fd:FuncData,(∀(s:Shared)(u:Value),BindsTo s fd ⟨[u],[]⟩ [(x,u)])/\
    ∀base:Heap,(K w.params).In base->base.Ns mainGlobals mg->(∃bm o,mg "__builtins__"=some (.ref bm)/\bm≠builtinsNs/\bm≠mainGlobals/\base.get? bm=some o/\o.cls=.type "module"/\o.dict=some builtinsNs/\o.data=.plain)->
     FnOk l.prog w (K w.params) mg base (CX w) k fa fd [x] (sp w))
  (hsp:∀(w:World)(H:Hp)(a:Addr)(ns:List Int),ns.length<=n->(∀P∈ts,H P=some (.tbl #[]))->PU.SqF (K w.params) H a (ns.map V.int)->sp w [.ref a] H (fun v _=>v=.bl true) fun _ _ _=>False)
  (hCX:∀(w:World)(H:Hp)(s:Shared)(e:Value)(s':Shared),CX w [] H s (fun _ _ _=>False) e s'->False) :
  PySem.W.WalkO q loose XP YP l.row.toRowW d [] (fun f vs=>PySem.call f vs):=by
 refine Att.attach_call hn hdf fun w s₀ s₁ mg mb fa o pm cd doc a vs ns G Y ho hd hcd hmg hobj hints hlen hg=>?_
 have KX:=hY w _ Y
 obtain⟨fd,hb,hF⟩:=F w mg fa _ KX G.T.g hmg
 obtain⟨bm,ob,b1,b2,b3,b4,b5,b6⟩:=G.T.bmain
 have hbG:bm≠mainGlobals:=fun q=>by
  obtain⟨o,es,ep,e,hd,_⟩:=G.T.g
  rw[q,e] at b3;cases b3;rw[hd] at b6;cases b6
 exact zrv KX G.T.g G.T.b G.T.builtins G.T.nolimit hg ts (hT w _ Y) (fun P hP=>let ⟨c,hc⟩:=hC w P hP;⟨c,PySem.W.codeHd_of_K KX hc⟩) (hL w) ⟨bm,ob,b1,b2,hbG,b3,b4,b5,b6⟩ hobj hints (Nat.le_trans hlen hn2) hr hF hb (fun H hT hS=>hsp w H a ns hlen hT hS) fun H e s'=>hCX w H s₁ e s'
end L2
namespace PU
theorem tabs0[TW]{H:L2.Hp}{ts:List PySem.Addr}(e:TW.tabs=ts)(h:∀P∈ts,H P=some (.tbl #[])):Tabs H:=fun P hP=>⟨#[],h P (e▸hP),trivial,fun pos v h=>by cases h⟩
end PU
end
namespace PU
section
variable{g g' : PSt → R Fl}{t : PSt → R Bool}{f fk fv : PSt → R PV}{i : Nat}
theorem zkk(ρ:PSt)(p:PV):zcq ρ≠.ok (.ret p):=fun h=>by cases h
theorem zth(ρ:PSt)(p:PV):brkF ρ≠.ok (.ret p):=fun h=>by cases h
theorem zfq(h1:∀ρ p,g ρ≠.ok (.ret p))(h2:∀ρ p,g' ρ≠.ok (.ret p))(ρ:PSt)(p:PV):seqF g g' ρ≠.ok (.ret p):=by
 unfold seqF
 intro e
 cases h:g ρ with
 | ok fl=>
  rw[h,R.ok_bind] at e
  cases fl with
  | next ρ2=>exact h2 ρ2 p e
  | brk ρ2=>cases e
  | cont ρ2=>cases e
  | ret q=>exact h1 ρ q h
 | er x=>rw[h] at e;cases e
 | no=>rw[h] at e;cases e
theorem zox(h1:∀ρ p,g ρ≠.ok (.ret p))(h2:∀ρ p,g' ρ≠.ok (.ret p))(ρ:PSt)(p:PV):ifF t g g' ρ≠.ok (.ret p):=by
 unfold ifF
 intro e
 cases h:t ρ with
 | ok b=>
  rw[h,R.ok_bind] at e
  cases b with
  | true=>rw[if_pos rfl] at e;exact h1 ρ p e
  | false=>rw[if_neg Bool.false_ne_true] at e;exact h2 ρ p e
 | er x=>rw[h] at e;cases e
 | no=>rw[h] at e;cases e
theorem ztt{n:Nat}(hg:∀ρ p,g ρ≠.ok (.ret p))(ρ:PSt)(p:PV):whS n t g ρ≠.ok (.ret p):=by
 unfold whS
 induction n generalizing ρ with
 | zero=>intro e;cases e
 | succ n ih=>
  intro e
  unfold whF at e
  cases h:t ρ with
  | ok b=>
   rw[h,R.ok_bind] at e
   cases b with
   | true=>
    rw[if_pos rfl] at e
    cases h2:g ρ with
    | ok fl=>
     rw[h2,R.ok_bind] at e
     cases fl with
     | next ρ2=>exact ih ρ2 e
     | cont ρ2=>exact ih ρ2 e
     | brk ρ2=>cases e
     | ret q=>exact hg ρ q h2
    | er x=>rw[h2] at e;cases e
    | no=>rw[h2] at e;cases e
   | false=>rw[if_neg Bool.false_ne_true] at e;cases e
  | er x=>rw[h] at e;cases e
  | no=>rw[h] at e;cases e
theorem ztj(i:Nat)(f:PSt->R PV)(ρ:PSt)(p:PV):augF i f ρ≠.ok (.ret p):=by
 unfold augF
 intro h
 split at h
 ·cases hf:f ρ with
  | ok q=>
   rw[hf,R.ok_bind] at h
   split at h <;> cases h
  | er x=>rw[hf] at h;cases h
  | no=>rw[hf] at h;cases h
 ·cases h
theorem zpv(i:Nat)(fk fv:PSt->R PV)(ρ:PSt)(p:PV):zj1 i fk fv ρ≠.ok (.ret p):=by
 unfold zj1
 intro h
 split at h
 ·cases hf:fv ρ with
  | ok q=>
   rw[hf,R.ok_bind] at h
   cases hk:fk ρ with
   | ok kp=>
    rw[hk,R.ok_bind] at h
    cases ht:toTK kp with
    | some k=>
     rw[ht,R.ofO_some,R.ok_bind] at h
     split at h <;> cases h
    | none=>rw[ht] at h;cases h
   | er x=>rw[hk] at h;cases h
   | no=>rw[hk] at h;cases h
  | er x=>rw[hf] at h;cases h
  | no=>rw[hf] at h;cases h
 ·cases h
end
end PU
namespace PU
open PySem PySem.Spec PyProof.Rows L2 PySem.SeqAt
def gtL:List Int->List Int->Bool
 | x::xs,y::ys=>if x=y then gtL xs ys else decide (y<x)
 | _,_=>false
def gGtT:PV->PV->Option PV
 | .tup [.int i,.lst ps],.tup [.int j,.lst qs]=>
  (match zh5 ps,zh5 qs with
  | some xs,some ys=>if i=j/\¬ xs.length=ys.length then none else some (.bl (if i=j then gtL xs ys else decide (j<i)))
  | _,_=>none)
 | _,_=>none
section
open AutoSeq1 (wpAny_loadPart')
open MeetsSeq MeetsSeq2 MeetsSeq3
def zez(A:Around)(s:Shared)(y x:Value)(b:Bool):Prop:=
 ∀(prog:Program)(w:World)(E:Value->Shared->Prop)(Q:Value->Shared->Prop),Q (.bool b) s->wpAny (model prog w) A (richCompare .Gt y x) Q E s
def gtR(e l:Nat->Bool):List Nat->Bool
 | []=>false
 | i::r=>if e i=true then gtR e l r else l i
theorem zr9(l b:Addr)(items items2:Array Value)(n n2:Nat)(dd dd2:Option Addr)(sl sl2:Array (Option Value))(hsz:items.size=items2.size)(e lt:Nat->Bool)(k:Nat) :
  ∀i:Nat,items.size-i=k->Meets (Builtin.«list.__eq__.loop» ⟨[.ref l,.ref b,rawInt i,rawInt 4],[]⟩)
   (fun A R s=>s.heap.get? l=some { cls:=.type "list",dict:=dd,data:=.seq items n,slots:=sl }/\s.heap.get? b=some { cls:=.type "list",dict:=dd2,data:=.seq items2 n2,slots:=sl2 }/\
    (∀j (h1:j<items.size) (h2:j<items2.size),EqAt A.in1 s items[j] items2[j] (e j)/\zez A.in1 s items[j] items2[j] (lt j))/\
    R (.ok (.ret (.bool (gtR e lt ((List.range items.size).drop i))))) s):=by
 induction k with
 | zero=>
  intro i hk prog w A R s h
  obtain⟨hp,g,d,tk,os⟩:=s;obtain⟨hl,hb,he,h⟩:=h
  wp_walk using wpAny_loadPart' hl,wpAny_loadPart' hb
  have hi1:items[((i:Nat):Int).toNat]?=none:=by simp;omega
  have hi2:items2[((i:Nat):Int).toNat]?=none:=by simp;omega
  have hd:(List.range items.size).drop i=[]:=by simp;omega
  rw[hd] at h
  rw[hi1,hi2]
  wp_walk using wpAny_loadPart' hl,wpAny_loadPart' hb
  show R (.ok (.ret (.bool (decide (items.size > items2.size))))) _
  rw[hsz]
  simpa [gtR] using h
 | succ k ih=>
  intro i hk prog w A R s h
  obtain⟨hp,g,d,tk,os⟩:=s;obtain⟨hl,hb,he,h⟩:=h
  wp_walk using wpAny_loadPart' hl,wpAny_loadPart' hb
  have hlt:i<items.size:=by omega
  have hlt2:i<items2.size:=by omega
  have hi1:items[((i:Nat):Int).toNat]?=some items[i]:=by simp[hlt]
  have hi2:items2[((i:Nat):Int).toNat]?=some items2[i]:=by simp[hlt2]
  have hd:(List.range items.size).drop i=i::(List.range items.size).drop (i+1):=by simp[List.drop_eq_getElem_cons,hlt]
  have hc:((i:Int)+1)=((i+1:Nat):Int):=by push_cast;rfl
  rw[hd] at h
  rw[hi1,hi2]
  refine wpAny_bind ((he i hlt hlt2).1 prog w _ _ ?_)
  cases hb':e i with
  | true=>
   simp only[gtR,hb',if_true] at h
   wp_walk
   rw[hc]
   exact⟨plainId_quiet plain_eq_loop _,codeAny_builtin entry_eq_loop (by
    rw[Around.under_plainId plain_eq_loop _]
    exact ih (i+1) (by omega) prog w A R _ ⟨hl,hb,he,by simpa using h⟩)⟩
  | false=>
   simp only[gtR,hb',Bool.false_eq_true,if_false] at h
   wp_walk using wpAny_loadPart' hl,wpAny_loadPart' hb
   rw[hi1,hi2]
   refine wpAny_bind ((he i hlt hlt2).2 prog w _ _ ?_)
   wp_walk
   simpa using h
theorem zrt(l b:Addr)(items items2:Array Value)(n n2:Nat)(dd dd2:Option Addr)(sl sl2:Array (Option Value))(hsz:items.size=items2.size)(e lt:Nat->Bool) :
  Meets (Builtin.«list.__gt__» ⟨[.ref l,.ref b],[]⟩)
   (fun A R s=>s.heap.get? l=some { cls:=.type "list",dict:=dd,data:=.seq items n,slots:=sl }/\s.heap.get? b=some { cls:=.type "list",dict:=dd2,data:=.seq items2 n2,slots:=sl2 }/\
    (∀j (h1:j<items.size) (h2:j<items2.size),EqAt A.in1 s items[j] items2[j] (e j)/\zez A.in1 s items[j] items2[j] (lt j))/\
    R (.ok (.ret (.bool (gtR e lt (List.range items.size))))) s):=by
 intro prog w A R s h
 obtain⟨hp,g,d,tk,os⟩:=s;obtain⟨hl,hb,he,h⟩:=h
 have f3:=AutoSeq1.sub_list_list
 wp_walk using wpAny_loadPart' hl,wpAny_loadPart' hb
 exact⟨plainId_quiet plain_eq_loop _,codeAny_builtin entry_eq_loop (by
  rw[Around.under_plainId plain_eq_loop _]
  exact zr9 l b items items2 n n2 dd dd2 sl sl2 hsz e lt _ 0 rfl prog w A R _ ⟨hl,hb,he,by simpa using h⟩)⟩
theorem zpl(l b:Addr)(items items2:Array Value)(n n2:Nat)(dd dd2:Option Addr)(sl sl2:Array (Option Value))(e lt:Nat->Bool)(hsz:items.size=items2.size) :
  Meets (Builtin.«tuple.__gt__» ⟨[.ref l,.ref b],[]⟩)
   (fun A R s=>s.heap.get? l=some { cls:=.type "tuple",dict:=dd,data:=.seq items n,slots:=sl }/\s.heap.get? b=some { cls:=.type "tuple",dict:=dd2,data:=.seq items2 n2,slots:=sl2 }/\
    (∀j (h1:j<items.size) (h2:j<items2.size),(∀m,m<j->e m=true)->EqAt A.in1 s items[j] items2[j] (e j)/\(e j=false->zez A.in1 s items[j] items2[j] (lt j)))/\
    R (.ok (.ret (.bool (gtR e lt (List.range items.size))))) s):=
 .of_wp fun prog w A R s h=>by
  obtain⟨hp,g,d,tk,os⟩:=s;obtain⟨hl,hb,he,h⟩:=h
  have f2:=AutoSeq1.sub_tuple_tuple
  have hZ:(items.toList.zip items2.toList).length=items.size:=by simp[hsz]
  wp_walk using wpAny_loadPart' hl,wpAny_loadPart' hb,wpAny_forIn_list _ (fun rest b s'=>b.1=none/\s'=⟨hp,g,d,tk,os⟩/\∃i,rest=(items.toList.zip items2.toList).drop i/\(∀m,m<i->m<items.size->e m=true)/\
   R (.ok (.ret (.bool (gtR e lt ((List.range items.size).drop i))))) ⟨hp,g,d,tk,os⟩) _
  case turn=>
   rintro⟨y,x⟩ rest b s' ⟨hb',rfl,i,hz,hm,hR⟩
   have hlt:i<(items.toList.zip items2.toList).length:=by
    rcases Nat.lt_or_ge i (items.toList.zip items2.toList).length with h' | h'
    ·exact h'
    ·rw[List.drop_of_length_le h'] at hz;cases hz
   have h1:i<items.size:=hZ▸hlt
   have h2:i<items2.size:=hsz▸h1
   rw[List.drop_eq_getElem_cons hlt] at hz
   injection hz with hyx hrest
   have hy:y=items[i]:=by have:=congrArg Prod.fst hyx;simpa using this
   have hx:x=items2[i]:=by have:=congrArg Prod.snd hyx;simpa using this
   subst hy hx
   have hd:(List.range items.size).drop i=i::(List.range items.size).drop (i+1):=by simp[List.drop_eq_getElem_cons,h1]
   rw[hd] at hR
   have hei:=he i h1 h2 fun m hmi=>hm m hmi (by omega)
   refine wpAny_bind (hei.1 prog w _ _ ?_)
   cases hy:e i with
   | true=>
    simp only[gtR,hy,if_true] at hR
    wp_walk
    exact⟨rfl,rfl,i+1,hrest,fun m hm1 hm2=>by
     rcases Nat.lt_or_ge m i with z | z
     ·exact hm m z hm2
     ·have:m=i:=by omega
      rw[this];exact hy,by simpa using hR⟩
   | false=>
    simp only[gtR,hy,Bool.false_eq_true,if_false] at hR
    have hrc:=hei.2 hy prog w
    generalize richCompare CmpOp.Gt items[i] items2[i]=M at hrc ⊢
    wp_walk
    refine hrc _ _ ?_
    wp_walk
    exact⟨_,rfl,by simpa using hR⟩
  case fin=>
   rintro⟨b1,b2⟩ s' ⟨hb',rfl,i,hz,hm,hR⟩
   simp only at hb'
   subst hb'
   have hge:items.size<=i:=by
    rcases Nat.lt_or_ge i (items.toList.zip items2.toList).length with h' | h'
    ·rw[List.drop_eq_getElem_cons h'] at hz;cases hz
    ·exact hZ▸h'
   rw[List.drop_of_length_le (by simpa using hge)] at hR
   wp_walk
   exact⟨_,rfl,by simpa [Builtin.Tuple.tupleCompareSizes,gtR,hsz] using hR⟩
  case h=>
   exact⟨rfl,rfl,0,rfl,fun m hm=>by omega,by simpa using h⟩
theorem zez.lists{A:Around}{s:Shared}{l b:Addr}{items items2:Array Value}{e lt:Nat->Bool}(hl:s.heap.IsList l items)(hb:s.heap.IsList b items2)(hsz:items.size=items2.size)(hu:A.units<cLine)
  (he:∀j (h1:j<items.size) (h2:j<items2.size),EqAt A.in1 s items[j] items2[j] (e j)/\zez A.in1 s items[j] items2[j] (lt j)):zez A s (.ref l) (.ref b) (gtR e lt (List.range items.size)):=fun prog w E Q h=>by
 obtain⟨⟨cls,dd,data,sl⟩,ho,hc,n,hd⟩:=id hl
 obtain⟨⟨cls2,dd2,data2,sl2⟩,ho2,hc2,n2,hd2⟩:=id hb
 simp only at hc hd hc2 hd2
 subst hc hd hc2 hd2
 exact richCompare_meets_room (op:=.Gt) ⟨_,ho,rfl⟩ ⟨_,ho2,rfl⟩ F.slot_list_gt F.entry_list_gt (F.args_list_gt_2 _ _) (zrt l b items items2 n n2 dd dd2 sl sl2 hsz e lt)
  ⟨ho,ho2,he,show Value.bool _≠Value.notImplemented/\Q (.bool _) s from ⟨(fun x=>nomatch x),h⟩⟩ hu
theorem zez.tuples{A:Around}{s:Shared}{l b:Addr}{items items2:Array Value}{e lt:Nat->Bool}(hl:s.heap.IsTuple l items)(hb:s.heap.IsTuple b items2)(hsz:items.size=items2.size)(hu:A.units<cLine)
  (he:∀j (h1:j<items.size) (h2:j<items2.size),(∀m,m<j->e m=true)->EqAt A.in1 s items[j] items2[j] (e j)/\(e j=false->zez A.in1 s items[j] items2[j] (lt j))):zez A s (.ref l) (.ref b) (gtR e lt (List.range items.size)):=fun prog w E Q h=>by
 obtain⟨⟨cls,dd,data,sl⟩,ho,hc,n,hd⟩:=id hl
 obtain⟨⟨cls2,dd2,data2,sl2⟩,ho2,hc2,n2,hd2⟩:=id hb
 simp only at hc hd hc2 hd2
 subst hc hd hc2 hd2
 exact richCompare_meets_room (op:=.Gt) ⟨_,ho,rfl⟩ ⟨_,ho2,rfl⟩ F.slot_tuple_gt F.entry_tuple_gt (F.args_tuple_gt_2 _ _) (zpl l b items items2 n n2 dd dd2 sl sl2 e lt hsz)
  ⟨ho,ho2,he,show Value.bool _≠Value.notImplemented/\Q (.bool _) s from ⟨(fun x=>nomatch x),h⟩⟩ hu
end
theorem zsa(e l:Nat->Bool)(f:Nat->Nat):∀r:List Nat,gtR e l (r.map f)=gtR (fun i=>e (f i)) (fun i=>l (f i)) r
 | []=>rfl
 | i::r=>by simp only[List.map_cons,gtR,zsa e l f r]
theorem zsb:∀xs ys:List Int,xs.length=ys.length->gtR (fun i=>decide (xs.getD i 0=ys.getD i 0)) (fun i=>decide (ys.getD i 0<xs.getD i 0)) (List.range xs.length)=gtL xs ys
 | [],[],_=>rfl
 | [],_::_,h=>by simp at h
 | _::_,[],h=>by simp at h
 | x::xs,y::ys,h=>by
  rw[List.length_cons,List.range_succ_eq_map]
  simp only[gtR,List.getD_cons_zero,zsa,List.getD_cons_succ]
  rw[zsb xs ys (by simpa using h)]
  simp only[gtL,decide_eq_true_eq]
theorem zoz:∀xs:List Int,gtL xs xs=false
 | []=>rfl
 | x::xs=>by simp only[gtL,if_true];exact zoz xs
theorem zvb:isBl gGtT:=fun p q z e=>by
 unfold gGtT at e
 split at e
 ·split at e
  ·split at e
   ·cases e
   ·cases e;exact⟨_,rfl⟩
  ·cases e
 ·cases e
variable[TW]
theorem Zet{X:Cx}(hu:X.A.units+64<cLine):OpR X (compareOp .Gt) (rP X.K gGtT):=by
 intro pins s σ H x y v u Q I rx ry ⟨p,q,z,hp,hq,e,k⟩
 unfold gGtT at e
 split at e
 ·rename_i i ps j qs
  split at e
  ·rename_i xs ys ex ey
   have ex:=zfx ex
   have ey:=zfx ey
   subst ex ey
   split at e
   ·cases e
   ·rename_i hne
    cases e
    obtain⟨a,vs,rfl,g1,r1⟩:=RepO.tup_inv hp
    obtain⟨b,us,rfl,g2,r2⟩:=RepO.tup_inv hq
    cases rx
    cases ry
    obtain⟨v1,vs1,rfl,q1,v2,vs2,rfl,q2,rfl⟩:=r1
    obtain⟨u1,us1,rfl,q3,u2,us2,rfl,q4,rfl⟩:=r2
    cases (show v1=.int i from q1)
    cases (show u1=.int j from q3)
    obtain⟨c,as,rfl,g3,r3⟩:=q2
    obtain⟨d,bs,rfl,g4,r4⟩:=q4
    obtain⟨its,rv,pl,_⟩:=I.tuple g1
    obtain⟨its2,rv2,pl2,_⟩:=I.tuple g2
    obtain⟨w1,w2,rfl,e1,e2⟩:=vals2 rv
    obtain⟨w3,w4,rfl,e3,e4⟩:=vals2 rv2
    obtain⟨t1,rfl⟩:=e1
    obtain⟨t2,rfl⟩:=e3
    cases e2
    cases e4
    obtain⟨is1,rw1,pl3,_⟩:=I.list g3.l.l
    obtain⟨is2,rw2,pl4,_⟩:=I.list g4.l.l
    have n1:is1.length=xs.length:=by rw[← rw1.length,← r3.length,List.length_map]
    have n2:is2.length=ys.length:=by rw[← rw2.length,← r4.length,List.length_map]
    have fin:∀b:Bool,b=(if i=j then gtL xs ys else decide (j<i))->EP X pins σ Q (.bool b) s:=fun b hb=>by
     subst hb
     exact⟨.bl _,H,I,rfl,k _ H (Same.refl H) rfl⟩
    let ee:Nat->Bool:=fun m=>match m with
     | 0=>decide (i=j)
     | _=>decide (xs=ys)
    let lt:Nat->Bool:=fun m=>match m with
     | 0=>decide (j<i)
     | _=>gtL xs ys
    refine zez.tuples (e:=ee) (lt:=lt) (show s.heap.IsTuple a #[.int i t1,.ref c] from pl) (show s.heap.IsTuple b #[.int j t2,.ref d] from pl2) rfl (by omega) (fun m h1 h2 hm=>?_) X.prog X.w X.xe _ (fin _ ?_)
    ·match m,h1,h2,hm with
     | 0,h1,h2,hm=>exact⟨EqAt.int_int i t1 j t2,fun _ prog w E Q q=>gt_int q⟩
     | 1,h1,h2,hm=>
      have hij:i=j:=of_decide_eq_true (hm 0 (by omega))
      have hl:xs.length=ys.length:=by
       rcases Classical.em (xs.length=ys.length) with z | z
       ·exact z
       ·exact absurd ⟨hij,z⟩ hne
      have hsz:is1.toArray.size=is2.toArray.size:=by simp;omega
      have he:∀(A:Around) m (h1:m<is1.toArray.size) (h2:m<is2.toArray.size),EqAt A s is1.toArray[m] is2.toArray[m] (decide (xs.getD m 0=ys.getD m 0))/\zez A s is1.toArray[m] is2.toArray[m] (decide (ys.getD m 0<xs.getD m 0)):=fun A m h1 h2=>by
       obtain⟨t3,e3⟩:=zhe r3 rw1 m (by simpa using h1)
       obtain⟨t4,e4⟩:=zhe r4 rw2 m (by simpa using h2)
       simp only[List.getElem_toArray,e3,e4]
       exact⟨EqAt.int_int _ t3 _ t4,fun prog w E Q q=>gt_int q⟩
      refine⟨?_,fun _=>?_⟩
      ·by_cases hcd:c=d
       ·subst hcd
        have exy:xs=ys:=by
         have e5:=I.list_inj g3.l.l g4.l.l
         rw[zg6 r3,zg6 r4] at e5
         have:=congrArg (List.map fun v:V=>match v with | .int i=>i | _=>0) e5
         rw[List.map_map,List.map_map] at this
         simpa [Function.comp_def] using this
        show EqAt _ s (.ref c) (.ref c) (decide (xs=ys))
        rw[decide_eq_true exy]
        exact EqAt.same _
       ·show EqAt _ s (.ref c) (.ref d) (decide (xs=ys))
        have:=EqAt.of_refs hcd (RcAt.lists (A:=X.A.in1) (e:=fun m=>decide (xs.getD m 0=ys.getD m 0)) pl3.isList pl4.isList hsz (by show X.A.units+1<cLine;omega) fun m h1 h2=>(he _ m h1 h2).1)
        have eb:(List.range is1.toArray.size).all (fun m=>decide (xs.getD m 0=ys.getD m 0))=decide (xs=ys):=by
         rw[show is1.toArray.size=xs.length by simp[n1]]
         exact znw xs ys hl
        rw[eb] at this
        exact this
      ·show zez _ s (.ref c) (.ref d) (gtL xs ys)
       have:=zez.lists (A:=X.A.in1) (e:=fun m=>decide (xs.getD m 0=ys.getD m 0)) (lt:=fun m=>decide (ys.getD m 0<xs.getD m 0)) pl3.isList pl4.isList hsz (by show X.A.units+1<cLine;omega) fun m h1 h2=>he _ m h1 h2
       rw[show is1.toArray.size=xs.length by simp[n1],zsb xs ys hl] at this
       exact this
     | m+2,h1,h2,hm=>exact absurd h1 (by simp)
    ·show gtR ee lt [0,1]=_
     simp only[gtR,ee,lt,decide_eq_true_eq]
     by_cases hij:i=j
     ·rw[if_pos hij,if_pos hij]
      by_cases hxy:xs=ys
      ·rw[if_pos hxy,hxy,zoz]
      ·rw[if_neg hxy]
     ·rw[if_neg hij,if_neg hij]
  ·cases e
 ·cases e
section
def geL:List Int->List Int->Bool
 | x::xs,y::ys=>if x=y then geL xs ys else decide (y<=x)
 | _,_=>true
def gGeT:PV->PV->Option PV
 | .tup [.int i,.lst ps],.tup [.int j,.lst qs]=>
  (match zh5 ps,zh5 qs with
  | some xs,some ys=>if i=j/\¬ xs.length=ys.length then none else some (.bl (if i=j then geL xs ys else decide (j<=i)))
  | _,_=>none)
 | _,_=>none
section
open AutoSeq1 (wpAny_loadPart')
open MeetsSeq MeetsSeq2 MeetsSeq3
def ze0(A:Around)(s:Shared)(y x:Value)(b:Bool):Prop:=
 ∀(prog:Program)(w:World)(E:Value->Shared->Prop)(Q:Value->Shared->Prop),Q (.bool b) s->wpAny (model prog w) A (richCompare .GtE y x) Q E s
def geR(e l:Nat->Bool):List Nat->Bool
 | []=>true
 | i::r=>if e i=true then geR e l r else l i
theorem zsf(l b:Addr)(items items2:Array Value)(n n2:Nat)(dd dd2:Option Addr)(sl sl2:Array (Option Value))(hsz:items.size=items2.size)(e lt:Nat->Bool)(k:Nat) :
  ∀i:Nat,items.size-i=k->Meets (Builtin.«list.__eq__.loop» ⟨[.ref l,.ref b,rawInt i,rawInt 5],[]⟩)
   (fun A R s=>s.heap.get? l=some { cls:=.type "list",dict:=dd,data:=.seq items n,slots:=sl }/\s.heap.get? b=some { cls:=.type "list",dict:=dd2,data:=.seq items2 n2,slots:=sl2 }/\
    (∀j (h1:j<items.size) (h2:j<items2.size),EqAt A.in1 s items[j] items2[j] (e j)/\ze0 A.in1 s items[j] items2[j] (lt j))/\
    R (.ok (.ret (.bool (geR e lt ((List.range items.size).drop i))))) s):=by
 induction k with
 | zero=>
  intro i hk prog w A R s h
  obtain⟨hp,g,d,tk,os⟩:=s;obtain⟨hl,hb,he,h⟩:=h
  wp_walk using wpAny_loadPart' hl,wpAny_loadPart' hb
  have hi1:items[((i:Nat):Int).toNat]?=none:=by simp;omega
  have hi2:items2[((i:Nat):Int).toNat]?=none:=by simp;omega
  have hd:(List.range items.size).drop i=[]:=by simp;omega
  rw[hd] at h
  rw[hi1,hi2]
  wp_walk using wpAny_loadPart' hl,wpAny_loadPart' hb
  show R (.ok (.ret (.bool (decide (items.size ≥ items2.size))))) _
  rw[hsz]
  simpa [geR] using h
 | succ k ih=>
  intro i hk prog w A R s h
  obtain⟨hp,g,d,tk,os⟩:=s;obtain⟨hl,hb,he,h⟩:=h
  wp_walk using wpAny_loadPart' hl,wpAny_loadPart' hb
  have hlt:i<items.size:=by omega
  have hlt2:i<items2.size:=by omega
  have hi1:items[((i:Nat):Int).toNat]?=some items[i]:=by simp[hlt]
  have hi2:items2[((i:Nat):Int).toNat]?=some items2[i]:=by simp[hlt2]
  have hd:(List.range items.size).drop i=i::(List.range items.size).drop (i+1):=by simp[List.drop_eq_getElem_cons,hlt]
  have hc:((i:Int)+1)=((i+1:Nat):Int):=by push_cast;rfl
  rw[hd] at h
  rw[hi1,hi2]
  refine wpAny_bind ((he i hlt hlt2).1 prog w _ _ ?_)
  cases hb':e i with
  | true=>
   simp only[geR,hb',if_true] at h
   wp_walk
   rw[hc]
   exact⟨plainId_quiet plain_eq_loop _,codeAny_builtin entry_eq_loop (by
    rw[Around.under_plainId plain_eq_loop _]
    exact ih (i+1) (by omega) prog w A R _ ⟨hl,hb,he,by simpa using h⟩)⟩
  | false=>
   simp only[geR,hb',Bool.false_eq_true,if_false] at h
   wp_walk using wpAny_loadPart' hl,wpAny_loadPart' hb
   rw[hi1,hi2]
   refine wpAny_bind ((he i hlt hlt2).2 prog w _ _ ?_)
   wp_walk
   simpa using h
theorem zru(l b:Addr)(items items2:Array Value)(n n2:Nat)(dd dd2:Option Addr)(sl sl2:Array (Option Value))(hsz:items.size=items2.size)(e lt:Nat->Bool) :
  Meets (Builtin.«list.__ge__» ⟨[.ref l,.ref b],[]⟩)
   (fun A R s=>s.heap.get? l=some { cls:=.type "list",dict:=dd,data:=.seq items n,slots:=sl }/\s.heap.get? b=some { cls:=.type "list",dict:=dd2,data:=.seq items2 n2,slots:=sl2 }/\
    (∀j (h1:j<items.size) (h2:j<items2.size),EqAt A.in1 s items[j] items2[j] (e j)/\ze0 A.in1 s items[j] items2[j] (lt j))/\
    R (.ok (.ret (.bool (geR e lt (List.range items.size))))) s):=by
 intro prog w A R s h
 obtain⟨hp,g,d,tk,os⟩:=s;obtain⟨hl,hb,he,h⟩:=h
 have f3:=AutoSeq1.sub_list_list
 wp_walk using wpAny_loadPart' hl,wpAny_loadPart' hb
 exact⟨plainId_quiet plain_eq_loop _,codeAny_builtin entry_eq_loop (by
  rw[Around.under_plainId plain_eq_loop _]
  exact zsf l b items items2 n n2 dd dd2 sl sl2 hsz e lt _ 0 rfl prog w A R _ ⟨hl,hb,he,by simpa using h⟩)⟩
theorem zpm(l b:Addr)(items items2:Array Value)(n n2:Nat)(dd dd2:Option Addr)(sl sl2:Array (Option Value))(e lt:Nat->Bool)(hsz:items.size=items2.size) :
  Meets (Builtin.«tuple.__ge__» ⟨[.ref l,.ref b],[]⟩)
   (fun A R s=>s.heap.get? l=some { cls:=.type "tuple",dict:=dd,data:=.seq items n,slots:=sl }/\s.heap.get? b=some { cls:=.type "tuple",dict:=dd2,data:=.seq items2 n2,slots:=sl2 }/\
    (∀j (h1:j<items.size) (h2:j<items2.size),(∀m,m<j->e m=true)->EqAt A.in1 s items[j] items2[j] (e j)/\(e j=false->ze0 A.in1 s items[j] items2[j] (lt j)))/\
    R (.ok (.ret (.bool (geR e lt (List.range items.size))))) s):=
 .of_wp fun prog w A R s h=>by
  obtain⟨hp,g,d,tk,os⟩:=s;obtain⟨hl,hb,he,h⟩:=h
  have f2:=AutoSeq1.sub_tuple_tuple
  have hZ:(items.toList.zip items2.toList).length=items.size:=by simp[hsz]
  wp_walk using wpAny_loadPart' hl,wpAny_loadPart' hb,wpAny_forIn_list _ (fun rest b s'=>b.1=none/\s'=⟨hp,g,d,tk,os⟩/\∃i,rest=(items.toList.zip items2.toList).drop i/\(∀m,m<i->m<items.size->e m=true)/\
   R (.ok (.ret (.bool (geR e lt ((List.range items.size).drop i))))) ⟨hp,g,d,tk,os⟩) _
  case turn=>
   rintro⟨y,x⟩ rest b s' ⟨hb',rfl,i,hz,hm,hR⟩
   have hlt:i<(items.toList.zip items2.toList).length:=by
    rcases Nat.lt_or_ge i (items.toList.zip items2.toList).length with h' | h'
    ·exact h'
    ·rw[List.drop_of_length_le h'] at hz;cases hz
   have h1:i<items.size:=hZ▸hlt
   have h2:i<items2.size:=hsz▸h1
   rw[List.drop_eq_getElem_cons hlt] at hz
   injection hz with hyx hrest
   have hy:y=items[i]:=by have:=congrArg Prod.fst hyx;simpa using this
   have hx:x=items2[i]:=by have:=congrArg Prod.snd hyx;simpa using this
   subst hy hx
   have hd:(List.range items.size).drop i=i::(List.range items.size).drop (i+1):=by simp[List.drop_eq_getElem_cons,h1]
   rw[hd] at hR
   have hei:=he i h1 h2 fun m hmi=>hm m hmi (by omega)
   refine wpAny_bind (hei.1 prog w _ _ ?_)
   cases hy:e i with
   | true=>
    simp only[geR,hy,if_true] at hR
    wp_walk
    exact⟨rfl,rfl,i+1,hrest,fun m hm1 hm2=>by
     rcases Nat.lt_or_ge m i with z | z
     ·exact hm m z hm2
     ·have:m=i:=by omega
      rw[this];exact hy,by simpa using hR⟩
   | false=>
    simp only[geR,hy,Bool.false_eq_true,if_false] at hR
    have hrc:=hei.2 hy prog w
    generalize richCompare CmpOp.GtE items[i] items2[i]=M at hrc ⊢
    wp_walk
    refine hrc _ _ ?_
    wp_walk
    exact⟨_,rfl,by simpa using hR⟩
  case fin=>
   rintro⟨b1,b2⟩ s' ⟨hb',rfl,i,hz,hm,hR⟩
   simp only at hb'
   subst hb'
   have hge:items.size<=i:=by
    rcases Nat.lt_or_ge i (items.toList.zip items2.toList).length with h' | h'
    ·rw[List.drop_eq_getElem_cons h'] at hz;cases hz
    ·exact hZ▸h'
   rw[List.drop_of_length_le (by simpa using hge)] at hR
   wp_walk
   exact⟨_,rfl,by simpa [Builtin.Tuple.tupleCompareSizes,geR,hsz] using hR⟩
  case h=>
   exact⟨rfl,rfl,0,rfl,fun m hm=>by omega,by simpa using h⟩
theorem ze0.lists{A:Around}{s:Shared}{l b:Addr}{items items2:Array Value}{e lt:Nat->Bool}(hl:s.heap.IsList l items)(hb:s.heap.IsList b items2)(hsz:items.size=items2.size)(hu:A.units<cLine)
  (he:∀j (h1:j<items.size) (h2:j<items2.size),EqAt A.in1 s items[j] items2[j] (e j)/\ze0 A.in1 s items[j] items2[j] (lt j)):ze0 A s (.ref l) (.ref b) (geR e lt (List.range items.size)):=fun prog w E Q h=>by
 obtain⟨⟨cls,dd,data,sl⟩,ho,hc,n,hd⟩:=id hl
 obtain⟨⟨cls2,dd2,data2,sl2⟩,ho2,hc2,n2,hd2⟩:=id hb
 simp only at hc hd hc2 hd2
 subst hc hd hc2 hd2
 exact richCompare_meets_room (op:=.GtE) ⟨_,ho,rfl⟩ ⟨_,ho2,rfl⟩ F.slot_list_ge F.entry_list_ge (F.args_list_ge_2 _ _) (zru l b items items2 n n2 dd dd2 sl sl2 hsz e lt)
  ⟨ho,ho2,he,show Value.bool _≠Value.notImplemented/\Q (.bool _) s from ⟨(fun x=>nomatch x),h⟩⟩ hu
theorem ze0.tuples{A:Around}{s:Shared}{l b:Addr}{items items2:Array Value}{e lt:Nat->Bool}(hl:s.heap.IsTuple l items)(hb:s.heap.IsTuple b items2)(hsz:items.size=items2.size)(hu:A.units<cLine)
  (he:∀j (h1:j<items.size) (h2:j<items2.size),(∀m,m<j->e m=true)->EqAt A.in1 s items[j] items2[j] (e j)/\(e j=false->ze0 A.in1 s items[j] items2[j] (lt j))):ze0 A s (.ref l) (.ref b) (geR e lt (List.range items.size)):=fun prog w E Q h=>by
 obtain⟨⟨cls,dd,data,sl⟩,ho,hc,n,hd⟩:=id hl
 obtain⟨⟨cls2,dd2,data2,sl2⟩,ho2,hc2,n2,hd2⟩:=id hb
 simp only at hc hd hc2 hd2
 subst hc hd hc2 hd2
 exact richCompare_meets_room (op:=.GtE) ⟨_,ho,rfl⟩ ⟨_,ho2,rfl⟩ F.slot_tuple_ge F.entry_tuple_ge (F.args_tuple_ge_2 _ _) (zpm l b items items2 n n2 dd dd2 sl sl2 e lt hsz)
  ⟨ho,ho2,he,show Value.bool _≠Value.notImplemented/\Q (.bool _) s from ⟨(fun x=>nomatch x),h⟩⟩ hu
end
theorem zsg(e l:Nat->Bool)(f:Nat->Nat):∀r:List Nat,geR e l (r.map f)=geR (fun i=>e (f i)) (fun i=>l (f i)) r
 | []=>rfl
 | i::r=>by simp only[List.map_cons,geR,zsg e l f r]
theorem zsh:∀xs ys:List Int,xs.length=ys.length->geR (fun i=>decide (xs.getD i 0=ys.getD i 0)) (fun i=>decide (ys.getD i 0<=xs.getD i 0)) (List.range xs.length)=geL xs ys
 | [],[],_=>rfl
 | [],_::_,h=>by simp at h
 | _::_,[],h=>by simp at h
 | x::xs,y::ys,h=>by
  rw[List.length_cons,List.range_succ_eq_map]
  simp only[geR,List.getD_cons_zero,zsg,List.getD_cons_succ]
  rw[zsh xs ys (by simpa using h)]
  simp only[geL,decide_eq_true_eq]
theorem zo1:∀xs:List Int,geL xs xs=true
 | []=>rfl
 | x::xs=>by simp only[geL,if_true];exact zo1 xs
theorem zvc:isBl gGeT:=fun p q z e=>by
 unfold gGeT at e
 split at e
 ·split at e
  ·split at e
   ·cases e
   ·cases e;exact⟨_,rfl⟩
  ·cases e
 ·cases e
variable[TW]
theorem Zeu{X:Cx}(hu:X.A.units+64<cLine):OpR X (compareOp .GtE) (rP X.K gGeT):=by
 intro pins s σ H x y v u Q I rx ry ⟨p,q,z,hp,hq,e,k⟩
 unfold gGeT at e
 split at e
 ·rename_i i ps j qs
  split at e
  ·rename_i xs ys ex ey
   have ex:=zfx ex
   have ey:=zfx ey
   subst ex ey
   split at e
   ·cases e
   ·rename_i hne
    cases e
    obtain⟨a,vs,rfl,g1,r1⟩:=RepO.tup_inv hp
    obtain⟨b,us,rfl,g2,r2⟩:=RepO.tup_inv hq
    cases rx
    cases ry
    obtain⟨v1,vs1,rfl,q1,v2,vs2,rfl,q2,rfl⟩:=r1
    obtain⟨u1,us1,rfl,q3,u2,us2,rfl,q4,rfl⟩:=r2
    cases (show v1=.int i from q1)
    cases (show u1=.int j from q3)
    obtain⟨c,as,rfl,g3,r3⟩:=q2
    obtain⟨d,bs,rfl,g4,r4⟩:=q4
    obtain⟨its,rv,pl,_⟩:=I.tuple g1
    obtain⟨its2,rv2,pl2,_⟩:=I.tuple g2
    obtain⟨w1,w2,rfl,e1,e2⟩:=vals2 rv
    obtain⟨w3,w4,rfl,e3,e4⟩:=vals2 rv2
    obtain⟨t1,rfl⟩:=e1
    obtain⟨t2,rfl⟩:=e3
    cases e2
    cases e4
    obtain⟨is1,rw1,pl3,_⟩:=I.list g3.l.l
    obtain⟨is2,rw2,pl4,_⟩:=I.list g4.l.l
    have n1:is1.length=xs.length:=by rw[← rw1.length,← r3.length,List.length_map]
    have n2:is2.length=ys.length:=by rw[← rw2.length,← r4.length,List.length_map]
    have fin:∀b:Bool,b=(if i=j then geL xs ys else decide (j<=i))->EP X pins σ Q (.bool b) s:=fun b hb=>by
     subst hb
     exact⟨.bl _,H,I,rfl,k _ H (Same.refl H) rfl⟩
    let ee:Nat->Bool:=fun m=>match m with
     | 0=>decide (i=j)
     | _=>decide (xs=ys)
    let lt:Nat->Bool:=fun m=>match m with
     | 0=>decide (j<=i)
     | _=>geL xs ys
    refine ze0.tuples (e:=ee) (lt:=lt) (show s.heap.IsTuple a #[.int i t1,.ref c] from pl) (show s.heap.IsTuple b #[.int j t2,.ref d] from pl2) rfl (by omega) (fun m h1 h2 hm=>?_) X.prog X.w X.xe _ (fin _ ?_)
    ·match m,h1,h2,hm with
     | 0,h1,h2,hm=>exact⟨EqAt.int_int i t1 j t2,fun _ prog w E Q q=>ge_int q⟩
     | 1,h1,h2,hm=>
      have hij:i=j:=of_decide_eq_true (hm 0 (by omega))
      have hl:xs.length=ys.length:=by
       rcases Classical.em (xs.length=ys.length) with z | z
       ·exact z
       ·exact absurd ⟨hij,z⟩ hne
      have hsz:is1.toArray.size=is2.toArray.size:=by simp;omega
      have he:∀(A:Around) m (h1:m<is1.toArray.size) (h2:m<is2.toArray.size),EqAt A s is1.toArray[m] is2.toArray[m] (decide (xs.getD m 0=ys.getD m 0))/\ze0 A s is1.toArray[m] is2.toArray[m] (decide (ys.getD m 0<=xs.getD m 0)):=fun A m h1 h2=>by
       obtain⟨t3,e3⟩:=zhe r3 rw1 m (by simpa using h1)
       obtain⟨t4,e4⟩:=zhe r4 rw2 m (by simpa using h2)
       simp only[List.getElem_toArray,e3,e4]
       exact⟨EqAt.int_int _ t3 _ t4,fun prog w E Q q=>ge_int q⟩
      refine⟨?_,fun _=>?_⟩
      ·by_cases hcd:c=d
       ·subst hcd
        have exy:xs=ys:=by
         have e5:=I.list_inj g3.l.l g4.l.l
         rw[zg6 r3,zg6 r4] at e5
         have:=congrArg (List.map fun v:V=>match v with | .int i=>i | _=>0) e5
         rw[List.map_map,List.map_map] at this
         simpa [Function.comp_def] using this
        show EqAt _ s (.ref c) (.ref c) (decide (xs=ys))
        rw[decide_eq_true exy]
        exact EqAt.same _
       ·show EqAt _ s (.ref c) (.ref d) (decide (xs=ys))
        have:=EqAt.of_refs hcd (RcAt.lists (A:=X.A.in1) (e:=fun m=>decide (xs.getD m 0=ys.getD m 0)) pl3.isList pl4.isList hsz (by show X.A.units+1<cLine;omega) fun m h1 h2=>(he _ m h1 h2).1)
        have eb:(List.range is1.toArray.size).all (fun m=>decide (xs.getD m 0=ys.getD m 0))=decide (xs=ys):=by
         rw[show is1.toArray.size=xs.length by simp[n1]]
         exact znw xs ys hl
        rw[eb] at this
        exact this
      ·show ze0 _ s (.ref c) (.ref d) (geL xs ys)
       have:=ze0.lists (A:=X.A.in1) (e:=fun m=>decide (xs.getD m 0=ys.getD m 0)) (lt:=fun m=>decide (ys.getD m 0<=xs.getD m 0)) pl3.isList pl4.isList hsz (by show X.A.units+1<cLine;omega) fun m h1 h2=>he _ m h1 h2
       rw[show is1.toArray.size=xs.length by simp[n1],zsh xs ys hl] at this
       exact this
     | m+2,h1,h2,hm=>exact absurd h1 (by simp)
    ·show geR ee lt [0,1]=_
     simp only[geR,ee,lt,decide_eq_true_eq]
     by_cases hij:i=j
     ·rw[if_pos hij,if_pos hij]
      by_cases hxy:xs=ys
      ·rw[if_pos hxy,hxy,zo1]
      ·rw[if_neg hxy]
     ·rw[if_neg hij,if_neg hij]
  ·cases e
 ·cases e
end
end PU
namespace PU
open PySem PySem.Spec PyProof.Rows L2 PySem.SeqAt
section
variable{P : Program}{w : World}{K : PySem.W.Frag}{mg : Str → Option Value}{base : Heap}
theorem Fun.okC{x qual:Str}{st:Stmt}{f:Addr}{fd:FuncData}{N ps:List Str}{k:Nat}{sp:Sp}(F:Fun K x qual st f fd)(S:FnScope N ps (zac st))(len:∀vs H Q E,sp vs H Q E->vs.length=ps.length)
  (hbody:∀(cdv:Value),cdv=fd.code->∀(A:Around)(outer:List Env)(s:Shared)(H:Hp)(vs:List V)(Q:VK)(E:XK),Room k (A.deeper (envOfC qual (zac st) s.heap.objs.size f cdv))->sp vs H Q E->
   ∃t,PSs (cxOf CX0 P w K mg base N qual (zac st) f cdv A outer s H E).nox (zar st) t/\t { nx:=fun _ H'=>Q .non H',rt:=Q } (L2.start N vs) H):FnOk P w K mg base CX0 (k+1) f fd ps sp:=by
 obtain⟨oc,od,kV,doc,pm,an,cdv,ct,osl,rfl,lk,hcd⟩:=F.ex
 refine Zce lk hcd S len fun A outer s H vs Q E hr hsp=>?_
 obtain⟨t,h,q⟩:=hbody cdv rfl A outer s H vs Q E hr hsp
 exact⟨t,h.nox,q⟩
variable[TW]
theorem zuo{x qual:Str}{st:Stmt}{f:Addr}{fd:FuncData}{N ps:List Str}{k:Nat}{g:PSt->R Fl}(F:Fun K x qual st f fd)(S:FnScope N ps (zac st))(hm:mg x=some (.ref f))(hb:Binds K fd ps [])
  (hbody:∀(cdv:Value),cdv=fd.code->∀(A:Around)(outer:List Env)(s:Shared)(H:Hp)(E:XK),Room k (A.deeper (envOfC qual (zac st) s.heap.objs.size f cdv))->SVN (cnOf P w K mg base N qual (zac st) f cdv A outer s H E) (zar st) g)
  (hr:∀ρ,(∃p,g ρ=.ok (.ret p))\/∀fl,g ρ≠.ok fl) :
  PFN P w K mg base (k+1) x (runF ps.length N.length g):=by
 refine⟨f,fd,ps,Fun.okC F S (fun vs H Q E h=>h.1) (fun cdv hcdv A outer s H vs Q E hr' h=>?_),hm,F.kp,hb,fun qs p h=>?_⟩
 ·obtain⟨hl,tb,qs,p,r,e0,k⟩:=h
  refine⟨_,hbody cdv hcdv A outer s H E hr',start N.length qs,(H,H),zg4 tb r,?_⟩
  unfold runF at e0
  rw[if_pos (by rw[r.length];exact hl)] at e0
  rcases hr (start N.length qs) with⟨q,hq⟩ | hq
  ·rw[hq] at e0 ⊢
   cases e0
   exact fun a H' s' n' w'=>k a H' s' n' w'
  ·cases hg:g (start N.length qs) with
   | ok fl=>exact absurd hg (hq fl)
   | er x=>rw[hg] at e0;cases e0
   | no=>rw[hg] at e0;cases e0
 ·unfold runF at h
  split at h
  ·rename_i hl;exact hl
  ·cases h
end
def lamR(n:Nat)(fe:PSt->R PV)(qs cs:List PV):Option PV:=if qs.length=n then (match fe ((qs++cs).map .val) with
 | .ok p=>some p
 | _=>none) else none
theorem zrw{n:Nat}{fe:PSt->R PV}{qs cs:List PV}{p:PV}(h:lamR n fe qs cs=some p):qs.length=n/\fe ((qs++cs).map .val)=.ok p:=by
 unfold lamR at h
 split at h
 ·rename_i hl
  refine⟨hl,?_⟩
  split at h
  ·rename_i q hq;cases h;exact hq
  ·cases h
 ·cases h
def zyg(q:Str)(kept:List Str)(sc:Scope):Expr->Lam
 | .Lambda a b s _=>⟨q,a,b,s,kept⟩
 | e=>⟨q,⟨[],[],none,[],[],none,[]⟩,e,sc,kept⟩
def zv8(j:Nat)(e0:Expr):Stmt->Expr
 | .Return (some (.Call _ as _ _)) _=>as.getD j e0
 | _=>e0
def zwn(p:Pos):Expr->Pos
 | .Lambda _ _ _ p=>p
 | _=>p
theorem LScope.of{ps fr:List Str}{sc:Scope}(kind:sc.kind=.function)(co:sc.isCoroutine=false)(gen:sc.isGenerator=false)(nocell:∀x∈sc.names,x.2≠.cell)(par:∀x∈ps,sc.names.lookup x=some .local)
  (fre:∀y∈sc.names,y.2=.free->y.1∈fr) (frk:∀x∈fr,sc.names.lookup x=some .free) (nd:(ps++fr).Nodup):LScope ps fr sc:=
 ⟨kind,co,gen,nocell,par,fun x h=>fre _ (PySem.mem_of_lookup h) rfl,frk,nd⟩
end PU
namespace PU
open PySem PySem.Spec PyProof.Rows L2 PySem.SeqAt
def nopin:Sl->Sl
 | .pin _ _=>.no
 | l=>l
def znn:List Nat->PSt->PSt
 | [],ρ=>ρ
 | j::dr,ρ=>znn dr (ρ.set j .no)
def zvy(i:Nat)(dr:List Nat)(ps:List PV)(ρ:PSt):PSt:=znn dr ((ρ.set i (.own (.lst ps))).map nopin)
open Classical in
noncomputable def forO(i:Nat)(dr:List Nat)(m:List PV->List PV)(h:Tgt)(g:PSt->R Fl):PSt->R Fl:=fun ρ=>match ρ[i]? with
 | some (.own (.lst ps))=>if e:∃ρ'',∀a,∃ρ',forF h g (m ps) (ρ.set i (.pin ps a))=.ok (.next ρ')/\ρ'[i]?=some (.pin ps a)/\zvy i dr ps ρ'=ρ'' then .ok (.next e.choose) else .no
 | _=>.no
def idL(ps:List PV):List PV:=ps
def numL(ps:List PV):List PV:=(numP ps).map .tup
theorem zsm{i:Nat}{dr:List Nat}{m:List PV->List PV}{h:Tgt}{g:PSt->R Fl}{ρ ρ'':PSt}{ps:List PV}(e:ρ[i]?=some (.own (.lst ps)))(k:∀a,∃ρ',forF h g (m ps) (ρ.set i (.pin ps a))=.ok (.next ρ')/\ρ'[i]?=some (.pin ps a)/\zvy i dr ps ρ'=ρ''):forO i dr m h g ρ=.ok (.next ρ''):=by
 have ex:∃ρ'',∀a,∃ρ',forF h g (m ps) (ρ.set i (.pin ps a))=.ok (.next ρ')/\ρ'[i]?=some (.pin ps a)/\zvy i dr ps ρ'=ρ'':=⟨ρ'',k⟩
 have z:forO i dr m h g ρ=.ok (.next ex.choose):=by
  unfold forO
  rw[e]
  exact dif_pos ex
 rw[z]
 obtain⟨r1,h1,_,h3⟩:=ex.choose_spec 0
 obtain⟨r2,g1,_,g3⟩:=k 0
 rw[h1] at g1
 cases g1
 rw[← h3,g3]
variable[TW]
section
variable{K : PySem.W.Frag}{B : Hp×Hp}{H H4 : Hp}{σ σ4 : L2.St}{ρ ρ' : PSt}{i : Nat}{ps : List PV}{a : Addr}{xs : List V}
theorem StOk.forget(S:StOk K B H σ ρ)(j:Nat):StOk K B H σ (ρ.set j .no):=by
 refine⟨by simp[S.len],S.same,S.kp,⟨fun k l e=>?_,S.vw.tb⟩,fun k q b e f=>?_,fun k k' q q' b e1 e2 f1 f2=>?_,fun k qs b e=>?_⟩
 ·rcases za3 e with⟨_,rfl,_⟩|⟨_,e⟩
  ·exact trivial
  ·exact S.vw k l e
 ·rcases za3 e with⟨_,z,_⟩|⟨_,e⟩
  ·cases z
  ·exact S.fresh k q b e f
 ·rcases za3 e1 with⟨_,z,_⟩|⟨_,e1⟩
  ·cases z
  ·rcases za3 e2 with⟨_,z,_⟩|⟨_,e2⟩
   ·cases z
   ·exact S.apart k k' q q' b e1 e2 f1 f2
 ·rcases za3 e with⟨_,z,_⟩|⟨_,e⟩
  ·cases z
  ·exact S.pinned k qs b e
theorem StOk.forgets:∀(dr:List Nat){ρ:PSt},StOk K B H σ ρ->StOk K B H σ (znn dr ρ)
 | [],_,S=>S
 | j::dr,_,S=>StOk.forgets dr (S.forget j)
theorem TOk.updl{B1 H:Hp}{qs:Array Value}(fa:B1 a=none):TOk (upd B1 a (.lst xs)) qs->TOk B1 qs:=fun t=>
 ⟨t.1,fun pos v e=>by
  obtain⟨c,e1,e2⟩:=t.2 pos v e
  refine⟨c,e1,?_⟩
  have hc:c≠a:=fun z=>by
   subst z
   rw[zai] at e2
   cases e2
  rw[zah hc] at e2
  exact e2⟩
theorem TOk.updr{B1 H:Hp}{qs:Array Value}(fa:B1 a=none):TOk B1 qs->TOk (upd B1 a (.lst xs)) qs:=fun t=>
 ⟨t.1,fun pos v e=>by
  obtain⟨c,e1,e2⟩:=t.2 pos v e
  refine⟨c,e1,?_⟩
  have hc:c≠a:=fun z=>by
   subst z
   rw[fa] at e2
   cases e2
  rw[zah hc]
  exact e2⟩
theorem StOk.pinIt(S:StOk K B H σ ρ)(e:ρ[i]?=some (.own (.lst ps)))(f:σ[i]?=some (some (.ref a)))(hx:H a=some (.lst xs))(rr:Reps K H ps xs):StOk K (upd B.1 a (.lst xs),H) H σ (ρ.set i (.pin ps a)):=by
 have fa:=S.fresh i _ a e f
 refine⟨by simp[S.len],⟨fun b o eb n=>?_,fun b qs eb=>?_⟩,Kp.refl H,⟨fun j l ej=>?_,S.vw.tb⟩,fun j q b ej fj=>?_,fun j k q q' b e1 e2 f1 f2=>?_,fun j qs b ej=>?_⟩
 ·by_cases hb:b=a
  ·subst hb
   have eb:upd B.1 b (.lst xs) b=some o:=eb
   rw[zai] at eb
   cases eb
   exact hx
  ·have eb:upd B.1 a (.lst xs) b=some o:=eb
   rw[zah hb] at eb
   exact S.same.at_ b o eb n
 ·have eb:upd B.1 a (.lst xs) b=some (.tbl qs):=eb
  have hb:b≠a:=fun z=>by
   subst z
   rw[zai] at eb
   cases eb
  rw[zah hb] at eb
  obtain⟨q1,e1,k1⟩:=S.same.tb b qs eb
  exact⟨q1,e1,fun t=>k1 (TOk.updl (H:=H) fa t)⟩
 ·rcases za3 ej with⟨rfl,rfl,_⟩|⟨_,ej⟩
  ·exact⟨f,xs,hx,rr⟩
  ·exact S.vw j l ej
 ·rcases za3 ej with⟨_,z,_⟩|⟨hj,ej'⟩
  ·cases z
  ·have hb:b≠a:=fun z=>by
    rw[z] at fj
    exact hj (S.apart j i q _ a ej' e fj f)
   show upd B.1 a (.lst xs) b=none
   rw[zah hb]
   exact S.fresh j q b ej' fj
 ·rcases za3 e1 with⟨_,z,_⟩|⟨_,e1⟩
  ·cases z
  ·rcases za3 e2 with⟨_,z,_⟩|⟨_,e2⟩
   ·cases z
   ·exact S.apart j k q q' b e1 e2 f1 f2
 ·show upd B.1 a (.lst xs) b≠none
  by_cases hb:b=a
  ·subst hb
   rw[zai]
   exact fun z=>by cases z
  ·rw[zah hb]
   rcases za3 ej with⟨_,z,_⟩|⟨_,ej⟩
   ·cases z
    exact absurd rfl hb
   ·exact S.pinned j qs b ej
theorem zgf{j:Nat}{l:Sl}(ei:ρ'[i]?=some (.pin ps a))(e:((ρ'.set i (.own (.lst ps))).map nopin)[j]?=some l):(j=i/\l=.own (.lst ps))\/(j≠i/\∃l0,ρ'[j]?=some l0/\l=nopin l0):=by
 rw[List.getElem?_map] at e
 obtain⟨l0,e0,rfl⟩:=Option.map_eq_some_iff.mp e
 rcases za3 e0 with⟨h1,rfl,_⟩|⟨h1,e0⟩
 ·exact .inl ⟨h1,rfl⟩
 ·exact .inr ⟨h1,l0,e0,rfl⟩
theorem zg9{l0:Sl}{q:PV}(e:Sl.own q=nopin l0):l0=.own q:=by
 cases l0 with
 | own p=>exact e.symm
 | _=>cases e
theorem StOk.unpin(S:StOk K B H σ ρ)(fa:B.1 a=none)(S4:StOk K (upd B.1 a (.lst xs),H) H4 σ4 ρ')(ei:ρ'[i]?=some (.pin ps a))(dr:List Nat):StOk K B H4 σ4 (zvy i dr ps ρ'):=by
 refine StOk.forgets dr ?_
 have ev:=S4.vw i _ ei
 refine⟨by simp[S4.len],⟨fun b o eb n=>?_,fun b qs eb=>?_⟩,S.kp.trans S4.kp,⟨fun j l ej=>?_,S4.vw.tb⟩,fun j q b ej fj=>?_,fun j k q q' b e1 e2 f1 f2=>?_,fun j qs b ej=>?_⟩
 ·have hb:b≠a:=fun z=>by subst z;rw[fa] at eb;cases eb
  refine S4.same.at_ b o ?_ n
  show upd B.1 a (.lst xs) b=some o
  rw[zah hb]
  exact eb
 ·have hb:b≠a:=fun z=>by subst z;rw[fa] at eb;cases eb
  obtain⟨q1,e1,k1⟩:=S4.same.tb b qs (by show upd B.1 a (.lst xs) b=_;rw[zah hb];exact eb)
  exact⟨q1,e1,fun t=>k1 (TOk.updr (H:=H) fa t)⟩
 ·rcases zgf ei ej with⟨rfl,rfl⟩|⟨_,l0,e0,rfl⟩
  ·exact⟨a,ev.1,ev.2⟩
  ·have:=S4.vw j l0 e0
   cases l0 with
   | pin p b=>exact trivial
   | _=>exact this
 ·rcases zgf ei ej with⟨rfl,_⟩|⟨_,l0,e0,el⟩
  ·rw[ev.1] at fj
   cases fj
   exact fa
  ·have:=zg9 el
   subst this
   have hz:upd B.1 a (.lst xs) b=none:=S4.fresh j q b e0 fj
   have hb:b≠a:=fun z=>by subst z;rw[zai] at hz;cases hz
   rw[zah hb] at hz
   exact hz
 ·have no:∀(j:Nat)(q:PV),ρ'[j]?=some (.own q)->σ4[j]?≠some (some (.ref a)):=fun j q e f=>by
   have hz:upd B.1 a (.lst xs) a=none:=S4.fresh j q a e f
   rw[zai] at hz
   cases hz
  rcases zgf ei e1 with⟨h1,_⟩|⟨_,l1,d1,el1⟩
  ·rcases zgf ei e2 with⟨h2,_⟩|⟨_,l2,d2,el2⟩
   ·rw[h1,h2]
   ·have:=zg9 el2
    subst this h1
    rw[ev.1] at f1
    cases f1
    exact absurd f2 (no k q' d2)
  ·have:=zg9 el1
   subst this
   rcases zgf ei e2 with⟨h2,_⟩|⟨_,l2,d2,el2⟩
   ·subst h2
    rw[ev.1] at f2
    cases f2
    exact absurd f1 (no j q d1)
   ·have:=zg9 el2
    subst this
    exact S4.apart j k q q' b d1 d2 f1 f2
 ·exfalso
  rcases zgf ei ej with⟨_,z⟩|⟨_,l0,_,z⟩
  ·cases z
  ·cases l0 <;> cases z
end
def ItA(K:PySem.W.Frag)(a:Addr)(xs:List V)(J:It)(H₁:Hp)(qs:List PV):Prop:=
 ∀(i:Nat)(H:Hp),Kp H₁ H->H a=some (.lst xs)->(i=qs.length->J.stop i H)/\∀q,qs[i]?=some q->J.go i H/\∀x H',J.yld i H x H'->Same H H'/\Rep K H' q x
def tIA(C:Cn)(i:Nat)(m:List PV->List PV):TI:=fun σ H R=>∃a xs ps,σ[i]?=some (some (.ref a))/\H a=some (.lst xs)/\Reps C.X.K H ps xs/\∀J,ItA C.X.K a xs J H (m ps)->R J H
section
variable{C : Cn}{tg : Expr}
theorem Zau (i:Nat) {x:Str} {p:Pos} (hN:C.X.N[i]?=some x:=by rfl) (hv:Vis C.X.env.scope x:=by first | exact .inl rfl | exact .inr (.inl rfl) | exact .inr (.inr rfl)) (hd:(x == ("__debug__":Str))=false:=by decide) (hcd:(x == ("__classdict__":Str))=false:=by decide) :
  PI C.X tg (.Name x p) (tIA C i idL):=by
 intro pins s σ H R I ⟨a,xs,ps,ea,hx,rr,k⟩
 refine thn (zfi hN hv hd hcd pins s σ H (fun v' H'=>v'=.ref a/\H'=H) I ⟨_,ea,rfl,rfl⟩) fun u s1 ⟨v',H1,I1,ru,e2,e3⟩=>?_
 subst e2 e3
 cases (show u=Value.ref a from ru)
 have g:SqO C.X.K H1 a xs:=.inl (.inl hx)
 obtain⟨its,rv,pl,hz⟩:=I1.list g.l
 refine wpAny_pyIter_list pl.isList ?_
 refine⟨s1.heap.objs.size,[s1.heap.objs.size],_,_,H1,rfl,I1.kept (t':=s1.toks) fun b o e=>Heap.get?_push_of_some _ e,zlr a _,⟨_,Heap.get?_push_size _ rfl,rfl,rfl⟩,fun b hb=>?_,k _ fun j H' kp hx'=>?_⟩
 ·have e:b=s1.heap.objs.size:=by simpa using hb
  subst e
  exact I1.fpOk (Nat.le_refl _) (I1.hok.fresh (Nat.le_refl _))
 ·have g':SqL C.X.K H' a xs:=SqO.l (.inl (.inl hx'))
  have r':=Reps.kp kp ps rr
  have hl:=r'.length
  refine⟨fun h=>⟨xs,g',by have h:j=ps.length:=h;omega⟩,fun q e=>?_⟩
  obtain⟨x,ex,rp⟩:=r'.get e
  exact⟨⟨xs,x,g',ex⟩,fun y H2 ⟨eh,hy⟩=>by
   subst eh
   have:=hy xs g'
   rw[ex] at this
   cases this
   exact⟨Same.refl _,rp⟩⟩
theorem zxz (i:Nat) {x:Str} {p p2 pos:Pos} {elts:List Expr} {kk:Nat} {tp:Pos} (hg:Gl C.X "enumerate") (hm:C.X.mg "enumerate"=none) (hN:C.X.N[i]?=some x:=by rfl) (hv:Vis C.X.env.scope x:=by first | exact .inl rfl | exact .inr (.inl rfl) | exact .inr (.inr rfl)) (hd:(x == ("__debug__":Str))=false:=by decide) (hcd:(x == ("__classdict__":Str))=false:=by decide)
  (hs:starEach [.Name x p2] C.X.env=[(false,eval (.Name x p2) C.X.env)]:=by exact zcd rfl) :
  PI C.X (.Tuple elts kk tp) (.Call (.Name "enumerate" p) [.Name x p2] [] pos) (tIA C i numL):=by
 intro pins s σ H Rk I ⟨a,xs,ps,ea,hx,rr,k⟩
 refine Call_ (zih I hg hm zgn (PyProof.Rows.callWith_type1 (thn ((zcj (zfi hN hv hd hcd) zft hs) pos pins s σ H (fun vs H'=>vs=[.ref a]/\H'=H) I ⟨_,ea,rfl,rfl⟩)
  fun us s1 ⟨vs,H1,I1,r1,ev,eh⟩=>?_) hs rfl))
 subst ev eh
 obtain⟨u,rfl,ru⟩:=vals1 r1
 cases (show u=Value.ref a from ru)
 have hne:s1.heap.objs.size+1≠s1.heap.objs.size:=Nat.succ_ne_self _
 have fp:∀{h':Heap},(∀b o,s1.heap.get? b=some o->h'.get? b=some o)->L2.Inv C.X pins σ H1 { s1 with heap:=h' }/\∀b∈[s1.heap.objs.size+1,s1.heap.objs.size],FpOk C.X pins H1 b:=fun {h'} hk=>by
  refine⟨I1.kept (t':=s1.toks) hk,fun b hb=>?_⟩
  have hb:s1.heap.objs.size<=b:=by
   simp only[List.mem_cons,List.not_mem_nil,or_false] at hb
   rcases hb with rfl | rfl
   ·exact Nat.le_succ _
   ·exact Nat.le_refl _
  exact I1.fpOk hb (I1.hok.fresh hb)
 have g:SqO C.X.K H1 a xs:=.inl (.inl hx)
 obtain⟨its,rv,pl,hz⟩:=I1.list g.l
 have ha:a<s1.heap.objs.size:=by obtain⟨o,n,ho,_⟩:=pl;exact Heap.lt_size ho
 refine call_enumerate_list pl.isList fun h' he' hi' hsz hk=>wpAny_pyIter_enum he' ?_
 obtain⟨I2,hf⟩:=fp hk
 refine⟨_,_,_,_,H1,rfl,I2,zka a s1.heap.objs.size (s1.heap.objs.size+1) xs hne (Nat.ne_of_lt (Nat.lt_succ_of_lt ha)) (Nat.ne_of_lt ha),⟨⟨_,he'⟩,hi'⟩,hf,k _ ?_⟩
 intro j H' kp hx'
 have gd:SqL C.X.K H' a xs:=SqO.l (.inl (.inl hx'))
 have hl:=rr.length
 refine⟨fun h=>⟨by have h:j=((numP ps).map PV.tup).length:=h;rw[List.length_map,zir] at h;omega,gd⟩,fun q e=>?_⟩
 have e:((numP ps).map PV.tup)[j]?=some q:=e
 rw[List.getElem?_map] at e
 obtain⟨qs,hp,rfl⟩:=Option.map_eq_some_iff.mp e
 have hi:j<xs.length:=by
  have:=(List.getElem?_eq_some_iff.mp hp).1
  rw[zir] at this
  omega
 refine⟨⟨hi,gd⟩,fun x H2 ⟨T,ys,ex,nT,ey,eH⟩=>?_⟩
 subst ex eH
 refine⟨Same.new nT,T,ys,rfl,zai,?_⟩
 exact(Reps.kp kp qs (zk7 rr j qs ys hp ey)).same (Same.new nT)
theorem zqw{iter:Expr}{body:List Stmt}{pos:Pos}{h:Tgt}{g:PSt->R Fl}(i:Nat)(dr:List Nat)(m:List PV->List PV)(hp:PassesOwn (model C.X.prog C.X.w) C.X.A C.X.env C.X.xe)(hc:C.X.calm=true)(hi:PI C.X tg iter (tIA C i m))(hg:TGt C tg h)(hb:SVs C body g)
  (hs:∀x,foldedSetIterable iter C.X.env x=pure x:=by intro _;rfl):SV C (.For tg iter body [] pos) (forO i dr m h g):=by
 intro pins s σ H D I ⟨ρ,B,S,q⟩
 unfold forO at q
 split at q
 ·rename_i ps e1
  split at q
  ·rename_i ex
   obtain⟨a,ea,xs,hx,rr⟩:=S.vw i _ e1
   have fa:=S.fresh i _ a e1 ea
   obtain⟨ρF,hF,hFi,hFb⟩:=ex.choose_spec a
   have S1:=S.pinIt e1 ea hx rr
   have fin:∀σ4 H4,StOk C.X.K (upd B.1 a (.lst xs),H) H4 σ4 ρF->D.nx σ4 H4:=fun σ4 H4 S4=>by
    have:=S.unpin fa S4 hFi dr
    rw[hFb] at this
    exact q σ4 H4 this
   refine zwg hp hc hi hg hb hs pins s σ H D I ⟨a,xs,ps,ea,hx,rr,fun J it=>?_⟩
   refine⟨fun k n σ' H'=>∃ρ',n=(m ps).length-k/\k<=(m ps).length/\StOk C.X.K (upd B.1 a (.lst xs),H) H' σ' ρ'/\forF h g ((m ps).drop k) ρ'=.ok (.next ρF),⟨(m ps).length,ρ.set i (.pin ps a),rfl,Nat.zero_le _,S1,by simpa using hF⟩,?_⟩
   rintro k n σ' H' ⟨ρ',rfl,hk,S',q'⟩
   have hx':H' a=some (.lst xs):=S'.same.at_ a _ zai
   obtain⟨stp,stepp⟩:=it k H' S'.kp hx'
   by_cases hlt:k<(m ps).length
   ·have ei:(m ps)[k]?=some (m ps)[k]:=by simp[hlt]
    obtain⟨go,yl⟩:=stepp _ ei
    rw[zlh ei] at q'
    unfold forF at q'
    cases e2:h (m ps)[k] ρ' with
    | none=>rw[e2] at q';cases q'
    | some ρ1=>
     rw[e2] at q'
     have q':(g ρ1 >>= fun fl=>match fl with
      | .next ρ2=>forF h g ((m ps).drop (k+1)) ρ2
      | .cont ρ2=>forF h g ((m ps).drop (k+1)) ρ2
      | .brk ρ2=>.ok (.next ρ2)
      | .ret q=>.ok (.ret q))=.ok (.next ρF):=q'
     refine .inr ⟨go,fun σ2 H2=>∃ρ2,StOk C.X.K (upd B.1 a (.lst xs),H) H2 σ2 ρ2/\forF h g ((m ps).drop (k+1)) ρ2=.ok (.next ρF),fun σ2 H2 ⟨ρ2,S2,r2⟩=>⟨(m ps).length-(k+1),by omega,ρ2,rfl,hlt,S2,r2⟩,fun x H2 y=>?_⟩
     obtain⟨s2,rp⟩:=yl x H2 y
     refine⟨ρ',(upd B.1 a (.lst xs),H),(m ps)[k],ρ1,S'.grow s2,rp,e2,fun σ3 S3=>⟨ρ1,(upd B.1 a (.lst xs),H),S3,?_⟩⟩
     cases hgr:g ρ1 with
     | ok fl=>
      rw[hgr] at q'
      cases fl with
      | next ρ2=>exact fun σ4 H4 S4=>⟨ρ2,S4,q'⟩
      | cont ρ2=>exact fun σ4 H4 S4=>⟨ρ2,S4,q'⟩
      | brk ρ2=>
       have:ρ2=ρF:=by
        have z:(R.ok (Fl.next ρ2):R Fl)=R.ok (Fl.next ρF):=q'
        injection z with z
        injection z
       subst this
       exact fun σ4 H4 S4=>fin σ4 H4 S4
      | ret p=>cases q'
     | er x=>rw[hgr] at q';cases q'
     | no=>rw[hgr] at q';cases q'
   ·have e:k=(m ps).length:=by omega
    subst e
    rw[List.drop_length] at q'
    have:ρ'=ρF:=by
     have z:(R.ok (Fl.next ρ'):R Fl)=R.ok (Fl.next ρF):=q'
     injection z with z
     injection z
    subst this
    exact .inl ⟨stp rfl,fin σ' H' S'⟩
  ·exact False.elim q
 ·exact False.elim q
end
end PU
namespace BF
def lexLt:List Nat->List Nat->Bool
 | x::xs,y::ys=>if x=y then lexLt xs ys else decide (x<y)
 | _,_=>false
def lt(a b:List Nat):Prop:=a.length<b.length\/(a.length=b.length/\lexLt a b=true)
theorem zmb:∀{a b c:List Nat},lexLt a b=true->lexLt b c=true->lexLt a c=true
 | [],_,_,h,_=>by simp[lexLt] at h
 | x::xs,[],_,h,_=>by simp[lexLt] at h
 | x::xs,y::ys,[],_,h=>by simp[lexLt] at h
 | x::xs,y::ys,z::zs,h1,h2=>by
  simp only[lexLt] at h1 h2 ⊢
  by_cases e1:x=y
  ·subst e1
   rw[if_pos rfl] at h1
   by_cases e2:x=z
   ·subst e2
    rw[if_pos rfl] at h2 ⊢
    exact zmb h1 h2
   ·rw[if_neg e2] at h2 ⊢
    exact h2
  ·rw[if_neg e1] at h1
   by_cases e2:y=z
   ·subst e2
    rw[if_neg e1]
    exact h1
   ·rw[if_neg e2] at h2
    simp at h1 h2
    rw[if_neg (by omega)]
    simp
    omega
theorem lt_trans{a b c:List Nat}(h1:lt a b)(h2:lt b c):lt a c:=by
 unfold lt at *
 rcases h1 with h1 | ⟨h1,e1⟩ <;> rcases h2 with h2 | ⟨h2,e2⟩
 ·exact .inl (by omega)
 ·exact .inl (by omega)
 ·exact .inl (by omega)
 ·exact .inr ⟨by omega,zmb e1 e2⟩
theorem zos(i j:Nat)(h:i<j):∀r:List Nat,lexLt (r++[i]) (r++[j])=true
 | []=>by simp[lexLt,h];omega
 | x::r=>by
  show (if x=x then _ else _)=true
  rw[if_pos rfl]
  exact zos i j h r
theorem zrq(r:List Nat)(i j:Nat)(h:i<j):lt (r++[i]) (r++[j]):=.inr ⟨by simp,zos i j h r⟩
theorem zor(i j:Nat):∀a b:List Nat,a.length=b.length->lexLt a b=true->lexLt (a++[i]) (b++[j])=true
 | [],_,_,h=>by simp[lexLt] at h
 | x::xs,[],h,_=>by simp at h
 | x::xs,y::ys,hl,h=>by
  simp only[lexLt,List.cons_append] at h ⊢
  by_cases e:x=y
  ·rw[if_pos e] at h ⊢
   exact zor i j xs ys (by simpa using hl) h
  ·rw[if_neg e] at h ⊢
   exact h
theorem zrp{a b:List Nat}(i j:Nat)(h:lt a b):lt (a++[i]) (b++[j]):=by
 rcases h with h | ⟨h,e⟩
 ·exact .inl (by simp;omega)
 ·exact .inr ⟨by simp[h],zor i j a b h e⟩
theorem zro{S:Type}[DecidableEq S]:∀(l U:List S),l.Nodup->(∀x∈l,x∈U)->l.length<=U.length
 | [],_,_,_=>Nat.zero_le _
 | x::l,U,nd,h=>by
  have nd':=List.nodup_cons.mp nd
  have hx:x∈U:=h x (by simp)
  have:=zro l (U.erase x) nd'.2 fun y hy=>by
   have hne:y≠x:=fun e=>nd'.1 (e▸hy)
   exact(List.mem_erase_of_ne hne).mpr (h y (by simp[hy]))
  rw[List.length_erase_of_mem hx] at this
  have:=List.length_pos_of_mem hx
  simp
  omega
section
variable{S : Type}[DecidableEq S](lead : S → Nat → S)
abbrev Row(S:Type):=S×List Nat
def inn(near:Row S)(found:List (Row S))(i:Nat):List (Row S):=if lead near.1 i∈found.map (·.1) then found else found++[(lead near.1 i,near.2++[i])]
def sweep(near:Row S)(found:List (Row S)):List (Row S):=(List.range 13).foldl (inn lead near) found
def bfs:Nat->Nat->List (Row S)->List (Row S)
 | 0,_,found=>found
 | n+1,d,found=>match found[d]? with
  | some near=>bfs n (d+1) (sweep lead near found)
  | none=>found
def run(s0:S)(row:List Nat):S:=row.foldl lead s0
variable(s0 : S)
structure Inv(found:List (Row S)):Prop where
 h0:∃tl,found=(s0,[])::tl
 nd:(found.map (·.1)).Nodup
 srt:found.Pairwise fun a b=>lt a.2 b.2
 run:∀p∈found,run lead s0 p.2=p.1
 rng:∀p∈found,∀i∈p.2,i<13
 len:∀(j:Nat)(p:Row S),found[j]?=some p->p.2.length<=j
def Cl(found:List (Row S))(p:Row S)(i:Nat):Prop:=∃q∈found,q.1=lead p.1 i/\(q.2=p.2++[i]\/lt q.2 (p.2++[i]))
theorem zyv(near:Row S)(found:List (Row S))(i:Nat):∃tl,inn lead near found i=found++tl:=by
 unfold inn
 split
 ·exact⟨[],by simp⟩
 ·exact⟨_,rfl⟩
theorem Cl.mono{found tl:List (Row S)}{p:Row S}{i:Nat}(h:Cl lead found p i):Cl lead (found++tl) p i:=by
 obtain⟨q,hq,h1,h2⟩:=h
 exact⟨q,by simp[hq],h1,h2⟩
theorem Zb8{found:List (Row S)}{d:Nat}{near:Row S}{i:Nat}(hi:i<13)(I:Inv lead s0 found)(hd:found[d]?=some near)(top:∀p∈found,lt p.2 (near.2++[i])) :
  Inv lead s0 (inn lead near found i)/\(inn lead near found i)[d]?=some near/\(∀p∈inn lead near found i,lt p.2 (near.2++[i+1]))/\Cl lead (inn lead near found i) near i:=by
 have hdl:d<found.length:=(List.getElem?_eq_some_iff.mp hd).1
 have nm:near∈found:=List.mem_of_getElem? hd
 have up:∀p∈found,lt p.2 (near.2++[i+1]):=fun p hp=>lt_trans (top p hp) (zrq near.2 i (i+1) (by omega))
 unfold inn
 split
 ·rename_i hm
  obtain⟨q,hq,e⟩:=List.mem_map.mp hm
  exact⟨I,hd,up,q,hq,e,.inr (top q hq)⟩
 ·rename_i hm
  refine⟨⟨?_,?_,?_,?_,?_,?_⟩,?_,?_,?_⟩
  ·obtain⟨tl,e⟩:=I.h0
   exact⟨tl++[(lead near.1 i,near.2++[i])],by rw[e];rfl⟩
  ·rw[List.map_append,List.nodup_append]
   refine⟨I.nd,by simp,fun a ha b hb e=>?_⟩
   simp at hb
   subst hb e
   exact hm ha
  ·rw[List.pairwise_append]
   refine⟨I.srt,by simp,fun a ha b hb=>?_⟩
   rw[List.mem_singleton.mp hb]
   exact top a ha
  ·intro p hp
   rcases List.mem_append.mp hp with hp | hp
   ·exact I.run p hp
   ·rw[List.mem_singleton.mp hp]
    show BF.run lead s0 (near.2++[i])=lead near.1 i
    have:=I.run near nm
    unfold BF.run at this ⊢
    rw[List.foldl_append,this]
    rfl
  ·intro p hp j hj
   rcases List.mem_append.mp hp with hp | hp
   ·exact I.rng p hp j hj
   ·rw[List.mem_singleton.mp hp] at hj
    rcases List.mem_append.mp hj with hj | hj
    ·exact I.rng near nm j hj
    ·rw[List.mem_singleton.mp hj];exact hi
  ·intro j p hp
   rw[List.getElem?_append] at hp
   split at hp
   ·exact I.len j p hp
   ·rename_i hj
    have e:=List.mem_singleton.mp (List.mem_of_getElem? hp)
    subst e
    have:=I.len d near hd
    simp
    omega
  ·rw[List.getElem?_append_left hdl];exact hd
  ·intro p hp
   rcases List.mem_append.mp hp with hp | hp
   ·exact up p hp
   ·rw[List.mem_singleton.mp hp]
    exact zrq near.2 i (i+1) (by omega)
  ·exact⟨(lead near.1 i,near.2++[i]),by simp,rfl,.inl rfl⟩
theorem zkw{found:List (Row S)}{d:Nat}{near:Row S}(I:Inv lead s0 found)(hd:found[d]?=some near)(top:∀p∈found,lt p.2 (near.2++[0])):∀n,n<=13->
  ∃tl,(List.range n).foldl (inn lead near) found=found++tl/\Inv lead s0 (found++tl)/\(∀p∈found++tl,lt p.2 (near.2++[n]))/\∀i<n,Cl lead (found++tl) near i
 | 0,_=>⟨[],by simp,by simpa using I,by simpa using top,fun i h=>absurd h (by omega)⟩
 | n+1,hn=>by
  obtain⟨tl,e,I1,t1,c1⟩:=zkw I hd top n (by omega)
  have hdl:d<found.length:=(List.getElem?_eq_some_iff.mp hd).1
  have hd1:(found++tl)[d]?=some near:=by rw[List.getElem?_append_left hdl];exact hd
  obtain⟨I2,hd2,t2,c2⟩:=Zb8 lead s0 (i:=n) (by omega) I1 hd1 t1
  obtain⟨tl2,e2⟩:=zyv lead near (found++tl) n
  refine⟨tl++tl2,?_,?_,?_,?_⟩
  ·rw[List.range_succ,List.foldl_append,e]
   show inn lead near (found++tl) n=_
   rw[e2,List.append_assoc]
  ·rw[← List.append_assoc,← e2];exact I2
  ·rw[← List.append_assoc,← e2];exact t2
  ·intro i hi
   rw[← List.append_assoc]
   rcases Nat.lt_or_ge i n with h | h
   ·exact(c1 i h).mono lead
   ·have:i=n:=by omega
    subst this
    rw[← e2]
    exact c2
theorem zw4(U:List S)(hU:∀found,Inv lead s0 found->∀p∈found,p.1∈U):∀(n d:Nat)(found:List (Row S)),Inv lead s0 found->U.length<d+n->
  (∀(j:Nat)(p:Row S),j<d->found[j]?=some p->∀i<13,Cl lead found p i)->(∀near,found[d]?=some near->∀p∈found,lt p.2 (near.2++[0]))->
  Inv lead s0 (bfs lead n d found)/\(∃tl,bfs lead n d found=found++tl)/\∀p∈bfs lead n d found,∀i<13,Cl lead (bfs lead n d found) p i
 | 0,d,found,I,hn,c,top=>by
  refine⟨I,⟨[],by simp[bfs]⟩,fun p hp i hi=>?_⟩
  have hp:p∈found:=hp
  obtain⟨j,hj⟩:=List.getElem?_of_mem hp
  have hj':=(List.getElem?_eq_some_iff.mp hj).1
  have:=zro (found.map (·.1)) U I.nd fun x hx=>by
   obtain⟨q,hq,e⟩:=List.mem_map.mp hx
   exact e▸hU found I q hq
  simp at this
  exact c j p (by omega) hj i hi
 | n+1,d,found,I,hn,c,top=>by
  unfold bfs
  split
  ·rename_i near hd
   have hdl:d<found.length:=(List.getElem?_eq_some_iff.mp hd).1
   obtain⟨tl,e,I1,t1,c1⟩:=zkw lead s0 I hd (top near hd) 13 (by omega)
   have e:sweep lead near found=found++tl:=e
   rw[e]
   obtain⟨J1,⟨tl2,J2⟩,J3⟩:=zw4 U hU n (d+1) (found++tl) I1 (by omega) (fun j p hj hp i hi=>by
    rcases Nat.lt_or_ge j d with h | h
    ·rw[List.getElem?_append_left (by omega)] at hp
     exact(c j p h hp i hi).mono lead
    ·have hjd:j=d:=by omega
     subst hjd
     rw[List.getElem?_append_left hdl,hd] at hp
     cases hp
     exact c1 i hi) (fun near' hd' p hp=>by
    have h1:lt near.2 near'.2:=by
     have hs:=List.pairwise_iff_getElem.mp I1.srt
     obtain⟨q1,q2⟩:=List.getElem?_eq_some_iff.mp hd'
     have hd1:(found++tl)[d]?=some near:=by rw[List.getElem?_append_left hdl];exact hd
     obtain⟨q3,q4⟩:=List.getElem?_eq_some_iff.mp hd1
     have:=hs d (d+1) q3 q1 (by omega)
     rw[q2,q4] at this
     exact this
    have h2:=t1 p hp
    exact lt_trans h2 (zrp 13 0 h1))
   exact⟨J1,⟨tl++tl2,by rw[J2,List.append_assoc]⟩,J3⟩
  ·rename_i hd
   refine⟨I,⟨[],by simp⟩,fun p hp i hi=>?_⟩
   obtain⟨j,hj⟩:=List.getElem?_of_mem hp
   have hj':=(List.getElem?_eq_some_iff.mp hj).1
   have:=List.getElem?_eq_none_iff.mp hd
   exact c j p (by omega) hj i hi
theorem sweep_keep{found:List (Row S)}{d:Nat}{near:Row S}(I:Inv lead s0 found)(hd:found[d]?=some near)(top:∀p∈found,lt p.2 (near.2++[0])) :
  Inv lead s0 (sweep lead near found)/\(∃tl,sweep lead near found=found++tl)/\∀near',(sweep lead near found)[d+1]?=some near'->∀p∈sweep lead near found,lt p.2 (near'.2++[0]):=by
 have hdl:d<found.length:=(List.getElem?_eq_some_iff.mp hd).1
 obtain⟨tl,e,I1,t1,c1⟩:=zkw lead s0 I hd top 13 (by omega)
 have e:sweep lead near found=found++tl:=e
 rw[e]
 refine⟨I1,⟨tl,rfl⟩,fun near' hd' p hp=>?_⟩
 have h1:lt near.2 near'.2:=by
  have hs:=List.pairwise_iff_getElem.mp I1.srt
  obtain⟨q1,q2⟩:=List.getElem?_eq_some_iff.mp hd'
  have hd1:(found++tl)[d]?=some near:=by rw[List.getElem?_append_left hdl];exact hd
  obtain⟨q3,q4⟩:=List.getElem?_eq_some_iff.mp hd1
  have:=hs d (d+1) q3 q1 (by omega)
  rw[q2,q4] at this
  exact this
 exact lt_trans (t1 p hp) (zrp 13 0 h1)
theorem inv_len(U:List S)(hU:∀found,Inv lead s0 found->∀p∈found,p.1∈U){found:List (Row S)}(I:Inv lead s0 found):found.length<=U.length:=by
 have:=zro (found.map (·.1)) U I.nd fun x hx=>by
  obtain⟨q,hq,e⟩:=List.mem_map.mp hx
  exact e▸hU found I q hq
 simpa using this
theorem inv_P(P:S->Prop)(h0:P s0)(hs:∀s,P s->∀i<13,P (lead s i)):∀found,Inv lead s0 found->∀p∈found,P p.1:=by
 have hr:∀(row:List Nat)(s:S),P s->(∀i∈row,i<13)->P (run lead s row):=by
  intro row
  induction row with
  | nil=>intro s h _;exact h
  | cons i row ih=>intro s h hi;exact ih _ (hs s h i (hi i (by simp))) fun j hj=>hi j (by simp[hj])
 intro found I p hp
 rw[← I.run p hp]
 exact hr p.2 s0 h0 (I.rng p hp)
theorem inv_0:Inv lead s0 [(s0,[])]:=by
 refine⟨⟨[],rfl⟩,by simp,by simp,by simp[run],by simp,fun j p h=>?_⟩
 have:=List.mem_singleton.mp (List.mem_of_getElem? h)
 subst this
 simp
theorem top_0(near:Row S)(h:[((s0,[]):Row S)][0]?=some near):∀p∈[((s0,[]):Row S)],lt p.2 (near.2++[0]):=fun p hp=>by
 have e1:=List.mem_singleton.mp (List.mem_of_getElem? h)
 have e2:=List.mem_singleton.mp hp
 subst e1 e2
 exact .inl (by simp)
theorem bfs_all(U:List S)(n:Nat)(hn:U.length<n)(hU:∀found,Inv lead s0 found->∀p∈found,p.1∈U) :
  Inv lead s0 (bfs lead n 0 [(s0,[])])/\∀p∈bfs lead n 0 [(s0,[])],∀i<13,Cl lead (bfs lead n 0 [(s0,[])]) p i:=by
 obtain⟨J1,_,J3⟩:=zw4 lead s0 U hU n 0 [(s0,[])] (inv_0 lead s0) (by omega) (fun j p h=>absurd h (by omega)) (fun near h=>top_0 s0 near h)
 exact⟨J1,J3⟩
end
end BF
section
namespace PU
open PySem L2
theorem zas{m n:Nat}{g:PSt->R Fl}{ps:List PV}{p:PV}(hl:ps.length=m)(h:g (PU.start n ps)=.ok (.ret p)):runF m n g ps=some p:=by
 unfold runF
 rw[if_pos hl,h]
theorem zvz{α:Type}{xs:List α}{i:Int}(d:α)(h0:0<=i)(h1:i<xs.length):atI xs i=some (xs.getD i.toNat d):=by
 have h2:i.toNat<xs.length:=by omega
 exact zby (n:=i.toNat) (by omega) (by simp[h2])
def mkS(l:List Nat):Str:=⟨l.toArray⟩
theorem zjb(a b:List Nat):mkS a++mkS b=mkS (a++b):=by
 show Str.mk (a.toArray++b.toArray)=_
 simp[mkS]
@[simp] theorem zdq(a:List Nat):(mkS a).length=a.length:=by simp[mkS,Str.length]
@[simp] theorem zfv(a:List Nat):(mkS a).cps.toList=a:=by simp[mkS]
theorem znd(c:Nat):(⟨#[c]⟩:Str)=mkS [c]:=rfl
theorem zdv:("":Str)=mkS []:=by decide +kernel
theorem zu6(l:List Nat)(z:Int)(h0:0<=z)(h1:z<l.length)(hl:l.length<=16777216):gIx (.str (mkS l)) (.int z)=some (.str ⟨#[l.getD z.toNat 0]⟩):=
 zty (by simpa using hl) (by rw[zfv];exact zvz 0 h0 h1)
theorem zgh(x:List Nat)(c:Nat)(hx:x.length<=1000):gAdd (.str (mkS x)) (.str ⟨#[c]⟩)=some (.str (mkS (x++[c]))):=by
 rw[znd,ziz (by simp;omega),zjb]
theorem zqc(xs:List Str):zik (xs.map .str)=some xs:=by
 induction xs with
 | nil=>rfl
 | cons x r ih=>simp[zik,ih]
theorem zz5{s:Str}{xs:List Str}(h:(xs.map (·.length)).sum+xs.length * s.length<=16777216):zsk (.str s) (.lst (xs.map .str))=some (.str (Str.join s xs)):=by
 show (zik (xs.map PV.str)).bind (fun ys=>if (ys.map (·.length)).sum+ys.length * s.length<=16777216 then some (PV.str (Txt.join s ys)) else none)=_
 rw[zqc,Option.bind_some,if_pos h,zu5]
end PU
namespace MT
open PySem L2 PU
inductive Room where
 | menu (text:Str) (keys:List (Str×Str)) (wrong waits:Int×Str)
 | names (text:Str) (words:List (Str×Str)) (wrong waits:Int×Str)
 | hours (spans:List (Int×Int×Str)) (last:Str)
 | hand (text:Str)
 | fin (text:Str)
structure House where
 first:Str
 letters:List (Str×Str)
 rooms:List (Str×Room)
def pv2(p:Str×Str):PV:=.tup [.str p.1,.str p.2]
def pvI(p:Int×Str):PV:=.tup [.int p.1,.str p.2]
def pv3(p:Int×Int×Str):PV:=.tup [.int p.1,.int p.2.1,.str p.2.2]
def Room.pv:Room->PV
 | .menu t ks wr wa=>.tup [.str "menu",.str t,.tup (ks.map pv2),pvI wr,pvI wa]
 | .names t ks wr wa=>.tup [.str "names",.str t,.tup (ks.map pv2),pvI wr,pvI wa]
 | .hours sp l=>.tup [.str "hours",.tup (sp.map pv3),.str l]
 | .hand t=>.tup [.str "hand",.str t]
 | .fin t=>.tup [.str "end",.str t]
def zam(rs:List (Str×Room)):PV:=.dct (rs.map fun r=>.inr r.1) (rs.map fun r=>r.2.pv)
def House.pv (h:House):PV:=.dct [.inr "first",.inr "letters",.inr "rooms"] [.str h.first,.lst (h.letters.map pv2),zam h.rooms]
def num(i:Int):Str:=toString i
abbrev sp:Str:=" "
def zwm(kind name:Str)(wr wa:Int×Str)(t:Str):Str:=kind++(sp++(name++(sp++(num wr.1++(sp++(wr.2++(sp++(num wa.1++(sp++(wa.2++(sp++t)))))))))))
def row3(a b c:Str):Str:=a++(sp++(b++(sp++c)))
def row4(a b c d:Str):Str:=a++(sp++(b++(sp++(c++(sp++d)))))
def zub(name:Str):Room->List Str
 | .menu t ks wr wa=>zwm "menu" name wr wa t::ks.map fun k=>row3 "key" k.1 k.2
 | .names t ks wr wa=>zwm "names" name wr wa t::ks.map fun k=>row3 "name" k.1 k.2
 | .hours sp l=>row3 "hours" name l::sp.map fun s=>row4 "from" (num s.1) (num s.2.1) s.2.2
 | .hand t=>[row3 "hand" name t]
 | .fin t=>[row3 "end" name t]
def House.rows (h:House):List Str:=("first"++(sp++h.first):Str)::(h.letters.map (fun l=>row3 "letters" l.1 l.2)++h.rooms.flatMap fun r=>zub r.1 r.2)
def House.text (h:House):Str:=Str.join "\n" h.rows
end MT
end
namespace PU
open PySem L2
def chZ(fc:PSt->R PV)(g':PV->PV->Option PV)(ρ:PSt)(q:PV):PV->R PV
 | .bl true=>bndK (opP g' q) (fc ρ)
 | .bl false=>.ok (.bl false)
 | _=>.no
def chQ(fc:PSt->R PV)(g g':PV->PV->Option PV)(ρ:PSt)(p q:PV):R PV:=bndK (chZ fc g' ρ q) (R.ofO (g p q))
@[simp] theorem Ze9(fc:PSt->R PV)(g':PV->PV->Option PV)(ρ:PSt)(q:PV):chZ fc g' ρ q (.bl true)=bndK (opP g' q) (fc ρ):=by unfold chZ;exact Eq.refl _
@[simp] theorem Zgx(fc:PSt->R PV)(g':PV->PV->Option PV)(ρ:PSt)(q:PV):chZ fc g' ρ q (.bl false)=.ok (.bl false):=by unfold chZ;exact Eq.refl _
@[simp] theorem Zfa(fc:PSt->R PV)(g g':PV->PV->Option PV)(ρ:PSt)(p q:PV):chQ fc g g' ρ p q=bndK (chZ fc g' ρ q) (R.ofO (g p q)):=by unfold chQ;exact Eq.refl _
@[simp] theorem Zc9{fa fb fc:PSt->R PV}{g g':PV->PV->Option PV}{ρ:PSt}:chain2 fa fb fc g g' ρ=twoK (chQ fc g g' ρ) (fa ρ) (fb ρ):=by
 unfold chain2
 cases fa ρ with
 | ok p=>
  cases fb ρ with
  | ok q=>
   simp only[R.ok_bind,zr1,Zfa]
   cases g p q with
   | none=>rfl
   | some z=>
    simp only[R.ofO_some,R.ok_bind,zh4]
    cases z with
    | bl b=>
     cases b with
     | true=>
      rw[Ze9]
      cases fc ρ <;> rfl
     | false=>rfl
    | _=>rfl
  | _=>rfl
 | _=>cases fb ρ <;> rfl
theorem zii{α:Type}{enc:α->PV}{h:Tgt}{t:PSt->R Bool}{fe:PSt->R PV}{ρ:PSt}(P:α->Bool)(F:α->PV):∀(xs:List α),
  (∀x∈xs,∃ρ1,h (enc x) ρ=some ρ1/\t ρ1=.ok (P x)/\(P x=true->fe ρ1=.ok (F x)))->zdr h t fe ρ (xs.map enc)=.ok ((xs.filter P).map F)
 | [],_=>rfl
 | x::xs,hs=>by
  obtain⟨ρ1,e1,e2,e3⟩:=hs x (List.mem_cons_self ..)
  have ih:=zii P F xs fun y hy=>hs y (List.mem_cons_of_mem _ hy)
  rw[List.map_cons]
  unfold zdr
  rw[e1]
  simp only[R.ofO_some,R.ok_bind,e2]
  cases hp:P x with
  | true=>
   rw[if_pos rfl,e3 hp,List.filter_cons_of_pos hp,List.map_cons]
   simp only[R.ok_bind,ih]
  | false=>
   rw[if_neg Bool.false_ne_true,List.filter_cons_of_neg (by rw[hp];exact Bool.false_ne_true)]
   exact ih
theorem zhh{α:Type}{enc:α->PV}{h:Tgt}{g:PSt->R Fl}(P:α->Bool)(F:α->PV)(I:PSt->Prop)
  (hs:∀(x:α)(ρ:PSt),I ρ->∃ρ1,h (enc x) ρ=some ρ1/\(P x=true->g ρ1=.ok (.ret (F x)))/\(P x=false->∃ρ2,g ρ1=.ok (.next ρ2)/\I ρ2)) :
  ∀(xs:List α)(ρ:PSt),I ρ->(∀x,xs.find? P=some x->forF h g (xs.map enc) ρ=.ok (.ret (F x)))/\(xs.find? P=none->∃ρ',forF h g (xs.map enc) ρ=.ok (.next ρ')/\I ρ')
 | [],ρ,h0=>⟨fun x e=>(by cases e),fun _=>⟨ρ,rfl,h0⟩⟩
 | x::xs,ρ,h0=>by
  obtain⟨ρ1,e1,e2,e3⟩:=hs x ρ h0
  cases hp:P x with
  | true=>
   rw[List.find?_cons_of_pos hp]
   refine⟨fun y e=>?_,fun e=>by cases e⟩
   cases e
   rw[List.map_cons]
   unfold forF
   rw[e1]
   simp only[R.ofO_some,R.ok_bind,e2 hp]
  | false=>
   obtain⟨ρ2,e4,i2⟩:=e3 hp
   obtain⟨k1,k2⟩:=zhh P F I hs xs ρ2 i2
   rw[List.find?_cons_of_neg (by rw[hp];exact Bool.false_ne_true)]
   have e5:forF h g ((x::xs).map enc) ρ=forF h g (xs.map enc) ρ2:=by
    rw[List.map_cons]
    conv=>lhs;unfold forF
    rw[e1]
    simp only[R.ofO_some,R.ok_bind,e4]
   rw[e5]
   exact⟨k1,k2⟩
@[simp] theorem Zdm{n:Nat}{t:PSt->R Bool}{g:PSt->R Fl}{ρ:PSt}:whS n t g ρ=whF t g n ρ:=by unfold whS;exact Eq.refl _
end PU
namespace WO
open PySem L2 PU MT
def sg(c:Nat):PV:=.str ⟨#[c]⟩
theorem zt8(l:List Nat):zfo (mkS l)=l.map sg:=by unfold zfo sg;rw[zfv]
theorem it_mk(l:List Nat):zfw (.str (mkS l))=some (l.map sg):=by rw[← zt8];unfold zfw;exact Eq.refl _
theorem in_one(c:Nat)(l:List Nat):gIn (sg c) (.str (mkS l))=some (.bl (decide (c∈l))):=by
 show some (PV.bl (inS ⟨#[c]⟩ (mkS l)))=_
 have e:=PySem.StrLaws.found_one (mkS l) c
 rw[zfv] at e
 unfold inS
 rw[e]
def keyPv(o:Option Nat):PV:=match o with
 | some k=>sg k
 | none=>.non
def codePv(o:Option (List Nat)):PV:=match o with
 | some c=>.str (mkS c)
 | none=>.non
abbrev Lts:=List (Nat×List Nat)
def ltPv(ls:Lts):PV:=.lst (ls.map fun l=>.tup [sg l.1,.str (mkS l.2)])
def keyL(ls:Lts)(c:Nat):Option Nat:=(ls.find? fun l=>decide (c∈l.2)).map (·.1)
def codeL(ls:Lts)(x:List Nat):Option (List Nat):=if x.all (fun c=>(keyL ls c).isSome)=true then some (x.map fun c=>(keyL ls c).getD 0) else none
theorem zr3:∀l:List Nat,Str.join "" (l.map fun c=>(⟨#[c]⟩:Str))=mkS l
 | []=>by rw[← zdv];rfl
 | [a]=>rfl
 | a::b::r=>by
  have ih:=zr3 (b::r)
  have e:Str.join "" (((a::b::r:List Nat)).map fun c=>(⟨#[c]⟩:Str))=(⟨#[a]⟩:Str)++""++Str.join "" ((b::r).map fun c=>(⟨#[c]⟩:Str)):=rfl
  rw[e,ih,znd,zdv,zjb,zjb]
  rfl
theorem joinV (l:List Nat) (h:l.length<=1000):zsk (.str "") (.lst (l.map sg))=some (.str (mkS l)):=by
 have e:l.map sg=(l.map fun c=>(⟨#[c]⟩:Str)).map PV.str:=by rw[List.map_map];rfl
 rw[e,zz5,zr3]
 rw[List.map_map]
 have:(List.map ((fun x=>x.length) ∘ fun c=>({ cps:=#[c] }:Str)) l)=l.map fun _=>1:=rfl
 rw[this]
 have:("":Str).length=0:=by decide +kernel
 have h2:∀l:List Nat,(l.map fun _=>1).sum=l.length:=fun l=>by
  induction l with
  | nil=>rfl
  | cons a r ih=>simp only[List.map_cons,List.sum_cons,ih,List.length_cons];omega
 rw[h2,this]
 omega
theorem zjz(ls:Lts)(x:List Nat):(x.map fun c=>keyPv (keyL ls c)).all isSc=true:=by
 rw[List.all_eq_true]
 intro p hp
 obtain⟨c,_,rfl⟩:=List.mem_map.mp hp
 cases keyL ls c <;> rfl
theorem none_in(ls:Lts)(x:List Nat):gIn .non (.lst (x.map fun c=>keyPv (keyL ls c)))=some (.bl (!x.all fun c=>(keyL ls c).isSome)):=by
 have e:gIn .non (.lst (x.map fun c=>keyPv (keyL ls c)))=if isSc .non=true/\(x.map fun c=>keyPv (keyL ls c)).all isSc=true then some (.bl (inV (scV .non) ((x.map fun c=>keyPv (keyL ls c)).map scV))) else none:=rfl
 rw[e,if_pos ⟨rfl,zjz ls x⟩]
 congr 2
 clear e
 induction x with
 | nil=>rfl
 | cons c r ih=>
  simp only[List.map_cons,List.all_cons,Bool.not_and,inV,List.any_cons]
  rw[← ih]
  unfold inV
  cases keyL ls c <;> simp[keyPv,sg,scV,eqV]
theorem in_list_comp{α:Type}{enc:α->PV}{h:Tgt}{fe:PSt->R PV}{ρ:PSt}(F:α->PV)(xs:List α)
  (hs:∀x∈xs,∃ρ1,h (enc x) ρ=some ρ1/\fe ρ1=.ok (F x)):zdr h yesB fe ρ (xs.map enc)=.ok (xs.map F):=by
 have e:=zii (t:=yesB) (fun _=>true) F xs fun x hx=>by
  obtain⟨ρ1,a,b⟩:=hs x hx
  exact⟨ρ1,a,zv1,fun _=>b⟩
 rw[List.filter_eq_self.mpr (fun _ _=>rfl)] at e
 exact e
end WO
section
namespace PU
open PySem
theorem zsr{α β:Type}{f:α->List β}{b:Nat}:∀{l:List α},(∀x∈l,(f x).length<=b)->(l.flatMap f).length<=l.length * b
 | [],_=>by simp
 | a::l,h=>by
  have:=zsr (l:=l) fun x hx=>h x (List.mem_cons_of_mem _ hx)
  have h1:=h a (List.mem_cons_self ..)
  simp only[List.flatMap_cons,List.length_append,List.length_cons,Nat.succ_mul]
  omega
end PU
namespace FA
open PySem L2 PU MT
@[simp] theorem zue:(Str.ofString "menu"=Str.ofString "hours")=False:=by decide +kernel
@[simp] theorem zwb:(Str.ofString "menu"=Str.ofString "hand")=False:=by decide +kernel
@[simp] theorem zxp:(Str.ofString "menu"=Str.ofString "end")=False:=by decide +kernel
@[simp] theorem zuc:(Str.ofString "names"=Str.ofString "menu")=False:=by decide +kernel
@[simp] theorem ztp:(Str.ofString "names"=Str.ofString "hours")=False:=by decide +kernel
@[simp] theorem zud:(Str.ofString "names"=Str.ofString "hand")=False:=by decide +kernel
@[simp] theorem zwa:(Str.ofString "names"=Str.ofString "end")=False:=by decide +kernel
@[simp] theorem zuf:(Str.ofString "hours"=Str.ofString "menu")=False:=by decide +kernel
@[simp] theorem ztq:(Str.ofString "hours"=Str.ofString "names")=False:=by decide +kernel
@[simp] theorem zwc:(Str.ofString "hand"=Str.ofString "menu")=False:=by decide +kernel
@[simp] theorem zug:(Str.ofString "hand"=Str.ofString "names")=False:=by decide +kernel
@[simp] theorem zuh:(Str.ofString "hand"=Str.ofString "hours")=False:=by decide +kernel
@[simp] theorem zxq:(Str.ofString "end"=Str.ofString "menu")=False:=by decide +kernel
@[simp] theorem zwd:(Str.ofString "end"=Str.ofString "names")=False:=by decide +kernel
@[simp] theorem zwe:(Str.ofString "end"=Str.ofString "hours")=False:=by decide +kernel
@[simp] theorem zxr:(Str.ofString "end"=Str.ofString "hand")=False:=by decide +kernel
@[simp] theorem zqf:(Str.ofString "first"=Str.ofString "letters")=False:=by decide +kernel
@[simp] theorem ztr:(Str.ofString "first"=Str.ofString "rooms")=False:=by decide +kernel
@[simp] theorem zqe:(Str.ofString "letters"=Str.ofString "rooms")=False:=by decide +kernel
def holds(hour:Int)(s:Int×Int×Str):Bool:=decide (s.1<=hour) && decide (hour<s.2.1)
def handOf(spans:List (Int×Int×Str))(last:Str)(hour:Int):Str:=match spans.find? (holds hour) with
 | some s=>s.2.2
 | none=>last
abbrev Rooms:=List (Str×Room)
def lookR(rs:Rooms)(n:Str):Option Room:=(rs.find? fun r=>decide (r.1=n)).map (·.2)
def names(rs:Rooms):List Str:=rs.map (·.1)
theorem zkl(n:Str):∀rs:Rooms,zca (rs.map fun r=>.inr r.1) (rs.map fun r=>r.2.pv) (.inr n)=(lookR rs n).map Room.pv
 | []=>rfl
 | r::rs=>by
  have ih:=zkl n rs
  unfold lookR at ih ⊢
  by_cases h:r.1=n
  ·simp[h]
  ·simp only[List.map_cons,ziy]
   rw[if_neg (by simpa using h),List.find?_cons_of_neg (by simpa using h)]
   exact ih
theorem ix_rooms(rs:Rooms)(n:Str):gIx (zam rs) (.str n)=(lookR rs n).map Room.pv:=zkl n rs
theorem look_some(rs:Rooms)(n:Str)(h:n∈names rs):∃r,lookR rs n=some r:=by
 unfold lookR
 cases e:rs.find? fun r=>decide (r.1=n) with
 | some r=>exact⟨_,rfl⟩
 | none=>
  obtain⟨r,hr,e2⟩:=List.mem_map.mp h
  exact absurd (List.find?_eq_none.mp e r hr) (by simpa using e2)
theorem keys_rooms(rs:Rooms):zfw (zam rs)=some ((names rs).map .str):=by
 have e:zfw (zam rs)=some ((rs.map fun r=>(Sum.inr r.1:Key)).map keyP):=rfl
 rw[e,List.map_map]
 unfold names
 rw[List.map_map]
 rfl
end FA
end
namespace FA
open PySem L2 PU MT
theorem cut_from{α:Type}(xs:List α)(i:Nat)(h:i<xs.length):cutP xs (some ((i:Int)+1)) none=xs.drop (i+1):=by
 unfold cutP HT.sIx
 simp
 have e1:¬ ((i:Int)+1<0):=by omega
 have e2:((i:Int)+1).toNat=i+1:=by omega
 try simp[e1,e2]
 try rw[Nat.min_eq_left (by omega)]
 try exact List.take_of_length_le (by simp)
end FA
namespace MT
open PySem L2 PU
mutual
def flat:PV->Bool
 | .tup ps=>flats ps
 | .lst ps=>flats ps
 | .dct _ _=>false
 | .dtt _ _=>false
 | .fn _ _=>false
 | _=>true
def flats:List PV->Bool
 | []=>true
 | p::ps=>flat p && flats ps
end
mutual
theorem zk4:∀(p:PV),flat p=true->peqO p p=some true
 | .non,_=>by simp[peqO]
 | .bl _,_=>by simp[peqO]
 | .int _,_=>by simp[peqO]
 | .str _,_=>by simp[peqO]
 | .tup ps,h=>by
  simp only[peqO]
  exact zes ps (by simpa [flat] using h)
 | .lst ps,h=>by
  simp only[peqO]
  exact zes ps (by simpa [flat] using h)
 | .dct _ _,h=>by simp[flat] at h
 | .dtt _ _,h=>by simp[flat] at h
 | .fn _ _,h=>by simp[flat] at h
theorem zes:∀(ps:List PV),flats ps=true->zdh ps ps=some true
 | [],_=>by simp[zdh]
 | p::ps,h=>by
  simp only[flats,Bool.and_eq_true] at h
  simp only[zdh,zk4 p h.1,zes ps h.2,Option.bind_some,Bool.and_self]
end
theorem zhi{α:Type}(f:α->PV)(h:∀x,flat (f x)=true):∀(xs:List α),flats (xs.map f)=true
 | []=>rfl
 | x::xs=>by
  rw[List.map_cons]
  simp only[flats,h x,zhi f h xs,Bool.and_self]
theorem zo5(p:Str×Str):flat (pv2 p)=true:=by simp[pv2,flat,flats]
theorem zvi(p:Int×Int×Str):flat (pv3 p)=true:=by simp[pv3,flat,flats]
theorem zsq(r:Room):flat r.pv=true:=by
 cases r <;> simp[Room.pv,flat,flats,pvI,zhi pv2 zo5,zhi pv3 zvi]
theorem zfs{α:Type}(f:α->PV)(n:Nat)(h:∀x,pdep (f x)<=n):∀(xs:List α),pdeps (xs.map f)<=n
 | []=>by simp[pdeps]
 | x::xs=>by
  rw[List.map_cons]
  simp only[pdeps]
  have:=h x
  have:=zfs f n h xs
  omega
theorem zoh(p:Str×Str):pdep (pv2 p)<=1:=by simp[pv2,pdep,pdeps]
theorem zut(p:Int×Int×Str):pdep (pv3 p)<=1:=by simp[pv3,pdep,pdeps]
theorem zrf(r:Room):pdep r.pv<=3:=by
 have h2:=fun ks=>zfs pv2 1 zoh ks
 have h3:=fun ks=>zfs pv3 1 zut ks
 cases r with
 | menu t ks wr wa=>have:=h2 ks;simp[Room.pv,pdep,pdeps,pvI];omega
 | names t ks wr wa=>have:=h2 ks;simp[Room.pv,pdep,pdeps,pvI];omega
 | hours spans l=>have:=h3 spans;simp[Room.pv,pdep,pdeps];omega
 | hand t=>simp[Room.pv,pdep,pdeps]
 | fin t=>simp[Room.pv,pdep,pdeps]
theorem zop{k:Key}{r:PV}:∀(ks:List Key)(ps:List PV),ks.length=ps.length->k ∉ ks->∀(ls:List Key)(qs:List PV),zca (ks++k::ls) (ps++r::qs) k=some r
 | [],[],_,_,ls,qs=>by simp
 | j::ks,p::ps,hl,hn,ls,qs=>by
  simp only[List.cons_append,ziy]
  rw[if_neg (fun e=>hn (by rw[e];exact List.mem_cons_self))]
  exact zop ks ps (by simpa using hl) (fun h=>hn (List.mem_cons_of_mem _ h)) ls qs
 | [],_::_,h,_,_,_=>by simp at h
 | _::_,[],h,_,_,_=>by simp at h
theorem zji(e:PV->PV->Option Bool):∀(ks₀ ks:List Key)(ps₀ ps:List PV),ks₀.length=ps₀.length->ks.length=ps.length->(ks₀++ks).Nodup->(∀p∈ps,e p p=some true)->zhf e ks ps (ks₀++ks) (ps₀++ps)=some true
 | _,[],_,[],_,_,_,_=>by simp[zhf]
 | ks₀,k::ks,ps₀,p::ps,h0,hl,hn,he=>by
  have hk:k ∉ ks₀:=fun h=>by
   rw[List.nodup_append] at hn
   exact hn.2.2 k h k List.mem_cons_self rfl
  have:=zji e (ks₀++[k]) ks (ps₀++[p]) ps (by simp[h0]) (by simpa using hl) (by simpa using hn) fun q hq=>he q (List.mem_cons_of_mem _ hq)
  simp only[List.append_assoc,List.cons_append,List.nil_append] at this
  unfold zhf
  rw[zop ks₀ ps₀ h0 hk ks ps]
  simp only[he p List.mem_cons_self,Option.bind_some,this,Bool.and_self]
 | _,[],_,_::_,_,h,_,_=>by simp at h
 | _,_::_,_,[],_,h,_,_=>by simp at h
theorem zpz{rs:List (Str×Room)}(h:(rs.map (·.1)).Nodup):(rs.map fun r=>(Sum.inr r.1:Key)).Nodup:=by
 have:(rs.map fun r=>(Sum.inr r.1:Key))=(rs.map (·.1)).map Sum.inr:=by simp
 rw[this]
 exact List.Pairwise.map _ (fun a b hab e=>hab (Sum.inr.inj e)) h
theorem zps(rs:List (Str×Room))(h:(rs.map (·.1)).Nodup):peqN 2 (zam rs) (zam rs)=some true:=by
 unfold zam peqN
 rw[if_pos rfl]
 refine zji (peqN 1) [] _ [] _ rfl (by simp) (zpz h) fun p hp=>?_
 obtain⟨r,_,rfl⟩:=List.mem_map.mp hp
 have h1:=zsq r.2
 cases e:r.2.pv with
 | dct ks ps=>rw[e] at h1;simp[flat] at h1
 | _=>rw[← e];rw[show peqN 1 r.2.pv r.2.pv=peqO r.2.pv r.2.pv by rw[e];rfl];exact zk4 _ h1
theorem zp3(h:House)(nd:(h.rooms.map (·.1)).Nodup):gEq h.pv h.pv=some (.bl true):=by
 have hd:pdeps [.str h.first,.lst (h.letters.map pv2),zam h.rooms]<=60:=by
  have:=zfs pv2 1 zoh h.letters
  have:=zfs (fun r:Str×Room=>r.2.pv) 3 (fun r=>zrf r.2) h.rooms
  simp only[pdeps,pdep,zam]
  omega
 show (if pdeps [.str h.first,.lst (h.letters.map pv2),zam h.rooms]<=60 then (peqN 3 h.pv h.pv).map PV.bl else none)=_
 rw[if_pos hd]
 have:peqN 3 h.pv h.pv=some true:=by
  unfold House.pv peqN
  rw[if_pos rfl]
  refine zji (peqN 2) [] _ [] _ rfl rfl (by simp) fun p hp=>?_
  simp only[List.mem_cons,List.not_mem_nil,or_false] at hp
  rcases hp with rfl | rfl | rfl
  ·show peqO _ _=_
   simp[peqO]
  ·show peqO _ _=_
   exact zk4 _ (by simp[flat,zhi pv2 zo5])
  ·exact zps _ nd
 rw[this]
 rfl
def putR(rs:List (Str×Room))(k:Str)(r:Room):List (Str×Room):=if k∈rs.map (·.1) then rs.map (fun x=>if x.1=k then (x.1,r) else x) else rs++[(k,r)]
theorem zgq(rs:List (Str×Room))(k:Str)(r:Room):putP (rs.map fun r=>.inr r.1) (rs.map fun r=>r.2.pv) (.inr k) r.pv=zam (putR rs k r):=by
 unfold putP putR
 by_cases h:k∈rs.map (·.1)
 ·rw[if_pos h,if_pos (by
   obtain⟨x,hx,e⟩:=List.mem_map.mp h
   rw[List.any_eq_true]
   exact⟨.inr x.1,List.mem_map.mpr ⟨x,hx,rfl⟩,by simp[e]⟩)]
  have e1:(rs.map fun x=>if x.1=k then (x.1,r) else x).map (fun r=>(Sum.inr r.1:Key))=rs.map fun r=>.inr r.1:=by
   rw[List.map_map]
   apply List.map_congr_left
   intro x _
   simp only[Function.comp]
   split <;> rfl
  have e2:zim (rs.map fun r=>.inr r.1) (rs.map fun r=>r.2.pv) (.inr k) r.pv=(rs.map fun x=>if x.1=k then (x.1,r) else x).map fun r=>r.2.pv:=by
   unfold zim
   clear h e1
   induction rs with
   | nil=>rfl
   | cons x rs ih=>
    simp only[List.map_cons,List.zipWith_cons_cons,ih,Sum.inr.injEq]
    congr 1
    split <;> rfl
  unfold zam
  rw[e1,e2]
 ·rw[if_neg h,if_neg (by
   rw[List.any_eq_true]
   rintro⟨j,hj,e⟩
   obtain⟨x,hx,rfl⟩:=List.mem_map.mp hj
   exact h (List.mem_map.mpr ⟨x,hx,by simpa using e⟩))]
  unfold zam
  simp
theorem zxt{rs:List (Str×Room)}{k:Str}{r:Room}(P:Str×Room->Prop)(h:∀x∈rs,P x)(hk:∀x:Str×Room,x.1=k->x.2=r->P x)(nd:(rs.map (·.1)).Nodup) :
  (∀x∈putR rs k r,P x)/\((putR rs k r).map (·.1)).Nodup/\(putR rs k r).length<=rs.length+1:=by
 unfold putR
 by_cases hm:k∈rs.map (·.1)
 ·rw[if_pos hm]
  refine⟨fun x hx=>?_,?_,by simp⟩
  ·obtain⟨y,hy,e⟩:=List.mem_map.mp hx
   by_cases hyk:y.1=k
   ·rw[if_pos hyk] at e
    subst e
    exact hk _ hyk rfl
   ·rw[if_neg hyk] at e
    subst e
    exact h _ hy
  ·rw[List.map_map]
   have:(rs.map ((fun x=>x.1) ∘ fun x=>if x.1=k then (x.1,r) else x))=rs.map (·.1):=by
    apply List.map_congr_left
    intro x _
    simp only[Function.comp]
    split <;> rfl
   rw[this]
   exact nd
 ·rw[if_neg hm]
  refine⟨fun x hx=>?_,?_,by simp⟩
  ·rcases List.mem_append.mp hx with hx | hx
   ·exact h x hx
   ·have:x=(k,r):=by simpa using hx
    subst this
    exact hk _ rfl rfl
  ·rw[List.map_append,List.nodup_append]
   refine⟨nd,by simp,fun a ha b hb e=>?_⟩
   have:b=k:=by simpa using hb
   subst this
   subst e
   exact hm ha
end MT
namespace NM
open PySem L2 PU MT
def c24:List Nat:=[97,99,100,101,102,103,104,105,106,108,109,110,111,112,113,114,115,116,117,118,119,120,121,122]
def Zbd(n:Int):Nat:=(1+n % 8).toNat
def nmAt(n:Int):Int:=n / 8 % (1+n % 8)
def Zbe(n:Int)(t k:Nat):Nat:=c24.getD ((n / ((k:Int)+2)+(t:Int) * (if (k:Int)=nmAt n then 1 else 0)) % 24).toNat 0
def zx7(n:Int)(t i:Nat):List Nat:=(List.range i).map (Zbe n t)
def nm(n:Int)(t:Nat):Str:=mkS (zx7 n t (Zbd n))
theorem Zcz(nms:List Str)(z:Int)(h:0<nms.length):∃x∈nms,atI (nms.map PV.str) (z % (nms.length:Int))=some (.str x):=by
 have h0:0<=z % (nms.length:Int):=Int.emod_nonneg _ (by omega)
 have h1:z % (nms.length:Int)<nms.length:=Int.emod_lt_of_pos _ (by omega)
 have h2:(z % (nms.length:Int)).toNat<nms.length:=by omega
 refine⟨nms[(z % (nms.length:Int)).toNat],List.getElem_mem h2,zby (n:=(z % (nms.length:Int)).toNat) (by omega) ?_⟩
 rw[List.getElem?_map,List.getElem?_eq_getElem h2]
 rfl
theorem at_i(ss:List Str)(i:Nat)(hi:i<ss.length):atI (ss.map PV.str) (i:Int)=some (.str ss[i]):=zby rfl (by
 rw[List.getElem?_map,List.getElem?_eq_getElem hi]
 rfl)
theorem zvg{ps:List PV}(h:∀p∈ps,flat p=true):flats ps=true:=by
 induction ps with
 | nil=>rfl
 | cons a r ih=>simp[flats,h a (List.mem_cons_self ..),ih fun p hp=>h p (List.mem_cons_of_mem _ hp)]
theorem zus{ps:List PV}{n:Nat}(h:∀p∈ps,pdep p<=n):pdeps ps<=n:=by
 induction ps with
 | nil=>simp[pdeps]
 | cons a r ih=>
  have h1:=h a (List.mem_cons_self ..)
  have h2:=ih fun p hp=>h p (List.mem_cons_of_mem _ hp)
  simp only[pdeps]
  omega
theorem zgt(rs:FA.Rooms)(k:Str)(r:Room)(x:Str):x∈FA.names (putR rs k r) ↔ x∈FA.names rs\/x=k:=by
 unfold FA.names putR
 by_cases h:k∈rs.map (·.1)
 ·rw[if_pos h,List.map_map]
  have:(rs.map ((fun x=>x.1) ∘ fun x=>if x.1=k then (x.1,r) else x))=rs.map (·.1):=by
   apply List.map_congr_left
   intro x _
   simp only[Function.comp]
   split <;> rfl
  rw[this]
  exact⟨.inl,fun z=>z.elim id fun e=>e▸h⟩
 ·rw[if_neg h]
  simp
def comeGo(rs:FA.Rooms)(hour:Int):Nat->Str->Option Str
 | 0,_=>none
 | n+1,x=>match FA.lookR rs x with
  | some (.hours sp l)=>comeGo rs hour n (FA.handOf sp l hour)
  | some _=>some x
  | none=>none
theorem zrr(rs:FA.Rooms)(n:Str)(r:Room)(h:FA.lookR rs n=some r):(n,r)∈rs:=by
 unfold FA.lookR at h
 cases e:rs.find? fun r=>decide (r.1=n) with
 | none=>rw[e] at h;cases h
 | some q=>
  rw[e] at h
  cases h
  have h1:=List.find?_some e
  have h1:q.1=n:=by simpa using h1
  subst h1
  exact List.mem_of_find?_eq_some e
end NM
section
namespace PU
open PySem L2
def slQA(p:PV)(lh:Option Int×Option Int):R PV:=R.ofO (gSlA p lh.1 lh.2)
@[simp] theorem Zgs(p:PV)(a b:Option Int):slQA p (a,b)=R.ofO (gSlA p a b):=by unfold slQA;exact Eq.refl _
@[simp] theorem Zc2{f:PSt->R PV}{l h:PSt->R (Option Int)}{ρ:PSt}:zic f l h ρ=twoK slQA (f ρ) (twoK zuv (l ρ) (h ρ)):=by unfold zic;cases f ρ <;> cases l ρ <;> cases h ρ <;> rfl
theorem zxa{x:Str}(lo hi:Option Int)(h:x.length<=16777216):gSlA (.str x) lo hi=some (.str (PySem.Txt.slice x lo hi)):=if_pos h
@[simp] theorem zz0(ps:List PV)(lo hi:Option Int):gSlA (.lst ps) lo hi=some (.lst (cutP ps lo hi)):=rfl
end PU
namespace NM
open PySem L2 PU MT
theorem zcc(ls:List Int)(k:Nat)(hk:k<ls.length):atI (ls.map PV.int) (k:Int)=some (.int ls[k]):=zby rfl (by rw[List.getElem?_map,List.getElem?_eq_getElem hk];rfl)
theorem cut_1{α:Type}(xs:List α)(h:0<xs.length):cutP xs (some 1) none=xs.drop 1:=FA.cut_from xs 0 h
end NM
end
section
namespace PU
open PySem L2 MT
def zipQ:PV->PV->R (List PV)
 | .lst ps,.lst qs=>if (ps.all zgw || qs.all zgw)=true then .ok ((zipP ps qs).map .tup) else .no
 | _,_=>.no
@[simp] theorem Zbr(ps qs:List PV)(h:(ps.all zgw || qs.all zgw)=true):zipQ (.lst ps) (.lst qs)=.ok ((zipP ps qs).map .tup):=by unfold zipQ;exact if_pos h
@[simp] theorem zmo{α:Type}(f:α->Str)(l:List α):(l.map fun x=>PV.str (f x)).all zgw=true:=by induction l <;> simp_all [zgw]
@[simp] theorem Zfs{f g:PSt->R PV}{ρ:PSt}:zipF f g ρ=twoK zipQ (f ρ) (g ρ):=by
 unfold zipF
 cases f ρ with
 | ok p=>
  cases g ρ with
  | ok q=>rw[R.ok_bind,R.ok_bind,zr1];cases p <;> cases q <;> rfl
  | er x=>rfl
  | no=>rfl
 | er x=>rfl
 | no=>rfl
def md2K(fe fd:PSt->R PV)(g:PV->PV->PV->Option PV)(ρ:PSt)(p:PV):R PV:=if zyr p=true then twoK (fun q y=>R.ofO (g p q y)) (fe ρ) (fd ρ) else .no
@[simp] theorem Zge(fe fd:PSt->R PV)(g:PV->PV->PV->Option PV)(ρ:PSt)(ks:List Key)(ps:List PV):md2K fe fd g ρ (.dct ks ps)=twoK (fun q y=>R.ofO (g (.dct ks ps) q y)) (fe ρ) (fd ρ):=by unfold md2K;exact if_pos rfl
@[simp] theorem Zc5{fo fe fd:PSt->R PV}{g:PV->PV->PV->Option PV}{ρ:PSt}:zom fo fe fd g ρ=bndK (md2K fe fd g ρ) (fo ρ):=by
 unfold zom
 cases fo ρ with
 | ok p=>
  rw[R.ok_bind,zh4]
  unfold md2K
  split
  ·cases fe ρ with
   | ok q=>cases fd ρ <;> rfl
   | er x=>rfl
   | no=>rfl
  ·rfl
 | er x=>rfl
 | no=>rfl
theorem zkz(l:List Nat)(n:Nat):PySem.Txt.slice (mkS l) none (some (n:Int))=mkS (l.take n):=by
 have main:∀m:Nat,m<=l.length->PySem.Txt.slice (mkS l) none (some (m:Int))=mkS (l.take m):=fun m hm=>by
  have e:=PySem.StrLaws.sliceText_to (x:=mkS l) (j:=m) ⟨by omega,by rw[zfv];omega⟩
  have e2:PySem.Txt.slice (mkS l) none (some (m:Int))=PySem.StrLaws.sliceText (mkS l) none (some (m:Int)):=rfl
  rw[e2,e,zfv]
  have:((m:Int)-0).toNat=m:=by omega
  rw[this]
  rfl
 by_cases h:n<=l.length
 ·exact main n h
 ·have e:PySem.Txt.slice (mkS l) none (some (n:Int))=PySem.Txt.slice (mkS l) none (some (l.length:Int)):=by
   have e1:Builtin.Str.strSliceIndices none (some (n:Int)) 1 (mkS l).length=Builtin.Str.strSliceIndices none (some (l.length:Int)) 1 (mkS l).length:=by
    rw[zdq]
    unfold Builtin.Str.strSliceIndices
    have a:¬ ((n:Int)<0):=by omega
    have b:¬ ((l.length:Int)<0):=by omega
    have c:max (0:Int) (min (n:Int) (l.length:Int))=max 0 (min (l.length:Int) (l.length:Int)):=by omega
    simp only[a,b,if_false,c,show (1:Int) > 0 from by decide,if_true]
   unfold PySem.Txt.slice
   rw[e1]
  rw[e,main l.length (Nat.le_refl _),List.take_length,List.take_of_length_le (by omega)]
end PU
namespace BG
open PySem L2 PU MT
abbrev W:=List Nat
def pre(p c:W):Bool:=p.isPrefixOf c
theorem zhy{p c:W}:pre p c=true ↔ p <+: c:=List.isPrefixOf_iff_prefix
def many(cs:List W)(p:W):Nat:=(cs.filter (pre p)).length
def own(cs:List W)(c:W):W:=match (List.range (c.length-1)).find? (fun i=>decide (many cs (c.take (i+1))=1)) with
 | some i=>c.take (i+1)
 | none=>c
def Code(c:W):Prop:=∃x:W,c=x++[35]/\35 ∉ x
theorem zvs{c d:W}(hc:Code c)(hd:Code d)(h:c <+: d):c=d:=by
 obtain⟨x,rfl,hx⟩:=hc
 obtain⟨y,rfl,hy⟩:=hd
 obtain⟨t,e⟩:=h
 cases ht:t.reverse with
 | nil=>
  have:t=[]:=by simpa using ht
  rw[this,List.append_nil] at e
  exact e
 | cons a r=>
  exfalso
  have e1:t=r.reverse++[a]:=by
   have:=congrArg List.reverse ht
   simpa using this
  rw[e1,← List.append_assoc] at e
  have e2:=List.append_inj' e rfl
  exact hy (by rw[← e2.1];simp)
theorem zk6(cs:List W)(c:W):own cs c <+: c:=by
 unfold own
 split
 ·exact List.take_prefix _ _
 ·exact List.prefix_refl _
theorem zwi(cs:List W)(c:W)(h:c≠[]):own cs c≠[]:=by
 unfold own
 split
 ·intro e
  cases c with
  | nil=>exact h rfl
  | cons a r=>simp at e
 ·exact h
theorem zrg{cs:List W}(hcs:∀c∈cs,Code c){c d:W}(hc:c∈cs)(hd:d∈cs)(h:own cs c <+: d):c=d:=by
 unfold own at h
 split at h
 ·rename_i i e
  have h1:many cs (c.take (i+1))=1:=by simpa using List.find?_some e
  unfold many at h1
  have m1:c∈cs.filter (pre (c.take (i+1))):=List.mem_filter.mpr ⟨hc,zhy.mpr (List.take_prefix _ _)⟩
  have m2:d∈cs.filter (pre (c.take (i+1))):=List.mem_filter.mpr ⟨hd,zhy.mpr h⟩
  generalize cs.filter (pre (c.take (i+1)))=l at h1 m1 m2
  match l,h1,m1,m2 with
  | [a],_,m1,m2=>rw[List.mem_singleton.mp m1,List.mem_singleton.mp m2]
 ·exact zvs (hcs c hc) (hcs d hd) h
theorem zxw{p q r:W}(hp:p <+: r)(hq:q <+: r):p <+: q\/q <+: p:=by
 rcases Nat.le_total p.length q.length with h | h
 ·exact .inl (List.prefix_of_prefix_length_le hp hq h)
 ·exact .inr (List.prefix_of_prefix_length_le hq hp h)
theorem zrh{cs:List W}(hcs:∀c∈cs,Code c){c d r:W}(hc:c∈cs)(hd:d∈cs)(h1:own cs c <+: r)(h2:own cs d <+: r):c=d:=by
 rcases zxw h1 h2 with h | h
 ·exact zrg hcs hc hd (List.IsPrefix.trans h (zk6 cs d))
 ·exact(zrg hcs hd hc (List.IsPrefix.trans h (zk6 cs c))).symm
def pres(c:W):List W:=(List.range c.length).map fun i=>c.take (i+1)
theorem zs9{l:List W}{p:W}(nd:l.Nodup)(h:p∈l):l.count p=1:=by
 induction l with
 | nil=>cases h
 | cons a r ih=>
  rw[List.nodup_cons] at nd
  by_cases e:a=p
  ·subst e
   rw[List.count_cons_self,List.count_eq_zero.mpr nd.1]
  ·rw[List.count_cons_of_ne e]
   exact ih nd.2 ((List.mem_cons.mp h).resolve_left fun z=>e z.symm)
theorem zp8(c p:W):(pres c).count p=if p≠[]/\p <+: c then 1 else 0:=by
 have nd:(pres c).Nodup:=by
  unfold pres List.Nodup
  rw[List.pairwise_map]
  refine List.Pairwise.imp_of_mem (R:=fun a b=>a<b) (fun {a b} ha hb hab e=>?_) List.pairwise_lt_range
  rw[List.mem_range] at ha hb
  have:=congrArg List.length e
  rw[List.length_take,List.length_take] at this
  omega
 by_cases h:p≠[]/\p <+: c
 ·rw[if_pos h]
  refine zs9 nd ?_
  unfold pres
  refine List.mem_map.mpr ⟨p.length-1,List.mem_range.mpr ?_,?_⟩
  ·have:=h.2.length_le
   have:p.length≠0:=fun e=>h.1 (List.length_eq_zero_iff.mp e)
   omega
  ·have:p.length≠0:=fun e=>h.1 (List.length_eq_zero_iff.mp e)
   rw[show p.length-1+1=p.length by omega]
   exact(List.prefix_iff_eq_take.mp h.2).symm
 ·rw[if_neg h]
  refine List.count_eq_zero.mpr fun hm=>h ?_
  unfold pres at hm
  obtain⟨i,hi,rfl⟩:=List.mem_map.mp hm
  rw[List.mem_range] at hi
  refine⟨fun e=>?_,List.take_prefix _ _⟩
  have:=congrArg List.length e
  rw[List.length_take,List.length_nil] at this
  omega
theorem zta(cs:List W)(p:W)(hp:p≠[]):(cs.flatMap pres).count p=many cs p:=by
 induction cs with
 | nil=>rfl
 | cons c r ih=>
  rw[List.flatMap_cons,List.count_append,ih,zp8]
  unfold many
  by_cases h:p <+: c
  ·rw[if_pos ⟨hp,h⟩,List.filter_cons_of_pos (zhy.mpr h),List.length_cons]
   omega
  ·rw[if_neg fun z=>h z.2,List.filter_cons_of_neg fun z=>h (zhy.mp z)]
   omega
structure Cnt(L:List W)(ks:List Key)(ps:List PV):Prop where
 len:ks.length=ps.length
 le:ks.length<=L.length
 at_:∀p:W,zca ks ps (.inr (mkS p))=if L.count p=0 then none else some (.int (L.count p))
theorem mkS_inj{a b:W}(h:mkS a=mkS b):a=b:=by
 have:=congrArg (fun s:Str=>s.cps.toList) h
 simpa using this
theorem look_put(ks:List Key)(ps:List PV)(k:Key)(v:PV)(hl:ks.length=ps.length):∃ks' ps',putP ks ps k v=.dct ks' ps'/\ks'.length=ps'.length/\ks'.length<=ks.length+1/\∀j,zca ks' ps' j=if k=j then some v else zca ks ps j:=by
 unfold putP
 by_cases hk:(ks.any fun j=>decide (j=k))=true
 ·rw[if_pos hk]
  refine⟨ks,zim ks ps k v,rfl,by simp[zim,hl],by omega,fun j=>?_⟩
  induction ks generalizing ps with
  | nil=>simp at hk
  | cons a ks ih=>
   cases ps with
   | nil=>simp at hl
   | cons b ps=>
    have hl':ks.length=ps.length:=by simpa using hl
    have e:zim (a::ks) (b::ps) k v=(if a=k then v else b)::zim ks ps k v:=rfl
    rw[e]
    simp only[ziy]
    by_cases haj:a=j
    ·rw[if_pos haj,if_pos haj]
     by_cases hkj:k=j
     ·rw[if_pos (haj.trans hkj.symm),if_pos hkj]
     ·rw[if_neg fun z=>hkj (z.symm.trans haj),if_neg hkj]
    ·rw[if_neg haj,if_neg haj]
     by_cases hk2:(ks.any fun j=>decide (j=k))=true
     ·exact ih ps hl' hk2
     ·have hak:a=k:=by
       rw[List.any_cons] at hk
       simp only[Bool.or_eq_true,decide_eq_true_eq] at hk
       exact hk.resolve_right hk2
      have hkj:¬ k=j:=fun z=>haj (hak.trans z)
      rw[if_neg hkj]
      have:zim ks ps k v=ps:=by
       clear ih hk e hl
       induction ks generalizing ps with
       | nil=>cases ps with
        | nil=>rfl
        | cons=>simp at hl'
       | cons c ks ih=>
        cases ps with
        | nil=>simp at hl'
        | cons d ps=>
         have e:zim (c::ks) (d::ps) k v=(if c=k then v else d)::zim ks ps k v:=rfl
         rw[List.any_cons] at hk2
         simp only[Bool.or_eq_true,decide_eq_true_eq,not_or] at hk2
         rw[e,if_neg hk2.1,ih ps (by simpa using hl') hk2.2]
      rw[this]
 ·rw[if_neg hk]
  refine⟨ks++[k],ps++[v],rfl,by simp[hl],by simp,fun j=>?_⟩
  induction ks generalizing ps with
  | nil=>
   cases ps with
   | nil=>simp[zca]
   | cons=>simp at hl
  | cons a ks ih=>
   cases ps with
   | nil=>simp at hl
   | cons b ps=>
    rw[List.any_cons] at hk
    simp only[Bool.or_eq_true,decide_eq_true_eq,not_or] at hk
    simp only[List.cons_append,ziy]
    by_cases haj:a=j
    ·rw[if_pos haj,if_pos haj,if_neg fun z=>hk.1 (haj.trans z.symm)]
    ·rw[if_neg haj,if_neg haj]
     exact ih ps (by simpa using hl) hk.2
theorem zzg{L:List W}{ks:List Key}{ps:List PV}(c:Cnt L ks ps)(p:W):∃ks' ps',putP ks ps (.inr (mkS p)) (.int ((L.count p:Int)+1))=.dct ks' ps'/\Cnt (L++[p]) ks' ps':=by
 obtain⟨ks',ps',e,h1,h2,h3⟩:=look_put ks ps (.inr (mkS p)) (.int ((L.count p:Int)+1)) c.len
 refine⟨ks',ps',e,h1,by rw[List.length_append,List.length_singleton];have:=c.le;omega,fun q=>?_⟩
 rw[h3,List.count_append]
 by_cases hq:p=q
 ·subst hq
  rw[if_pos rfl,List.count_singleton_self,if_neg (by omega)]
  congr 2
 ·rw[if_neg fun z=>hq (mkS_inj (Sum.inr.inj z)),c.at_ q]
  have:List.count q [p]=0:=List.count_eq_zero.mpr (by simp;exact fun z=>hq z.symm)
  rw[this,Nat.add_zero]
theorem zzh{L:List W}{ks:List Key}{ps:List PV}(c:Cnt L ks ps)(p:W):zp5 (.dct ks ps) (.str (mkS p)) (.int 0)=some (.int (L.count p)):=by
 show some ((zca ks ps (.inr (mkS p))).getD (.int 0))=_
 rw[c.at_ p]
 split
 ·rename_i h
  rw[h]
  rfl
 ·rfl
end BG
end
namespace NW
open PySem L2 PU MT BG
def wstep(p:W)(o:Option PV)(x:W×Str):Option PV:=if x.1=p then some (.str x.2) else if p≠[]/\p <+: x.1 then some .non else o
def Ways(bs:List (W×Str))(p:W):Option PV:=bs.foldl (wstep p) none
def hitB(p:W)(x:W×Str):Bool:=decide (p≠[]) && pre p x.1
theorem zgb{p:W}{x:W×Str}:hitB p x=true ↔ p≠[]/\p <+: x.1:=by simp[hitB,zhy]
theorem zg0(p:W)(hp:p≠[]):∀(bs:List (W×Str))(o:Option PV),bs.foldl (wstep p) o=match (bs.filter (hitB p)).getLast? with
  | none=>o
  | some x=>if x.1=p then some (.str x.2) else some .non
 | [],o=>rfl
 | x::bs,o=>by
  rw[List.foldl_cons,zg0 p hp bs]
  by_cases h:hitB p x=true
  ·rw[List.filter_cons_of_pos h]
   have h':=(zgb.mp h)
   have e:wstep p o x=if x.1=p then some (.str x.2) else some .non:=by
    unfold wstep
    rw[if_pos h']
   cases hl:bs.filter (hitB p) with
   | nil=>simp only[List.getLast?_nil,List.getLast?_singleton];exact e
   | cons a r=>
    rw[List.getLast?_cons_cons]
    cases hg:(a::r).getLast? with
    | none=>simp at hg
    | some y=>rfl
  ·rw[List.filter_cons_of_neg h]
   have h':¬ (p≠[]/\p <+: x.1):=fun z=>h (zgb.mpr z)
   have e:wstep p o x=o:=by
    unfold wstep
    rw[if_neg h',if_neg fun e=>h' ⟨hp,by rw[e];exact List.prefix_refl _⟩]
   rw[e]
section
variable{bs : List (W×Str)}(hne : ∀x ∈ bs, x.1 ≠ [])(hpf : ∀x ∈ bs, ∀y ∈ bs, x.1 <+: y.1 → x = y)
include hne hpf
theorem ztv{x:W×Str}(hx:x∈bs):Ways bs x.1=some (.str x.2):=by
 unfold Ways
 rw[zg0 x.1 (hne x hx)]
 have m:x∈bs.filter (hitB x.1):=List.mem_filter.mpr ⟨hx,zgb.mpr ⟨hne x hx,List.prefix_refl _⟩⟩
 cases e:(bs.filter (hitB x.1)).getLast? with
 | none=>rw[List.getLast?_eq_none_iff.mp e] at m;cases m
 | some y=>
  have my:=List.mem_filter.mp (List.mem_of_getLast? e)
  have:=hpf x hx y my.1 (zgb.mp my.2).2
  subst this
  simp
theorem ztu{x:W×Str}(hx:x∈bs){p:W}(hp:p≠[])(h1:p <+: x.1)(h2:p≠x.1):Ways bs p=some .non:=by
 unfold Ways
 rw[zg0 p hp]
 have m:x∈bs.filter (hitB p):=List.mem_filter.mpr ⟨hx,zgb.mpr ⟨hp,h1⟩⟩
 cases e:(bs.filter (hitB p)).getLast? with
 | none=>rw[List.getLast?_eq_none_iff.mp e] at m;cases m
 | some y=>
  have my:=List.mem_filter.mp (List.mem_of_getLast? e)
  have h3:¬ y.1=p:=fun z=>by
   have:y=x:=hpf y my.1 x hx (by rw[z];exact h1)
   exact h2 (by rw[← z,this])
  simp only[if_neg h3]
omit hpf in
theorem zqk{p:W}(h:∀x∈bs,p≠[]->¬ p <+: x.1):Ways bs p=none:=by
 unfold Ways
 by_cases hp:p=[]
 ·subst hp
  have:∀(l:List (W×Str)),(∀x∈l,x.1≠[])->l.foldl (wstep []) none=none:=by
   intro l
   induction l with
   | nil=>intro _;rfl
   | cons x l ih=>
    intro hl
    rw[List.foldl_cons]
    have e:wstep [] none x=none:=by
     unfold wstep
     rw[if_neg (hl x List.mem_cons_self),if_neg (by simp)]
    rw[e]
    exact ih fun y hy=>hl y (List.mem_cons_of_mem _ hy)
  exact this bs hne
 ·rw[zg0 p hp]
  have:bs.filter (hitB p)=[]:=List.filter_eq_nil_iff.mpr fun x hx z=>h x hx hp (zgb.mp z).2
  rw[this]
  rfl
end
structure Tells(ks:List Key)(ps:List PV)(F:W->Option PV):Prop where
 len:ks.length=ps.length
 at_:∀p,zca ks ps (.inr (mkS p))=F p
 nf:∀x∈ps,noFn x=true
theorem zfu:∀ps:List PV,zbq ps=true ↔ ∀p∈ps,noFn p=true
 | []=>by simp[zbq]
 | p::ps=>by
  have e:zbq (p::ps)=(noFn p && zbq ps):=by simp[zbq]
  rw[e,Bool.and_eq_true,zfu ps]
  constructor
  ·rintro⟨h1,h2⟩ q hq
   rcases List.mem_cons.mp hq with rfl | hq
   ·exact h1
   ·exact h2 q hq
  ·intro h
   exact⟨h p (by simp),fun q hq=>h q (by simp[hq])⟩
theorem zqg{k:Key}{v x:PV}:∀(ks:List Key)(ps:List PV),x∈ks.zipWith (fun j q=>if j=k then v else q) ps->x∈ps\/x=v
 | [],_,h=>by simp at h
 | _::_,[],h=>by simp at h
 | j::ks,p::ps,h=>by
  rw[List.zipWith_cons_cons] at h
  rcases List.mem_cons.mp h with h | h
  ·by_cases e:j=k
   ·rw[if_pos e] at h;exact .inr h
   ·rw[if_neg e] at h;exact .inl (by simp[h])
  ·rcases zqg ks ps h with h | h
   ·exact .inl (by simp[h])
   ·exact .inr h
theorem zq2{ks ks':List Key}{ps ps':List PV}{k:Key}{v:PV}(e:putP ks ps k v=.dct ks' ps'){x:PV}(hx:x∈ps'):x∈ps\/x=v:=by
 unfold putP at e
 split at e
 ·injection e with e1 e2
  subst e2
  exact zqg ks ps hx
 ·injection e with e1 e2
  subst e2
  simpa using hx
theorem Tells.put{ks:List Key}{ps:List PV}{F:W->Option PV}(h:Tells ks ps F)(p0:W)(v:PV)(hv:noFn v=true):∃ks' ps',putP ks ps (.inr (mkS p0)) v=.dct ks' ps'/\ks'.length<=ks.length+1/\Tells ks' ps' (fun p=>if p0=p then some v else F p):=by
 obtain⟨ks',ps',e,h1,h2,h3⟩:=look_put ks ps (.inr (mkS p0)) v h.len
 refine⟨ks',ps',e,h2,h1,fun p=>?_,fun x hx=>(zq2 e hx).elim (h.nf x) fun z=>z▸hv⟩
 rw[h3,h.at_]
 by_cases hp:p0=p
 ·rw[if_pos hp,if_pos (by rw[hp])]
 ·rw[if_neg hp,if_neg fun z=>hp (mkS_inj (Sum.inr.inj z))]
theorem zoq{k:Key}:∀(ks:List Key)(ps:List PV),ks.length=ps.length->(ks.any fun j=>decide (j=k))=(zca ks ps k).isSome
 | [],[],_=>rfl
 | [],_::_,h=>by simp at h
 | _::_,[],h=>by simp at h
 | j::ks,p::ps,h=>by
  rw[ziy,List.any_cons]
  by_cases e:j=k
  ·simp[e]
  ·rw[if_neg e,zoq ks ps (by simpa using h)]
   simp[e]
theorem Tells.notIn{ks:List Key}{ps:List PV}{F:W->Option PV}(h:Tells ks ps F)(p:W):zgl (.str (mkS p)) (.dct ks ps)=some (.bl (!(F p).isSome)):=by
 have e:zgl (.str (mkS p)) (.dct ks ps)=some (.bl (!(ks.any fun j=>decide (j=.inr (mkS p))))):=rfl
 rw[e,zoq ks ps h.len,h.at_]
theorem Tells.ix{ks:List Key}{ps:List PV}{F:W->Option PV}(h:Tells ks ps F)(p:W):gIx (.dct ks ps) (.str (mkS p))=F p:=h.at_ p
def wtPv(wt:List (W×Str)):PV:=.tup (wt.map fun p=>.tup [.str (mkS p.1),.str p.2])
def wtD(wt:List (W×Str)):PV:=.dct (wt.map fun p=>.inr (mkS p.1)) (wt.map fun p=>.str p.2)
theorem zl2:∀wt:List (W×Str),zif (wt.map fun p=>PV.tup [.str (mkS p.1),.str p.2])=some (wt.map fun p=>(.inr (mkS p.1),.str p.2))
 | []=>rfl
 | p::wt=>by
  rw[List.map_cons,List.map_cons]
  unfold zif
  rw[zl2 wt]
  rfl
theorem zm8{ks:List Key}{ps:List PV}{k:Key}{v:PV}(h:k ∉ ks):putP ks ps k v=.dct (ks++[k]) (ps++[v]):=by
 unfold putP
 rw[if_neg]
 ·simpa using h
theorem zsp:∀(wt:List (W×Str))(ks:List Key)(ps:List PV),((wt.map (·.1)).Nodup)->(∀p∈wt,(.inr (mkS p.1):Key) ∉ ks)->(wt.map fun p=>((.inr (mkS p.1):Key),PV.str p.2)).foldl addP (.dct ks ps)=.dct (ks++wt.map fun p=>.inr (mkS p.1)) (ps++wt.map fun p=>.str p.2)
 | [],ks,ps,_,_=>by simp
 | p::wt,ks,ps,nd,hk=>by
  rw[List.map_cons,List.foldl_cons]
  have e:addP (.dct ks ps) (.inr (mkS p.1),.str p.2)=.dct (ks++[.inr (mkS p.1)]) (ps++[.str p.2]):=zm8 (hk p List.mem_cons_self)
  rw[e,zsp wt _ _ (List.nodup_cons.mp nd).2]
  ·simp
  ·intro q hq z
   rcases List.mem_append.mp z with z | z
   ·exact hk q (List.mem_cons_of_mem _ hq) z
   ·have z:=Sum.inr.inj (List.mem_singleton.mp z)
    have z:=mkS_inj z
    exact(List.nodup_cons.mp nd).1 (List.mem_map.mpr ⟨q,hq,z⟩)
theorem zs3(wt:List (W×Str))(hl:wt.length<=1000)(nd:(wt.map (·.1)).Nodup):zmk (wtPv wt)=some (wtD wt):=by
 have e:zmk (wtPv wt)=if (wt.map fun p=>PV.tup [.str (mkS p.1),.str p.2]).length<=1000 then (zif (wt.map fun p=>PV.tup [.str (mkS p.1),.str p.2])).map zeu else none:=rfl
 rw[e,if_pos (by simpa using hl),zl2]
 show some (zeu _)=_
 have m:∀l,zeu l=l.foldl addP (.dct [] []):=fun l=>rfl
 rw[m,zsp wt [] [] nd (by simp)]
 simp[wtD]
theorem zyd(wt:List (W×Str)):zmi (wtD wt)=some (.lst (wt.map fun p=>.str (mkS p.1))):=by
 show some (PV.lst ((wt.map fun p=>(.inr (mkS p.1):Key)).map keyP))=_
 rw[List.map_map]
 rfl
theorem zt5(wt:List (W×Str))(nd:(wt.map (·.1)).Nodup){p:W×Str}(hp:p∈wt):zca (wt.map fun p=>.inr (mkS p.1)) (wt.map fun p=>.str p.2) (.inr (mkS p.1))=some (.str p.2):=by
 induction wt with
 | nil=>cases hp
 | cons q wt ih=>
  rw[List.map_cons,List.map_cons,ziy]
  rcases List.mem_cons.mp hp with rfl | h
  ·rw[if_pos rfl]
  ·have nd':=List.nodup_cons.mp nd
   rw[if_neg fun z=>nd'.1 (List.mem_map.mpr ⟨p,h,(mkS_inj (Sum.inr.inj z)).symm⟩)]
   exact ih nd'.2 h
theorem zmf{α β:Type}(f:α->β):∀(l:List α),(l.map f).Nodup->∀x∈l,∀y∈l,f x=f y->x=y
 | [],_,x,hx,_,_,_=>by cases hx
 | a::l,nd,x,hx,y,hy,e=>by
  rw[List.map_cons,List.nodup_cons] at nd
  rcases List.mem_cons.mp hx with h1 | h1
  ·rcases List.mem_cons.mp hy with h2 | h2
   ·rw[h1,h2]
   ·exact absurd (List.mem_map.mpr ⟨y,h2,by rw[← e,h1]⟩) nd.1
  ·rcases List.mem_cons.mp hy with h2 | h2
   ·exact absurd (List.mem_map.mpr ⟨x,h1,by rw[e,h2]⟩) nd.1
   ·exact zmf f l nd.2 x h1 y h2 e
end NW
namespace PU
open PySem L2
theorem zn6{m n:Nat}{g:PSt->R Fl}{ps:List PV}{p:PV}(hl:ps.length=m)(h:g (PU.start n ps)=.ok (.ret p)):runN m n g ps=some p:=by
 unfold runN
 rw[if_pos hl,h]
@[simp] theorem Zdo(p:PV)(ρ:PSt):retO 0 (.own p::ρ)=.ok (.ret p):=by unfold retO;exact Eq.refl _
@[simp] theorem Zdn(i:Nat)(l:Sl)(ρ:PSt):retO (i+1) (l::ρ)=retO i ρ:=by unfold retO;rw[List.getElem?_cons_succ]
end PU
namespace K31
open PySem L2 PU
noncomputable section
abbrev PT:Addr:=152
abbrev tw (w:World):TW:={ w:=w,tabs:=[PT],qual:=fun _ _=>"places.<locals>.<lambda>" }
def c_CODE_END:PV:=(.str "#")
def c_SIGNS:PV:=(.str "0123456789*#w")
def c_WAIT:PV:=(.str "w")
def zeb:PSt->R Fl:=(seqF (appF 2 (bin2 (getV 3) (kI 5040) gMod)) (setF 3 (bin2 (getV 3) (kI 5040) gDiv)))
def zea:PSt->R Fl:=(seqF (setF 3 (bin2 (bin2 (bin2 (bin2 (getV 3) (getV 4) gAdd) (kI 1) gAdd) (kI 48271) gMul) (kI 2147483647) gMod)) (appF 2 (bin2 (bin2 (getV 3) (kI 69621) gMul) (kI 2147483629) gMod)))
def zds:PSt->R Fl:=(seqF (ownF 2 (lstF nilA)) (seqF (setF 3 (bin2 (getV 0) (kI 2) gDiv)) (seqF (ifF (truF (bin2 (bin2 (getV 0) (kI 2) gMod) (kI 1) gEq)) (seqF (forS (rng1 (getV 1)) (zan 4) zeb) (frzS 2 (retF (getV 2)))) zcq) (seqF (setF 3 (bin2 (getV 3) (kI 2147483647) gMod)) (seqF (forS (rng1 (bin2 (getV 1) (kI 1) gAdd)) (zan 4) zea) (retF (zlu (getO 2) (zj6 (kI 1)) zgi)))))))
def zau:List PV->Option PV:=runF 2 5 zds
def zdx:PSt->R Fl:=(setF 7 (bin2 (getV 7) (bin2 (getV 1) (bin2 (bin2 (bin2 (getV 2) (getV 8) gIx) (bin2 (bin2 (kI 3) (getV 6) gMul) (un1 (bin2 (getV 8) (getV 4) gEq) gInt) gMul) gAdd) (kI 20) gMod) gIx) gAdd))
def zdw:PSt->R Fl:=(seqF (setF 7 (kS "")) (seqF (forS (rng1 (getV 3)) (zan 8) zdx) (appF 5 (getV 7))))
def zgu:PSt->R Fl:=(seqF (setF 1 (kS "bcdfghjlmnpqrstvwxyz")) (seqF (setF 2 (za0 (zab (getV 0) (zab (kI 10) nilA)) zau)) (seqF (setF 3 (bin2 (kI 1) (bin2 (bin2 (getV 2) (kI 8) gIx) (kI 8) gMod) gAdd)) (seqF (setF 4 (bin2 (bin2 (getV 2) (kI 9) gIx) (getV 3) gMod)) (seqF (ownF 5 (lstF nilA)) (seqF (forS (rng1 (kI 6)) (zan 6) zdw) (frzS 5 (retF (getV 5)))))))))
def zfc:List PV->Option PV:=runF 1 9 zgu
def za9:PSt->R Fl:=(ifF (andB (truF (bin2 (bin2 (bin2 (getV 3) (getV 5) gIx) (kI 2) gMod) (kI 1) gEq)) (truF (bin2 (un1 (getO 4) gLen) (kI 2) gLt))) (appF 4 (tupF (zab (getV 6) (zab (bin2 (getV 0) (bin2 (bin2 (bin2 (getV 3) (getV 5) gIx) (kI 2) gDiv) (getV 2) gMod) gIx) nilA)))) zcq)
def zb4:PSt->R Fl:=(seqF (setF 3 (za0 (zab (getV 1) (zab (kI 14) nilA)) zau)) (seqF (ownF 4 (lstF nilA)) (seqF (forS (zsz (lstF (zab (kS "ann") (zab (kS "anna") (zab (kS "bo") (zab (kS "bob") (zab (kS "lee") (zab (kS "roe") nilA)))))))) (tupT 2 (za7 (zan 5) (za7 (zan 6) nilT))) za9) (seqF (ifF (truF (bin2 (un1 (getO 4) gLen) (kI 0) gEq)) (appF 4 (tupF (zab (kS "lee") (zab (bin2 (getV 0) (kI 0) gIx) nilA)))) zcq) (seqF (setF 7 (tupF (zab (kI 1) (zab (bin2 (getV 0) (bin2 (bin2 (getV 3) (kI 10) gIx) (getV 2) gMod) gIx) nilA)))) (retF (tupF (zab (kS "names") (zab (kS "Spell") (zab (un1 (getO 4) zmh) (zab (getV 7) (zab (tupF (zab (kI 1) (zab (bin2 (getV 0) (bin2 (bin2 (getV 3) (kI 12) gIx) (getV 2) gMod) gIx) nilA))) nilA))))))))))))
def zbh:List PV->Option PV:=runF 3 8 zb4
def zdt:PSt->R Fl:=(seqF (ifF (truF (bin2 (getV 1) (un1 (getV 0) gLen) gLt)) (retF (bin2 (getV 0) (getV 1) gIx)) zcq) (retF (kI 0)))
def zal:List PV->Option PV:=runF 2 2 zdt
def zeh:PSt->R Fl:=(ifF (truF (bin2 (bin2 (bin2 (getV 4) (getV 6) gIx) (kI 3) gMod) (kI 0) gEq)) (appF 5 (tupF (zab (getV 7) (zab (bin2 (bin2 (zlu (getV 0) zgi (zj6 (getV 3))) (lstF (zab (kS "back") nilA)) gAdd) (bin2 (bin2 (getV 4) (bin2 (getV 6) (kI 12) gAdd) gIx) (bin2 (getV 3) (kI 1) gAdd) gMod) gIx) nilA)))) zcq)
def zh6:PSt->R Fl:=(seqF (setF 4 (za0 (zab (getV 2) (zab (kI 30) nilA)) zau)) (seqF (ownF 5 (lstF nilA)) (seqF (forS (zsz (kS "0123456789*#")) (tupT 2 (za7 (zan 6) (za7 (zan 7) nilT))) zeh) (seqF (setF 8 (tupF (zab (bin2 (kI 1) (bin2 (bin2 (getV 4) (kI 24) gIx) (kI 2) gMod) gAdd) (zab (bin2 (getV 0) (bin2 (bin2 (getV 4) (kI 25) gIx) (getV 3) gMod) gIx) nilA)))) (retF (tupF (zab (kS "menu") (zab (getV 1) (zab (un1 (getO 5) zmh) (zab (getV 8) (zab (tupF (zab (bin2 (kI 1) (bin2 (bin2 (getV 4) (kI 26) gIx) (kI 2) gMod) gAdd) (zab (bin2 (getV 0) (bin2 (bin2 (getV 4) (kI 27) gIx) (getV 3) gMod) gIx) nilA))) nilA)))))))))))
def zgc:List PV->Option PV:=runF 4 9 zh6
def zdy:PSt->R Fl:=(putF 3 (bin2 (getV 1) (getV 4) gIx) (za0 (zab (getV 1) (zab (bin2 (lstF (zab (kS "Hello") (zab (kS "Again") nilA))) (getV 4) gIx) (zab (bin2 (za0 (zab (getV 0) (zab (bin2 (kI 2) (getV 4) gAdd) nilA)) zal) (bin2 (kI 7919) (getV 4) gMul) gAdd) (zab (getV 2) nilA)))) zgc))
def zgv:PSt->R Fl:=(seqF (setF 1 (za0 (zab (za0 (zab (getV 0) (zab (kI 0) nilA)) zal) nilA) zfc)) (seqF (setF 2 (bin2 (lstF (zab (kI 6) (zab (kI 6) (zab (kI 4) nilA)))) (bin2 (za0 (zab (getV 0) (zab (kI 1) nilA)) zal) (kI 3) gMod) gIx)) (seqF (ownF 3 newD) (seqF (forS (rng1 (kI 2)) (zan 4) zdy) (seqF (putF 3 (bin2 (getV 1) (kI 2) gIx) (za0 (zab (getV 1) (zab (za0 (zab (getV 0) (zab (kI 4) nilA)) zal) (zab (getV 2) nilA))) zbh)) (seqF (ifF (truF (bin2 (bin2 (bin2 (za0 (zab (getV 0) (zab (kI 1) nilA)) zal) (kI 3) gDiv) (kI 2) gMod) (kI 1) gEq)) (putF 3 (bin2 (getV 1) (kI 1) gIx) (za0 (zab (getV 1) (zab (bin2 (za0 (zab (getV 0) (zab (kI 3) nilA)) zal) (kI 104729) gAdd) (zab (getV 2) nilA))) zbh)) zcq) (seqF (setF 5 (za0 (zab (za0 (zab (getV 0) (zab (kI 5) nilA)) zal) (zab (kI 5) nilA)) zau)) (seqF (setF 6 (tupF (zab (bin2 (bin2 (getV 5) (kI 0) gIx) (kI 12) gMod) (zab (bin2 (kI 12) (bin2 (bin2 (getV 5) (kI 1) gIx) (kI 13) gMod) gAdd) (zab (bin2 (getV 1) (bin2 (lstF (zab (kI 0) (zab (kI 1) (zab (kI 2) (zab (kI 4) nilA))))) (bin2 (bin2 (getV 5) (kI 2) gIx) (kI 4) gMod) gIx) gIx) nilA))))) (seqF (putF 3 (bin2 (getV 1) (kI 3) gIx) (tupF (zab (kS "hours") (zab (tupF (zab (getV 6) nilA)) (zab (bin2 (getV 1) (bin2 (lstF (zab (kI 0) (zab (kI 1) (zab (kI 2) (zab (kI 5) nilA))))) (bin2 (bin2 (getV 5) (kI 3) gIx) (kI 4) gMod) gIx) gIx) nilA))))) (seqF (ifF (truF (bin2 (getV 2) (kI 4) gEq)) (putF 3 (bin2 (getV 1) (kI 3) gIx) (tupF (zab (kS "hours") (zab (tupF nilA) (zab (bin2 (getV 1) (bin2 (bin2 (getV 5) (kI 3) gIx) (kI 3) gMod) gIx) nilA))))) zcq) (seqF (putF 3 (bin2 (getV 1) (kI 4) gIx) (tupF (zab (kS "hand") (zab (kS "Ann") nilA)))) (seqF (putF 3 (bin2 (getV 1) (kI 5) gIx) (tupF (zab (kS "end") (zab (kS "Bye") nilA)))) (seqF (setF 7 (lstF (zab (tupF (zab (kS "2") (zab (kS "abc") nilA))) (zab (tupF (zab (kS "3") (zab (kS "def") nilA))) (zab (tupF (zab (kS "5") (zab (kS "jkl") nilA))) (zab (tupF (zab (kS "6") (zab (kS "mno") nilA))) (zab (tupF (zab (kS "7") (zab (kS "pqrs") nilA))) nilA))))))) (frzS 3 (retF (zvq (zp9 (kS "first") (bin2 (getV 1) (bin2 (bin2 (getV 5) (kI 4) gIx) (getV 2) gMod) gIx) (zp9 (kS "letters") (getV 7) (zp9 (kS "rooms") (getV 3) nilD)))))))))))))))))))
def zd9:List PV->Option PV:=runF 1 8 zgv
def zey:PSt->R Fl:=(ifF (truF (chain2 (getV 2) (getV 1) (getV 3) gLe gLt)) (retF (getV 4)) zcq)
def ziu:PSt->R Fl:=(seqF (forS (itF (bin2 (getV 0) (kI 1) gIx)) (tupT 3 (za7 (zan 2) (za7 (zan 3) (za7 (zan 4) nilT)))) zey) (retF (bin2 (getV 0) (kI 2) gIx)))
def ziw:List PV->Option PV:=runF 2 5 ziu
def zff:PSt->R Fl:=(setF 3 (za0 (zab (bin2 (bin2 (getV 0) (kS "rooms") gIx) (getV 3) gIx) (zab (getV 1) nilA)) ziw))
def zjm:PSt->R Fl:=(seqF (setF 3 (getV 2)) (seqF (whS 300 (truF (bin2 (bin2 (bin2 (bin2 (getV 0) (kS "rooms") gIx) (getV 3) gIx) (kI 0) gIx) (kS "hours") gEq)) zff) (retF (getV 3))))
def zhl:List PV->Option PV:=runF 3 4 zjm
def zjo:PSt->R Fl:=(retF (tupF (zab (za0 (zab (getV 0) (zab (getV 1) (zab (getV 2) nilA))) zhl) (zab (getV 3) (zab (kI 0) (zab (kI 0) (zab (kS "") nilA)))))))
def zb5:List PV->Option PV:=runF 4 4 zjo
def znk:PSt->R Fl:=(retF (za0 (zab (getV 0) (zab (getV 1) (zab (bin2 (getV 0) (kS "first") gIx) (zab (kS "") nilA)))) zb5))
def zcr:List PV->Option PV:=runF 2 2 znk
def zde:PSt->R Fl:=(seqF (setF 3 (bin2 (bin2 (bin2 (getV 0) (kS "rooms") gIx) (bin2 (getV 2) (kI 0) gIx) gIx) (kI 3) gIx)) (seqF (setF 4 (bin2 (bin2 (getV 2) (kI 2) gIx) (kI 1) gAdd)) (seqF (ifF (truF (bin2 (getV 4) (bin2 (getV 3) (kI 0) gIx) gEq)) (retF (za0 (zab (getV 0) (zab (getV 1) (zab (bin2 (getV 3) (kI 1) gIx) (zab (bin2 (getV 2) (kI 0) gIx) nilA)))) zb5)) zcq) (retF (tupF (zab (bin2 (getV 2) (kI 0) gIx) (zab (bin2 (getV 2) (kI 1) gIx) (zab (getV 4) (zab (bin2 (getV 2) (kI 3) gIx) (zab (kS "") nilA))))))))))
def zbr:List PV->Option PV:=runF 3 5 zde
def zfa:PSt->R Fl:=(seqF (setF 5 (bin2 (bin2 (getV 3) (kI 4) gIx) (getV 4) gAdd)) (seqF (ifF (truF (bin2 (getV 5) (getV 2) zgl)) (retF (za0 (zab (getV 0) (zab (getV 1) (zab (getV 3) nilA))) zbr)) zcq) (seqF (setF 6 (ifV (truF (bin2 (bin2 (getV 2) (getV 5) gIx) (kS "back") gEq)) (bin2 (getV 3) (kI 1) gIx) (bin2 (getV 2) (getV 5) gIx))) (seqF (ifF (truF (bin2 (getV 6) kN gIsN)) (retF (tupF (zab (bin2 (getV 3) (kI 0) gIx) (zab (bin2 (getV 3) (kI 1) gIx) (zab (bin2 (getV 3) (kI 2) gIx) (zab (bin2 (getV 3) (kI 3) gIx) (zab (getV 5) nilA))))))) zcq) (seqF (ifF (truF (bin2 (getV 6) (kS "") gEq)) (retF (za0 (zab (getV 0) (zab (getV 1) (zab (getV 3) nilA))) zbr)) zcq) (retF (za0 (zab (getV 0) (zab (getV 1) (zab (getV 6) (zab (bin2 (getV 3) (kI 0) gIx) nilA)))) zb5)))))))
def zdu:List PV->Option PV:=runF 5 7 zfa
def zhg:PSt->R Fl:=(seqF (setF 3 (bin2 (bin2 (bin2 (getV 0) (kS "rooms") gIx) (bin2 (getV 2) (kI 0) gIx) gIx) (kI 4) gIx)) (seqF (setF 4 (bin2 (bin2 (getV 2) (kI 3) gIx) (kI 1) gAdd)) (seqF (ifF (truF (bin2 (getV 4) (bin2 (getV 3) (kI 0) gIx) gEq)) (retF (za0 (zab (getV 0) (zab (getV 1) (zab (bin2 (getV 3) (kI 1) gIx) (zab (bin2 (getV 2) (kI 0) gIx) nilA)))) zb5)) zcq) (retF (tupF (zab (bin2 (getV 2) (kI 0) gIx) (zab (bin2 (getV 2) (kI 1) gIx) (zab (bin2 (getV 2) (kI 2) gIx) (zab (getV 4) (zab (kS "") nilA))))))))))
def zhm:List PV->Option PV:=runF 3 5 zhg
def zef:PSt->R Fl:=(seqF (setF 5 (bin2 (bin2 (bin2 (getV 0) (kS "rooms") gIx) (bin2 (getV 3) (kI 0) gIx) gIx) (kI 0) gIx)) (seqF (ifF (orB (truF (bin2 (getV 5) (kS "hand") gEq)) (truF (bin2 (getV 5) (kS "end") gEq))) (retF (getV 3)) zcq) (seqF (ifF (truF (bin2 (getV 4) (kP c_WAIT) gEq)) (retF (za0 (zab (getV 0) (zab (getV 1) (zab (getV 3) nilA))) zhm)) zcq) (retF (za0 (zab (getV 0) (zab (getV 1) (zab (getV 2) (zab (getV 3) (zab (getV 4) nilA))))) zdu)))))
def zb9:List PV->Option PV:=runF 5 6 zef
def zj8:Expr:=zv8 1 (.Constant .none 0 ⟨0,0,0,0⟩) ((zar (PySem.Challenge.pw_menutree_k31_whole_places.main.body.getD 27 (.Pass ⟨0,0,0,0⟩))).getD 1 (.Pass ⟨0,0,0,0⟩))
def zbz:Lam:=zyg "places.<locals>.<lambda>" ["ways","hour","H"] (zac (PySem.Challenge.pw_menutree_k31_whole_places.main.body.getD 27 (.Pass ⟨0,0,0,0⟩))) zj8
def zge:PSt->R PV:=(za0 (zab (getV 4) (zab (getV 3) (zab (bin2 (getV 2) (bin2 (getV 0) (kI 0) gIx) gIx) (zab (getV 0) (zab (getV 1) nilA))))) zb9)
def zj7:Expr:=zv8 2 (.Constant .none 0 ⟨0,0,0,0⟩) ((zar (PySem.Challenge.pw_menutree_k31_whole_places.main.body.getD 27 (.Pass ⟨0,0,0,0⟩))).getD 1 (.Pass ⟨0,0,0,0⟩))
def zbm:Lam:=zyg "places.<locals>.<lambda>" [] (zac (PySem.Challenge.pw_menutree_k31_whole_places.main.body.getD 27 (.Pass ⟨0,0,0,0⟩))) zj7
def zks:PSt->R PV:=(kB false)
open Classical in
noncomputable def appL(L:Lam)(qs cs:List PV):Option PV:=if L=zbz then lamR 2 zge qs cs else if L=zbm then lamR 1 zks qs cs else none
def zbv:PSt->R Fl:=(putF 1 (zic (getV 2) zgi (zj6 (getV 3))) (bin2 (zom (getO 1) (zic (getV 2) zgi (zj6 (getV 3))) (kI 0) zp5) (kI 1) gAdd))
def zbu:PSt->R Fl:=(forS (rng2 (kI 1) (bin2 (un1 (getV 2) gLen) (kI 1) gAdd)) (zan 3) zbv)
def zc1:PSt->R Fl:=(seqF (ownF 1 newD) (seqF (forS (itF (getV 0)) (zan 2) zbu) (frzS 1 (retF (getV 1)))))
def zbp:List PV->Option PV:=runF 1 4 zc1
def zgg:PSt->R Fl:=(ifF (truF (bin2 (getV 1) (getV 3) gIn)) (retF (getV 2)) zcq)
def zit:PSt->R Fl:=(seqF (forS (itF (getV 0)) (tupT 2 (za7 (zan 2) (za7 (zan 3) nilT))) zgg) (retF kN))
def ziv:List PV->Option PV:=runF 2 4 zit
def zgx:PSt->R PV:=(za0 (zab (getV 1) (zab (getV 0) nilA)) ziv)
def zjn:PSt->R Fl:=(seqF (setF 2 (zjv (itF (getV 1)) (zan 0) yesB zgx 1 [0])) (retF (ifV (truF (bin2 kN (getV 2) gIn)) kN (meth1 (kS "") (getV 2) zsk))))
def zf2:List PV->Option PV:=runF 2 3 zjn
def zci:PSt->R Fl:=(ifF (truF (bin2 (bin2 (getV 1) (zic (getV 0) zgi (zj6 (getV 2))) gIx) (kI 1) gEq)) (retF (zic (getV 0) zgi (zj6 (getV 2)))) zcq)
def zc0:PSt->R Fl:=(seqF (forS (rng2 (kI 1) (un1 (getV 0) gLen)) (zan 2) zci) (retF (getV 0)))
def zc2:List PV->Option PV:=runF 2 3 zc0
def zej:PSt->R PV:=(bin2 (za0 (zab (getV 1) (zab (getV 0) nilA)) zf2) (kP c_CODE_END) gAdd)
def zei:PSt->R PV:=(tupF (zab (getV 0) (zab (za0 (zab (getV 1) (zab (getV 2) nilA)) zc2) nilA)))
def zf1:PSt->R Fl:=(seqF (setF 2 (zjv (itF (getV 1)) (zan 0) yesB zej 1 [0])) (seqF (setF 3 (za0 (zab (getV 2) nilA) zbp)) (retF (zjv (zipF (getV 1) (getV 2)) (tupT 2 (za7 (zan 0) (za7 (zan 1) nilT))) yesB zei 2 [3]))))
def zdk:List PV->Option PV:=runF 2 4 zf1
def zcm:PSt->R Fl:=(putF 2 (zic (getV 4) zgi (zj6 (getV 5))) kN)
def zcl:PSt->R Fl:=(seqF (forS (rng2 (kI 1) (un1 (getV 4) gLen)) (zan 5) zcm) (putF 2 (getV 4) (bin2 (getV 1) (getV 3) gIx)))
def zfy:PSt->R Fl:=(seqF (ownF 2 newD) (seqF (forS (itF (za0 (zab (getV 0) (zab (un1 (getV 1) zmi) nilA)) zdk)) (tupT 2 (za7 (zan 3) (za7 (zan 4) nilT))) zcl) (frzS 2 (retF (getV 2)))))
def zeg:List PV->Option PV:=runF 2 6 zfy
def zdb:PSt->R Fl:=(seqF (setF 2 (bin2 (bin2 (getV 0) (kS "rooms") gIx) (getV 1) gIx)) (seqF (ifF (truF (bin2 (bin2 (getV 2) (kI 0) gIx) (kS "menu") gEq)) (retF (un1 (bin2 (getV 2) (kI 2) gIx) zmk)) zcq) (seqF (ifF (truF (bin2 (bin2 (getV 2) (kI 0) gIx) (kS "names") gEq)) (retF (za0 (zab (bin2 (getV 0) (kS "letters") gIx) (zab (un1 (bin2 (getV 2) (kI 2) gIx) zmk) nilA)) zeg)) zcq) (retF newD))))
def zat:List PV->Option PV:=runF 2 3 zdb
def zek:PSt->R Fl:=(putF 1 (getV 2) (za0 (zab (getV 0) (zab (getV 2) nilA)) zat))
def zfz:PSt->R Fl:=(seqF (ownF 1 newD) (seqF (forS (itF (bin2 (getV 0) (kS "rooms") gIx)) (zan 2) zek) (frzS 1 (retF (getV 1)))))
def zb2:List PV->Option PV:=runF 1 3 zfz
def zbs:PSt->R Fl:=(seqF (setF 8 (zjx 1 (zab (bin2 (getV 6) (kI 0) gIx) (zab (getV 7) nilA)) appL)) (ifF (truF (bin2 (getV 8) (getO 3) zfb)) (seqF (zj1 3 (getV 8) (kB true)) (seqF (appF 4 (tupF (zab (getV 8) (zab (bin2 (bin2 (getV 6) (kI 1) gIx) (getV 7) gAdd) nilA)))) (ifF (truF (zjx 2 (zab (getV 8) nilA) appL)) brkF zcq))) zcq))
def zcn:PSt->R Fl:=(seqF (setF 6 (bin2 (getO 4) (getV 5) gIx)) (seqF (augF 5 (kI 1)) (forS (itF (kP c_SIGNS)) (zan 7) zbs)))
def zf0:PSt->R Fl:=(seqF (ownF 3 (zvp (getV 0) (kB true))) (seqF (ownF 4 (lstF (zab (tupF (zab (getV 0) (zab (kS "") nilA))) nilA))) (seqF (setF 5 (kI 0)) (seqF (whS 20000 (andB (truF (bin2 (getV 5) (un1 (getO 4) gLen) gLt)) (notB (truF (zjx 2 (zab (bin2 (bin2 (getO 4) (un1 (kI 1) gNeg) gIx) (kI 0) gIx) nilA) appL)))) zcn) (retO 4)))))
def zdj:List PV->Option PV:=runN 3 9 zf0
def zld:PSt->R Fl:=(seqF (setF 2 (za0 (zab (getV 0) nilA) zb2)) (retF (zpf (valA (za0 (zab (getV 0) (zab (getV 1) nilA)) zcr) (lamA zbz [2,1,0] (lamA zbm [] nilA))) zdj)))
def zhk:List PV->Option PV:=runF 2 3 zld
def zdd:PSt->R Fl:=(ifF (orB (notB (truF (un1 (getV 1) (gIsi "tuple")))) (orB (truF (bin2 (un1 (getV 1) gLen) (kI 2) gNe)) (notB (truF (un1 (bin2 (getV 1) (kI 1) gIx) (gIsi "str")))))) (retF (kB false)) zcq)
def zd8:PSt->R Fl:=(seqF (ifF (orB (notB (truF (un1 (getV 0) (gIsi "list")))) (truF (bin2 (un1 (getV 0) gLen) (kI 0) gEq))) (retF (kB false)) zcq) (seqF (forS (itF (getV 0)) (zan 1) zdd) (retF (kB true))))
def zc3:List PV->Option PV:=runF 1 2 zd8
def zsj:PSt->R Fl:=(retF (za0 (zab (getV 0) (zab (getV 1) (zab (za0 (zab (getV 0) (zab (bin2 (getV 2) (kI 0) gIx) nilA)) zat) (zab (getV 2) (zab (getV 3) nilA))))) zb9))
def zmq:List PV->Option PV:=runF 4 4 zsj
def zfe:PSt->R Fl:=(appF 5 (za0 (zab (getV 0) (zab (getV 1) (zab (bin2 (getV 4) (bin2 (bin2 (getO 5) (un1 (kI 1) gNeg) gIx) (kI 0) gIx) gIx) (zab (bin2 (getO 5) (un1 (kI 1) gNeg) gIx) (zab (getV 6) nilA))))) zb9))
def zjk:PSt->R Fl:=(seqF (setF 4 (za0 (zab (getV 0) nilA) zb2)) (seqF (ownF 5 (lstF (zab (getV 2) nilA))) (seqF (forS (itF (getV 3)) (zan 6) zfe) (retO 5))))
def zhj:List PV->Option PV:=runN 4 7 zjk
def zwu:PSt->R Fl:=(retF (za0 (zab (getV 0) (zab (getV 1) (zab (za0 (zab (getV 0) (zab (getV 1) nilA)) zcr) (zab (getV 2) nilA)))) zhj))
def zmp:List PV->Option PV:=runF 3 3 zwu
def zfd:PSt->R PV:=(meth1 (kS "0123456789*#w") (getV 0) zmj)
def zjl:PSt->R Fl:=(retF (tupF (zab (un1 (getV 0) gLen) (zab (zjv (itF (getV 0)) (zan 0) yesB zfd 1 []) nilA))))
def zdi:List PV->Option PV:=runF 1 1 zjl
def zh8:PSt->R Fl:=(seqF (ifF (orB (truF (bin2 (getV 6) (getO 4) gInT)) (andB (truF (bin2 (getV 5) (kI 0) gGt)) (truF (bin2 (za0 (zab (bin2 (bin2 (getO 3) (bin2 (getV 5) (kI 1) gSub) gIx) (kI 1) gIx) nilA) zdi) (za0 (zab (getV 7) nilA) zdi) gGeT)))) (retF (kB false)) zcq) (seqF (zj1 4 (getV 6) (getV 7)) (ifF (truF (bin2 (bin2 (za0 (zab (getV 1) (zab (getV 2) (zab (getV 7) nilA))) zmp) (un1 (kI 1) gNeg) gIx) (getV 6) gNe)) (retF (kB false)) zcq)))
def zlm:PSt->R Fl:=(seqF (setF 9 (za0 (zab (getV 1) (zab (getV 2) (zab (getV 6) (zab (getV 8) nilA)))) zmq)) (ifF (orB (truF (bin2 (getV 9) (getO 4) zfb)) (truF (bin2 (za0 (zab (bin2 (getO 4) (getV 9) gIxT) nilA) zdi) (za0 (zab (bin2 (getV 7) (getV 8) gAdd) nilA) zdi) gGtT))) (retF (kB false)) zcq))
def zh7:PSt->R Fl:=(forS (itF (kS "0123456789*#w")) (zan 8) zlm)
def zve:PSt->R Fl:=(seqF (setF 1 (za0 (zab (getV 0) nilA) zd9)) (seqF (setF 2 (bin2 (za0 (zab (getV 0) (zab (kI 6) nilA)) zal) (kI 24) gMod)) (seqF (ownF 3 (za0 (zab (getV 1) (zab (getV 2) nilA)) zhk)) (seqF (ifF (zt4 3 (orB (notB (truF (za0 (zab (getV 3) nilA) zc3))) (truF (bin2 (bin2 (getV 3) (kI 0) gIx) (tupF (zab (za0 (zab (getV 1) (zab (getV 2) nilA)) zcr) (zab (kS "") nilA))) gNe)))) (retF (kB false)) zcq) (seqF (ownF 4 newT) (seqF (forO 3 [5,6,7] numL (tupT 2 (za7 (zan 5) (za7 (tupT 2 (za7 (zan 6) (za7 (zan 7) nilT))) nilT))) zh8) (seqF (forO 3 [6,7,8,9] idL (tupT 2 (za7 (zan 6) (za7 (zan 7) nilT))) zh7) (seqF (setF 10 (un1 (getO 3) zmi)) (seqF (clrF 3) (retF (andV (bin2 (za0 (zab (getV 1) (zab (getV 2) nilA)) zhk) (getV 10) gEq) (bin2 (getV 1) (za0 (zab (getV 0) nilA) zd9) gEq))))))))))))
def zst:List PV->Option PV:=runF 1 11 zve
end
end K31
namespace K31
open PySem L2 PU MT
theorem zzs(ls:WO.Lts)(c:Nat):ziv [WO.ltPv ls,WO.sg c]=some (WO.keyPv (WO.keyL ls c)):=by
 refine zas rfl ?_
 obtain⟨k1,k2⟩:=zhh (enc:=fun l:Nat×List Nat=>PV.tup [WO.sg l.1,.str (mkS l.2)]) (h:=tupT 2 (za7 (zan 2) (za7 (zan 3) nilT))) (g:=zgg) (fun l=>decide (c∈l.2)) (fun l=>WO.sg l.1)
  (I:=fun ρ=>∃a b,ρ=[.val (WO.ltPv ls),.val (WO.sg c),a,b]) (by
   rintro l ρ ⟨a,b,rfl⟩
   have e:=WO.in_one c l.2
   refine⟨_,rfl,fun hp=>?_,fun hp=>⟨_,?_,.val (WO.sg l.1),.val (.str (mkS l.2)),rfl⟩⟩
   ·rw[hp] at e
    simp[zgg,e]
   ·rw[hp] at e
    simp[zgg,e]) ls [.val (WO.ltPv ls),.val (WO.sg c),.no,.no] ⟨_,_,rfl⟩
 have ei:zfw (WO.ltPv ls)=some (ls.map fun l=>PV.tup [WO.sg l.1,.str (mkS l.2)]):=rfl
 cases e:ls.find? (fun l=>decide (c∈l.2)) with
 | some l=>
  have k:=k1 l e
  simp[zit,PU.start,ei]
  rw[k]
  simp[WO.keyPv,WO.keyL,e]
 | none=>
  obtain⟨ρ',k,a,b,rfl⟩:=k2 e
  simp[zit,PU.start,ei]
  rw[k]
  simp[WO.keyPv,WO.keyL,e]
theorem zw7(ls:WO.Lts)(x:List Nat)(hx:x.length<=1000):zf2 [WO.ltPv ls,.str (mkS x)]=some (WO.codePv (WO.codeL ls x)):=by
 refine zas rfl ?_
 have c1:zdr (zan 0) yesB zgx [.no,.val (WO.ltPv ls)] (x.map WO.sg)=.ok (x.map fun c=>WO.keyPv (WO.keyL ls c)):=
  WO.in_list_comp (fun c=>WO.keyPv (WO.keyL ls c)) x fun c _=>⟨_,zkv _,by simp[zgx,zzs]⟩
 have c2:=WO.none_in ls x
 have hl:x.length<=16777216:=by omega
 simp[zjn,PU.start,WO.it_mk,zqj,List.replicate,c1,hl,c2]
 cases h:x.all fun c=>(WO.keyL ls c).isSome with
 | false=>simp[WO.codeL,h,WO.codePv]
 | true=>
  have e:(x.map fun c=>WO.keyPv (WO.keyL ls c))=(x.map fun c=>(WO.keyL ls c).getD 0).map WO.sg:=by
   rw[List.map_map]
   apply List.map_congr_left
   intro c hc
   have:=List.all_eq_true.mp h c hc
   cases h2:WO.keyL ls c with
   | none=>rw[h2] at this;cases this
   | some k=>simp[WO.keyPv,h2]
  have j:=WO.joinV (x.map fun c=>(WO.keyL ls c).getD 0) (by simpa using hx)
  rw[e]
  simp[-List.map_map,j,WO.codeL,h,WO.codePv]
open BG
abbrev bst(codes:PV)(ks:List Key)(ps:List PV)(a b:Sl):PSt:=[.val codes,.own (.dct ks ps),a,b]
theorem Zfr(codes:PV)(L:List W)(ks:List Key)(ps:List PV)(h:Cnt L ks ps)(c:W)(n:Nat)(hc:c.length<=100)(hL:L.length<=10000):∃ks' ps',Cnt (L++[c.take n]) ks' ps'/\
  zbv (bst codes ks ps (.val (.str (mkS c))) (.val (.int n)))=.ok (.next (bst codes ks' ps' (.val (.str (mkS c))) (.val (.int n)))):=by
 obtain⟨ks',ps',e,h'⟩:=zzg h (c.take n)
 have e1:=zxa (x:=mkS c) none (some (n:Int)) (by rw[zdq];omega)
 rw[zkz] at e1
 have e2:=zzh h (c.take n)
 have z:ks.length<16777216:=by have:=h.le;omega
 refine⟨ks',ps',h',?_⟩
 simp[zbv,bst,e1,e2,z,e]
theorem Zfq(codes:PV)(L:List W)(ks:List Key)(ps:List PV)(h:Cnt L ks ps)(c:W)(b:Sl)(hc:c.length<=100)(hL:L.length<=9000):∃ks' ps' b',Cnt (L++pres c) ks' ps'/\
  zbu (bst codes ks ps (.val (.str (mkS c))) b)=.ok (.next (bst codes ks' ps' (.val (.str (mkS c))) b')):=by
 obtain⟨ρ',f1,ks',ps',b',rfl,h'⟩:=forR (n:=c.length) (lo:=1) (h:=zan 3) (g:=zbv) (ρ:=bst codes ks ps (.val (.str (mkS c))) b)
  (I:=fun i ρ=>∃ks ps b,ρ=bst codes ks ps (.val (.str (mkS c))) b/\Cnt (L++(List.range i).map fun j=>c.take (j+1)) ks ps) ⟨ks,ps,b,rfl,by simpa using h⟩ (by
   rintro i ρ hi ⟨ks,ps,b,rfl,h⟩
   obtain⟨ks',ps',h',e⟩:=Zfr codes _ ks ps h c (i+1) hc (by simp;omega)
   have ei:(1:Int)+(i:Int)=((i+1:Nat):Int):=by omega
   rw[ei]
   refine⟨_,_,rfl,.inl e,ks',ps',_,rfl,?_⟩
   rw[List.range_succ,List.map_append,← List.append_assoc]
   exact h')
 refine⟨ks',ps',b',h',?_⟩
 have e1:gLen (.str (mkS c))=some (.int c.length):=by rw[zg2 (by rw[zdq];omega),zdq]
 have e2:rngQ (.int 1) (.int ((c.length:Int)+1))=.ok (zcb 1 c.length):=by rw[zqm (by omega) (by omega) (by omega) (by omega)];congr 2;omega
 simp[zbu,e1,e2]
 exact f1
theorem zti(cs:List W)(hn:cs.length<=12)(hc:∀c∈cs,c.length<=20):∃ks ps,Cnt (cs.flatMap pres) ks ps/\zbp [.lst (cs.map fun c=>.str (mkS c))]=some (.dct ks ps):=by
 obtain⟨ρ',f1,ks,ps,a,b,rfl,h⟩:=forM (enc:=fun c:W=>PV.str (mkS c)) (xs:=cs) (h:=zan 2) (g:=zbu) (ρ:=bst (.lst (cs.map fun c=>.str (mkS c))) [] [] .no .no)
  (I:=fun pre ρ=>∃ks ps a b,ρ=bst (.lst (cs.map fun c=>.str (mkS c))) ks ps a b/\Cnt (pre.flatMap pres) ks ps) ⟨[],[],_,_,rfl,⟨rfl,by simp,fun p=>by simp[zca]⟩⟩ (by
   rintro pre c post ρ hx ⟨ks,ps,a,b,rfl,h⟩
   have hcm:c∈cs:=by rw[hx];simp
   have hpl:pre.length<=12:=by
    have:=congrArg List.length hx
    rw[List.length_append] at this
    omega
   have hfl:=zsr (l:=pre) (f:=pres) (b:=20) fun x hxm=>by
    unfold pres
    rw[List.length_map,List.length_range]
    exact hc x (by rw[hx];exact List.mem_append_left _ hxm)
   obtain⟨ks',ps',b',h',e⟩:=Zfq (.lst (cs.map fun c=>.str (mkS c))) _ ks ps h c b (by have:=hc c hcm;omega) (by omega)
   refine⟨_,_,rfl,.inl e,ks',ps',_,_,rfl,?_⟩
   rw[List.flatMap_append]
   simpa using h')
 refine⟨ks,ps,h,zas rfl ?_⟩
 simp[zc1,PU.start]
 rw[f1]
 simp
theorem Zcy(cs:List W)(ks:List Key)(ps:List PV)(h:Cnt (cs.flatMap pres) ks ps)(c:W)(hc:c∈cs)(hne:c≠[])(hl:c.length<=100):zc2 [.str (mkS c),.dct ks ps]=some (.str (mkS (own cs c))):=by
 refine zas rfl ?_
 have key:∀i:Nat,gIx (.dct ks ps) (.str (mkS (c.take (i+1))))=some (.int (many cs (c.take (i+1)))):=fun i=>by
  have hp:c.take (i+1)≠[]:=fun e=>by
   cases c with
   | nil=>exact hne rfl
   | cons a r=>simp at e
  show zca ks ps (.inr (mkS (c.take (i+1))))=_
  rw[h.at_,zta cs _ hp,if_neg]
  intro e
  unfold many at e
  have:c∈cs.filter (pre (c.take (i+1))):=List.mem_filter.mpr ⟨hc,zhy.mpr (List.take_prefix _ _)⟩
  rw[List.length_eq_zero_iff.mp e] at this
  cases this
 obtain⟨k1,k2⟩:=zhh (enc:=fun i:Nat=>PV.int (1+(i:Nat))) (h:=zan 2) (g:=zci) (fun i=>decide (many cs (c.take (i+1))=1)) (fun i=>PV.str (mkS (c.take (i+1))))
  (I:=fun ρ=>∃a,ρ=[.val (.str (mkS c)),.val (.dct ks ps),a]) (by
   rintro i ρ ⟨a,rfl⟩
   have e1:=zxa (x:=mkS c) none (some ((i+1:Nat):Int)) (by rw[zdq];omega)
   rw[zkz] at e1
   have ei:(1:Int)+(i:Int)=((i+1:Nat):Int):=by omega
   have e2:=key i
   have e2:((zfl (.str (mkS (c.take (i+1))))).bind fun k=>zca ks ps k)=some (.int (many cs (c.take (i+1)))):=e2
   rw[ei]
   refine⟨_,rfl,fun hp=>?_,fun hp=>⟨_,?_,.val (.int ((i+1:Nat):Int)),rfl⟩⟩
   ·have hp:many cs (c.take (i+1))=1:=by simpa using hp
    rw[hp] at e2
    have e2:zca ks ps (.inr (mkS (c.take (i+1))))=some (.int 1):=e2
    have e1:gSlA (.str (mkS c)) none (some ((i:Int)+1))=some (.str (mkS (c.take (i+1)))):=e1
    simp[zci,e1,e2]
   ·have hp:¬ many cs (c.take (i+1))=1:=by simpa using hp
    have hp2:¬ ((many cs (c.take (i+1)):Nat):Int)=1:=by omega
    have e2:zca ks ps (.inr (mkS (c.take (i+1))))=some (.int (many cs (c.take (i+1)))):=e2
    have e1:gSlA (.str (mkS c)) none (some ((i:Int)+1))=some (.str (mkS (c.take (i+1)))):=e1
    simp[zci,e1,e2,hp2]) (List.range (c.length-1)) [.val (.str (mkS c)),.val (.dct ks ps),.no] ⟨_,rfl⟩
 have e1:gLen (.str (mkS c))=some (.int c.length):=by rw[zg2 (by rw[zdq];omega),zdq]
 have e2:rngQ (.int 1) (.int (c.length:Int))=.ok ((List.range (c.length-1)).map fun i:Nat=>PV.int (1+(i:Nat))):=by rw[zqm (by omega) (by omega) (by omega) (by omega),show ((c.length:Int)-1).toNat=c.length-1 by omega];rfl
 unfold own
 cases e:(List.range (c.length-1)).find? (fun i=>decide (many cs (c.take (i+1))=1)) with
 | some i=>
  have k:=k1 i e
  simp only[zc0,PU.start,List.map_cons,List.map_nil,List.length_cons,List.length_nil,List.replicate,List.cons_append,List.nil_append,zqh,zqi,zv2,x_kI,zzq,zm5,zh4,Zbu,e1,R.ofO_some,zr1,e2,zyl,k,zr2]
 | none=>
  obtain⟨ρ',k,a,rfl⟩:=k2 e
  simp only[zc0,PU.start,List.map_cons,List.map_nil,List.length_cons,List.length_nil,List.replicate,List.cons_append,List.nil_append,zqh,zqi,zv2,x_kI,zzq,zm5,zh4,Zbu,e1,R.ofO_some,zr1,e2,zyl,k,zko,zv3,Zbv]
def cdW(ls:WO.Lts)(w:W):W:=w.map (fun c=>(WO.keyL ls c).getD 0)
def cdH(ls:WO.Lts)(w:W):W:=cdW ls w++[35]
def told(ls:WO.Lts)(ws:List W)(w:W):PV:=.tup [.str (mkS w),.str (mkS (own (ws.map (cdH ls)) (cdH ls w)))]
theorem zvx(ls:WO.Lts)(ws:List W)(hn:ws.length<=12)(hw:∀w∈ws,w.length<=12/\∀c∈w,(WO.keyL ls c).isSome=true):zdk [WO.ltPv ls,.lst (ws.map fun w=>.str (mkS w))]=some (.lst (ws.map (told ls ws))):=by
 refine zas rfl ?_
 have hash:("#":Str)=mkS [35]:=by decide +kernel
 have c1:zdr (zan 0) yesB zej [.no,.val (WO.ltPv ls)] (ws.map fun w=>.str (mkS w))=.ok (ws.map fun w=>.str (mkS (cdH ls w))):=
  WO.in_list_comp (enc:=fun w:W=>PV.str (mkS w)) (fun w=>.str (mkS (cdH ls w))) ws fun w hwm=>by
   have h:=hw w hwm
   have e:=zw7 ls w (by omega)
   have e2:WO.codeL ls w=some (cdW ls w):=by
    unfold WO.codeL
    rw[if_pos (List.all_eq_true.mpr fun c hc=>h.2 c hc)]
    rfl
   rw[e2] at e
   have e:zf2 [WO.ltPv ls,.str (mkS w)]=some (.str (mkS (cdW ls w))):=e
   have e3:gAdd (.str (mkS (cdW ls w))) c_CODE_END=some (.str (mkS (cdH ls w))):=by
    show gAdd (.str (mkS (cdW ls w))) (.str "#")=_
    rw[hash,ziz (by simp[cdW];omega),zjb]
    rfl
   exact⟨_,zkv _,by simp[zej,e,e3]⟩
 obtain⟨ks,ps,h,e2⟩:=zti (ws.map (cdH ls)) (by simpa using hn) (fun c hc=>by
  obtain⟨w,hwm,rfl⟩:=List.mem_map.mp hc
  have:=(hw w hwm).1
  simp[cdH,cdW]
  omega)
 have e2:zbp [.lst (ws.map fun w=>.str (mkS (cdH ls w)))]=some (.dct ks ps):=by rw[← e2,List.map_map];rfl
 have ez:∀l:List W,(zipP (l.map fun w=>PV.str (mkS w)) (l.map fun w=>PV.str (mkS (cdH ls w)))).map PV.tup=l.map fun w=>PV.tup [.str (mkS w),.str (mkS (cdH ls w))]:=by
  intro l
  unfold zipP
  induction l with
  | nil=>rfl
  | cons a r ih=>simp only[List.map_cons,List.zipWith_cons_cons];rw[ih]
 have c2:zdr (tupT 2 (za7 (zan 0) (za7 (zan 1) nilT))) yesB zei [.no,.no,.val (.dct ks ps)] (ws.map fun w=>PV.tup [.str (mkS w),.str (mkS (cdH ls w))])=.ok (ws.map (told ls ws)):=
  WO.in_list_comp (enc:=fun w:W=>PV.tup [.str (mkS w),.str (mkS (cdH ls w))]) (told ls ws) ws fun w hwm=>by
   have:=(hw w hwm).1
   have e:=Zcy (ws.map (cdH ls)) ks ps h (cdH ls w) (List.mem_map.mpr ⟨w,hwm,rfl⟩) (by simp[cdH]) (by simp[cdH,cdW];omega)
   exact⟨[.val (.str (mkS w)),.val (.str (mkS (cdH ls w))),.val (.dct ks ps)],rfl,by simp[zei,e,told]⟩
 have z:ws.length<=16777216:=by omega
 have ei:zfw (.lst (ws.map fun w=>PV.str (mkS w)))=some (ws.map fun w=>PV.str (mkS w)):=rfl
 have zq:=Zbr (ws.map fun w=>PV.str (mkS w)) (ws.map fun w=>PV.str (mkS (cdH ls w))) (by rw[zmo];rfl)
 simp[zf1,PU.start,zqj,List.replicate,c1,z,e2,zq]
 rw[ez,c2]
 simp[z]
open NW
abbrev nwst(L D:PV)(ks:List Key)(ps:List PV)(a b c:Sl):PSt:=[.val L,.val D,.own (.dct ks ps),a,b,c]
theorem Zex(L D:PV)(ks:List Key)(ps:List PV)(F:W->Option PV)(h:Tells ks ps F)(a:Sl)(b:W)(n:Nat)(hb:b.length<=100)(hk:ks.length<=100000):∃ks' ps',Tells ks' ps' (fun p=>if b.take n=p then some .non else F p)/\ks'.length<=ks.length+1/\
  zcm (nwst L D ks ps a (.val (.str (mkS b))) (.val (.int n)))=.ok (.next (nwst L D ks' ps' a (.val (.str (mkS b))) (.val (.int n)))):=by
 obtain⟨ks',ps',e,h1,h2⟩:=h.put (b.take n) .non (by simp[noFn])
 have e1:=zxa (x:=mkS b) none (some (n:Int)) (by rw[zdq];omega)
 rw[zkz] at e1
 have z:ks.length<16777216:=by omega
 refine⟨ks',ps',h2,h1,?_⟩
 simp[zcm,nwst,e1,z,e]
theorem Zew(L D:PV)(ks:List Key)(ps:List PV)(F:W->Option PV)(h:Tells ks ps F)(w b:W)(t:Str)(hne:b≠[])(hD:gIx D (.str (mkS w))=some (.str t))(x:Sl)(hb:b.length<=100)(hk:ks.length<=10000):∃ks' ps' x',Tells ks' ps' (fun p=>wstep p (F p) (b,t))/\ks'.length<=ks.length+100/\
  zcl (nwst L D ks ps (.val (.str (mkS w))) (.val (.str (mkS b))) x)=.ok (.next (nwst L D ks' ps' (.val (.str (mkS w))) (.val (.str (mkS b))) x')):=by
 have hbl:1<=b.length:=by cases b with | nil=>exact absurd rfl hne | cons _ _=>simp
 obtain⟨ρ',f1,ks1,ps1,x1,rfl,h1,l1⟩:=forR (n:=b.length-1) (lo:=1) (h:=zan 5) (g:=zcm) (ρ:=nwst L D ks ps (.val (.str (mkS w))) (.val (.str (mkS b))) x)
  (I:=fun i ρ=>∃ks1 ps1 x1,ρ=nwst L D ks1 ps1 (.val (.str (mkS w))) (.val (.str (mkS b))) x1/\Tells ks1 ps1 (fun p=>if p∈(List.range i).map (fun j=>b.take (j+1)) then some .non else F p)/\ks1.length<=ks.length+i)
  ⟨ks,ps,x,rfl,⟨h.len,fun p=>by rw[h.at_,if_neg (by simp)],h.nf⟩,by omega⟩ (by
   rintro i ρ hi ⟨ks1,ps1,x1,rfl,h1,l1⟩
   obtain⟨ks2,ps2,h2,l2,e⟩:=Zex L D ks1 ps1 _ h1 (.val (.str (mkS w))) b (i+1) hb (by omega)
   have ei:(1:Int)+(i:Int)=((i+1:Nat):Int):=by omega
   rw[ei]
   refine⟨_,_,rfl,.inl e,ks2,ps2,_,rfl,⟨h2.len,fun p=>?_,h2.nf⟩,by omega⟩
   rw[h2.at_,List.range_succ,List.map_append]
   by_cases hp:b.take (i+1)=p
   ·rw[if_pos hp,if_pos (List.mem_append_right _ (by simp[hp]))]
   ·rw[if_neg hp]
    by_cases hq:p∈(List.range i).map (fun j=>b.take (j+1))
    ·rw[if_pos hq,if_pos (List.mem_append_left _ hq)]
    ·rw[if_neg hq,if_neg]
     intro z
     rcases List.mem_append.mp z with z | z
     ·exact hq z
     ·rw[List.map_singleton,List.mem_singleton] at z
      exact hp z.symm)
 obtain⟨ks2,ps2,e2,l2,h2⟩:=h1.put b (.str t) (by simp[noFn])
 refine⟨ks2,ps2,x1,⟨h2.len,fun p=>?_,h2.nf⟩,by omega,?_⟩
 ·rw[h2.at_]
  unfold wstep
  by_cases hp:b=p
  ·simp only[if_pos hp]
  ·simp only[if_neg hp]
   by_cases hq:p≠[]/\p <+: b
   ·rw[if_pos hq,if_pos]
    have hl:=List.IsPrefix.length_le hq.2
    have h0:1<=p.length:=by
     cases p with
     | nil=>exact absurd rfl hq.1
     | cons _ _=>simp
    have ht:=List.prefix_iff_eq_take.mp hq.2
    have hlt:p.length≠b.length:=fun z=>hp (by rw[z,List.take_length] at ht;exact ht.symm)
    exact List.mem_map.mpr ⟨p.length-1,List.mem_range.mpr (by omega),by rw[show p.length-1+1=p.length by omega];exact ht.symm⟩
   ·rw[if_neg hq,if_neg]
    intro z
    obtain⟨j,q2,rfl⟩:=List.mem_map.mp z
    have q2:=List.mem_range.mp q2
    refine hq ⟨fun z=>?_,List.take_prefix _ _⟩
    cases b with
    | nil=>exact hne rfl
    | cons a r=>simp at z
 ·have e1:gLen (.str (mkS b))=some (.int b.length):=by rw[zg2 (by rw[zdq];omega),zdq]
  have e3:rngQ (.int 1) (.int (b.length:Int))=.ok (zcb 1 (b.length-1)):=by rw[zqm (by omega) (by omega) (by omega) (by omega)];congr 2;omega
  have z:ks1.length<16777216:=by omega
  have f1:forF (zan 5) zcm (zcb 1 (b.length-1)) [.val L,.val D,.own (.dct ks ps),.val (.str (mkS w)),.val (.str (mkS b)),x]=.ok (.next [.val L,.val D,.own (.dct ks1 ps1),.val (.str (mkS w)),.val (.str (mkS b)),x1]):=f1
  simp only[nwst]
  simp[zcl,e1,e3,f1,hD,z,e2]
def bsOf(ls:WO.Lts)(wt:List (W×Str)):List (W×Str):=wt.map fun p=>(own ((wt.map (·.1)).map (cdH ls)) (cdH ls p.1),p.2)
theorem zux(ls:WO.Lts)(wt:List (W×Str))(hn:wt.length<=12)(hw:∀p∈wt,p.1.length<=12/\∀c∈p.1,(WO.keyL ls c).isSome=true)(nd:(wt.map (·.1)).Nodup):∃ks ps,Tells ks ps (Ways (bsOf ls wt))/\zeg [WO.ltPv ls,wtD wt]=some (.dct ks ps):=by
 have eb:=zvx ls (wt.map (·.1)) (by simpa using hn) (fun w hwm=>by obtain⟨p,hp,rfl⟩:=List.mem_map.mp hwm;exact hw p hp)
 have el:=zyd wt
 rw[List.map_map] at eb
 have eb:zdk [WO.ltPv ls,.lst (wt.map fun p=>.str (mkS p.1))]=some (.lst ((wt.map (·.1)).map (told ls (wt.map (·.1))))):=eb
 rw[List.map_map] at eb
 let B:W×Str->W:=fun p=>own ((wt.map (·.1)).map (cdH ls)) (cdH ls p.1)
 have hB:∀p∈wt,B p≠[]/\(B p).length<=100:=fun p hp=>⟨zwi _ _ (by simp[cdH]),by
  have h1:=List.IsPrefix.length_le (zk6 ((wt.map (·.1)).map (cdH ls)) (cdH ls p.1))
  have h2:=(hw p hp).1
  have h3:(cdH ls p.1).length=p.1.length+1:=by simp[cdH,cdW]
  show (own _ _).length<=100
  omega⟩
 obtain⟨ρ',f1,ks,ps,a,b,c,rfl,h,l⟩:=forM (enc:=fun p:W×Str=>PV.tup [.str (mkS p.1),.str (mkS (B p))]) (xs:=wt) (h:=tupT 2 (za7 (zan 3) (za7 (zan 4) nilT))) (g:=zcl) (ρ:=nwst (WO.ltPv ls) (wtD wt) [] [] .no .no .no)
  (I:=fun pre ρ=>∃ks ps a b c,ρ=nwst (WO.ltPv ls) (wtD wt) ks ps a b c/\Tells ks ps (fun p=>(pre.map fun q=>(B q,q.2)).foldl (wstep p) none)/\ks.length<=pre.length * 100) ⟨[],[],.no,.no,.no,rfl,⟨rfl,fun p=>rfl,by simp⟩,by simp⟩ (by
   rintro pre p post ρ hx ⟨ks,ps,a,b,c,rfl,h,l⟩
   have hp:p∈wt:=by rw[hx];simp
   have hpl:pre.length<=12:=by
    have:=congrArg List.length hx
    rw[List.length_append] at this
    omega
   have hD:gIx (wtD wt) (.str (mkS p.1))=some (.str p.2):=zt5 wt nd hp
   obtain⟨ks',ps',x',h',l',e⟩:=Zew (WO.ltPv ls) (wtD wt) ks ps _ h p.1 (B p) p.2 (hB p hp).1 hD c (hB p hp).2 (by omega)
   refine⟨_,_,rfl,.inl e,ks',ps',_,_,_,rfl,⟨h'.len,fun q=>?_,h'.nf⟩,by simp;omega⟩
   rw[h'.at_,List.map_append,List.foldl_append]
   rfl)
 refine⟨ks,ps,h,zas rfl ?_⟩
 have ei:zfw (.lst (wt.map (told ls (wt.map (·.1)) ∘ fun x=>x.1)))=some (wt.map fun p:W×Str=>PV.tup [.str (mkS p.1),.str (mkS (B p))]):=rfl
 have f1:forF (tupT 2 (za7 (zan 3) (za7 (zan 4) nilT))) zcl (wt.map fun p:W×Str=>PV.tup [.str (mkS p.1),.str (mkS (B p))]) [.val (WO.ltPv ls),.val (wtD wt),.own (.dct [] []),.no,.no,.no]=.ok (.next [.val (WO.ltPv ls),.val (wtD wt),.own (.dct ks ps),a,b,c]):=f1
 generalize (wt.map fun p:W×Str=>PV.tup [.str (mkS p.1),.str (mkS (B p))])=TL at *
 generalize PV.lst (wt.map (told ls (wt.map (·.1)) ∘ fun x=>x.1))=TQ at *
 generalize PV.lst (wt.map fun p=>.str (mkS p.1))=WL at *
 generalize wtD wt=DD at *
 generalize WO.ltPv ls=LL at *
 simp[zfy,PU.start,el,eb,ei,f1]
theorem zyk{ls:WO.Lts}{c:Nat}(h:(WO.keyL ls c).isSome=true):∃l∈ls,(WO.keyL ls c).getD 0=l.1:=by
 unfold WO.keyL at h ⊢
 cases e:ls.find? fun l=>decide (c∈l.2) with
 | none=>rw[e] at h;cases h
 | some l=>exact⟨l,List.mem_of_find?_eq_some e,rfl⟩
theorem Zcv{ls:WO.Lts}(hk:∀l∈ls,l.1≠35){w:W}(hw:∀c∈w,(WO.keyL ls c).isSome=true):Code (cdH ls w):=by
 refine⟨cdW ls w,rfl,fun z=>?_⟩
 obtain⟨c,hc,e⟩:=List.mem_map.mp z
 obtain⟨l,hl,e2⟩:=zyk (hw c hc)
 exact hk l hl (by rw[← e2,e])
section
variable{ls : WO.Lts}{wt : List (W×Str)}(hk : ∀l ∈ ls, l.1 ≠ 35)(hw : ∀p ∈ wt, ∀c ∈ p.1, (WO.keyL ls c).isSome = true)(nc : (wt.map fun p => cdH ls p.1).Nodup)
omit hk hw nc in
theorem Zfp:∀x∈bsOf ls wt,x.1≠[]:=fun x hx=>by
 obtain⟨p,_,rfl⟩:=List.mem_map.mp hx
 exact zwi _ _ (by simp[cdH])
include hk hw nc
theorem zzb:∀c∈(wt.map (·.1)).map (cdH ls),Code c:=fun c hc=>by
 obtain⟨w,hwm,rfl⟩:=List.mem_map.mp hc
 obtain⟨p,hp,rfl⟩:=List.mem_map.mp hwm
 exact Zcv hk (hw p hp)
omit hk hw in
theorem Zcw{p q:W×Str}(hp:p∈wt)(hq:q∈wt)(e:cdH ls p.1=cdH ls q.1):p=q:=
 zmf (fun p:W×Str=>cdH ls p.1) wt nc p hp q hq e
theorem Zfo:∀x∈bsOf ls wt,∀y∈bsOf ls wt,x.1 <+: y.1->x=y:=fun x hx y hy h=>by
 obtain⟨p,hp,rfl⟩:=List.mem_map.mp hx
 obtain⟨q,hq,rfl⟩:=List.mem_map.mp hy
 have m:∀{p:W×Str},p∈wt->cdH ls p.1∈(wt.map (·.1)).map (cdH ls):=fun hp=>List.mem_map.mpr ⟨_,List.mem_map.mpr ⟨_,hp,rfl⟩,rfl⟩
 have:=zrh (zzb hk hw nc) (m hp) (m hq) h (List.prefix_refl _)
 rw[Zcw nc hp hq this]
end
theorem zyx (H:PV) (rs:FA.Rooms) (hR:gIx H (.str "rooms")=some (zam rs)) (hl:rs.length<=1000) (Dn:Str->PV) (hD:∀n∈FA.names rs,zat [H,.str n]=some (Dn n)) (hF:∀n∈FA.names rs,noFn (Dn n)=true):∃ks ps,zb2 [H]=some (.dct ks ps)/\(∀n∈FA.names rs,gIx (.dct ks ps) (.str n)=some (Dn n))/\noFn (.dct ks ps)=true:=by
 have hnl:(FA.names rs).length=rs.length:=by simp[FA.names]
 obtain⟨ρ',f1,ks,ps,a,rfl,h1,h2,h3,h4⟩:=forM (enc:=PV.str) (xs:=FA.names rs) (h:=zan 2) (g:=zek) (ρ:=[.val H,.own (.dct [] []),.no])
  (I:=fun pre ρ=>∃ks ps a,ρ=[.val H,.own (.dct ks ps),a]/\ks.length=ps.length/\ks.length<=pre.length/\(∀n∈pre,zca ks ps (.inr n)=some (Dn n))/\∀x∈ps,noFn x=true) ⟨[],[],.no,rfl,rfl,by simp,by simp,by simp⟩ (by
   rintro pre n post ρ hx ⟨ks,ps,a,rfl,h1,h2,h3,h4⟩
   have hn:n∈FA.names rs:=by rw[hx];simp
   have hpl:pre.length<=1000:=by
    have:=congrArg List.length hx
    rw[List.length_append] at this
    omega
   obtain⟨ks',ps',e,g1,g2,g3⟩:=BG.look_put ks ps (.inr n) (Dn n) h1
   have z:ks.length<16777216:=by omega
   have ed:=hD n hn
   refine⟨_,[.val H,.own (.dct ks' ps'),.val (.str n)],zkv _,.inl ?_,ks',ps',_,rfl,g1,by simp;omega,fun m hm=>?_,fun x hx=>(zq2 e hx).elim (h4 x) fun z=>z▸hF n hn⟩
   ·simp[zek,ed,z,e]
   ·rw[g3]
    by_cases hmn:n=m
    ·rw[if_pos (by rw[hmn]),hmn]
    ·rw[if_neg fun z=>hmn (Sum.inr.inj z)]
     rcases List.mem_append.mp hm with hm | hm
     ·exact h3 m hm
     ·exact absurd (List.mem_singleton.mp hm).symm hmn)
 refine⟨ks,ps,zas rfl ?_,h3,by have:=(zfu ps).mpr h4;simpa [noFn] using this⟩
 have ei:=FA.keys_rooms rs
 generalize (FA.names rs).map PV.str=NL at *
 generalize zam rs=RM at *
 simp[zfz,PU.start,hR,ei,f1]
theorem zss(spans:List (Int×Int×Str))(last:Str)(hour:Int):ziw [(Room.hours spans last).pv,.int hour]=some (.str (FA.handOf spans last hour)):=by
 refine zas rfl ?_
 obtain⟨k1,k2⟩:=zhh (enc:=pv3) (h:=tupT 3 (za7 (zan 2) (za7 (zan 3) (za7 (zan 4) nilT)))) (g:=zey) (FA.holds hour) (fun s=>PV.str s.2.2)
  (I:=fun ρ=>∃a b c,ρ=[.val (Room.hours spans last).pv,.val (.int hour),a,b,c]) (by
   rintro s ρ ⟨a,b,c,rfl⟩
   refine⟨_,rfl,fun hp=>?_,fun hp=>⟨_,?_,.val (.int s.1),.val (.int s.2.1),.val (.str s.2.2),rfl⟩⟩
   ·unfold FA.holds at hp
    simp only[Bool.and_eq_true,decide_eq_true_eq] at hp
    simp[zey,hp.1,hp.2]
   ·unfold FA.holds at hp
    by_cases h1:s.1<=hour
    ·have h2:¬ hour<s.2.1:=by simpa [h1] using hp
     simp[zey,h1,h2]
    ·simp[zey,h1]) spans [.val (Room.hours spans last).pv,.val (.int hour),.no,.no,.no] ⟨_,_,_,rfl⟩
 unfold FA.handOf
 cases e:spans.find? (FA.holds hour) with
 | some s=>
  have k:=k1 s e
  simp only[Room.pv] at k ⊢
  simp[ziu,PU.start]
  rw[k]
  rfl
 | none=>
  obtain⟨ρ',k,a,b,c,rfl⟩:=k2 e
  simp only[Room.pv] at k ⊢
  simp[ziu,PU.start]
  rw[k]
  simp
theorem ztf (H:PV) (rs:FA.Rooms) (hR:gIx H (.str "rooms")=some (zam rs)) (hour:Int) (a:Sl):∀(n N:Nat) (x y:Str),n<=N->NM.comeGo rs hour n x=some y->
  whF (truF (bin2 (bin2 (bin2 (bin2 (getV 0) (kS "rooms") gIx) (getV 3) gIx) (kI 0) gIx) (kS "hours") gEq)) zff N [.val H,.val (.int hour),a,.val (.str x)]=.ok (.next [.val H,.val (.int hour),a,.val (.str y)])
 | 0,N,x,y,h,e=>by cases e
 | n+1,0,x,y,h,e=>by omega
 | n+1,N+1,x,y,h,e=>by
  have n2:=FA.ix_rooms rs x
  unfold NM.comeGo at e
  unfold whF
  cases hr:FA.lookR rs x with
  | none=>rw[hr] at e;cases e
  | some r=>
   rw[hr] at e n2
   have n2:gIx (zam rs) (.str x)=some r.pv:=n2
   cases r with
   | hours sp l=>
    have n3:gIx (Room.hours sp l).pv (.int 0)=some (.str "hours"):=rfl
    have n4:=zss sp l hour
    have ih:=ztf H rs hR hour a n N (FA.handOf sp l hour) y (by omega) e
    have t:truF (bin2 (bin2 (bin2 (bin2 (getV 0) (kS "rooms") gIx) (getV 3) gIx) (kI 0) gIx) (kS "hours") gEq) [.val H,.val (.int hour),a,.val (.str x)]=.ok true:=by simp[hR,n2,n3]
    have b:zff [.val H,.val (.int hour),a,.val (.str x)]=.ok (.next [.val H,.val (.int hour),a,.val (.str (FA.handOf sp l hour))]):=by simp[zff,hR,n2,n4]
    simp only[t,R.ok_bind,if_true,b]
    exact ih
   | menu t ks wr wa=>
    have n3:gIx (Room.menu t ks wr wa).pv (.int 0)=some (.str "menu"):=rfl
    have t:truF (bin2 (bin2 (bin2 (bin2 (getV 0) (kS "rooms") gIx) (getV 3) gIx) (kI 0) gIx) (kS "hours") gEq) [.val H,.val (.int hour),a,.val (.str x)]=.ok false:=by simp[hR,n2,n3]
    cases e
    simp only[t,R.ok_bind,Bool.false_eq_true,if_false]
   | names t ks wr wa=>
    have n3:gIx (Room.names t ks wr wa).pv (.int 0)=some (.str "names"):=rfl
    have t:truF (bin2 (bin2 (bin2 (bin2 (getV 0) (kS "rooms") gIx) (getV 3) gIx) (kI 0) gIx) (kS "hours") gEq) [.val H,.val (.int hour),a,.val (.str x)]=.ok false:=by simp[hR,n2,n3]
    cases e
    simp only[t,R.ok_bind,Bool.false_eq_true,if_false]
   | hand t=>
    have n3:gIx (Room.hand t).pv (.int 0)=some (.str "hand"):=rfl
    have t:truF (bin2 (bin2 (bin2 (bin2 (getV 0) (kS "rooms") gIx) (getV 3) gIx) (kI 0) gIx) (kS "hours") gEq) [.val H,.val (.int hour),a,.val (.str x)]=.ok false:=by simp[hR,n2,n3]
    cases e
    simp only[t,R.ok_bind,Bool.false_eq_true,if_false]
   | fin t=>
    have n3:gIx (Room.fin t).pv (.int 0)=some (.str "end"):=rfl
    have t:truF (bin2 (bin2 (bin2 (bin2 (getV 0) (kS "rooms") gIx) (getV 3) gIx) (kI 0) gIx) (kS "hours") gEq) [.val H,.val (.int hour),a,.val (.str x)]=.ok false:=by simp[hR,n2,n3]
    cases e
    simp only[t,R.ok_bind,Bool.false_eq_true,if_false]
theorem zzf (H:PV) (rs:FA.Rooms) (hR:gIx H (.str "rooms")=some (zam rs)) (hour:Int) (n:Nat) (x y:Str) (hn:n<=300) (e:NM.comeGo rs hour n x=some y):zhl [H,.int hour,.str x]=some (.str y):=by
 refine zas rfl ?_
 have k:=ztf H rs hR hour (.val (.str x)) n 300 x y hn e
 simp only[zjm,PU.start,List.map_cons,List.map_nil,List.length_cons,List.length_nil,List.replicate,List.cons_append,List.nil_append,zqh,zzr,zw6,zm5,Zbv,Ze3,zko,List.set_cons_succ,List.set_cons_zero,Zdm,k,zv3]
theorem zgy(ns:List Int)(k:Nat):zal [.lst (ns.map .int),.int k]=some (.int (ns.getD k 0)):=by
 refine zas rfl ?_
 by_cases hk:k<ns.length
 ·have h2:(k:Int)<ns.length:=by omega
  have h3:atI (ns.map PV.int) (k:Int)=some (.int ns[k]):=zby rfl (by simp[hk])
  simp[zdt,PU.start,h2,h3,hk]
 ·have h2:¬ (k:Int)<ns.length:=by omega
  simp[zdt,PU.start,h2,hk]
theorem numbers(cell:Int)(many:Nat)(hm:many<=100):∃ls:List Int,ls.length=many/\(∀x∈ls,0<=x)/\zau [.int cell,.int many]=some (.lst (ls.map .int)):=by
 by_cases h2:cell % 2=1
 ·obtain⟨ρ',f1,ls,n,a,rfl,h1,h3⟩:=forR (n:=many) (lo:=0) (h:=zan 4) (g:=zeb) (ρ:=[.val (.int cell),.val (.int many),.own (.lst []),.val (.int (cell / 2)),.no])
   (I:=fun i ρ=>∃(ls:List Int)(n:Int)(a:Sl),ρ=[.val (.int cell),.val (.int many),.own (.lst (ls.map .int)),.val (.int n),a]/\ls.length=i/\∀x∈ls,0<=x) ⟨[],_,_,rfl,rfl,by simp⟩ (by
    rintro i ρ hi ⟨ls,n,a,rfl,h1,h3⟩
    have hq:ls.length<16777216:=by omega
    refine⟨_,[.val (.int cell),.val (.int many),.own (.lst ((ls++[n % 5040]).map .int)),.val (.int (n / 5040)),.val (.int (0+(i:Int)))],rfl,.inl ?_,ls++[n % 5040],n / 5040,_,rfl,by simp[h1],fun x hx=>?_⟩
    ·simp (disch:=omega) [zeb,zdm,zqq,hq]
    ·rcases List.mem_append.mp hx with hx | hx
     ·exact h3 x hx
     ·rw[List.mem_singleton.mp hx];omega)
  refine⟨ls,h1,h3,zas rfl ?_⟩
  simp (disch:=omega) [zds,PU.start,zdm,zqq,h2,zqn]
  rw[f1]
  simp
 ·obtain⟨ρ',f1,ls,n,a,rfl,h1,h3⟩:=forR (n:=many+1) (lo:=0) (h:=zan 4) (g:=zea) (ρ:=[.val (.int cell),.val (.int many),.own (.lst []),.val (.int (cell / 2 % 2147483647)),.no])
   (I:=fun i ρ=>∃(ls:List Int)(n:Int)(a:Sl),ρ=[.val (.int cell),.val (.int many),.own (.lst (ls.map .int)),.val (.int n),a]/\ls.length=i/\∀x∈ls,0<=x) ⟨[],_,_,rfl,rfl,by simp⟩ (by
    rintro i ρ hi ⟨ls,n,a,rfl,h1,h3⟩
    have hq:ls.length<16777216:=by omega
    rw[Int.zero_add]
    have m1:gMul (.int (n+(i:Int)+1)) (.int 48271)=some (.int ((n+(i:Int)+1) * 48271)):=zqp (.inr (by decide))
    have m2:∀z:Int,gMul (.int z) (.int 69621)=some (.int (z * 69621)):=fun z=>zqp (.inr (by decide))
    refine⟨_,[.val (.int cell),.val (.int many),.own (.lst ((ls++[(n+(i:Int)+1) * 48271 % 2147483647 * 69621 % 2147483629]).map .int)),.val (.int ((n+(i:Int)+1) * 48271 % 2147483647)),.val (.int (i:Int))],rfl,.inl ?_,_,_,_,rfl,by simp[h1],fun x hx=>?_⟩
    ·simp (disch:=omega) [zea,zdm,m1,m2,hq]
    ·rcases List.mem_append.mp hx with hx | hx
     ·exact h3 x hx
     ·rw[List.mem_singleton.mp hx];omega)
  refine⟨ls.drop 1,by simp[h1],fun x hx=>h3 x (List.mem_of_mem_drop hx),zas rfl ?_⟩
  have e1:(((many:Int)+1)).toNat=many+1:=by omega
  have e2:=NM.cut_1 (ls.map PV.int) (by rw[List.length_map];omega)
  simp (disch:=omega) [zds,PU.start,zdm,zqq,h2,zqn,e1]
  rw[f1]
  simp[e2]
end K31
namespace K31
open PySem L2 PU MT NM BG NW
def c20:List Nat:=[98,99,100,102,103,104,106,108,109,110,112,113,114,115,116,118,119,120,121,122]
theorem Zcx:("bcdfghjlmnpqrstvwxyz":Str)=mkS c20:=by decide +kernel
theorem zvu:∀i:Fin 20,∀j:Fin 20,c20.getD i.1 0=c20.getD j.1 0->i.1=j.1:=by decide +kernel
theorem zzk(i j:Nat)(hi:i<20)(hj:j<20)(e:c20.getD i 0=c20.getD j 0):i=j:=zvu ⟨i,hi⟩ ⟨j,hj⟩ e
def sgn(ls:List Int)(at_:Int)(t k:Nat):Nat:=c20.getD ((ls.getD k 0+3 * (t:Int) * (if (k:Int)=at_ then 1 else 0)) % 20).toNat 0
def cds(ls:List Int)(at_:Int)(t i:Nat):List Nat:=(List.range i).map (sgn ls at_ t)
abbrev nst(c:Int)(ls:List Int)(size at_:Int)(done:List PV)(a b d:Sl):PSt:=
 [.val (.int c),.val (.str (mkS c20)),.val (.lst (ls.map .int)),.val (.int size),.val (.int at_),.own (.lst done),a,b,d]
theorem zu0(c:Int)(ls:List Int)(size at_:Int)(done:List PV)(t k:Nat)(x:List Nat)(hl:ls.length=10)(hk:k<8)(hx:x.length<=100) :
  zdx (nst c ls size at_ done (.val (.int t)) (.val (.str (mkS x))) (.val (.int k)))=.ok (.next (nst c ls size at_ done (.val (.int t)) (.val (.str (mkS (x++[sgn ls at_ t k])))) (.val (.int k)))):=by
 have i1:atI (ls.map PV.int) (k:Int)=some (.int (ls.getD k 0)):=by
  rw[zcc ls k (by omega),List.getD_eq_getElem?_getD,List.getElem?_eq_getElem (by omega)]
  rfl
 have m1:gMul (.int 3) (.int t)=some (.int (3 * t)):=zqp (.inl (by decide))
 have hq:(if (k:Int)=at_ then (1:Int) else 0).natAbs<18446744073709551616:=by split <;> decide
 have m2:gMul (.int (3 * (t:Int))) (.int (if (k:Int)=at_ then 1 else 0))=some (.int (3 * (t:Int) * (if (k:Int)=at_ then 1 else 0))):=zqp (.inr hq)
 have h3:∀z:Int,gIx (.str (mkS c20)) (.int (z % 20))=some (.str ⟨#[c20.getD (z % 20).toNat 0]⟩):=fun z=>zu6 c20 (z % 20) (by omega) (by show _<(20:Int);omega) (by decide)
 have h4:=zgh x (sgn ls at_ t k) (by omega)
 unfold sgn at h4 ⊢
 simp (disch:=omega) [-List.getD_eq_getElem?_getD,zdx,nst,i1,m1,m2,zdm,h3,h4]
theorem zuz(c:Int)(ls:List Int)(size:Nat)(at_:Int)(done:List PV)(t:Nat)(b d:Sl)(hl:ls.length=10)(hs:size<=8)(hd:done.length<=100):∃d',
  zdw (nst c ls size at_ done (.val (.int t)) b d)=.ok (.next (nst c ls size at_ (done++[.str (mkS (cds ls at_ t size))]) (.val (.int t)) (.val (.str (mkS (cds ls at_ t size)))) d')):=by
 obtain⟨ρ',f1,d',rfl⟩:=forR (n:=size) (lo:=0) (h:=zan 8) (g:=zdx) (ρ:=nst c ls size at_ done (.val (.int t)) (.val (.str (mkS []))) d)
  (I:=fun i ρ=>∃d,ρ=nst c ls size at_ done (.val (.int t)) (.val (.str (mkS (cds ls at_ t i)))) d) ⟨d,rfl⟩ (by
   rintro i ρ hi ⟨d,rfl⟩
   have e:=zu0 c ls size at_ done t i (cds ls at_ t i) hl (by omega) (by simp[cds];omega)
   have:cds ls at_ t (i+1)=cds ls at_ t i++[sgn ls at_ t i]:=by simp[cds,List.range_succ]
   rw[Int.zero_add,this]
   exact⟨_,_,rfl,.inl e,_,rfl⟩)
 refine⟨d',?_⟩
 have hq:done.length<16777216:=by omega
 simp (disch:=omega) [zdw,zdv,zqn]
 rw[f1]
 simp[hq]
theorem names (c:Int):∃nms:List Str,nms.length=6/\nms.Nodup/\(∀x∈nms,x≠"back"/\x≠"")/\zfc [.int c]=some (.lst (nms.map .str)):=by
 obtain⟨ls,l1,l2,el⟩:=numbers c 10 (by omega)
 have el:zau [.int c,.int 10]=some (.lst (ls.map .int)):=el
 have i8:atI (ls.map PV.int) 8=some (.int ls[8]):=zcc ls 8 (by omega)
 have i9:atI (ls.map PV.int) 9=some (.int ls[9]):=zcc ls 9 (by omega)
 generalize ls[8]=z8 at i8
 generalize ls[9]=z9 at i9
 obtain⟨size,hsz,h1,h8⟩:∃size:Nat,(1+z8 % 8)=(size:Int)/\1<=size/\size<=8:=⟨(1+z8 % 8).toNat,by omega,by omega,by omega⟩
 obtain⟨at_,hat,ha0,ha1⟩:∃at_:Int,z9 % (size:Int)=at_/\0<=at_/\at_<size:=⟨z9 % (size:Int),rfl,Int.emod_nonneg _ (by omega),Int.emod_lt_of_pos _ (by omega)⟩
 obtain⟨ρ',f1,a,b,d,rfl⟩:=forR (n:=6) (lo:=0) (h:=zan 6) (g:=zdw) (ρ:=nst c ls size at_ [] .no .no .no)
  (I:=fun i ρ=>∃a b d,ρ=nst c ls size at_ ((List.range i).map fun t=>.str (mkS (cds ls at_ t size))) a b d) ⟨_,_,_,rfl⟩ (by
   rintro i ρ hi ⟨a,b,d,rfl⟩
   obtain⟨d',e⟩:=zuz c ls size at_ ((List.range i).map fun t=>.str (mkS (cds ls at_ t size))) i b d l1 h8 (by simp;omega)
   rw[Int.zero_add,List.range_succ,List.map_append]
   exact⟨_,_,rfl,.inl e,_,_,_,rfl⟩)
 refine⟨(List.range 6).map fun t=>mkS (cds ls at_ t size),by simp,?_,?_,zas rfl ?_⟩
 ·unfold List.Nodup
  rw[List.pairwise_map]
  refine List.Pairwise.imp_of_mem (R:=fun a b=>a<b) (fun {i j} hi hj hij e=>?_) List.pairwise_lt_range
  rw[List.mem_range] at hi hj
  have e:=BG.mkS_inj e
  have hs:at_.toNat<size:=by omega
  have e2:=congrArg (fun l:List Nat=>l[at_.toNat]?) e
  simp only[cds,List.getElem?_map,List.getElem?_range hs,Option.map_some] at e2
  have e3:sgn ls at_ i at_.toNat=sgn ls at_ j at_.toNat:=Option.some.inj e2
  unfold sgn at e3
  rw[if_pos (by omega)] at e3
  have e4:=zzk _ _ (by omega) (by omega) e3
  omega
 ·intro x hx
  obtain⟨t,_,rfl⟩:=List.mem_map.mp hx
  have hb:("back":Str)=mkS [98,97,99,107]:=by decide +kernel
  refine⟨fun e=>?_,fun e=>?_⟩
  ·rw[hb] at e
   have e:=BG.mkS_inj e
   have m:97∈cds ls at_ t size:=by rw[e];simp
   obtain⟨k,_,ek⟩:=List.mem_map.mp m
   have:∀z:Nat,z<20->c20.getD z 0≠97:=by decide +kernel
   exact this _ (by omega) ek
  ·rw[zdv] at e
   have e:=BG.mkS_inj e
   have:=congrArg List.length e
   simp[cds] at this
   omega
 ·simp only[nst] at f1
  have hsz0:(0:Int)<size:=by omega
  simp (disch:=omega) [-List.map_map,zgu,PU.start,Zcx,el,i8,i9,zdm,hsz,hat,zqn]
  rw[f1]
  simp
def enc(w:W):PV:=.str (mkS w)
def W8:List W:=[[97,110,110],[97,110,110,97],[98,111],[98,111,98],[108,101,101],[114,111,101]]
def LS5:WO.Lts:=[(50,[97,98,99]),(51,[100,101,102]),(53,[106,107,108]),(54,[109,110,111]),(55,[112,113,114,115])]
theorem Zbk:∀w∈W8,∀c∈w,(WO.keyL LS5 c).isSome=true:=by decide +kernel
theorem Ze1:(W8.map (cdH LS5)).Nodup:=by decide +kernel
theorem Ze0:∀l∈LS5,l.1≠35:=by decide +kernel
theorem Zdz:W8.Nodup:=by decide +kernel
theorem zv4:∀w∈W8,w.length<=4:=by decide +kernel
theorem lp5:PV.lst [.tup [.str "2",.str "abc"],.tup [.str "3",.str "def"],.tup [.str "5",.str "jkl"],.tup [.str "6",.str "mno"],.tup [.str "7",.str "pqrs"]]=WO.ltPv LS5:=by kernel_rfl
def E8:List (Nat×W):=[(0,[97,110,110]),(1,[97,110,110,97]),(2,[98,111]),(3,[98,111,98]),(4,[108,101,101]),(5,[114,111,101])]
def e8(p:Nat×W):PV:=.tup [.int p.1,.str (mkS p.2)]
theorem Zfm:zmt (.lst [.str "ann",.str "anna",.str "bo",.str "bob",.str "lee",.str "roe"])=some (E8.map e8):=by kernel_rfl
theorem e8_w:E8.map (·.2)=W8:=by decide +kernel
theorem Zfl:∀p∈E8,p.1<6:=by decide +kernel
def K12:List Nat:=[48,49,50,51,52,53,54,55,56,57,42,35]
def E12:List (Nat×Nat):=[(0,48),(1,49),(2,50),(3,51),(4,52),(5,53),(6,54),(7,55),(8,56),(9,57),(10,42),(11,35)]
def e12(p:Nat×Nat):PV:=.tup [.int p.1,WO.sg p.2]
theorem Zcr:zmt (.str "0123456789*#")=some (E12.map e12):=by kernel_rfl
theorem Zfn:E12.map (·.2)=K12:=by decide
theorem Zcq:∀p∈E12,p.1<12:=by decide
theorem Zb0:K12.Nodup:=by decide
def pvk(p:Nat×Str):PV:=.tup [WO.sg p.1,.str p.2]
def mk2(p:Nat×Str):Str×Str:=(⟨#[p.1]⟩,p.2)
theorem zwl(ks:List (Nat×Str)):(ks.map mk2).map pv2=ks.map pvk:=by rw[List.map_map];rfl
def mw2(p:W×Str):Str×Str:=(mkS p.1,p.2)
theorem zwk(wt:List (W×Str)):PV.tup ((wt.map mw2).map pv2)=wtPv wt:=by rw[List.map_map];rfl
def RW(nms:List Str):Room->Prop
 | .menu _ ks wr wa=>(∃kt:List (Nat×Str),ks=kt.map mk2/\List.Sublist (kt.map (·.1)) K12/\∀k∈kt,k.2="back"\/k.2∈nms)/\wr.2∈nms/\wa.2∈nms/\(1<=wr.1/\wr.1<=2)/\(1<=wa.1/\wa.1<=2)
 | .names _ ws wr wa=>(∃wt:List (W×Str),ws=wt.map mw2/\List.Sublist (wt.map (·.1)) W8/\wt≠[]/\∀p∈wt,p.2∈nms)/\wr.2∈nms/\wa.2∈nms/\(1<=wr.1/\wr.1<=2)/\(1<=wa.1/\wa.1<=2)
 | _=>True
structure Low(nms:List Str)(low:Nat)(lw:List Str):Prop where
 cut:cutP (nms.map PV.str) none (some (low:Int))=lw.map PV.str
 ln:lw.length=low
 sub:∀x∈lw,x∈nms
 le:low<=nms.length
 pos:0<low
 sm:low<=100
theorem Low.at_{nms lw:List Str}{low:Nat}(L:Low nms low lw)(z:Int):∃x∈nms,atI (nms.map PV.str) (z % (low:Int))=some (.str x):=by
 have:=L.pos
 have h0:=Int.emod_nonneg z (b:=(low:Int)) (by omega)
 have h1:=Int.emod_lt_of_pos z (b:=(low:Int)) (by omega)
 obtain⟨k,hk⟩:∃k:Nat,z % (low:Int)=(k:Int):=⟨(z % (low:Int)).toNat,by omega⟩
 have hl:=L.le
 rw[hk]
 exact⟨_,List.getElem_mem (by omega),at_i nms k (by omega)⟩
theorem Low.bk {nms lw:List Str} {low:Nat} (L:Low nms low lw) (z:Int):∃x:Str,(x="back"\/x∈nms)/\atI (lw.map PV.str++[.str "back"]) (z % ((low:Int)+1))=some (.str x):=by
 have hl:(lw++[Str.ofString "back"]).length=low+1:=by simp[L.ln]
 obtain⟨x,hx,e⟩:=Zcz (lw++[Str.ofString "back"]) z (by omega)
 rw[hl,List.map_append] at e
 refine⟨x,?_,e⟩
 rcases List.mem_append.mp hx with h | h
 ·exact .inr (L.sub x h)
 ·simp only[List.mem_cons,List.not_mem_nil,or_false] at h
  exact .inl h
abbrev mst(nms:List Str)(t:Str)(cell:Int)(low:Nat)(ls:List Int)(kt:List PV)(a b:Sl):PSt:=[.val (.lst (nms.map .str)),.val (.str t),.val (.int cell),.val (.int low),.val (.lst (ls.map .int)),.own (.lst kt),a,b,.no]
abbrev nrst(nms:List Str)(cell:Int)(low:Nat)(ls:List Int)(wt:List PV)(a b:Sl):PSt:=[.val (.lst (nms.map .str)),.val (.int cell),.val (.int low),.val (.lst (ls.map .int)),.own (.lst wt),a,b,.no]
abbrev w2(p:W×Str):PV:=.tup [.str (mkS p.1),.str p.2]
section
variable{nms lw : List Str}{low : Nat}(L : Low nms low lw)
include L
theorem menu(t:Str)(cell:Int):∃(ks:List (Str×Str))(wr wa:Int×Str),RW nms (.menu t ks wr wa)/\zgc [.lst (nms.map .str),.str t,.int cell,.int low]=some (Room.menu t ks wr wa).pv:=by
 obtain⟨ls,l1,l2,el⟩:=numbers cell 30 (by omega)
 have el:zau [.int cell,.int 30]=some (.lst (ls.map .int)):=el
 have hlow:=L.pos
 have hsm:=L.sm
 have cu:=L.cut
 have ad:gAdd (.lst (lw.map .str)) (.lst [.str "back"])=some (.lst (lw.map .str++[.str "back"])):=zqr (by simp[L.ln];omega)
 obtain⟨ρ',f1,kt,a,b,rfl,h1,h2⟩:=forM (enc:=e12) (xs:=E12) (h:=tupT 2 (za7 (zan 6) (za7 (zan 7) nilT))) (g:=zeh) (ρ:=[.val (.lst (nms.map .str)),.val (.str t),.val (.int cell),.val (.int low),.val (.lst (ls.map .int)),.own (.lst []),.no,.no,.no])
  (I:=fun pre ρ=>∃(kt:List (Nat×Str)) (a b:Sl),ρ=mst nms t cell low ls (kt.map pvk) a b/\List.Sublist (kt.map (·.1)) (pre.map (·.2))/\∀k∈kt,k.2="back"\/k.2∈nms) ⟨[],.no,.no,rfl,List.Sublist.refl _,by simp⟩ (by
   rintro pre p post ρ hx ⟨kt,a,b,rfl,h1,h2⟩
   have hp:p.1<12:=Zcq p (by rw[hx];simp)
   have hE:E12.length=12:=rfl
   have hkl:kt.length<=12:=by
    have e1:=h1.length_le
    have e2:=congrArg List.length hx
    rw[List.length_append] at e2
    simp at e1
    omega
   have i1:=zcc ls p.1 (by omega)
   have i2:=zcc ls (p.1+12) (by omega)
   have n2:((p.1+12:Nat):Int)=(p.1:Int)+12:=by omega
   rw[n2] at i2
   generalize ls[p.1]=x at i1
   generalize ls[p.1+12]=y at i2
   obtain⟨tg,ht,et⟩:=L.bk y
   have m3:gMod (.int x) (.int 3)=some (.int (x % 3)):=zdm (by decide)
   have m11:gMod (.int y) (.int ((low:Int)+1))=some (.int (y % ((low:Int)+1))):=zdm (by omega)
   have z:(kt.map pvk).length<16777216:=by simp;omega
   by_cases g1:x % 3=0
   ·refine⟨mst nms t cell low ls (kt.map pvk) (.val (.int p.1)) (.val (WO.sg p.2)),mst nms t cell low ls ((kt++[(p.2,tg)]).map pvk) (.val (.int p.1)) (.val (WO.sg p.2)),rfl,.inl ?_,kt++[(p.2,tg)],_,_,rfl,?_,?_⟩
    ·rw[List.map_append]
     simp only[mst]
     generalize kt.map pvk=KT at *
     generalize nms.map PV.str=NN at *
     generalize lw.map PV.str=LW at *
     simp[zeh,mst,i1,i2,m3,m11,g1,cu,ad,et,z,pvk]
    ·rw[List.map_append,List.map_append]
     exact List.Sublist.append h1 (List.Sublist.refl _)
    ·intro k hk
     rcases List.mem_append.mp hk with hk | hk
     ·exact h2 k hk
     ·rw[List.mem_singleton.mp hk];exact ht
   ·refine⟨mst nms t cell low ls (kt.map pvk) (.val (.int p.1)) (.val (WO.sg p.2)),mst nms t cell low ls (kt.map pvk) (.val (.int p.1)) (.val (WO.sg p.2)),rfl,.inl ?_,kt,_,_,rfl,?_,h2⟩
    ·simp[zeh,mst,i1,m3,g1]
    ·rw[List.map_append]
     exact List.Sublist.trans h1 (List.sublist_append_left _ _))
 rw[Zfn] at h1
 simp only[mst] at f1
 have i24:atI (ls.map PV.int) 24=some (.int ls[24]):=zcc ls 24 (by omega)
 have i25:atI (ls.map PV.int) 25=some (.int ls[25]):=zcc ls 25 (by omega)
 have i26:atI (ls.map PV.int) 26=some (.int ls[26]):=zcc ls 26 (by omega)
 have i27:atI (ls.map PV.int) 27=some (.int ls[27]):=zcc ls 27 (by omega)
 generalize ls[24]=y1 at i24
 generalize ls[25]=y2 at i25
 generalize ls[26]=y3 at i26
 generalize ls[27]=y4 at i27
 obtain⟨x1,hx1,e1⟩:=L.at_ y2
 obtain⟨x2,hx2,e2⟩:=L.at_ y4
 have q1:gMod (.int y2) (.int low)=some (.int (y2 % low)):=zdm (by omega)
 have q2:gMod (.int y4) (.int low)=some (.int (y4 % low)):=zdm (by omega)
 have q3:gMod (.int y1) (.int 2)=some (.int (y1 % 2)):=zdm (by decide)
 have q4:gMod (.int y3) (.int 2)=some (.int (y3 % 2)):=zdm (by decide)
 refine⟨kt.map mk2,(1+y1 % 2,x1),(1+y3 % 2,x2),⟨⟨kt,rfl,h1,h2⟩,hx1,hx2,⟨by show 1<=1+y1 % 2;omega,by show 1+y1 % 2<=2;omega⟩,⟨by show 1<=1+y3 % 2;omega,by show 1+y3 % 2<=2;omega⟩⟩,zas rfl ?_⟩
 have pv:(Room.menu t (kt.map mk2) (1+y1 % 2,x1) (1+y3 % 2,x2)).pv=.tup [.str "menu",.str t,.tup (kt.map pvk),.tup [.int (1+y1 % 2),.str x1],.tup [.int (1+y3 % 2),.str x2]]:=by rw[← zwl];rfl
 rw[pv]
 have ee:=Zcr
 generalize E12.map e12=EE at *
 generalize nms.map PV.str=NN at *
 generalize ls.map PV.int=LN at *
 generalize kt.map pvk=KT at *
 simp[zh6,PU.start,el,ee,f1,i24,i25,q1,e1,i26,i27,q2,e2,q3,q4]
theorem nroom (cell:Int):∃(ws:List (Str×Str)) (wr wa:Int×Str),RW nms (.names "Spell" ws wr wa)/\zbh [.lst (nms.map .str),.int cell,.int low]=some (Room.names "Spell" ws wr wa).pv:=by
 obtain⟨ls,l1,l2,el⟩:=numbers cell 14 (by omega)
 have el:zau [.int cell,.int 14]=some (.lst (ls.map .int)):=el
 have hlow:=L.pos
 obtain⟨ρ',f1,wt,a,b,rfl,h1,h2,h3⟩:=forM (enc:=e8) (xs:=E8) (h:=tupT 2 (za7 (zan 5) (za7 (zan 6) nilT))) (g:=za9) (ρ:=[.val (.lst (nms.map .str)),.val (.int cell),.val (.int low),.val (.lst (ls.map .int)),.own (.lst []),.no,.no,.no])
  (I:=fun pre ρ=>∃(wt:List (W×Str))(a b:Sl),ρ=nrst nms cell low ls (wt.map w2) a b/\List.Sublist (wt.map (·.1)) (pre.map (·.2))/\(∀p∈wt,p.2∈nms)/\wt.length<=2) ⟨[],.no,.no,rfl,List.Sublist.refl _,by simp,by simp⟩ (by
   rintro pre p post ρ hx ⟨wt,a,b,rfl,h1,h2,h3⟩
   have hp:p.1<6:=Zfl p (by rw[hx];simp)
   have i1:=zcc ls p.1 (by omega)
   generalize ls[p.1]=x at i1
   have d2:gDiv (.int x) (.int 2)=some (.int (x / 2)):=zqq ⟨by decide,by decide⟩
   obtain⟨tg,ht,et⟩:=L.at_ (x / 2)
   have m2:gMod (.int x) (.int 2)=some (.int (x % 2)):=zdm (by decide)
   have m9:gMod (.int (x / 2)) (.int low)=some (.int (x / 2 % low)):=zdm (by omega)
   have z:(wt.map w2).length<16777216:=by simp;omega
   have gl:gLen (.lst (wt.map w2))=some (.int wt.length):=by simp
   have ap:(wt++[(p.2,tg)]).map w2=wt.map w2++[.tup [.str (mkS p.2),.str tg]]:=by simp
   by_cases g1:x % 2=1
   ·by_cases g2:(wt.length:Int)<2
    ·refine⟨nrst nms cell low ls (wt.map w2) (.val (.int p.1)) (.val (.str (mkS p.2))),nrst nms cell low ls ((wt++[(p.2,tg)]).map w2) (.val (.int p.1)) (.val (.str (mkS p.2))),rfl,.inl ?_,wt++[(p.2,tg)],_,_,rfl,?_,?_,by simp;omega⟩
     ·rw[ap]
      simp only[nrst]
      generalize (wt.map w2)=WT at *
      generalize nms.map PV.str=NN at *
      simp[za9,nrst,i1,m2,g1,gl,g2,d2,m9,et,z]
     ·rw[List.map_append,List.map_append]
      exact List.Sublist.append h1 (List.Sublist.refl _)
     ·intro k hk
      rcases List.mem_append.mp hk with hk | hk
      ·exact h2 k hk
      ·rw[List.mem_singleton.mp hk];exact ht
    ·refine⟨nrst nms cell low ls (wt.map w2) (.val (.int p.1)) (.val (.str (mkS p.2))),nrst nms cell low ls (wt.map w2) (.val (.int p.1)) (.val (.str (mkS p.2))),rfl,.inl ?_,wt,_,_,rfl,?_,h2,h3⟩
     ·simp only[nrst]
      generalize (wt.map w2)=WT at *
      simp[za9,nrst,i1,m2,g1,gl,g2]
     ·rw[List.map_append]
      exact List.Sublist.trans h1 (List.sublist_append_left _ _)
   ·refine⟨nrst nms cell low ls (wt.map w2) (.val (.int p.1)) (.val (.str (mkS p.2))),nrst nms cell low ls (wt.map w2) (.val (.int p.1)) (.val (.str (mkS p.2))),rfl,.inl ?_,wt,_,_,rfl,?_,h2,h3⟩
    ·simp only[nrst]
     generalize (wt.map w2)=WT at *
     simp[za9,nrst,i1,m2,g1]
    ·rw[List.map_append]
     exact List.Sublist.trans h1 (List.sublist_append_left _ _))
 rw[e8_w] at h1
 simp only[nrst] at f1
 have i10:atI (ls.map PV.int) 10=some (.int ls[10]):=zcc ls 10 (by omega)
 have i12:atI (ls.map PV.int) 12=some (.int ls[12]):=zcc ls 12 (by omega)
 generalize ls[10]=y2 at i10
 generalize ls[12]=y4 at i12
 obtain⟨x1,hx1,e1⟩:=L.at_ y2
 obtain⟨x2,hx2,e2⟩:=L.at_ y4
 have q1:gMod (.int y2) (.int low)=some (.int (y2 % low)):=zdm (by omega)
 have q2:gMod (.int y4) (.int low)=some (.int (y4 % low)):=zdm (by omega)
 have hnl:0<nms.length:=by have:=L.le;omega
 have a6:atI (nms.map PV.str) 0=some (.str nms[0]):=at_i nms 0 hnl
 have ee:=Zfm
 have fin:∀(wt':List (W×Str)),List.Sublist (wt'.map (·.1)) W8->wt'≠[]->(∀p∈wt',p.2∈nms)->(∃(ws:List (Str×Str)) (wr wa:Int×Str),RW nms (.names "Spell" ws wr wa)/\(Room.names "Spell" ws wr wa).pv=.tup [.str "names",.str "Spell",.tup (wt'.map w2),.tup [.int 1,.str x1],.tup [.int 1,.str x2]]):=fun wt' g1 g2 g3=>
  ⟨wt'.map mw2,(1,x1),(1,x2),⟨⟨wt',rfl,g1,g2,g3⟩,hx1,hx2,⟨Int.le_refl 1,show (1:Int)<=2 by decide⟩,⟨Int.le_refl 1,show (1:Int)<=2 by decide⟩⟩,by
   have:=zwk wt'
   show PV.tup [.str "names",.str "Spell",.tup ((wt'.map mw2).map pv2),_,_]=_
   rw[this]
   rfl⟩
 cases wt with
 | nil=>
  obtain⟨ws,wr,wa,g1,g2⟩:=fin [([108,101,101],nms[0])] (by show List.Sublist [[108,101,101]] W8;decide +kernel) (by simp) (by
   intro p hp
   rw[List.mem_singleton.mp hp]
   exact List.getElem_mem _)
  refine⟨ws,wr,wa,g1,zas rfl ?_⟩
  rw[g2]
  simp only[List.map_cons,List.map_nil,w2] at f1 ⊢
  have le:(PV.str "lee")=.str (mkS [108,101,101]):=by kernel_rfl
  generalize E8.map e8=EE at *
  generalize nms.map PV.str=NN at *
  generalize ls.map PV.int=LN at *
  simp[zb4,PU.start,el,ee,f1,a6,i10,q1,e1,i12,q2,e2]
  exact PV.str.inj le
 | cons p wt=>
  obtain⟨ws,wr,wa,g1,g2⟩:=fin (p::wt) h1 (by simp) h2
  refine⟨ws,wr,wa,g1,zas rfl ?_⟩
  rw[g2]
  have gl:gLen (.lst ((p::wt).map w2))=some (.int (wt.length+1)):=by simp
  have hl:¬ ((wt.length:Int)+1=0):=by omega
  generalize ((p::wt).map w2)=WT at *
  generalize E8.map e8=EE at *
  generalize nms.map PV.str=NN at *
  generalize ls.map PV.int=LN at *
  simp[zb4,PU.start,el,ee,f1,gl,hl,i10,q1,e1,i12,q2,e2]
end
def Fit(nms ord:List Str)(r:Str×Room):Prop:=∃(k:Nat)(hk:k<ord.length),ord[k]=r.1/\(∀sp l,r.2=.hours sp l->l∈ord.drop (k+1)/\∀s∈sp,s.2.2∈ord.drop (k+1))/\RW nms r.2
structure Good(nms ord:List Str)(rs:FA.Rooms):Prop where
 ok:∀r∈rs,Fit nms ord r
 nd:(rs.map (·.1)).Nodup
theorem zi5(nms:List Str)(rs:FA.Rooms)(k:Str)(r:Room)(ord:List Str)(g:Good nms ord rs)(hr:Fit nms ord (k,r)):Good nms ord (putR rs k r)/\(putR rs k r).length<=rs.length+1:=by
 obtain⟨a,b,c⟩:=zxt (rs:=rs) (k:=k) (r:=r) (Fit nms ord) g.ok (fun x e1 e2=>by have:x=(k,r):=Prod.ext e1 e2;rw[this];exact hr) g.nd
 exact⟨⟨a,b⟩,c⟩
theorem zb7(rs:FA.Rooms):zam rs=.dct (rs.map fun r=>.inr r.1) (rs.map fun r=>r.2.pv):=rfl
theorem zte(nms ord:List Str)(rs:FA.Rooms)(nd:ord.Nodup)(g:Good nms ord rs)(hall:∀x∈ord,x∈FA.names rs)(hour:Int):∀(n k:Nat)(hk:k<ord.length),ord.length-k<=n->∃y r,comeGo rs hour n ord[k]=some y/\FA.lookR rs y=some r/\y∈ord/\∀sp l,r≠.hours sp l
 | 0,k,hk,h=>by omega
 | n+1,k,hk,h=>by
  obtain⟨r,hr⟩:=FA.look_some rs ord[k] (hall _ (List.getElem_mem hk))
  obtain⟨k',hk',e,ht,_⟩:=g.ok _ (zrr rs _ r hr)
  have ek:k'=k:=(List.getElem_inj nd).mp e
  subst ek
  unfold comeGo
  rw[hr]
  by_cases hh:∃sp l,r=.hours sp l
  ·obtain⟨sp,l,rfl⟩:=hh
   obtain⟨h1,h2⟩:=ht sp l rfl
   have hin:FA.handOf sp l hour∈ord.drop (k'+1):=by
    unfold FA.handOf
    cases e:sp.find? (FA.holds hour) with
    | none=>exact h1
    | some s=>exact h2 s (List.mem_of_find?_eq_some e)
   obtain⟨j,hj,e2⟩:=List.getElem_of_mem hin
   rw[List.length_drop] at hj
   rw[List.getElem_drop] at e2
   dsimp only
   rw[← e2]
   exact zte nms ord rs nd g hall hour n (k'+1+j) (by omega) (by omega)
  ·refine⟨ord[k'],r,?_,hr,List.getElem_mem _,fun sp l e=>hh ⟨sp,l,e⟩⟩
   cases r with
   | hours sp l=>exact absurd ⟨sp,l,rfl⟩ hh
   | _=>rfl
structure HG(h:House)(nms ord:List Str):Prop where
 nd:ord.Nodup
 ol:ord.length<=20
 g:Good nms ord h.rooms
 all:∀x∈ord,x∈FA.names h.rooms
 nm:∀x∈nms,x∈ord
 mn:∀x∈ord,x∈nms
 nb:∀x∈nms,x≠"back"/\x≠""
 fst:h.first∈nms
 lets:gIx h.pv (.str "letters")=some (WO.ltPv LS5)
 rl:h.rooms.length<=20
 nl:nms.length<=7
def ltS(ls:WO.Lts):List (Str×Str):=ls.map fun l=>(⟨#[l.1]⟩,mkS l.2)
theorem Zbj(ls:WO.Lts):PV.lst ((ltS ls).map pv2)=WO.ltPv ls:=by
 unfold ltS WO.ltPv
 rw[List.map_map]
 rfl
theorem Zbl(n0 n1 n2 n3 n4 n5:Str)(z:Int):∃(low:Nat)(lw:List Str),Low [n0,n1,n2,n3,n4,n5] low lw/\(low=6\/low=4)/\atI [PV.int 6,.int 6,.int 4] (z % 3)=some (.int low):=by
 have l6:Low [n0,n1,n2,n3,n4,n5] 6 [n0,n1,n2,n3,n4,n5]:=⟨rfl,rfl,fun x h=>h,by simp,by omega,by omega⟩
 have l4:Low [n0,n1,n2,n3,n4,n5] 4 [n0,n1,n2,n3]:=⟨rfl,rfl,fun x h=>by simp only[List.mem_cons,List.not_mem_nil,or_false] at h ⊢;rcases h with h | h | h | h <;> simp[h],by simp,by omega,by omega⟩
 obtain⟨k,hk,hk9⟩:∃k:Nat,z % 3=(k:Int)/\k<3:=⟨(z % 3).toNat,by omega,by omega⟩
 rw[hk]
 match k,hk9 with
 | 0,_=>exact⟨6,_,l6,.inl rfl,zby (n:=0) rfl rfl⟩
 | 1,_=>exact⟨6,_,l6,.inl rfl,zby (n:=1) rfl rfl⟩
 | 2,_=>exact⟨4,_,l4,.inr rfl,zby (n:=2) rfl rfl⟩
theorem at4(nms:List Str)(a b c d:Nat)(z:Int)(ha:a<nms.length)(hb:b<nms.length)(hc:c<nms.length)(hd:d<nms.length):∃(k:Nat)(hk:k<nms.length),(k=a\/k=b\/k=c\/k=d)/\atI [PV.int a,.int b,.int c,.int d] (z % 4)=some (.int k)/\atI (nms.map PV.str) (k:Int)=some (.str nms[k]):=by
 obtain⟨i,hi,hi4⟩:∃i:Nat,z % 4=(i:Int)/\i<4:=⟨(z % 4).toNat,by omega,by omega⟩
 rw[hi]
 match i,hi4 with
 | 0,_=>exact⟨a,ha,.inl rfl,zby (n:=0) rfl rfl,at_i nms a ha⟩
 | 1,_=>exact⟨b,hb,.inr (.inl rfl),zby (n:=1) rfl rfl,at_i nms b hb⟩
 | 2,_=>exact⟨c,hc,.inr (.inr (.inl rfl)),zby (n:=2) rfl rfl,at_i nms c hc⟩
 | 3,_=>exact⟨d,hd,.inr (.inr (.inr rfl)),zby (n:=3) rfl rfl,at_i nms d hd⟩
theorem house(ns:List Int):∃(h:House)(nms ord:List Str),HG h nms ord/\zd9 [.lst (ns.map .int)]=some h.pv:=by
 have c0:zal [PV.lst (ns.map PV.int),PV.int 0]=some (PV.int (ns.getD 0 0)):=zgy ns 0
 have c1:zal [PV.lst (ns.map PV.int),PV.int 1]=some (PV.int (ns.getD 1 0)):=zgy ns 1
 have c3:zal [PV.lst (ns.map PV.int),PV.int 3]=some (PV.int (ns.getD 3 0)):=zgy ns 3
 have c4:zal [PV.lst (ns.map PV.int),PV.int 4]=some (PV.int (ns.getD 4 0)):=zgy ns 4
 have c5:zal [PV.lst (ns.map PV.int),PV.int 5]=some (PV.int (ns.getD 5 0)):=zgy ns 5
 have cc:∀i:Nat,zal [PV.lst (ns.map PV.int),PV.int i]=some (PV.int (ns.getD i 0)):=zgy ns
 generalize ns.getD 0 0=z0 at c0
 generalize ns.getD 1 0=z1 at c1
 generalize ns.getD 3 0=z3 at c3
 generalize ns.getD 4 0=z4 at c4
 generalize ns.getD 5 0=z5 at c5
 obtain⟨nms,hnl,hnd,hnb,en⟩:=names z0
 obtain⟨n0,n1,n2,n3,n4,n5,rfl⟩:∃n0 n1 n2 n3 n4 n5,nms=[n0,n1,n2,n3,n4,n5]:=by
  match nms,hnl with
  | [a,b,c,d,e,f],_=>exact⟨a,b,c,d,e,f,rfl⟩
 obtain⟨low,lw,L,hlow,elow⟩:=Zbl n0 n1 n2 n3 n4 n5 z1
 obtain⟨ws2,wr2,wa2,rw2,er2⟩:=nroom L z4
 obtain⟨ws1,wr1,wa1,rw1,er1⟩:=nroom L (z3+104729)
 have hmenu:=fun (t:Str) (cell:Int)=>menu L t cell
 obtain⟨ls,l1,l2,el⟩:=numbers z5 5 (by omega)
 have el:zau [.int z5,.int 5]=some (.lst (ls.map .int)):=el
 have j0:atI (ls.map PV.int) 0=some (.int ls[0]):=zcc ls 0 (by omega)
 have j1:atI (ls.map PV.int) 1=some (.int ls[1]):=zcc ls 1 (by omega)
 have j2:atI (ls.map PV.int) 2=some (.int ls[2]):=zcc ls 2 (by omega)
 have j3:atI (ls.map PV.int) 3=some (.int ls[3]):=zcc ls 3 (by omega)
 have j4:atI (ls.map PV.int) 4=some (.int ls[4]):=zcc ls 4 (by omega)
 generalize ls[0]=y0 at j0
 generalize ls[1]=y1 at j1
 generalize ls[2]=y2 at j2
 generalize ls[3]=y3 at j3
 generalize ls[4]=y4 at j4
 obtain⟨ord,hord⟩:∃ord,ord=[n3,n0,n1,n2,n4,n5]:=⟨_,rfl⟩
 have hperm:∀x,x∈[n0,n1,n2,n3,n4,n5] ↔ x∈ord:=fun x=>by
  rw[hord]
  simp only[List.mem_cons,List.not_mem_nil,or_false]
  constructor
  ·rintro (h | h | h | h | h | h) <;> simp[h]
  ·rintro (h | h | h | h | h | h) <;> simp[h]
 have hond:ord.Nodup:=by
  rw[hord]
  have pm:List.Perm [n0,n1,n2,n3,n4,n5] [n3,n0,n1,n2,n4,n5]:=by
   show List.Perm ([n0,n1,n2]++([n3]++[n4,n5])) ([n3]++([n0,n1,n2]++[n4,n5]))
   rw[← List.append_assoc,← List.append_assoc]
   exact List.Perm.append_right _ List.perm_append_comm
  exact pm.nodup_iff.mp hnd
 obtain⟨nms,hnms⟩:∃nms,nms=[n0,n1,n2,n3,n4,n5]:=⟨_,rfl⟩
 have plain:∀(x:Str)(r:Room),x∈ord->(∀sp l,r≠.hours sp l)->RW nms r->Fit nms ord (x,r):=fun x r hx hr hw=>by
  obtain⟨k,hk,e⟩:=List.getElem_of_mem hx
  exact⟨k,hk,e,fun sp l e=>absurd e (hr sp l),hw⟩
 have om:∀x∈[n0,n1,n2,n3,n4,n5],x∈ord:=fun x hx=>(hperm x).mp hx
 have menus:∃(rs:FA.Rooms)(a:Sl),Good nms ord rs/\rs.length<=2/\(n0∈FA.names rs/\n1∈FA.names rs)/\forF (zan 4) zdy (zcb 0 2) [.val (.lst (ns.map .int)),.val (.lst ([n0,n1,n2,n3,n4,n5].map .str)),.val (.int low),.own (.dct [] []),.no,.no,.no,.no]=.ok (.next [.val (.lst (ns.map .int)),.val (.lst ([n0,n1,n2,n3,n4,n5].map .str)),.val (.int low),.own (zam rs),a,.no,.no,.no]):=by
  obtain⟨ρ',f1,rs,a,rfl,g,hl,hm⟩:=forR (n:=2) (lo:=0) (h:=zan 4) (g:=zdy) (ρ:=[.val (.lst (ns.map .int)),.val (.lst ([n0,n1,n2,n3,n4,n5].map .str)),.val (.int low),.own (.dct [] []),.no,.no,.no,.no])
   (I:=fun i ρ=>∃rs a,ρ=[.val (.lst (ns.map .int)),.val (.lst ([n0,n1,n2,n3,n4,n5].map .str)),.val (.int low),.own (zam rs),a,.no,.no,.no]/\Good nms ord rs/\rs.length<=i/\∀j,j<i->∀hj:j<6,[n0,n1,n2,n3,n4,n5][j]∈FA.names rs) ⟨[],.no,rfl,⟨by simp,by simp⟩,by simp,fun j hj=>by omega⟩ (by
    rintro i ρ hi ⟨rs,a,rfl,g,hl,hm⟩
    have e3:=at_i [n0,n1,n2,n3,n4,n5] i (by simp;omega)
    have hx:[n0,n1,n2,n3,n4,n5][i]'(by simp;omega)∈[n0,n1,n2,n3,n4,n5]:=List.getElem_mem _
    obtain⟨t,et⟩:∃t:Str,atI [PV.str "Hello",PV.str "Again"] (i:Int)=some (.str t):=by
     match i,hi with
     | 0,_=>exact⟨_,by simp;rfl⟩
     | 1,_=>exact⟨_,by simp;rfl⟩
    have ci:=cc (2+i)
    have n1':((2+i:Nat):Int)=2+(i:Int):=by omega
    rw[n1'] at ci
    generalize ns.getD (2+i) 0=u at ci
    have mu:gMul (.int 7919) (.int i)=some (.int (7919 * (i:Int))):=zqp (.inl (by decide))
    obtain⟨ks,wr,wa,rw1,em⟩:=hmenu t (u+7919 * (i:Int))
    rw[← hnms] at rw1
    obtain⟨g',l'⟩:=zi5 nms rs _ (.menu t ks wr wa) ord g (plain _ _ (om _ hx) (fun _ _ e=>by cases e) rw1)
    have p:=zgq rs ([n0,n1,n2,n3,n4,n5][i]'(by simp;omega)) (.menu t ks wr wa)
    have z1:rs.length<16777216:=by omega
    rw[Int.zero_add]
    refine⟨_,[.val (.lst (ns.map .int)),.val (.lst ([n0,n1,n2,n3,n4,n5].map .str)),.val (.int low),.own (zam (putR rs ([n0,n1,n2,n3,n4,n5][i]'(by simp;omega)) (.menu t ks wr wa))),.val (.int i),.no,.no,.no],rfl,.inl ?_,_,_,rfl,g',by omega,fun j hj hj8=>?_⟩
    ·generalize (Room.menu t ks wr wa).pv=RP at *
     generalize ([n0,n1,n2,n3,n4,n5][i]'(by simp;omega))=nk at *
     generalize ([n0,n1,n2,n3,n4,n5].map PV.str)=N at *
     simp[zdy,e3,et,ci,mu,em,zb7 rs,z1,p]
    ·rw[zgt]
     by_cases hji:j=i
     ·subst hji;exact .inr rfl
     ·exact .inl (hm j (by omega) hj8))
  exact⟨rs,a,g,hl,⟨hm 0 (by omega) (by omega),hm 1 (by omega) (by omega)⟩,f1⟩
 obtain⟨rs,a,g,hl,⟨hm0,hm1⟩,f1⟩:=menus
 have dr:∀x∈[n0,n1,n2,n4,n5],x∈ord.drop 1:=fun x hx=>by
  rw[hord]
  simpa using hx
 have hlt:∀k:Nat,k<6->k<[n0,n1,n2,n3,n4,n5].length:=fun k h=>by simpa using h
 obtain⟨k2,hk2,o2,et2,ea2⟩:=at4 [n0,n1,n2,n3,n4,n5] 0 1 2 4 y2 (hlt _ (by omega)) (hlt _ (by omega)) (hlt _ (by omega)) (hlt _ (by omega))
 obtain⟨k3,hk3,o3,et3,ea3⟩:=at4 [n0,n1,n2,n3,n4,n5] 0 1 2 5 y3 (hlt _ (by omega)) (hlt _ (by omega)) (hlt _ (by omega)) (hlt _ (by omega))
 have et2:atI [PV.int 0,.int 1,.int 2,.int 4] (y2 % 4)=some (.int k2):=et2
 have et3:atI [PV.int 0,.int 1,.int 2,.int 5] (y3 % 4)=some (.int k3):=et3
 have tg2:[n0,n1,n2,n3,n4,n5][k2]∈ord.drop 1:=by
  rcases o2 with rfl | rfl | rfl | rfl <;> exact dr _ (by simp)
 have tg3:[n0,n1,n2,n3,n4,n5][k3]∈ord.drop 1:=by
  rcases o3 with rfl | rfl | rfl | rfl <;> exact dr _ (by simp)
 generalize [n0,n1,n2,n3,n4,n5][k2]=t2 at ea2 tg2
 generalize [n0,n1,n2,n3,n4,n5][k3]=t3 at ea3 tg3
 obtain⟨t6,tg6,ea6⟩:∃t6,t6∈ord.drop 1/\atI ([n0,n1,n2,n3,n4,n5].map PV.str) (y3 % 3)=some (.str t6):=by
  obtain⟨k,hk,hk9⟩:∃k:Nat,y3 % 3=(k:Int)/\k<3:=⟨(y3 % 3).toNat,by omega,by omega⟩
  rw[hk]
  match k,hk9 with
  | 0,_=>exact⟨n0,dr _ (by simp),zby (n:=0) rfl rfl⟩
  | 1,_=>exact⟨n1,dr _ (by simp),zby (n:=1) rfl rfl⟩
  | 2,_=>exact⟨n2,dr _ (by simp),zby (n:=2) rfl rfl⟩
 obtain⟨fst,hfst,ef⟩:=L.at_ y4
 have ol:ord.length=6:=by rw[hord];rfl
 have fit3:∀(sp:List (Int×Int×Str))(l:Str),(∀s∈sp,s.2.2∈ord.drop 1)->l∈ord.drop 1->Fit nms ord (n3,.hours sp l):=fun sp l hs hl=>⟨0,by omega,by simp[hord],fun sp l e=>by cases e;exact⟨hl,hs⟩,trivial⟩
 rw[← hnms] at rw1 rw2
 obtain⟨g2,l2'⟩:=zi5 nms rs n2 (.names "Spell" ws2 wr2 wa2) ord g (plain _ _ (om _ (by simp)) (fun _ _ e=>by cases e) rw2)
 have p2:=zgq rs n2 (.names "Spell" ws2 wr2 wa2)
 obtain⟨r2,hr2⟩:∃r2,r2=putR rs n2 (.names "Spell" ws2 wr2 wa2):=⟨_,rfl⟩
 have q2:∀x,(x∈FA.names rs\/x=n2)->x∈FA.names r2:=fun x h=>by rw[hr2,zgt];exact h
 rw[← hr2] at g2 l2' p2
 obtain⟨r3,g3,l3,q3,a3⟩:∃r3,Good nms ord r3/\r3.length<=r2.length+1/\(∀x,x∈FA.names r2->x∈FA.names r3)/\((z1 / 3 % 2=1/\putP (r2.map fun r=>.inr r.1) (r2.map fun r=>r.2.pv) (.inr n1) (Room.names "Spell" ws1 wr1 wa1).pv=zam r3)\/(¬ z1 / 3 % 2=1/\r3=r2)):=by
  by_cases c:z1 / 3 % 2=1
  ·obtain⟨g3,l3⟩:=zi5 nms r2 n1 (.names "Spell" ws1 wr1 wa1) ord g2 (plain _ _ (om _ (by simp)) (fun _ _ e=>by cases e) rw1)
   exact⟨_,g3,l3,fun x h=>by rw[zgt];exact .inl h,.inl ⟨c,zgq r2 n1 (.names "Spell" ws1 wr1 wa1)⟩⟩
  ·exact⟨r2,g2,by omega,fun x h=>h,.inr ⟨c,rfl⟩⟩
 obtain⟨g4,l4⟩:=zi5 nms r3 n3 (.hours [(y0 % 12,12+y1 % 13,t2)] t3) ord g3 (fit3 _ _ (by simpa using tg2) tg3)
 have p4:=zgq r3 n3 (.hours [(y0 % 12,12+y1 % 13,t2)] t3)
 obtain⟨r4,hr4⟩:∃r4,r4=putR r3 n3 (.hours [(y0 % 12,12+y1 % 13,t2)] t3):=⟨_,rfl⟩
 have q4:∀x,(x∈FA.names r3\/x=n3)->x∈FA.names r4:=fun x h=>by rw[hr4,zgt];exact h
 rw[← hr4] at g4 l4 p4
 obtain⟨r5,g5,l5,q5,a5⟩:∃r5,Good nms ord r5/\r5.length<=r4.length+1/\(∀x,x∈FA.names r4->x∈FA.names r5)/\(((low:Int)=4/\putP (r4.map fun r=>.inr r.1) (r4.map fun r=>r.2.pv) (.inr n3) (.tup [.str "hours",.tup [],.str t6])=zam r5)\/(¬ (low:Int)=4/\r5=r4)):=by
  by_cases c:(low:Int)=4
  ·obtain⟨g5,l5⟩:=zi5 nms r4 n3 (.hours [] t6) ord g4 (fit3 _ _ (by simp) tg6)
   exact⟨_,g5,l5,fun x h=>by rw[zgt];exact .inl h,.inl ⟨c,zgq r4 n3 (.hours [] t6)⟩⟩
  ·exact⟨r4,g4,by omega,fun x h=>h,.inr ⟨c,rfl⟩⟩
 obtain⟨g6,l6⟩:=zi5 nms r5 n4 (.hand "Ann") ord g5 (plain _ _ (om _ (by simp)) (fun _ _ e=>by cases e) trivial)
 have p6:=zgq r5 n4 (.hand "Ann")
 obtain⟨r6,hr6⟩:∃r6,r6=putR r5 n4 (.hand "Ann"):=⟨_,rfl⟩
 have q6:∀x,(x∈FA.names r5\/x=n4)->x∈FA.names r6:=fun x h=>by rw[hr6,zgt];exact h
 rw[← hr6] at g6 l6 p6
 obtain⟨g7,l7⟩:=zi5 nms r6 n5 (.fin "Bye") ord g6 (plain _ _ (om _ (by simp)) (fun _ _ e=>by cases e) trivial)
 have p7:=zgq r6 n5 (.fin "Bye")
 obtain⟨r7,hr7⟩:∃r7,r7=putR r6 n5 (.fin "Bye"):=⟨_,rfl⟩
 have q7:∀x,(x∈FA.names r6\/x=n5)->x∈FA.names r7:=fun x h=>by rw[hr7,zgt];exact h
 rw[← hr7] at g7 l7 p7
 have hall:∀x∈ord,x∈FA.names r7:=fun x hx=>by
  have up:x∈FA.names r2->x∈FA.names r7:=fun h=>q7 x (.inl (q6 x (.inl (q5 x (q4 x (.inl (q3 x h)))))))
  rw[hord] at hx
  simp only[List.mem_cons,List.not_mem_nil,or_false] at hx
  rcases hx with rfl | rfl | rfl | rfl | rfl | rfl
  ·exact q7 _ (.inl (q6 _ (.inl (q5 _ (q4 _ (.inr rfl))))))
  ·exact up (q2 _ (.inl hm0))
  ·exact up (q2 _ (.inl hm1))
  ·exact up (q2 _ (.inr rfl))
  ·exact q7 _ (.inl (q6 _ (.inr rfl)))
  ·exact q7 _ (.inr rfl)
 have uH:House.pv ⟨fst,ltS LS5,r7⟩=.dct [.inr "first",.inr "letters",.inr "rooms"] [.str fst,WO.ltPv LS5,zam r7]:=by rw[← Zbj];rfl
 refine⟨⟨fst,ltS LS5,r7⟩,nms,ord,⟨hond,by omega,g7,hall,fun x hx=>om x (by rw[← hnms];exact hx),fun x hx=>by rw[hnms];exact(hperm x).mpr hx,by rw[hnms];exact hnb,by rw[hnms];exact hfst,by rw[uH];simp,by show r7.length<=20;omega,by rw[hnms];simp⟩,zas rfl ?_⟩
 rw[uH]
 have k6:(Room.hand "Ann").pv=.tup [.str "hand",.str "Ann"]:=rfl
 have k7:(Room.fin "Bye").pv=.tup [.str "end",.str "Bye"]:=rfl
 have k4:(Room.hours [(y0 % 12,12+y1 % 13,t2)] t3).pv=.tup [.str "hours",.tup [.tup [.int (y0 % 12),.int (12+y1 % 13),.str t2]],.str t3]:=rfl
 rw[k6] at p6
 rw[k7] at p7
 rw[k4] at p4
 rw[← lp5]
 generalize hH1:(Room.names "Spell" ws1 wr1 wa1).pv=H1 at *
 generalize hH2:(Room.names "Spell" ws2 wr2 wa2).pv=H2 at *
 have u2:rs.length<16777216:=by omega
 have u3:r2.length<16777216:=by omega
 have u4:r3.length<16777216:=by omega
 have u5:r4.length<16777216:=by omega
 have u6:r5.length<16777216:=by omega
 have u7:r6.length<16777216:=by omega
 have b1:atI ([n0,n1,n2,n3,n4,n5].map PV.str) 1=some (.str n1):=zby (n:=1) rfl rfl
 have b2:atI ([n0,n1,n2,n3,n4,n5].map PV.str) 2=some (.str n2):=zby (n:=2) rfl rfl
 have b3:atI ([n0,n1,n2,n3,n4,n5].map PV.str) 3=some (.str n3):=zby (n:=3) rfl rfl
 have b4:atI ([n0,n1,n2,n3,n4,n5].map PV.str) 4=some (.str n4):=zby (n:=4) rfl rfl
 have b5:atI ([n0,n1,n2,n3,n4,n5].map PV.str) 5=some (.str n5):=zby (n:=5) rfl rfl
 have m13:gMod (.int z1) (.int 3)=some (.int (z1 % 3)):=zdm (by decide)
 have d13:gDiv (.int z1) (.int 3)=some (.int (z1 / 3)):=zqq ⟨by decide,by decide⟩
 have m132:gMod (.int (z1 / 3)) (.int 2)=some (.int (z1 / 3 % 2)):=zdm (by decide)
 have my0:gMod (.int y0) (.int 12)=some (.int (y0 % 12)):=zdm (by decide)
 have my1:gMod (.int y1) (.int 13)=some (.int (y1 % 13)):=zdm (by decide)
 have my2:gMod (.int y2) (.int 4)=some (.int (y2 % 4)):=zdm (by decide)
 have my3:gMod (.int y3) (.int 4)=some (.int (y3 % 4)):=zdm (by decide)
 have my6:gMod (.int y3) (.int 3)=some (.int (y3 % 3)):=zdm (by decide)
 have my4:gMod (.int y4) (.int low)=some (.int (y4 % low)):=zdm (by have:=L.pos;omega)
 clear uH hall hmenu plain om hperm hnb hnd fit3 dr hlt cc
 generalize ([n0,n1,n2,n3,n4,n5].map PV.str)=N at *
 generalize ls.map PV.int=LN at *
 have v_r:rngP (.int 2)=.ok (zcb 0 2):=zqn (by decide) (by decide)
 have low4:∀c:Bool,decide ((low:Int)=4)=c->decide ((low:Int)=4)=c:=fun c h=>h
 simp[zgv,PU.start,c0,c1,m13,elow,en,v_r]
 rw[f1]
 simp[b2,c4,er2,zb7 rs,u2,p2]
 rcases a3 with⟨h3,p3⟩|⟨h3,rfl⟩ <;> rcases a5 with⟨h5,p5⟩|⟨h5,rfl⟩
 ·simp[zb7 r2,u3,c1,d13,m132,h3,b1,c3,er1,p3]
  simp[c5,el,j0,my0,j1,my1,j2,my2,et2,ea2]
  simp[zb7 r3,u4,b3,j3,my3,et3,ea3,p4]
  rw[h5] at my4 ef
  simp[zb7 r4,u5,h5,b3,j3,my6,ea6,p5]
  simp[zb7 r5,u6,b4,p6]
  simp[zb7 r6,u7,b5,p7]
  simp[j4,my4,ef,zeu,putP]
 ·simp[zb7 r2,u3,c1,d13,m132,h3,b1,c3,er1,p3]
  simp[c5,el,j0,my0,j1,my1,j2,my2,et2,ea2]
  simp[zb7 r3,u4,b3,j3,my3,et3,ea3,p4]
  simp[zb7 r5,u6,h5,b4,p6]
  simp[zb7 r6,u7,b5,p7]
  simp[j4,my4,ef,zeu,putP]
 ·simp[c1,d13,m132,h3]
  simp[c5,el,j0,my0,j1,my1,j2,my2,et2,ea2]
  simp[zb7 r3,u4,b3,j3,my3,et3,ea3,p4]
  rw[h5] at my4 ef
  simp[zb7 r4,u5,h5,b3,j3,my6,ea6,p5]
  simp[zb7 r5,u6,b4,p6]
  simp[zb7 r6,u7,b5,p7]
  simp[j4,my4,ef,zeu,putP]
 ·simp[c1,d13,m132,h3]
  simp[c5,el,j0,my0,j1,my1,j2,my2,et2,ea2]
  simp[zb7 r3,u4,b3,j3,my3,et3,ea3,p4]
  simp[zb7 r5,u6,h5,b4,p6]
  simp[zb7 r6,u7,b5,p7]
  simp[j4,my4,ef,zeu,putP]
def sT(r b:Str)(w v:Int)(t:W):PV:=.tup [.str r,.str b,.int w,.int v,.str (mkS t)]
def beg(wt:List (W×Str))(w:W):W:=own ((wt.map (·.1)).map (cdH LS5)) (cdH LS5 w)
def TY:Room->W->Prop
 | .menu ..,t=>t=[]
 | .names _ ws _ _,t=>∀wt:List (W×Str),ws=wt.map mw2->(t=[]\/∃p∈wt,t <+: beg wt p.1/\t≠beg wt p.1)
 | _,t=>t=[]
theorem zqs(r:Room):TY r []:=by
 cases r with
 | names=>exact fun _ _=>.inl rfl
 | _=>exact rfl
def wrB:Room->Int
 | .menu _ _ wr _=>wr.1
 | .names _ _ wr _=>wr.1
 | _=>2
def waB:Room->Int
 | .menu _ _ _ wa=>wa.1
 | .names _ _ _ wa=>wa.1
 | _=>2
theorem RW.b{nms:List Str}{room:Room}(h:RW nms room):(1<=wrB room/\wrB room<=2)/\1<=waB room/\waB room<=2:=by
 cases room with
 | menu t ks wr wa=>exact⟨h.2.2.2.1,h.2.2.2.2⟩
 | names t ks wr wa=>exact⟨h.2.2.2.1,h.2.2.2.2⟩
 | _=>exact⟨⟨show (1:Int)<=2 by decide,Int.le_refl 2⟩,show (1:Int)<=2 by decide,Int.le_refl 2⟩
structure OK(h:House)(nms:List Str)(r b:Str)(room:Room)(w v:Int)(t:W):Prop where
 lk:FA.lookR h.rooms r=some room
 nh:∀sp l,room≠.hours sp l
 rn:r∈nms
 bn:b=""\/b∈nms
 tl:t.length<=50
 ty:TY room t
 hw:0<=w/\w<wrB room
 hv:0<=v/\v<waB room
section
variable{h : House}{nms ord : List Str}(hg : HG h nms ord)(hour : Int)
include hg
theorem hRo:gIx h.pv (.str "rooms")=some (zam h.rooms):=by simp[House.pv]
theorem zp1(r:Str)(room:Room)(lk:FA.lookR h.rooms r=some room):RW nms room:=by
 obtain⟨_,_,_,_,hw⟩:=hg.g.ok _ (zrr h.rooms r room lk)
 exact hw
theorem cm (x:Str) (hx:x∈nms):∃y room,comeGo h.rooms hour 20 x=some y/\∀b:Str,(b=""\/b∈nms)->OK h nms y b room 0 0 []:=by
 obtain⟨k,hk,ek⟩:=List.getElem_of_mem (hg.nm x hx)
 obtain⟨y,r,ey,hr,hy,hh⟩:=zte nms ord h.rooms hg.nd hg.g hg.all hour 20 k hk (by have:=hg.ol;omega)
 rw[ek] at ey
 have bb:=(zp1 hg y r hr).b
 exact⟨y,r,ey,fun b hb=>⟨hr,hh,hg.mn y hy,hb,by simp,zqs r,⟨by omega,by omega⟩,⟨by omega,by omega⟩⟩⟩
theorem arr (x:Str) (hx:x∈nms) (b:Str) (hb:b=""\/b∈nms):∃y room,OK h nms y b room 0 0 []/\zb5 [h.pv,.int hour,.str x,.str b]=some (sT y b 0 0 []):=by
 obtain⟨y,room,e,ok⟩:=cm hg hour x hx
 refine⟨y,room,ok b hb,?_⟩
 have k:=zzf h.pv h.rooms (hRo hg) hour 20 x y (by omega) e
 refine zas rfl ?_
 have em:=zdv
 have u:sT y b 0 0 []=.tup [.str y,.str b,.int 0,.int 0,.str ""]:=by unfold sT;rw[← em]
 rw[u]
 simp[zjo,PU.start,k]
theorem wrong(r b:Str)(w v:Int)(t:W)(room:Room)(ok:OK h nms r b room w v t)(m:Int)(x:Str)(h3:gIx room.pv (.int 3)=some (.tup [.int m,.str x]))(hm:wrB room=m)(hx:x∈nms) :
  ∃r' b' w' v' room',OK h nms r' b' room' w' v' []/\zbr [h.pv,.int hour,sT r b w v t]=some (sT r' b' w' v' []):=by
 have n2:=FA.ix_rooms h.rooms r
 rw[ok.lk] at n2
 have n2:gIx (zam h.rooms) (.str r)=some room.pv:=n2
 have hR:=hRo hg
 have em:=zdv
 have u:∀r b w v,sT r b w v []=.tup [.str r,.str b,.int w,.int v,.str ""]:=fun r b w v=>by unfold sT;rw[← em]
 by_cases hw:w+1=m
 ·obtain⟨y,room',ok',e1⟩:=arr hg hour x hx r (.inr ok.rn)
  refine⟨y,r,0,0,room',ok',zas rfl ?_⟩
  unfold sT at e1 ⊢
  generalize mkS t=T at *
  generalize room.pv=RP at *
  generalize zam h.rooms=RM at *
  generalize h.pv=H at *
  simp[zde,PU.start,hR,n2,h3,hw,e1]
 ·have hw1:=ok.hw
  refine⟨r,b,w+1,v,room,⟨ok.lk,ok.nh,ok.rn,ok.bn,by simp,zqs room,⟨by omega,by omega⟩,ok.hv⟩,zas rfl ?_⟩
  rw[u]
  unfold sT
  generalize mkS t=T at *
  generalize room.pv=RP at *
  generalize zam h.rooms=RM at *
  generalize h.pv=H at *
  simp[zde,PU.start,hR,n2,h3,hw]
theorem wait(r b:Str)(w v:Int)(t:W)(room:Room)(ok:OK h nms r b room w v t)(m:Int)(x:Str)(h3:gIx room.pv (.int 4)=some (.tup [.int m,.str x]))(hm:waB room=m)(hx:x∈nms) :
  ∃r' b' w' v' room',OK h nms r' b' room' w' v' []/\zhm [h.pv,.int hour,sT r b w v t]=some (sT r' b' w' v' []):=by
 have n2:=FA.ix_rooms h.rooms r
 rw[ok.lk] at n2
 have n2:gIx (zam h.rooms) (.str r)=some room.pv:=n2
 have hR:=hRo hg
 have em:=zdv
 have u:∀r b w v,sT r b w v []=.tup [.str r,.str b,.int w,.int v,.str ""]:=fun r b w v=>by unfold sT;rw[← em]
 by_cases hw:v+1=m
 ·obtain⟨y,room',ok',e1⟩:=arr hg hour x hx r (.inr ok.rn)
  refine⟨y,r,0,0,room',ok',zas rfl ?_⟩
  unfold sT at e1 ⊢
  generalize mkS t=T at *
  generalize room.pv=RP at *
  generalize zam h.rooms=RM at *
  generalize h.pv=H at *
  simp[zhg,PU.start,hR,n2,h3,hw,e1]
 ·have hw1:=ok.hv
  refine⟨r,b,w,v+1,room,⟨ok.lk,ok.nh,ok.rn,ok.bn,by simp,zqs room,ok.hw,⟨by omega,by omega⟩⟩,zas rfl ?_⟩
  rw[u]
  unfold sT
  generalize mkS t=T at *
  generalize room.pv=RP at *
  generalize zam h.rooms=RM at *
  generalize h.pv=H at *
  simp[zhg,PU.start,hR,n2,h3,hw]
end
theorem Zd9(a b:Nat):gEq (WO.sg a) (WO.sg b)=some (.bl (decide (a=b))):=by
 unfold WO.sg
 rw[ztz]
 congr 2
 exact decide_eq_decide.mpr ⟨fun e=>by injection e with e;injection e with e;injection e,fun e=>by rw[e]⟩
theorem w_sg:PV.str "w"=WO.sg 119:=by kernel_rfl
theorem sg_w (c:Nat):gEq (WO.sg c) (.str "w")=some (.bl (decide (c=119))):=by rw[w_sg,Zd9]
section
variable{h : House}{nms ord : List Str}(hg : HG h nms ord)(hour : Int)
theorem zxg(r b:Str)(w v:Int)(t:W)(S D X:PV)(h1:zat [h.pv,.str r]=some D)(h2:zb9 [h.pv,.int hour,D,sT r b w v t,S]=some X):zmq [h.pv,.int hour,sT r b w v t,S]=some X:=by
 have s0:gIx (sT r b w v t) (.int 0)=some (.str r):=rfl
 generalize sT r b w v t=S at *
 refine zas rfl ?_
 simp[zsj,PU.start,s0,h1,h2]
include hg
structure Goes(h:House)(nms:List Str)(hour:Int)(D:PV)(st:PV)(c:Nat)(r' b':Str)(w' v':Int)(t':W)(room':Room):Prop where
 ok:OK h nms r' b' room' w' v' t'
 fo:zb9 [h.pv,.int hour,D,st,WO.sg c]=some (sT r' b' w' v' t')
theorem zo0 (r b:Str) (w v:Int) (t:W) (room:Room) (ok:OK h nms r b room w v t) (c:Nat) (k:Str) (h0:gIx room.pv (.int 0)=some (.str k)) (hk:k="hand"\/k="end") (D:PV):Goes h nms hour D (sT r b w v t) c r b w v t room:=by
 have n2:=FA.ix_rooms h.rooms r
 rw[ok.lk] at n2
 have n2:gIx (zam h.rooms) (.str r)=some room.pv:=n2
 have hR:=hRo hg
 have s0:gIx (sT r b w v t) (.int 0)=some (.str r):=rfl
 refine⟨ok,zas rfl ?_⟩
 generalize sT r b w v t=S at *
 generalize room.pv=RP at *
 generalize zam h.rooms=RM at *
 generalize h.pv=H at *
 rcases hk with rfl | rfl
 ·simp[zef,PU.start,s0,hR,n2,h0]
 ·simp[zef,PU.start,s0,hR,n2,h0]
theorem zwt (r b:Str) (w v:Int) (t:W) (room:Room) (ok:OK h nms r b room w v t) (k:Str) (h0:gIx room.pv (.int 0)=some (.str k)) (hk:k="menu"\/k="names") (m:Int) (x:Str) (h4:gIx room.pv (.int 4)=some (.tup [.int m,.str x])) (hm:waB room=m) (hx:x∈nms) (D:PV):∃r' b' w' v' t' room',Goes h nms hour D (sT r b w v t) 119 r' b' w' v' t' room':=by
 obtain⟨r',b',w',v',room',ok',e1⟩:=wait hg hour r b w v t room ok m x h4 hm hx
 have n2:=FA.ix_rooms h.rooms r
 rw[ok.lk] at n2
 have n2:gIx (zam h.rooms) (.str r)=some room.pv:=n2
 have hR:=hRo hg
 have s0:gIx (sT r b w v t) (.int 0)=some (.str r):=rfl
 have q:=sg_w 119
 have cw:c_WAIT=.str "w":=rfl
 refine⟨r',b',w',v',[],room',ok',zas rfl ?_⟩
 generalize sT r b w v t=S at *
 generalize sT r' b' w' v' []=S' at *
 generalize room.pv=RP at *
 generalize zam h.rooms=RM at *
 generalize h.pv=H at *
 generalize WO.sg 119=G at *
 rcases hk with rfl | rfl
 ·simp[zef,PU.start,s0,hR,n2,h0,cw,q,e1]
 ·simp[zef,PU.start,s0,hR,n2,h0,cw,q,e1]
theorem zjp (r b:Str) (w v:Int) (t:W) (room:Room) (ok:OK h nms r b room w v t) (k:Str) (h0:gIx room.pv (.int 0)=some (.str k)) (hk:k="menu"\/k="names") (D X:PV) (c:Nat) (hc:c≠119) (e:zdu [h.pv,.int hour,D,sT r b w v t,WO.sg c]=some X):zb9 [h.pv,.int hour,D,sT r b w v t,WO.sg c]=some X:=by
 have n2:=FA.ix_rooms h.rooms r
 rw[ok.lk] at n2
 have n2:gIx (zam h.rooms) (.str r)=some room.pv:=n2
 have hR:=hRo hg
 have s0:gIx (sT r b w v t) (.int 0)=some (.str r):=rfl
 have q:=sg_w c
 rw[decide_eq_false hc] at q
 have cw:c_WAIT=.str "w":=rfl
 generalize sT r b w v t=S at *
 generalize room.pv=RP at *
 generalize zam h.rooms=RM at *
 generalize h.pv=H at *
 generalize WO.sg c=G at *
 refine zas rfl ?_
 rcases hk with rfl | rfl
 ·simp[zef,PU.start,s0,hR,n2,h0,cw,q,e]
 ·simp[zef,PU.start,s0,hR,n2,h0,cw,q,e]
end
section
variable{h : House}{nms ord : List Str}(hg : HG h nms ord)(hour : Int)
theorem zwp(r b:Str)(w v:Int)(t:W)(c:Nat)(ht:t.length<=100)(ks:List Key)(ps:List PV)(F:W->Option PV)(T:Tells ks ps F)(hF:F (t++[c])=none)(X:PV)(e:zbr [h.pv,.int hour,sT r b w v t]=some X):zdu [h.pv,.int hour,.dct ks ps,sT r b w v t,WO.sg c]=some X:=by
 have ad:gAdd (.str (mkS t)) (WO.sg c)=some (.str (mkS (t++[c]))):=zgh t c (by omega)
 have ni:=T.notIn (t++[c])
 rw[hF] at ni
 have ni:zgl (.str (mkS (t++[c]))) (.dct ks ps)=some (.bl true):=ni
 have s4:gIx (sT r b w v t) (.int 4)=some (.str (mkS t)):=rfl
 generalize sT r b w v t=S at *
 generalize PV.dct ks ps=D at *
 generalize WO.sg c=G at *
 generalize mkS (t++[c])=TT at *
 generalize h.pv=H at *
 refine zas rfl ?_
 simp[zfa,PU.start,s4,ad,ni,e]
theorem zyj(r b:Str)(w v:Int)(t:W)(c:Nat)(ht:t.length<=100)(ks:List Key)(ps:List PV)(F:W->Option PV)(T:Tells ks ps F)(hF:F (t++[c])=some .non):zdu [h.pv,.int hour,.dct ks ps,sT r b w v t,WO.sg c]=some (sT r b w v (t++[c])):=by
 have ad:gAdd (.str (mkS t)) (WO.sg c)=some (.str (mkS (t++[c]))):=zgh t c (by omega)
 have ni:=T.notIn (t++[c])
 have ix:=T.ix (t++[c])
 rw[hF] at ni ix
 have ni:zgl (.str (mkS (t++[c]))) (.dct ks ps)=some (.bl false):=ni
 have s0:gIx (sT r b w v t) (.int 0)=some (.str r):=rfl
 have s1:gIx (sT r b w v t) (.int 1)=some (.str b):=rfl
 have s2:gIx (sT r b w v t) (.int 2)=some (.int w):=rfl
 have s3:gIx (sT r b w v t) (.int 3)=some (.int v):=rfl
 have s4:gIx (sT r b w v t) (.int 4)=some (.str (mkS t)):=rfl
 have q:gEq .non (.str "back")=some (.bl false):=rfl
 have n:gIsN .non .non=some (.bl true):=rfl
 generalize sT r b w v t=S at *
 generalize PV.dct ks ps=D at *
 generalize WO.sg c=G at *
 unfold sT
 generalize mkS (t++[c])=TT at *
 generalize h.pv=H at *
 refine zas rfl ?_
 simp[zfa,PU.start,s0,s1,s2,s3,s4,ad,ni,ix,q,n]
theorem zwq (r b:Str) (w v:Int) (t:W) (c:Nat) (ht:t.length<=100) (ks:List Key) (ps:List PV) (F:W->Option PV) (T:Tells ks ps F) (x:Str) (hF:F (t++[c])=some (.str x)) (h1:x≠"back") (h2:x≠"") (X:PV) (e:zb5 [h.pv,.int hour,.str x,.str r]=some X):zdu [h.pv,.int hour,.dct ks ps,sT r b w v t,WO.sg c]=some X:=by
 have ad:gAdd (.str (mkS t)) (WO.sg c)=some (.str (mkS (t++[c]))):=zgh t c (by omega)
 have ni:=T.notIn (t++[c])
 have ix:=T.ix (t++[c])
 rw[hF] at ni ix
 have ni:zgl (.str (mkS (t++[c]))) (.dct ks ps)=some (.bl false):=ni
 have s0:gIx (sT r b w v t) (.int 0)=some (.str r):=rfl
 have s1:gIx (sT r b w v t) (.int 1)=some (.str b):=rfl
 have s4:gIx (sT r b w v t) (.int 4)=some (.str (mkS t)):=rfl
 have n:gIsN (.str x) .non=some (.bl false):=rfl
 generalize sT r b w v t=S at *
 generalize PV.dct ks ps=D at *
 generalize WO.sg c=G at *
 generalize mkS (t++[c])=TT at *
 generalize h.pv=H at *
 refine zas rfl ?_
 simp[zfa,PU.start,s0,s1,s4,ad,ni,ix,h1,h2,n,e]
theorem zu3 (r b:Str) (w v:Int) (t:W) (c:Nat) (ht:t.length<=100) (ks:List Key) (ps:List PV) (F:W->Option PV) (T:Tells ks ps F) (hF:F (t++[c])=some (.str "back")) (h2:b≠"") (X:PV) (e:zb5 [h.pv,.int hour,.str b,.str r]=some X):zdu [h.pv,.int hour,.dct ks ps,sT r b w v t,WO.sg c]=some X:=by
 have ad:gAdd (.str (mkS t)) (WO.sg c)=some (.str (mkS (t++[c]))):=zgh t c (by omega)
 have ni:=T.notIn (t++[c])
 have ix:=T.ix (t++[c])
 rw[hF] at ni ix
 have ni:zgl (.str (mkS (t++[c]))) (.dct ks ps)=some (.bl false):=ni
 have s0:gIx (sT r b w v t) (.int 0)=some (.str r):=rfl
 have s1:gIx (sT r b w v t) (.int 1)=some (.str b):=rfl
 have s4:gIx (sT r b w v t) (.int 4)=some (.str (mkS t)):=rfl
 have n:gIsN (.str b) .non=some (.bl false):=rfl
 generalize sT r b w v t=S at *
 generalize PV.dct ks ps=D at *
 generalize WO.sg c=G at *
 generalize mkS (t++[c])=TT at *
 generalize h.pv=H at *
 refine zas rfl ?_
 simp[zfa,PU.start,s0,s1,s4,ad,ni,ix,h2,n,e]
theorem zng (r:Str) (w v:Int) (t:W) (c:Nat) (ht:t.length<=100) (ks:List Key) (ps:List PV) (F:W->Option PV) (T:Tells ks ps F) (hF:F (t++[c])=some (.str "back")) (X:PV) (e:zbr [h.pv,.int hour,sT r "" w v t]=some X):zdu [h.pv,.int hour,.dct ks ps,sT r "" w v t,WO.sg c]=some X:=by
 have ad:gAdd (.str (mkS t)) (WO.sg c)=some (.str (mkS (t++[c]))):=zgh t c (by omega)
 have ni:=T.notIn (t++[c])
 have ix:=T.ix (t++[c])
 rw[hF] at ni ix
 have ni:zgl (.str (mkS (t++[c]))) (.dct ks ps)=some (.bl false):=ni
 have s0:gIx (sT r "" w v t) (.int 0)=some (.str r):=rfl
 have s1:gIx (sT r "" w v t) (.int 1)=some (.str ""):=rfl
 have s4:gIx (sT r "" w v t) (.int 4)=some (.str (mkS t)):=rfl
 have n:gIsN (.str "") .non=some (.bl false):=rfl
 generalize sT r "" w v t=S at *
 generalize PV.dct ks ps=D at *
 generalize WO.sg c=G at *
 generalize mkS (t++[c])=TT at *
 generalize h.pv=H at *
 refine zas rfl ?_
 simp[zfa,PU.start,s0,s1,s4,ad,ni,ix,n,e]
def kw(kt:List (Nat×Str)):List (W×Str):=kt.map fun p=>([p.1],p.2)
def kF(kt:List (Nat×Str))(p:W):Option PV:=((kw kt).find? fun q=>decide (q.1=p)).map fun q=>.str q.2
theorem zhu:∀(wt:List (W×Str)),Tells (wt.map fun p=>.inr (mkS p.1)) (wt.map fun p=>.str p.2) fun p=>(wt.find? fun q=>decide (q.1=p)).map fun q=>.str q.2
 | []=>⟨rfl,fun p=>rfl,by simp⟩
 | q::wt=>⟨by simp,fun p=>by
   rw[List.map_cons,List.map_cons,ziy]
   by_cases h:q.1=p
   ·rw[if_pos (by rw[h]),List.find?_cons_of_pos (by simpa using h)]
    rfl
   ·rw[if_neg fun z=>h (mkS_inj (Sum.inr.inj z)),List.find?_cons_of_neg (by simpa using h)]
    exact(zhu wt).at_ p,fun x hx=>by
   obtain⟨p,_,rfl⟩:=List.mem_map.mp hx
   simp[noFn]⟩
theorem zyh(kt:List (Nat×Str))(c:Nat):kF kt [c]=(kt.find? fun q=>decide (q.1=c)).map fun q=>.str q.2:=by
 unfold kF kw
 rw[List.find?_map,Option.map_map]
 have:((fun q:W×Str=>decide (q.1=[c])) ∘ fun p:Nat×Str=>([p.1],p.2))=fun q:Nat×Str=>decide (q.1=c):=by
  funext q
  simp
 rw[this]
 rfl
include hg in
theorem zje(r:Str)(room:Room)(lk:FA.lookR h.rooms r=some room)(t:Str)(kt:List (Nat×Str))(wr wa:Int×Str)(hr:room=.menu t (kt.map mk2) wr wa)(hs:List.Sublist (kt.map (·.1)) K12):zat [h.pv,.str r]=some (wtD (kw kt)):=by
 have n2:=FA.ix_rooms h.rooms r
 rw[lk,hr] at n2
 have n2:gIx (zam h.rooms) (.str r)=some (.tup [.str "menu",.str t,.tup ((kt.map mk2).map pv2),.tup [.int wr.1,.str wr.2],.tup [.int wa.1,.str wa.2]]):=n2
 have hR:=hRo hg
 have e:PV.tup ((kt.map mk2).map pv2)=wtPv (kw kt):=by
  rw[zwl]
  unfold wtPv kw
  rw[List.map_map]
  rfl
 have kl:kt.length<=12:=by
  have h1:=hs.length_le
  have h2:K12.length=12:=rfl
  rw[List.length_map] at h1
  omega
 have d:=zs3 (kw kt) (by simp[kw];omega) (by
  unfold kw
  rw[List.map_map]
  have nd:=hs.nodup Zb0
  have:(List.map ((fun x:W×Str=>x.1) ∘ fun p:Nat×Str=>([p.1],p.2)) kt)=(kt.map (·.1)).map (fun c=>[c]):=by rw[List.map_map];rfl
  rw[this]
  have inj:∀l:List Nat,l.Nodup->(l.map fun c=>[c]).Nodup:=by
   intro l
   induction l with
   | nil=>intro _;simp
   | cons a l ih=>
    intro h1
    rw[List.nodup_cons] at h1
    rw[List.map_cons,List.nodup_cons]
    refine⟨fun z=>?_,ih h1.2⟩
    obtain⟨b,hb,e⟩:=List.mem_map.mp z
    have:b=a:=by simpa using e
    subst this
    exact h1.1 hb
  exact inj _ nd)
 rw[e] at n2
 generalize wtPv (kw kt)=KP at *
 generalize wtD (kw kt)=KD at *
 generalize zam h.rooms=RM at *
 generalize h.pv=H at *
 refine zas rfl ?_
 simp[zdb,PU.start,hR,n2,d]
include hg in
theorem zsd(r b:Str)(w v:Int)(room:Room)(tt:W)(ok:OK h nms r b room w v tt)(t:Str)(ks:List (Str×Str))(wr wa:Int×Str)(hr:room=.menu t ks wr wa)(c:Nat)(hc:c≠119):∃D r' b' w' v' t' room',zat [h.pv,.str r]=some D/\Goes h nms hour D (sT r b w v tt) c r' b' w' v' t' room':=by
 have hw:=zp1 hg r room ok.lk
 rw[hr] at hw
 obtain⟨⟨kt,rfl,hs,ht⟩,hwr,hwa,_,_⟩:=hw
 have tt0:tt=[]:=by have:=ok.ty;rw[hr] at this;exact this
 subst tt0
 have ew:=zje hg r room ok.lk t kt wr wa hr hs
 have TL:=zhu (kw kt)
 have TLf:∀c,((kw kt).find? fun q=>decide (q.1=[c])).map (fun q=>PV.str q.2)=(kt.find? fun q=>decide (q.1=c)).map fun q=>.str q.2:=zyh kt
 have h0:gIx room.pv (.int 0)=some (.str "menu"):=by rw[hr];rfl
 have h3:gIx room.pv (.int 3)=some (.tup [.int wr.1,.str wr.2]):=by rw[hr];rfl
 obtain⟨r1,b1,w1,v1,room1,ok1,e1⟩:=wrong hg hour r b w v [] room ok wr.1 wr.2 h3 (by rw[hr];rfl) hwr
 cases hf:kt.find? fun q=>decide (q.1=c) with
 | none=>
  refine⟨_,r1,b1,w1,v1,[],room1,ew,ok1,zjp hg hour r b w v [] room ok "menu" h0 (.inl rfl) _ _ c hc ?_⟩
  exact zwp hour r b w v [] c (by simp) _ _ _ TL (by show ((kw kt).find? fun q=>decide (q.1=[c])).map (fun q=>PV.str q.2)=none;rw[TLf,hf];rfl) _ e1
 | some p=>
  have pm:=List.mem_of_find?_eq_some hf
  have hF:((kw kt).find? fun q=>decide (q.1=[]++[c])).map (fun q=>PV.str q.2)=some (.str p.2):=by
   show ((kw kt).find? fun q=>decide (q.1=[c])).map (fun q=>PV.str q.2)=_
   rw[TLf,hf]
   rfl
  by_cases hb:p.2=Str.ofString "back"
  ·by_cases hbb:b=Str.ofString ""
   ·subst hbb
    rw[hb] at hF
    refine⟨_,r1,b1,w1,v1,[],room1,ew,ok1,zjp hg hour r "" w v [] room ok "menu" h0 (.inl rfl) _ _ c hc ?_⟩
    exact zng hour r w v [] c (by simp) _ _ _ TL hF _ e1
   ·have hbn:b∈nms:=ok.bn.resolve_left hbb
    obtain⟨y,room2,ok2,a1⟩:=arr hg hour b hbn r (.inr ok.rn)
    rw[hb] at hF
    refine⟨_,y,r,0,0,[],room2,ew,ok2,zjp hg hour r b w v [] room ok "menu" h0 (.inl rfl) _ _ c hc ?_⟩
    exact zu3 hour r b w v [] c (by simp) _ _ _ TL hF hbb _ a1
  ·have hpn:p.2∈nms:=(ht p pm).resolve_left hb
   obtain⟨y,room2,ok2,a1⟩:=arr hg hour p.2 hpn r (.inr ok.rn)
   refine⟨_,y,r,0,0,[],room2,ew,ok2,zjp hg hour r b w v [] room ok "menu" h0 (.inl rfl) _ _ c hc ?_⟩
   exact zwq hour r b w v [] c (by simp) _ _ _ TL p.2 hF hb (hg.nb p.2 hpn).2 _ a1
end
theorem zzi{a:W}(ha:a∈W8):(cdH LS5 a).length<=5/\1<=(cdH LS5 a).length:=by
 have:=zv4 a ha
 simp[cdH,cdW]
 omega
structure WT(wt:List (W×Str))(nms:List Str):Prop where
 sb:List.Sublist (wt.map (·.1)) W8
 ne:wt≠[]
 tn:∀p∈wt,p.2∈nms
section
variable{wt : List (W×Str)}{nms : List Str}(k : WT wt nms)
include k
theorem WT.w8:∀p∈wt,p.1∈W8:=fun p hp=>k.sb.subset (List.mem_map.mpr ⟨p,hp,rfl⟩)
theorem WT.nd:(wt.map (·.1)).Nodup:=k.sb.nodup Zdz
theorem WT.len:wt.length<=8:=by
 have h1:=k.sb.length_le
 have h2:W8.length<=8:=by decide
 rw[List.length_map] at h1
 omega
theorem WT.ok:∀p∈wt,p.1.length<=12/\∀c∈p.1,(WO.keyL LS5 c).isSome=true:=fun p hp=>⟨by have:=zv4 p.1 (k.w8 p hp);omega,Zbk p.1 (k.w8 p hp)⟩
theorem WT.nc:(wt.map fun p=>cdH LS5 p.1).Nodup:=by
 have:((wt.map (·.1)).map (cdH LS5)).Nodup:=(k.sb.map (cdH LS5)).nodup Ze1
 rw[List.map_map] at this
 exact this
theorem WT.bs:(∀x∈bsOf LS5 wt,x.1≠[])/\∀x∈bsOf LS5 wt,∀y∈bsOf LS5 wt,x.1 <+: y.1->x=y:=⟨Zfp,Zfo Ze0 (fun p hp=>(k.ok p hp).2) k.nc⟩
theorem WT.mem{p:W×Str}(hp:p∈wt):(beg wt p.1,p.2)∈bsOf LS5 wt:=List.mem_map.mpr ⟨p,hp,rfl⟩
theorem WT.inv{x:W×Str}(hx:x∈bsOf LS5 wt):∃p∈wt,x=(beg wt p.1,p.2):=by
 obtain⟨p,hp,rfl⟩:=List.mem_map.mp hx
 exact⟨p,hp,rfl⟩
theorem WT.pre{p:W×Str}(hp:p∈wt):beg wt p.1 <+: cdH LS5 p.1:=by unfold beg;exact zk6 _ _
theorem WT.bl{p:W×Str}(hp:p∈wt):(beg wt p.1).length<=5:=by
 have h1:=List.IsPrefix.length_le (k.pre hp)
 have h2:=(zzi (k.w8 p hp)).1
 omega
end
theorem zn0(b ty:W):b.take ty.length=ty ↔ ty <+: b:=⟨fun e=>by rw[← e];exact List.take_prefix _ _,fun e=>(List.prefix_iff_eq_take.mp e).symm⟩
def fits(wt:List (W×Str))(ty:W)(q:W×Str):Bool:=decide ((beg wt q.1).take ty.length=ty)
theorem zya:∀(a b:List (W×Str)),a.map mw2=b.map mw2->a=b:=by
 intro a
 induction a with
 | nil=>intro b e;cases b with | nil=>rfl | cons _ _=>cases e
 | cons x a ih=>
  intro b e
  cases b with
  | nil=>cases e
  | cons y b=>
   rw[List.map_cons,List.map_cons] at e
   injection e with e1 e2
   have e3:x.1=y.1:=mkS_inj (show (mw2 x).1=(mw2 y).1 by rw[e1])
   have e4:x.2=y.2:=(show (mw2 x).2=(mw2 y).2 by rw[e1])
   rw[ih b e2,Prod.ext e3 e4]
section
variable{h : House}{nms ord : List Str}(hg : HG h nms ord)(hour : Int)
include hg
theorem Zao (r:Str) (room:Room) (lk:FA.lookR h.rooms r=some room) (t:Str) (wt:List (W×Str)) (wr wa:Int×Str) (hr:room=.names t (wt.map mw2) wr wa):gIx (zam h.rooms) (.str r)=some (.tup [.str "names",.str t,wtPv wt,.tup [.int wr.1,.str wr.2],.tup [.int wa.1,.str wa.2]]):=by
 have n2:=FA.ix_rooms h.rooms r
 rw[lk,hr] at n2
 rw[← zwk]
 exact n2
theorem zis(r:Str)(room:Room)(lk:FA.lookR h.rooms r=some room)(t:Str)(ks:List (Str×Str))(wr wa:Int×Str)(hr:room=.names t ks wr wa):∃wt,ks=wt.map mw2/\WT wt nms/\wr.2∈nms/\wa.2∈nms:=by
 have hw:=zp1 hg r room lk
 rw[hr] at hw
 obtain⟨⟨wt,e,hs,hne,ht⟩,hwr,hwa,_,_⟩:=hw
 exact⟨wt,e,⟨hs,hne,ht⟩,hwr,hwa⟩
theorem ze8(r:Str)(room:Room)(lk:FA.lookR h.rooms r=some room)(t:Str)(wt:List (W×Str))(wr wa:Int×Str)(hr:room=.names t (wt.map mw2) wr wa)(k:WT wt nms):∃ks ps,Tells ks ps (Ways (bsOf LS5 wt))/\zat [h.pv,.str r]=some (.dct ks ps):=by
 obtain⟨ks,ps,tl,e⟩:=zux LS5 wt (by have:=k.len;omega) k.ok k.nd
 have d:=zs3 wt (by have:=k.len;omega) k.nd
 have n2:=Zao hg r room lk t wt wr wa hr
 have hR:=hRo hg
 have hL:=hg.lets
 refine⟨ks,ps,tl,zas rfl ?_⟩
 generalize wtPv wt=WP at *
 generalize wtD wt=WD at *
 generalize WO.ltPv LS5=LL at *
 generalize zam h.rooms=RM at *
 generalize h.pv=H at *
 simp[zdb,PU.start,hR,n2,hL,d,e]
theorem zp4(r b:Str)(w v:Int)(room:Room)(tt:W)(ok:OK h nms r b room w v tt)(t:Str)(ks:List (Str×Str))(wr wa:Int×Str)(hr:room=.names t ks wr wa)(c:Nat)(hc:c≠119):∃D r' b' w' v' t' room',zat [h.pv,.str r]=some D/\Goes h nms hour D (sT r b w v tt) c r' b' w' v' t' room':=by
 obtain⟨wt,rfl,k,hwr,hwa⟩:=zis hg r room ok.lk t ks wr wa hr
 obtain⟨dk,dp,TL,ew⟩:=ze8 hg r room ok.lk t wt wr wa hr k
 have h0:gIx room.pv (.int 0)=some (.str "names"):=by rw[hr];rfl
 have h3:gIx room.pv (.int 3)=some (.tup [.int wr.1,.str wr.2]):=by rw[hr];rfl
 have tl:=ok.tl
 obtain⟨b1,b2⟩:=k.bs
 cases hf:wt.find? (fits wt (tt++[c])) with
 | none=>
  obtain⟨r1,bb1,w1,v1,room1,ok1,e1⟩:=wrong hg hour r b w v tt room ok wr.1 wr.2 h3 (by rw[hr];rfl) hwr
  refine⟨_,r1,bb1,w1,v1,[],room1,ew,ok1,zjp hg hour r b w v tt room ok "names" h0 (.inr rfl) _ _ c hc ?_⟩
  refine zwp hour r b w v tt c (by omega) _ _ _ TL ?_ _ e1
  refine zqk b1 fun x hx _ hp=>?_
  obtain⟨p,hp2,rfl⟩:=k.inv hx
  have:=List.find?_eq_none.mp hf p hp2
  exact this (decide_eq_true ((zn0 _ _).mpr hp))
 | some p=>
  have pm:=List.mem_of_find?_eq_some hf
  have pf:fits wt (tt++[c]) p=true:=List.find?_some hf
  have pp:(tt++[c]) <+: beg wt p.1:=(zn0 _ _).mp (of_decide_eq_true pf)
  by_cases hb:beg wt p.1=tt++[c]
  ·have hpn:=k.tn p pm
   obtain⟨y,room2,ok2,a1⟩:=arr hg hour p.2 hpn r (.inr ok.rn)
   refine⟨_,y,r,0,0,[],room2,ew,ok2,zjp hg hour r b w v tt room ok "names" h0 (.inr rfl) _ _ c hc ?_⟩
   refine zwq hour r b w v tt c (by omega) _ _ _ TL p.2 ?_ (hg.nb p.2 hpn).1 (hg.nb p.2 hpn).2 _ a1
   rw[← hb]
   exact ztv b1 b2 (k.mem pm)
  ·have bl:=k.bl pm
   have ttl:=List.IsPrefix.length_le pp
   refine⟨_,r,b,w,v,tt++[c],room,ew,⟨ok.lk,ok.nh,ok.rn,ok.bn,by omega,?_,ok.hw,ok.hv⟩,zjp hg hour r b w v tt room ok "names" h0 (.inr rfl) _ _ c hc ?_⟩
   ·rw[hr]
    intro wt' e'
    have:=zya wt wt' e'
    subst this
    exact .inr ⟨p,pm,pp,fun z=>hb z.symm⟩
   ·refine zyj hour r b w v tt c (by omega) _ _ _ TL ?_
    exact ztu b1 b2 (k.mem pm) (by simp) pp (fun z=>hb z.symm)
theorem goes(r b:Str)(w v:Int)(room:Room)(tt:W)(ok:OK h nms r b room w v tt)(c:Nat):∃D r' b' w' v' t' room',zat [h.pv,.str r]=some D/\Goes h nms hour D (sT r b w v tt) c r' b' w' v' t' room':=by
 have n2:=FA.ix_rooms h.rooms r
 rw[ok.lk] at n2
 have n2:gIx (zam h.rooms) (.str r)=some room.pv:=n2
 have hR:=hRo hg
 have plain:∀k:Str,gIx room.pv (.int 0)=some (.str k)->¬ k="menu"->¬ k="names"->zat [h.pv,.str r]=some (.dct [] []):=fun k h0 h1 h2=>by
  refine zas rfl ?_
  generalize room.pv=RP at *
  generalize zam h.rooms=RM at *
  generalize h.pv=H at *
  simp[zdb,PU.start,hR,n2,h0,h1,h2]
 cases hroom:room with
 | hours sp l=>exact absurd hroom (ok.nh sp l)
 | menu t ks wr wa=>
  by_cases hc:c=119
  ·subst hc
   have hw:=zp1 hg r room ok.lk
   rw[hroom] at hw
   obtain⟨⟨kt,rfl,hs,ht⟩,hwr,hwa,_,_⟩:=hw
   have ew:=zje hg r room ok.lk t kt wr wa hroom hs
   obtain⟨r',b',w',v',t',room',B⟩:=zwt hg hour r b w v tt room ok "menu" (by rw[hroom];rfl) (.inl rfl) wa.1 wa.2 (by rw[hroom];rfl) (by rw[hroom];rfl) hwa (wtD (kw kt))
   exact⟨_,r',b',w',v',t',room',ew,B⟩
  ·exact zsd hg hour r b w v room tt ok t ks wr wa hroom c hc
 | names t ks wr wa=>
  by_cases hc:c=119
  ·subst hc
   obtain⟨wt,rfl,k,hwr,hwa⟩:=zis hg r room ok.lk t ks wr wa hroom
   obtain⟨dk,dp,TL,ew⟩:=ze8 hg r room ok.lk t wt wr wa hroom k
   obtain⟨r',b',w',v',t',room',B⟩:=zwt hg hour r b w v tt room ok "names" (by rw[hroom];rfl) (.inr rfl) wa.1 wa.2 (by rw[hroom];rfl) (by rw[hroom];rfl) hwa (.dct dk dp)
   exact⟨_,r',b',w',v',t',room',ew,B⟩
  ·exact zp4 hg hour r b w v room tt ok t ks wr wa hroom c hc
 | hand t=>exact⟨_,r,b,w,v,tt,room,plain "hand" (by rw[hroom];rfl) (by simp) (by simp),zo0 hg hour r b w v tt room ok c "hand" (by rw[hroom];rfl) (.inl rfl) _⟩
 | fin t=>exact⟨_,r,b,w,v,tt,room,plain "end" (by rw[hroom];rfl) (by simp) (by simp),zo0 hg hour r b w v tt room ok c "end" (by rw[hroom];rfl) (.inr rfl) _⟩
theorem zxl(n:Str)(room:Room)(lk:FA.lookR h.rooms n=some room):∃D,zat [h.pv,.str n]=some D/\noFn D=true:=by
 have n2:=FA.ix_rooms h.rooms n
 rw[lk] at n2
 have n2:gIx (zam h.rooms) (.str n)=some room.pv:=n2
 have hR:=hRo hg
 have plain:∀k:Str,gIx room.pv (.int 0)=some (.str k)->¬ k="menu"->¬ k="names"->zat [h.pv,.str n]=some (.dct [] []):=fun k h0 h1 h2=>by
  refine zas rfl ?_
  generalize room.pv=RP at *
  generalize zam h.rooms=RM at *
  generalize h.pv=H at *
  simp[zdb,PU.start,hR,n2,h0,h1,h2]
 have z:noFn (.dct [] [])=true:=by simp[noFn,zbq]
 cases hroom:room with
 | hours sp l=>exact⟨_,plain "hours" (by rw[hroom];rfl) (by simp) (by simp),z⟩
 | hand t=>exact⟨_,plain "hand" (by rw[hroom];rfl) (by simp) (by simp),z⟩
 | fin t=>exact⟨_,plain "end" (by rw[hroom];rfl) (by simp) (by simp),z⟩
 | menu t ks wr wa=>
  have hw:=zp1 hg n room lk
  rw[hroom] at hw
  obtain⟨⟨kt,rfl,hs,ht⟩,hwr,hwa,_,_⟩:=hw
  refine⟨_,zje hg n room lk t kt wr wa hroom hs,?_⟩
  have:=(zfu _).mpr (zhu (kw kt)).nf
  simpa [wtD,noFn] using this
 | names t ks wr wa=>
  obtain⟨wt,rfl,k,hwr,hwa⟩:=zis hg n room lk t ks wr wa hroom
  obtain⟨dk,dp,TL,ew⟩:=ze8 hg n room lk t wt wr wa hroom k
  refine⟨_,ew,?_⟩
  have:=(zfu _).mpr TL.nf
  simpa [noFn] using this
theorem zw8:∃WD,zb2 [h.pv]=some WD/\noFn WD=true/\∀r b room w v tt,OK h nms r b room w v tt->∀D,zat [h.pv,.str r]=some D->gIx WD (.str r)=some D:=by
 have rx:∀n∈FA.names h.rooms,∃D,zat [h.pv,.str n]=some D/\noFn D=true:=fun n hn=>by
  obtain⟨room,hr⟩:=FA.look_some h.rooms n hn
  exact zxl hg n room hr
 obtain⟨ks,ps,e,g,nf⟩:=zyx h.pv h.rooms (hRo hg) (by have:=hg.rl;omega) (fun n=>(zat [h.pv,.str n]).getD .non) (fun n hn=>by
  obtain⟨D,e,_⟩:=rx n hn
  rw[e]
  rfl) (fun n hn=>by
  obtain⟨D,e,f⟩:=rx n hn
  rw[e]
  exact f)
 refine⟨_,e,nf,fun r b room w v tt ok D hD=>?_⟩
 rw[g r (hg.all r (hg.nm r ok.rn)),hD]
 rfl
theorem zvw:∃y room,OK h nms y "" room 0 0 []/\zcr [h.pv,.int hour]=some (sT y "" 0 0 []):=by
 obtain⟨y,room,ok,e1⟩:=arr hg hour h.first hg.fst "" (.inl rfl)
 refine⟨y,room,ok,zas rfl ?_⟩
 have hF:gIx h.pv (.str "first")=some (.str h.first):=by simp[House.pv]
 generalize h.pv=H at *
 simp[znk,PU.start,hF,e1]
end
structure St where
 r:Str
 b:Str
 w:Int
 v:Int
 t:W
deriving DecidableEq
def St.pv(s:St):PV:=sT s.r s.b s.w s.v s.t
def St.key(s:St):List Key:=[.inr s.r,.inr s.b,.inl s.w,.inl s.v,.inr (mkS s.t)]
theorem St.tk(s:St):toTK s.pv=some s.key:=rfl
theorem St.kinj{a b:St}(e:a.key=b.key):a=b:=by
 cases a;cases b
 simp only[St.key,List.cons.injEq,Sum.inr.injEq,Sum.inl.injEq,and_true] at e
 obtain⟨h1,h2,h3,h4,h5⟩:=e
 have h5:=mkS_inj h5
 subst h1 h2 h3 h4 h5
 rfl
theorem St.nf(s:St):noFn s.pv=true:=by simp[St.pv,sT,noFn,zbq]
def Ok(h:House)(nms:List Str)(s:St):Prop:=∃room,OK h nms s.r s.b room s.w s.v s.t
def S13:List Nat:=[48,49,50,51,52,53,54,55,56,57,42,35,119]
def cd(i:Nat):Nat:=S13.getD i 0
theorem zv7:zfw (.str "0123456789*#w")=some ((List.range 13).map fun i=>WO.sg (cd i)):=by kernel_rfl
def Nx(h:House)(nms:List Str)(hour:Int)(s:St)(i:Nat)(s':St):Prop:=Ok h nms s'/\∃D,zat [h.pv,.str s.r]=some D/\zb9 [h.pv,.int hour,D,s.pv,WO.sg (cd i)]=some s'.pv
open Classical in
noncomputable def lead(h:House)(nms:List Str)(hour:Int)(s:St)(i:Nat):St:=if e:∃s',Nx h nms hour s i s' then e.choose else s
def TL:List W:=W8.flatMap fun w=>(List.range 6).map fun n=>(cdH LS5 w).take n
def univ (nms:List Str):List St:=nms.flatMap fun r=>(Str.ofString ""::nms).flatMap fun b=>[(0:Int),1].flatMap fun w=>[(0:Int),1].flatMap fun v=>TL.map fun t=>⟨r,b,w,v,t⟩
theorem zmc{α β:Type}(f:α->List β)(n:Nat):∀l:List α,(∀x∈l,(f x).length=n)->(l.flatMap f).length=l.length * n
 | [],_=>by simp
 | x::l,h=>by
  rw[List.flatMap_cons,List.length_append,h x (by simp),zmc f n l fun y hy=>h y (by simp[hy]),List.length_cons,Nat.add_mul]
  omega
theorem zt1(nms:List Str)(h:nms.length<=7):(univ nms).length<=19999:=by
 have hT:TL.length=36:=by decide +kernel
 have e:(univ nms).length=nms.length * ((nms.length+1) * (2 * (2 * 36))):=by
  unfold univ
  refine zmc _ _ _ fun r _=>?_
  refine(zmc _ (2 * (2 * 36)) _ fun b _=>?_)
  refine(zmc _ (2 * 36) _ fun w _=>?_)
  refine(zmc _ 36 _ fun v _=>?_)
  rw[List.length_map,hT]
 rw[e]
 have h2:nms.length * ((nms.length+1) * (2 * (2 * 36)))<=7 * ((7+1) * (2 * (2 * 36))):=Nat.mul_le_mul h (Nat.mul_le_mul (by omega) (Nat.le_refl _))
 omega
section
variable{h : House}{nms ord : List Str}(hg : HG h nms ord)(hour : Int)
include hg
theorem zt0(s:St)(hs:Ok h nms s):s∈univ nms:=by
 obtain⟨room,ok⟩:=hs
 have bb:=(zp1 hg s.r room ok.lk).b
 have h1:=ok.hw
 have h2:=ok.hv
 have ht:s.t∈TL:=by
  have z:([]:W)∈TL:=by decide +kernel
  have ty:=ok.ty
  cases hroom:room with
  | names t ks wr wa=>
   obtain⟨wt,rfl,k,_,_⟩:=zis hg s.r room ok.lk t ks wr wa hroom
   rw[hroom] at ty
   rcases ty wt rfl with e | ⟨p,hp,h1,h2⟩
   ·rw[e];exact z
   ·have pre:=List.IsPrefix.trans h1 (k.pre hp)
    have l1:=List.IsPrefix.length_le h1
    have l2:=k.bl hp
    refine List.mem_flatMap.mpr ⟨p.1,k.w8 p hp,List.mem_map.mpr ⟨s.t.length,List.mem_range.mpr (by omega),?_⟩⟩
    exact(List.prefix_iff_eq_take.mp pre).symm
  | _=>
   rw[hroom] at ty
   have ty:s.t=[]:=ty
   rw[ty];exact z
 have hw:s.w=0\/s.w=1:=by omega
 have hv:s.v=0\/s.v=1:=by omega
 refine List.mem_flatMap.mpr ⟨s.r,ok.rn,List.mem_flatMap.mpr ⟨s.b,?_,List.mem_flatMap.mpr ⟨s.w,?_,List.mem_flatMap.mpr ⟨s.v,?_,List.mem_map.mpr ⟨s.t,ht,rfl⟩⟩⟩⟩⟩
 ·rcases ok.bn with e | e
  ·rw[e];exact List.mem_cons_self
  ·exact List.mem_cons_of_mem _ e
 ·rcases hw with e | e <;> simp[e]
 ·rcases hv with e | e <;> simp[e]
theorem zk8(s:St)(hs:Ok h nms s)(i:Nat):Nx h nms hour s i (lead h nms hour s i):=by
 have ex:∃s',Nx h nms hour s i s':=by
  obtain⟨room,ok⟩:=hs
  obtain⟨D,r',b',w',v',t',room',e,g⟩:=goes hg hour s.r s.b s.w s.v room s.t ok (cd i)
  exact⟨⟨r',b',w',v',t'⟩,⟨room',g.ok⟩,D,e,g.fo⟩
 unfold lead
 rw[dif_pos ex]
 exact ex.choose_spec
theorem zqz(s:St)(hs:Ok h nms s)(i:Nat):zmq [h.pv,.int hour,s.pv,WO.sg (cd i)]=some (lead h nms hour s i).pv:=by
 obtain⟨_,D,e1,e2⟩:=zk8 hg hour s hs i
 exact zxg hour s.r s.b s.w s.v s.t _ D _ e1 e2
end
theorem znt(L:List PV)(st:PV):gIx (.lst (L++[st])) (.int (-1))=some st:=by
 show atI (L++[st]) (-1)=some st
 have e:ixN (L++[st]).length (-1)=some L.length:=by
  rw[List.length_append,List.length_singleton]
  unfold ixN
  rw[if_neg (by omega)]
  first
   | (rw[if_pos (by omega)];congr 1;omega)
   | (simp;omega)
   | simp
 unfold atI
 rw[e]
 simp
structure WD(h:House)(nms:List Str)(D:PV):Prop where
 eq:zb2 [h.pv]=some D
 nf:noFn D=true
 ix:∀s:St,Ok h nms s->∀X,zat [h.pv,.str s.r]=some X->gIx D (.str s.r)=some X
theorem zzt{h:House}{nms ord:List Str}(hg:HG h nms ord):∃D,WD h nms D:=by
 obtain⟨D,h1,h2,h3⟩:=zw8 hg
 exact⟨D,h1,h2,fun s ⟨room,ok⟩ X hX=>h3 s.r s.b room s.w s.v s.t ok X hX⟩
section
variable{h : House}{nms ord : List Str}(hg : HG h nms ord)(hour : Int){D : PV}(hD : WD h nms D)
include hg hD
theorem foll(s:St)(hs:Ok h nms s)(i:Nat):∃X,gIx D (.str s.r)=some X/\zb9 [h.pv,.int hour,X,s.pv,WO.sg (cd i)]=some (lead h nms hour s i).pv:=by
 obtain⟨_,X,e1,e2⟩:=zk8 hg hour s hs i
 exact⟨X,hD.ix s hs X e1,e2⟩
theorem zlp(z row:PV):∀(r:List Nat)(s:St)(L:List PV)(a:Sl),Ok h nms s->L.length+r.length<=1000000->∃a' L',forF (zan 6) zfe (r.map fun i=>WO.sg (cd i)) [.val h.pv,.val (.int hour),.val z,.val row,.val D,.own (.lst (L++[s.pv])),a]=.ok (.next [.val h.pv,.val (.int hour),.val z,.val row,.val D,.own (.lst (L'++[(BF.run (lead h nms hour) s r).pv])),a'])
 | [],s,L,a,_,_=>⟨a,L,rfl⟩
 | i::r,s,L,a,hs,hl=>by
  rw[List.length_cons] at hl
  obtain⟨X,e1,e2⟩:=foll hg hour hD s hs i
  have hs':=(zk8 hg hour s hs i).1
  have g0:gIx s.pv (.int 0)=some (.str s.r):=rfl
  have e0:zan 6 (WO.sg (cd i)) [.val h.pv,.val (.int hour),.val z,.val row,.val D,.own (.lst (L++[s.pv])),a]=some [.val h.pv,.val (.int hour),.val z,.val row,.val D,.own (.lst (L++[s.pv])),.val (WO.sg (cd i))]:=rfl
  have hz:(L++[s.pv]).length<16777216:=by rw[List.length_append,List.length_singleton];omega
  have b1:zfe [.val h.pv,.val (.int hour),.val z,.val row,.val D,.own (.lst (L++[s.pv])),.val (WO.sg (cd i))]=.ok (.next [.val h.pv,.val (.int hour),.val z,.val row,.val D,.own (.lst ((L++[s.pv])++[(lead h nms hour s i).pv])),.val (WO.sg (cd i))]):=by
   have l:=znt L s.pv
   have ng:gNeg (.int 1)=some (.int (-1)):=rfl
   generalize L++[s.pv]=LS at *
   generalize WO.sg (cd i)=G at *
   generalize (lead h nms hour s i).pv=S' at *
   generalize s.pv=S at *
   generalize h.pv=H at *
   simp[zfe,ng,l,g0,e1,e2,hz]
  obtain⟨a',L',f⟩:=zlp z row r (lead h nms hour s i) (L++[s.pv]) (.val (WO.sg (cd i))) hs' (by rw[List.length_append,List.length_singleton];omega)
  refine⟨a',L',?_⟩
  rw[List.map_cons]
  unfold forF
  rw[e0]
  simp only[R.ofO_some,R.ok_bind,b1]
  exact f
theorem ztw(s0:St)(hb:zcr [h.pv,.int hour]=some s0.pv)(h0:Ok h nms s0)(r:List Nat)(hl:r.length<=100000):∃L,zmp [h.pv,.int hour,.str (mkS (r.map cd))]=some (.lst (L++[(BF.run (lead h nms hour) s0 r).pv])):=by
 obtain⟨a,L,f⟩:=zlp hg hour hD s0.pv (.str (mkS (r.map cd))) r s0 [] .no h0 (by simpa using by omega)
 have ei:zfw (.str (mkS (r.map cd)))=some (r.map fun i=>WO.sg (cd i)):=by rw[WO.it_mk,List.map_map];rfl
 have hW:=hD.eq
 refine⟨L,?_⟩
 simp only[List.nil_append] at f
 generalize L++[(BF.run (lead h nms hour) s0 r).pv]=T at *
 generalize (r.map fun i=>WO.sg (cd i))=RS at *
 generalize mkS (r.map cd)=MR at *
 generalize s0.pv=S0 at *
 generalize h.pv=H at *
 have wo:zhj [H,.int hour,S0,.str MR]=some (.lst T):=by
  refine zn6 rfl ?_
  simp[zjk,PU.start,hW,ei]
  rw[f]
  simp
 refine zas rfl ?_
 simp[zwu,PU.start,hb,wo]
end
theorem zrx{n:Nat}{fe:PSt->R PV}{qs cs:List PV}{p:PV}(hl:qs.length=n)(h:fe ((qs++cs).map .val)=.ok p):lamR n fe qs cs=some p:=by
 unfold lamR
 rw[if_pos hl,h]
theorem zot(q:Str)(k:List Str)(sc:Scope)(e:Expr):(zyg q k sc e).kept=k:=by
 cases e <;> rfl
theorem zm6{i:Nat}{fs:PSt->R (List PV)}{app:Lam->List PV->List PV->Option PV}{ρ:PSt}{L:Lam}{cs qs:List PV}{p:PV}(h:ρ[i]?=some (.val (.fn L cs)))(hq:fs ρ=.ok qs)(n1:zbq qs=true)(n2:zbq cs=true)(e:app L qs cs=some p):zjx i fs app ρ=.ok p:=by
 unfold zjx
 rw[h]
 show (fs ρ >>= fun qs=>if zbq qs=true/\zbq cs=true then R.ofO (app L qs cs) else .no)=_
 rw[hq]
 show (if zbq qs=true/\zbq cs=true then R.ofO (app L qs cs) else .no)=_
 rw[if_pos ⟨n1,n2⟩,e]
 rfl
theorem app1(S G W_ T X:PV)(hour:Int)(H:PV)(r:Str)(h0:gIx S (.int 0)=some (.str r))(h1:gIx W_ (.str r)=some X)(h2:zb9 [H,.int hour,X,S,G]=some T):appL zbz [S,G] [W_,.int hour,H]=some T:=by
 unfold appL
 rw[if_pos rfl]
 refine zrx rfl ?_
 show zge [.val S,.val G,.val W_,.val (.int hour),.val H]=_
 simp[zge,h0,h1,h2]
theorem app2(S:PV):appL zbm [S] []=some (.bl false):=by
 unfold appL
 rw[if_neg,if_pos rfl]
 ·exact zrx rfl rfl
 ·intro e
  have:=congrArg Lam.kept e
  unfold zbz zbm at this
  rw[zot,zot] at this
  cases this
theorem zet{α:Type}(f:α->PV)(l:List α)(h:∀x∈l,noFn (f x)=true):zbq (l.map f)=true:=(zfu _).mpr fun p hp=>by
 obtain⟨x,hx,rfl⟩:=List.mem_map.mp hp
 exact h x hx
theorem zrn(p:Str×Str):noFn (pv2 p)=true:=by simp[pv2,noFn,zbq]
theorem Zbf(p:Int×Int×Str):noFn (pv3 p)=true:=by simp[pv3,noFn,zbq]
theorem zx8(r:Room):noFn r.pv=true:=by
 cases r with
 | menu t ks wr wa=>simp[Room.pv,pvI,noFn,zbq,zet pv2 ks fun x _=>zrn x]
 | names t ks wr wa=>simp[Room.pv,pvI,noFn,zbq,zet pv2 ks fun x _=>zrn x]
 | hours sp l=>simp[Room.pv,noFn,zbq,zet pv3 sp fun x _=>Zbf x]
 | hand t=>simp[Room.pv,noFn,zbq]
 | fin t=>simp[Room.pv,noFn,zbq]
theorem zuy(h:House):noFn h.pv=true:=by
 have h1:=zet pv2 h.letters fun x _=>zrn x
 have h2:=zet (fun r:Str×Room=>r.2.pv) h.rooms fun x _=>zx8 x.2
 simp[House.pv,zam,noFn,zbq,h1,h2]
theorem zoa{ks:List (List Key)}{ps:List PV}{k:List Key}{v:PV}(h:(ks.any fun j=>decide (j=k))=false):putT ks ps k v=.dtt (ks++[k]) (ps++[v]):=by
 unfold putT
 rw[h]
 rfl
theorem zqo{i:Nat}{fk fv:PSt->R PV}{ρ:PSt}{ks:List (List Key)}{ps:List PV}{p kp:PV}{k:List Key}(h:ρ[i]?=some (.own (.dtt ks ps)))(hv:fv ρ=.ok p)(hk:fk ρ=.ok kp)(ht:toTK kp=some k)(hl:ks.length<16777216):zj1 i fk fv ρ=.ok (.next (ρ.set i (.own (putT ks ps k p)))):=by
 unfold zj1
 rw[h]
 show (fv ρ >>= fun p=>fk ρ >>= fun kp=>R.ofO (toTK kp) >>= fun k=>if ks.length<16777216 then R.ok (Fl.next (ρ.set i (.own (putT ks ps k p)))) else R.no)=_
 rw[hv]
 show (fk ρ >>= fun kp=>R.ofO (toTK kp) >>= fun k=>if ks.length<16777216 then R.ok (Fl.next (ρ.set i (.own (putT ks ps k p)))) else R.no)=_
 rw[hk]
 show (R.ofO (toTK kp) >>= fun k=>if ks.length<16777216 then R.ok (Fl.next (ρ.set i (.own (putT ks ps k p)))) else R.no)=_
 rw[ht]
 exact if_pos hl
theorem Zfi(S0 F1 F2:PV)(KS:List (List Key))(PS FS:List PV)(d:Int)(NP SG T:PV)(c:Sl)(x x':Str)(k:List Key)
  (h1:zjx 1 (zab (bin2 (getV 6) (kI 0) gIx) (zab (getV 7) nilA)) appL [.val S0,.val F1,.val F2,.own (.dtt KS PS),.own (.lst FS),.val (.int d),.val NP,.val SG,c]=.ok T)
  (h2:∀KS PS FS,zjx 2 (zab (getV 8) nilA) appL [.val S0,.val F1,.val F2,.own (.dtt KS PS),.own (.lst FS),.val (.int d),.val NP,.val SG,.val T]=.ok (.bl false))
  (hk:toTK T=some k) (hx:gIx NP (.int 1)=some (.str x)) (ha:gAdd (.str x) SG=some (.str x')) (hl:KS.length<16777216) (hf:FS.length<16777216) :
  zbs [.val S0,.val F1,.val F2,.own (.dtt KS PS),.own (.lst FS),.val (.int d),.val NP,.val SG,c]=.ok (.next (if (KS.any fun j=>decide (j=k))=true then [.val S0,.val F1,.val F2,.own (.dtt KS PS),.own (.lst FS),.val (.int d),.val NP,.val SG,.val T] else [.val S0,.val F1,.val F2,.own (.dtt (KS++[k]) (PS++[.bl true])),.own (.lst (FS++[.tup [T,.str x']])),.val (.int d),.val NP,.val SG,.val T])):=by
 have ni:zfb T (.dtt KS PS)=some (.bl (!(KS.any fun j=>decide (j=k)))):=by
  show (toTK T).map _=_
  rw[hk]
  rfl
 by_cases hh:(KS.any fun j=>decide (j=k))=true
 ·rw[if_pos hh]
  rw[hh] at ni
  simp[zbs,h1,ni]
 ·have hh':(KS.any fun j=>decide (j=k))=false:=(Bool.not_eq_true _).mp hh
  rw[if_neg hh]
  rw[hh'] at ni
  have pt:zj1 3 (getV 8) (kB true) [.val S0,.val F1,.val F2,.own (.dtt KS PS),.own (.lst FS),.val (.int d),.val NP,.val SG,.val T]=.ok (.next [.val S0,.val F1,.val F2,.own (.dtt (KS++[k]) (PS++[.bl true])),.own (.lst FS),.val (.int d),.val NP,.val SG,.val T]):=by
   rw[zqo (ks:=KS) (ps:=PS) (p:=.bl true) (kp:=T) (k:=k) rfl rfl rfl hk hl,zoa hh']
   rfl
  have h3:=h2 (KS++[k]) (PS++[.bl true]) (FS++[.tup [T,.str x']])
  simp[zbs,h1,ni,pt,hx,ha,hf,h3]
theorem ztm(x:List Nat)(c:Nat)(hx:x.length<=1000000):gAdd (.str (mkS x)) (.str ⟨#[c]⟩)=some (.str (mkS (x++[c]))):=by
 rw[znd,ziz (by simp;omega),zjb]
def rowS(l:List Nat):Str:=mkS (l.map cd)
def zao(p:BF.Row St):PV:=.tup [p.1.pv,.str (rowS p.2)]
theorem zq1(r:List Nat)(i:Nat)(h:r.length<=100000):gAdd (.str (rowS r)) (WO.sg (cd i))=some (.str (rowS (r++[i]))):=by
 unfold rowS
 rw[List.map_append]
 exact ztm (r.map cd) (cd i) (by simp;omega)
def kL(found:List (BF.Row St)):List (List Key):=found.map fun p=>p.1.key
def tL(found:List (BF.Row St)):List PV:=found.map fun _=>PV.bl true
theorem znv(found:List (BF.Row St))(s:St):((kL found).any fun j=>decide (j=s.key))=decide (s∈found.map (·.1)):=by
 rw[Bool.eq_iff_iff]
 simp only[kL,List.any_map,List.any_eq_true,Function.comp,decide_eq_true_eq,List.mem_map]
 constructor
 ·rintro⟨p,hp,e⟩
  exact⟨p,hp,St.kinj e⟩
 ·rintro⟨p,hp,e⟩
  exact⟨p,hp,by rw[e]⟩
abbrev frst(S0 F1 F2:PV)(found:List (BF.Row St))(d:Nat)(a b c:Sl):PSt:=[.val S0,.val F1,.val F2,.own (.dtt (kL found) (tL found)),.own (.lst (found.map zao)),.val (.int d),a,b,c]
abbrev F1(h:House)(hour:Int)(D:PV):PV:=.fn zbz [D,.int hour,h.pv]
abbrev F2:PV:=.fn zbm []
section
variable{h : House}{nms ord : List Str}(hg : HG h nms ord)(hour : Int){D : PV}(hD : WD h nms D)(S0 : PV)
include hg hD
theorem Zcd(found:List (BF.Row St))(near:BF.Row St)(hn:Ok h nms near.1)(i d:Nat)(c:Sl)(hl:found.length<1000000)(hr:near.2.length<=100000) :
  zbs (frst S0 (F1 h hour D) F2 found d (.val (zao near)) (.val (WO.sg (cd i))) c)=.ok (.next (frst S0 (F1 h hour D) F2 (BF.inn (lead h nms hour) near found i) d (.val (zao near)) (.val (WO.sg (cd i))) (.val (lead h nms hour near.1 i).pv))):=by
 obtain⟨X,e1,e2⟩:=foll hg hour hD near.1 hn i
 have n1:zbq [near.1.pv,WO.sg (cd i)]=true:=by simp[zbq,St.nf,WO.sg,noFn]
 have n2:zbq [D,.int hour,h.pv]=true:=by simp[zbq,hD.nf,zuy,noFn]
 have n3:zbq [(lead h nms hour near.1 i).pv]=true:=by simp[zbq,St.nf]
 have B:=Zfi S0 (F1 h hour D) F2 (kL found) (tL found) (found.map zao) d (zao near) (WO.sg (cd i)) (lead h nms hour near.1 i).pv c (rowS near.2) (rowS (near.2++[i])) (lead h nms hour near.1 i).key
  (zm6 (L:=zbz) (cs:=[D,.int hour,h.pv]) (qs:=[near.1.pv,WO.sg (cd i)]) rfl rfl n1 n2 (app1 near.1.pv (WO.sg (cd i)) D _ X hour h.pv near.1.r rfl e1 e2))
  (fun KS PS FS=>zm6 (L:=zbm) (cs:=[]) (qs:=[(lead h nms hour near.1 i).pv]) rfl rfl n3 rfl (app2 _))
  (St.tk _) rfl (zq1 near.2 i hr) (by simp[kL];omega) (by simp;omega)
 rw[znv] at B
 unfold BF.inn
 by_cases hm:lead h nms hour near.1 i∈found.map (·.1)
 ·rw[if_pos hm]
  rw[if_pos (decide_eq_true hm)] at B
  exact B
 ·rw[if_neg hm]
  rw[if_neg (by simpa using hm)] at B
  rw[B]
  simp only[frst,kL,tL,List.map_append]
  rfl
theorem zyw(lead:St->Nat->St)(near:BF.Row St)(found:List (BF.Row St))(i:Nat):(BF.inn lead near found i).length<=found.length+1:=by
 unfold BF.inn
 split
 ·omega
 ·simp
theorem zo3(near:BF.Row St)(hn:Ok h nms near.1)(d:Nat)(hr:near.2.length<=100000):∀(l:List Nat)(found:List (BF.Row St))(b c:Sl),found.length+l.length<1000000->∃b' c',
  forF (zan 7) zbs (l.map fun i=>WO.sg (cd i)) (frst S0 (F1 h hour D) F2 found d (.val (zao near)) b c)=.ok (.next (frst S0 (F1 h hour D) F2 (l.foldl (BF.inn (lead h nms hour) near) found) d (.val (zao near)) b' c'))
 | [],found,b,c,_=>⟨b,c,rfl⟩
 | i::l,found,b,c,hl=>by
  rw[List.length_cons] at hl
  have e1:=Zcd hg hour hD S0 found near hn i d c (by omega) hr
  have il:=zyw hg hD (lead h nms hour) near found i
  obtain⟨b',c',e2⟩:=zo3 near hn d hr l (BF.inn (lead h nms hour) near found i) (.val (WO.sg (cd i))) (.val (lead h nms hour near.1 i).pv) (by omega)
  refine⟨b',c',?_⟩
  have e0:zan 7 (WO.sg (cd i)) (frst S0 (F1 h hour D) F2 found d (.val (zao near)) b c)=some (frst S0 (F1 h hour D) F2 found d (.val (zao near)) (.val (WO.sg (cd i))) c):=rfl
  rw[List.map_cons,List.foldl_cons]
  unfold forF
  rw[e0]
  simp only[R.ofO_some,R.ok_bind,e1]
  exact e2
theorem Zfh(found:List (BF.Row St))(near:BF.Row St)(d:Nat)(hd:found[d]?=some near)(hn:Ok h nms near.1)(hr:near.2.length<=100000)(a b c:Sl)(hl:found.length<100000):∃b' c',
  zcn (frst S0 (F1 h hour D) F2 found d a b c)=.ok (.next (frst S0 (F1 h hour D) F2 (BF.sweep (lead h nms hour) near found) (d+1) (.val (zao near)) b' c')):=by
 obtain⟨b',c',e⟩:=zo3 hg hour hD S0 near hn (d+1) hr (List.range 13) found b c (by simp;omega)
 refine⟨b',c',?_⟩
 have i0:atI (found.map zao) (d:Int)=some (zao near):=zby rfl (by rw[List.getElem?_map,hd];rfl)
 have es:c_SIGNS=.str "0123456789*#w":=rfl
 have it:=zv7
 have ag:∀(A1 A2 A3 A4 A5 A6 A7 A8:Sl),augF 5 (kI 1) [A1,A2,A3,A4,A5,.val (.int d),A6,A7,A8]=.ok (.next [A1,A2,A3,A4,A5,.val (.int ((d+1:Nat):Int)),A6,A7,A8]):=fun _ _ _ _ _ _ _ _=>rfl
 have e:forF (zan 7) zbs ((List.range 13).map fun i=>WO.sg (cd i)) [.val S0,.val (F1 h hour D),.val F2,.own (.dtt (kL found) (tL found)),.own (.lst (found.map zao)),.val (.int ((d+1:Nat):Int)),.val (zao near),b,c]=_:=e
 show _=R.ok (Fl.next (frst S0 (F1 h hour D) F2 ((List.range 13).foldl (BF.inn (lead h nms hour) near) found) (d+1) (.val (zao near)) b' c'))
 rw[← e]
 simp only[frst]
 generalize F1 h hour D=G1 at *
 generalize F2=G2 at *
 generalize found.map zao=FS at *
 generalize PV.dtt (kL found) (tL found)=KD at *
 generalize zao near=NP at *
 generalize (List.range 13).map (fun i=>WO.sg (cd i))=SS at *
 simp[zcn,i0,ag,es,it]
noncomputable def tst:PSt->R Bool:=(andB (truF (bin2 (getV 5) (un1 (getO 4) gLen) gLt)) (notB (truF (zjx 2 (zab (bin2 (bin2 (getO 4) (un1 (kI 1) gNeg) gIx) (kI 0) gIx) nilA) appL))))
omit hg hD in
theorem Zcc(G1:PV)(found:List (BF.Row St))(hne:found≠[])(d:Nat)(a b c:Sl):tst (frst S0 G1 F2 found d a b c)=.ok (decide (d<found.length)):=by
 by_cases hd:d<found.length
 ·obtain⟨f',p,rfl⟩:∃f' p,found=f'++[p]:=⟨found.dropLast,found.getLast hne,(List.dropLast_concat_getLast hne).symm⟩
  have l:gIx (.lst ((f'++[p]).map zao)) (.int (-1))=some (zao p):=by
   rw[List.map_append]
   exact znt (f'.map zao) (zao p)
  have ng:gNeg (.int 1)=some (.int (-1)):=rfl
  have g0:gIx (zao p) (.int 0)=some p.1.pv:=rfl
  have cv:zjx 2 (zab (bin2 (bin2 (getO 4) (un1 (kI 1) gNeg) gIx) (kI 0) gIx) nilA) appL (frst S0 G1 F2 (f'++[p]) d a b c)=.ok (.bl false):=by
   refine zm6 (L:=zbm) (cs:=[]) (qs:=[p.1.pv]) rfl ?_ (by simp[zbq,St.nf]) rfl (app2 _)
   simp only[frst]
   generalize (f'++[p]).map zao=FS at *
   generalize zao p=NP at *
   simp[ng,l,g0]
  have hd':(d:Int)<((f'++[p]).map zao).length:=by rw[List.length_map];omega
  rw[decide_eq_true hd]
  simp only[frst] at cv ⊢
  generalize (f'++[p]).map zao=FS at *
  generalize PV.dtt (kL (f'++[p])) (tL (f'++[p]))=KD at *
  simp[tst,hd',cv]
 ·rw[decide_eq_false hd]
  have hd':¬ (d:Int)<((found.map zao).length:Nat):=by rw[List.length_map];omega
  simp only[frst]
  generalize found.map zao=FS at *
  simp[tst,hd']
theorem zo2(s0:St)(U:List St)(hUl:U.length<=19999)(hU:∀found,BF.Inv (lead h nms hour) s0 found->∀p∈found,p.1∈U)(hP:∀found,BF.Inv (lead h nms hour) s0 found->∀p∈found,Ok h nms p.1):∀(n d:Nat)(found:List (BF.Row St))(a b c:Sl),BF.Inv (lead h nms hour) s0 found->(∀near,found[d]?=some near->∀p∈found,BF.lt p.2 (near.2++[0]))->d<=found.length->U.length<d+n->∃d' a' b' c',
  whF tst zcn n (frst S0 (F1 h hour D) F2 found d a b c)=.ok (.next (frst S0 (F1 h hour D) F2 (BF.bfs (lead h nms hour) n d found) d' a' b' c'))
 | 0,d,found,a,b,c,I,top,hd,hn=>by
  have:=BF.inv_len (lead h nms hour) s0 U hU I
  omega
 | n+1,d,found,a,b,c,I,top,hd,hn=>by
  have hl:=BF.inv_len (lead h nms hour) s0 U hU I
  have hne:found≠[]:=by obtain⟨tl,e⟩:=I.h0;rw[e];simp
  have ht:=Zcc S0 (F1 h hour D) found hne d a b c
  unfold whF BF.bfs
  rw[ht]
  cases e:found[d]? with
  | none=>
   have:¬ d<found.length:=by have:=List.getElem?_eq_none_iff.mp e;omega
   rw[decide_eq_false this]
   exact⟨d,a,b,c,rfl⟩
  | some near=>
   have hdl:d<found.length:=(List.getElem?_eq_some_iff.mp e).1
   rw[decide_eq_true hdl]
   have nm:near∈found:=List.mem_of_getElem? e
   obtain⟨b',c',eb⟩:=Zfh hg hour hD S0 found near d e (hP found I near nm) (by have:=I.len d near e;omega) a b c (by omega)
   obtain⟨I2,⟨tl,e2⟩,t2⟩:=BF.sweep_keep (lead h nms hour) s0 I e (top near e)
   obtain⟨d',a2,b2,c2,ew⟩:=zo2 s0 U hUl hU hP n (d+1) (BF.sweep (lead h nms hour) near found) (.val (zao near)) b' c' I2 t2 (by rw[e2,List.length_append];omega) (by omega)
   refine⟨d',a2,b2,c2,?_⟩
   rw[R.ok_bind,if_pos rfl,eb,R.ok_bind]
   exact ew
end
structure Found(h:House)(nms:List Str)(hour:Int)(s0:St)(found:List (BF.Row St)):Prop where
 inv:BF.Inv (lead h nms hour) s0 found
 cl:∀p∈found,∀i<13,BF.Cl (lead h nms hour) found p i
 ok:∀p∈found,Ok h nms p.1
 ln:found.length<=19999
section
variable{h : House}{nms ord : List Str}(hg : HG h nms ord)(hour : Int)
include hg
theorem zvv:∃s0:St,Ok h nms s0/\zcr [h.pv,.int hour]=some s0.pv:=by
 obtain⟨y,room,ok,e⟩:=zvw hg hour
 exact⟨⟨y,"",0,0,[]⟩,⟨room,ok⟩,e⟩
theorem Zam(p:BF.Row St):noFn (zao p)=true:=by simp[zao,noFn,zbq,St.nf]
theorem zq8(s0:St)(h0:Ok h nms s0)(hb:zcr [h.pv,.int hour]=some s0.pv):∃found,Found h nms hour s0 found/\zhk [h.pv,.int hour]=some (.lst (found.map zao)):=by
 obtain⟨D,hD⟩:=zzt hg
 have hP:∀found,BF.Inv (lead h nms hour) s0 found->∀p∈found,Ok h nms p.1:=BF.inv_P _ s0 (Ok h nms) h0 fun s hs i _=>(zk8 hg hour s hs i).1
 have hU:∀found,BF.Inv (lead h nms hour) s0 found->∀p∈found,p.1∈univ nms:=fun found I p hp=>zt0 hg p.1 (hP found I p hp)
 have hUl:=zt1 nms hg.nl
 obtain⟨J1,J2⟩:=BF.bfs_all (lead h nms hour) s0 (univ nms) 20000 (by omega) hU
 obtain⟨d',a',b',c',ew⟩:=zo2 hg hour hD s0.pv s0 (univ nms) hUl hU hP 20000 0 [(s0,[])] .no .no .no (BF.inv_0 _ s0) (fun near e=>BF.top_0 s0 near e) (by simp) (by omega)
 have hl:=BF.inv_len (lead h nms hour) s0 (univ nms) hU J1
 refine⟨BF.bfs (lead h nms hour) 20000 0 [(s0,[])],⟨J1,J2,hP _ J1,by omega⟩,?_⟩
 have nfl:noFn (.lst ((BF.bfs (lead h nms hour) 20000 0 [(s0,[])]).map zao))=true:=by
  have:=zet zao (BF.bfs (lead h nms hour) 20000 0 [(s0,[])]) fun p _=>Zam hg p
  simpa [noFn] using this
 have r0:zao (s0,[])=.tup [s0.pv,.str ""]:=by
  unfold zao rowS
  rw[zdv]
  rfl
 have tk:=s0.tk
 have ew:whF tst zcn 20000 [.val s0.pv,.val (F1 h hour D),.val F2,.own (.dtt [s0.key] [.bl true]),.own (.lst [zao (s0,[])]),.val (.int 0),.no,.no,.no]=.ok (.next [.val s0.pv,.val (F1 h hour D),.val F2,.own (.dtt (kL (BF.bfs (lead h nms hour) 20000 0 [(s0,[])])) (tL (BF.bfs (lead h nms hour) 20000 0 [(s0,[])]))),.own (.lst ((BF.bfs (lead h nms hour) 20000 0 [(s0,[])]).map zao)),.val (.int d'),a',b',c']):=ew
 rw[r0] at ew
 have dt:zvp (getV 0) (kB true) [.val s0.pv,.val (F1 h hour D),.val F2,.no,.no,.no,.no,.no,.no]=.ok (.dtt [s0.key] [.bl true]):=by
  unfold zvp
  rw[show getV 0 [.val s0.pv,.val (F1 h hour D),.val F2,.no,.no,.no,.no,.no,.no]=.ok s0.pv from rfl]
  simp only[R.ok_bind,x_kB,tk,R.ofO_some]
 have snf:=s0.nf
 have hW:=hD.eq
 generalize (BF.bfs (lead h nms hour) 20000 0 [(s0,[])]).map zao=FS at *
 generalize PV.dtt (kL (BF.bfs (lead h nms hour) 20000 0 [(s0,[])])) (tL (BF.bfs (lead h nms hour) 20000 0 [(s0,[])]))=KD at *
 have fr:zdj [s0.pv,F1 h hour D,F2]=some (.lst FS):=by
  refine zn6 rfl ?_
  unfold tst at ew
  generalize F1 h hour D=G1 at *
  generalize F2=G2 at *
  generalize PV.dtt [s0.key] [.bl true]=K0 at *
  generalize s0.pv=S at *
  simp[zf0,PU.start,dt]
  rw[ew]
  simp
 have ca:capL [.val h.pv,.val (.int hour),.val D] [2,1,0]=.ok [D,.int hour,h.pv]:=rfl
 have fa:(valA (za0 (zab (getV 0) (zab (getV 1) nilA)) zcr) (lamA zbz [2,1,0] (lamA zbm [] nilA))) [.val h.pv,.val (.int hour),.val D]=.ok [s0.pv,F1 h hour D,F2]:=by
  unfold valA
  rw[show za0 (zab (getV 0) (zab (getV 1) nilA)) zcr [.val h.pv,.val (.int hour),.val D]=.ok s0.pv by simp[hb]]
  simp only[R.ok_bind,snf,if_true]
  rfl
 have cl:zpf (valA (za0 (zab (getV 0) (zab (getV 1) nilA)) zcr) (lamA zbz [2,1,0] (lamA zbm [] nilA))) zdj [.val h.pv,.val (.int hour),.val D]=.ok (.lst FS):=by
  unfold zpf
  rw[fa]
  simp only[R.ok_bind,fr,R.ofO_some,nfl,if_true]
 refine zas rfl ?_
 generalize h.pv=H at *
 simp[zld,PU.start,hW,cl]
end
def kR(r:List Nat):PV:=.tup [.int r.length,.lst (r.map fun i:Nat=>PV.int (i:Int))]
theorem ix13 (i:Nat) (hi:i<13):zmj (.str "0123456789*#w") (WO.sg (cd i))=some (.int i):=by
 match i,hi with
 | 0,_=>kernel_rfl
 | 1,_=>kernel_rfl
 | 2,_=>kernel_rfl
 | 3,_=>kernel_rfl
 | 4,_=>kernel_rfl
 | 5,_=>kernel_rfl
 | 6,_=>kernel_rfl
 | 7,_=>kernel_rfl
 | 8,_=>kernel_rfl
 | 9,_=>kernel_rfl
 | 10,_=>kernel_rfl
 | 11,_=>kernel_rfl
 | 12,_=>kernel_rfl
theorem zou(ρ:PSt)(hρ:ρ=[.no]):∀(r:List Nat),(∀i∈r,i<13)->zdr (zan 0) yesB zfd ρ (r.map fun i=>WO.sg (cd i))=.ok (r.map fun i:Nat=>PV.int (i:Int))
 | [],_=>rfl
 | i::r,h=>by
  have ih:=zou ρ hρ r fun j hj=>h j (by simp[hj])
  have e:=ix13 i (h i (by simp))
  have e1:zfd [.val (WO.sg (cd i))]=.ok (.int i):=by
   generalize WO.sg (cd i)=G at *
   simp[zfd,e]
  rw[List.map_cons]
  unfold zdr
  rw[show zan 0 (WO.sg (cd i)) ρ=some [.val (WO.sg (cd i))] by rw[hρ];rfl]
  simp only[R.ofO_some,R.ok_bind,zv1,if_true,e1,ih]
  rfl
theorem zwr(r:List Nat)(h:∀i∈r,i<13)(hl:r.length<=100000):zdi [.str (rowS r)]=some (kR r):=by
 have ei:zfw (.str (rowS r))=some (r.map fun i=>WO.sg (cd i)):=by
  unfold rowS
  rw[WO.it_mk,List.map_map]
  rfl
 have gl:gLen (.str (rowS r))=some (.int r.length):=by
  unfold rowS
  rw[zg2 (by rw[zdq,List.length_map];omega),zdq,List.length_map]
 have ec:=zou [.no] rfl r h
 have z:(r.map fun i:Nat=>PV.int (i:Int)).length<=16777216:=by simp;omega
 unfold kR
 generalize rowS r=RR at *
 generalize (r.map fun i=>WO.sg (cd i))=RS at *
 generalize (r.map fun i:Nat=>PV.int (i:Int))=RI at *
 refine zas rfl ?_
 simp[zjl,PU.start,gl,ei,zdl,ec,z]
def iL(r:List Nat):List Int:=r.map fun i:Nat=>(i:Int)
theorem zjh:∀r:List Nat,zh5 (r.map fun i:Nat=>PV.int (i:Int))=some (iL r)
 | []=>rfl
 | i::r=>by
  show (zh5 (r.map fun i:Nat=>PV.int (i:Int))).map ((i:Int)::·)=_
  rw[zjh r]
  rfl
theorem zsi:∀a b:List Nat,a.length=b.length->BF.lexLt a b=true->geL (iL a) (iL b)=false
 | [],_,_,h=>by simp[BF.lexLt] at h
 | _::_,[],h,_=>by simp at h
 | x::xs,y::ys,hl,h=>by
  simp only[BF.lexLt] at h
  show (if (x:Int)=(y:Int) then geL (iL xs) (iL ys) else decide ((y:Int)<=(x:Int)))=false
  by_cases e:x=y
  ·rw[if_pos e] at h
   rw[if_pos (by omega)]
   exact zsi xs ys (by simpa using hl) h
  ·rw[if_neg e] at h
   rw[if_neg (by omega)]
   simp at h ⊢
   omega
theorem zoy:∀a:List Nat,gtL (iL a) (iL a)=false
 | []=>rfl
 | x::xs=>by
  show (if (x:Int)=(x:Int) then gtL (iL xs) (iL xs) else _)=false
  rw[if_pos rfl]
  exact zoy xs
theorem zsc:∀a b:List Nat,a.length=b.length->BF.lexLt a b=true->gtL (iL a) (iL b)=false
 | [],_,_,h=>by simp[BF.lexLt] at h
 | _::_,[],h,_=>by simp at h
 | x::xs,y::ys,hl,h=>by
  simp only[BF.lexLt] at h
  show (if (x:Int)=(y:Int) then gtL (iL xs) (iL ys) else decide ((y:Int)<(x:Int)))=false
  by_cases e:x=y
  ·rw[if_pos e] at h
   rw[if_pos (by omega)]
   exact zsc xs ys (by simpa using hl) h
  ·rw[if_neg e] at h
   rw[if_neg (by omega)]
   simp at h ⊢
   omega
theorem Zff(a b:List Nat)(h:BF.lt a b):gGeT (kR a) (kR b)=some (.bl false):=by
 show (match zh5 (a.map fun i:Nat=>PV.int (i:Int)),zh5 (b.map fun i:Nat=>PV.int (i:Int)) with
  | some xs,some ys=>if (a.length:Int)=(b.length:Int)/\¬ xs.length=ys.length then none else some (PV.bl (if (a.length:Int)=(b.length:Int) then geL xs ys else decide ((b.length:Int)<=(a.length:Int))))
  | _,_=>none)=_
 rw[zjh,zjh]
 show (if (a.length:Int)=(b.length:Int)/\¬ (iL a).length=(iL b).length then none else some (PV.bl (if (a.length:Int)=(b.length:Int) then geL (iL a) (iL b) else decide ((b.length:Int)<=(a.length:Int)))))=_
 rw[if_neg (by simp[iL];omega)]
 rcases h with h | ⟨h,e⟩
 ·rw[if_neg (by omega),decide_eq_false (by omega)]
 ·rw[if_pos (by omega),zsi a b h e]
theorem Zfe(a b:List Nat)(h:a=b\/BF.lt a b):gGtT (kR a) (kR b)=some (.bl false):=by
 show (match zh5 (a.map fun i:Nat=>PV.int (i:Int)),zh5 (b.map fun i:Nat=>PV.int (i:Int)) with
  | some xs,some ys=>if (a.length:Int)=(b.length:Int)/\¬ xs.length=ys.length then none else some (PV.bl (if (a.length:Int)=(b.length:Int) then gtL xs ys else decide ((b.length:Int)<(a.length:Int))))
  | _,_=>none)=_
 rw[zjh,zjh]
 show (if (a.length:Int)=(b.length:Int)/\¬ (iL a).length=(iL b).length then none else some (PV.bl (if (a.length:Int)=(b.length:Int) then gtL (iL a) (iL b) else decide ((b.length:Int)<(a.length:Int)))))=_
 rw[if_neg (by simp[iL];omega)]
 rcases h with rfl | h | ⟨h,e⟩
 ·rw[if_pos rfl,zoy]
 ·rw[if_neg (by omega),decide_eq_false (by omega)]
 ·rw[if_pos (by omega),zsc a b h e]
theorem Zeb(r b:Str)(w v:Int)(t:W):gNe (sT r b w v t) (sT r b w v t)=some (.bl false):=by
 have e:gNe (sT r b w v t) (sT r b w v t)=if pdeps [.str r,.str b,.int w,.int v,.str (mkS t)]<=60 then (zdh [.str r,.str b,.int w,.int v,.str (mkS t)] [.str r,.str b,.int w,.int v,.str (mkS t)]).map fun b=>.bl (!b) else none:=rfl
 rw[e,if_pos (by simp[pdep,pdeps]),zes _ (by simp[flat,flats])]
 rfl
theorem zua(p:BF.Row St):flat (zao p)=true/\pdep (zao p)<=3:=by simp[zao,St.pv,sT,flat,flats,pdep,pdeps]
theorem Zan(p:BF.Row St):gNe (zao p) (zao p)=some (.bl false):=by
 have e:gNe (zao p) (zao p)=if pdeps [p.1.pv,.str (rowS p.2)]<=60 then (zdh [p.1.pv,.str (rowS p.2)] [p.1.pv,.str (rowS p.2)]).map fun b=>.bl (!b) else none:=rfl
 rw[e,if_pos (by simp[St.pv,sT,pdep,pdeps]),zes _ (by simp[St.pv,sT,flat,flats])]
 rfl
theorem zy5{ps:List PV}(h:∀p∈ps,flat p=true/\pdep p<=3):gEq (.lst ps) (.lst ps)=some (.bl true):=by
 have e:gEq (.lst ps) (.lst ps)=if pdeps ps<=60 then (zdh ps ps).map PV.bl else none:=rfl
 rw[e,if_pos (Nat.le_trans (zus fun p hp=>(h p hp).2) (by decide)),zes _ (zvg fun p hp=>(h p hp).1)]
 rfl
theorem zuu(found:List (BF.Row St))(hne:found≠[]):zc3 [.lst (found.map zao)]=some (.bl true):=by
 obtain⟨ρ',f1,a,rfl⟩:=forM (enc:=zao) (xs:=found) (h:=zan 1) (g:=zdd) (ρ:=[.val (.lst (found.map zao)),.no])
  (I:=fun _ ρ=>∃a,ρ=[.val (.lst (found.map zao)),a]) ⟨.no,rfl⟩ (by
   rintro pre p post ρ hx ⟨a,rfl⟩
   have g1:gIsi "tuple" (zao p)=some (.bl true):=rfl
   have g2:gLen (zao p)=some (.int 2):=rfl
   have g3:gIx (zao p) (.int 1)=some (.str (rowS p.2)):=rfl
   have g4:gIsi "str" (.str (rowS p.2))=some (.bl true):=rfl
   refine⟨_,[.val (.lst (found.map zao)),.val (zao p)],zkv _,.inl ?_,_,rfl⟩
   generalize found.map zao=FS at *
   generalize zao p=NP at *
   simp[zdd,g1,g2,g3,g4])
 have il:gIsi "list" (.lst (found.map zao))=some (.bl true):=rfl
 have gl:gLen (.lst (found.map zao))=some (.int found.length):=by simp
 have hl:¬ (found.length:Int)=0:=by
  have:=List.length_pos_iff.mpr hne
  omega
 have it:zfw (.lst (found.map zao))=some (found.map zao):=rfl
 refine zas rfl ?_
 generalize hL:PV.lst (found.map zao)=LL at *
 generalize found.map zao=FS at *
 simp[zd8,PU.start,il,gl,hl,hne,it]
 rw[f1]
 simp
def rL(found:List (BF.Row St)):List PV:=found.map fun p=>PV.str (rowS p.2)
theorem zl8:∀(found:List (BF.Row St)),(found.map (·.1)).Nodup->∀q∈found,zl9 (kL found) (rL found) q.1.key=some (.str (rowS q.2))
 | [],_,_,h=>by cases h
 | p::found,nd,q,hq=>by
  rw[List.map_cons,List.nodup_cons] at nd
  show (if p.1.key=q.1.key then some (PV.str (rowS p.2)) else zl9 (kL found) (rL found) q.1.key)=_
  rcases List.mem_cons.mp hq with rfl | hq
  ·rw[if_pos rfl]
  ·rw[if_neg fun e=>nd.1 (List.mem_map.mpr ⟨q,hq,(St.kinj e).symm⟩)]
   exact zl8 found nd.2 q hq
def enI(x:Nat×BF.Row St):PV:=.tup [.int x.1,zao x.2]
theorem zww:∀(l:List Nat)(f:List (BF.Row St)),(l.zipWith (fun (i:Nat) p=>[PV.int (i:Int),p]) (f.map zao)).map PV.tup=(l.zip f).map enI
 | [],_=>by simp
 | _::_,[]=>by simp
 | i::l,p::f=>by
  rw[List.map_cons,List.zipWith_cons_cons,List.map_cons,zww l f,List.zip_cons_cons,List.map_cons]
  rfl
theorem Zfk(f:List (BF.Row St)):zmt (.lst (f.map zao))=some (((List.range f.length).zip f).map enI):=by
 have:=zww (List.range f.length) f
 rw[← this]
 show some ((numP (f.map zao)).map PV.tup)=_
 unfold numP
 rw[List.length_map]
theorem zzp{f:List (BF.Row St)}{pre post:List (Nat×BF.Row St)}{x:Nat×BF.Row St}(e:(List.range f.length).zip f=pre++x::post):x.1=pre.length/\f=pre.map (·.2)++x.2::post.map (·.2):=by
 have h1:((List.range f.length).zip f).map (·.1)=List.range f.length:=List.map_fst_zip (by simp)
 have h2:((List.range f.length).zip f).map (·.2)=f:=List.map_snd_zip (by simp)
 rw[e] at h1 h2
 refine⟨?_,?_⟩
 ·rw[List.map_append,List.map_cons] at h1
  have:(List.range f.length)[pre.length]?=some x.1:=by
   rw[← h1,List.getElem?_append_right (by simp)]
   simp
  obtain⟨q,q2⟩:=List.getElem?_eq_some_iff.mp this
  rw[List.getElem_range] at q2
  exact q2.symm
 ·rw[List.map_append,List.map_cons] at h2
  exact h2.symm
theorem Zd2{T:PV}{k:List Key}(KS:List (List Key))(PS:List PV)(hk:toTK T=some k):gInT T (.dtt KS PS)=some (.bl (KS.any fun j=>decide (j=k))):=by
 show (toTK T).map _=_
 rw[hk]
 rfl
theorem ztx{T:PV}{k:List Key}(KS:List (List Key))(PS:List PV)(hk:toTK T=some k):zfb T (.dtt KS PS)=some (.bl (!(KS.any fun j=>decide (j=k)))):=by
 show (toTK T).map _=_
 rw[hk]
 rfl
theorem Zd0{T:PV}{k:List Key}(KS:List (List Key))(PS:List PV)(hk:toTK T=some k):gIxT (.dtt KS PS) T=zl9 KS PS k:=by
 show (toTK T).bind _=_
 rw[hk]
 rfl
section
variable{h : House}{nms ord : List Str}(hg : HG h nms ord)(hour : Int){s0 : St}(h0 : Ok h nms s0)(hb : zcr [h.pv, .int hour] = some s0.pv){found : List (BF.Row St)}(F : Found h nms hour s0 found)(X : PV)
include hg h0 hb F
theorem zyz(p:BF.Row St)(hp:p∈found):p.2.length<=20000:=by
 obtain⟨j,hj⟩:=List.getElem?_of_mem hp
 have h1:=F.inv.len j p hj
 have h2:=(List.getElem?_eq_some_iff.mp hj).1
 have h3:=F.ln
 omega
theorem zy0(p:BF.Row St)(hp:p∈found):zdi [.str (rowS p.2)]=some (kR p.2):=zwr p.2 (F.inv.rng p hp) (by have:=zyz hg hour h0 hb F p hp;omega)
theorem zw9(p:BF.Row St)(hp:p∈found):∃L,zmp [h.pv,.int hour,.str (rowS p.2)]=some (.lst (L++[p.1.pv])):=by
 obtain⟨D,hD⟩:=zzt hg
 obtain⟨L,e⟩:=ztw hg hour hD s0 hb h0 p.2 (by have:=zyz hg hour h0 hb F p hp;omega)
 rw[F.inv.run p hp] at e
 exact⟨L,e⟩
abbrev lst_(ad:Nat)(X:PV)(h:House)(hour:Int)(found:List (BF.Row St))(pre:List (BF.Row St))(a b c d e:Sl):PSt:=[.val X,.val h.pv,.val (.int hour),.pin (found.map zao) ad,.own (.dtt (kL pre) (rL pre)),a,b,c,d,e,.no]
theorem loop1(ad:Nat):∃a b c,forF (tupT 2 (za7 (zan 5) (za7 (tupT 2 (za7 (zan 6) (za7 (zan 7) nilT))) nilT))) zh8 (((List.range found.length).zip found).map enI) (lst_ ad X h hour found [] .no .no .no .no .no)=.ok (.next (lst_ ad X h hour found found a b c .no .no)):=by
 obtain⟨ρ',f1,a,b,c,rfl⟩:=forM (enc:=enI) (xs:=(List.range found.length).zip found) (h:=tupT 2 (za7 (zan 5) (za7 (tupT 2 (za7 (zan 6) (za7 (zan 7) nilT))) nilT))) (g:=zh8) (ρ:=lst_ ad X h hour found [] .no .no .no .no .no)
  (I:=fun pre ρ=>∃a b c,ρ=lst_ ad X h hour found (pre.map (·.2)) a b c .no .no) ⟨_,_,_,rfl⟩ (by
   rintro pre x post ρ hx ⟨a,b,c,rfl⟩
   obtain⟨hi,hf⟩:=zzp hx
   obtain⟨i,p⟩:=x
   have hi:i=pre.length:=hi
   have hf:found=pre.map (·.2)++p::post.map (·.2):=hf
   have pm:p∈found:=by rw[hf];simp
   have fresh:p.1 ∉ (pre.map (·.2)).map (·.1):=fun z=>by
    have nd:=F.inv.nd
    rw[hf,List.map_append,List.map_cons,List.nodup_append] at nd
    exact nd.2.2 p.1 z p.1 (by simp) rfl
   have hany:((kL (pre.map (·.2))).any fun j=>decide (j=p.1.key))=false:=by
    rw[znv]
    exact decide_eq_false fresh
   have ni:gInT p.1.pv (.dtt (kL (pre.map (·.2))) (rL (pre.map (·.2))))=some (.bl false):=by
    rw[Zd2 _ _ p.1.tk,hany]
   have ky:=zy0 hg hour h0 hb F p pm
   obtain⟨L,ew⟩:=zw9 hg hour h0 hb F p pm
   have al:=znt L p.1.pv
   have ng:gNeg (.int 1)=some (.int (-1)):=rfl
   have nn:gNe p.1.pv p.1.pv=some (.bl false):=Zeb _ _ _ _ _
   have hlen:=F.ln
   have hpl:pre.length<found.length:=by rw[hf];simp
   have pt:∀(A1 A2 A3 A4 A5 A8 A9 A10:Sl),zj1 4 (getV 6) (getV 7) [A1,A2,A3,A4,.own (.dtt (kL (pre.map (·.2))) (rL (pre.map (·.2)))),A5,.val p.1.pv,.val (.str (rowS p.2)),A8,A9,A10]=.ok (.next [A1,A2,A3,A4,.own (.dtt (kL ((pre++[(i,p)]).map (·.2))) (rL ((pre++[(i,p)]).map (·.2)))),A5,.val p.1.pv,.val (.str (rowS p.2)),A8,A9,A10]):=fun _ _ _ _ _ _ _ _=>by
    rw[zqo (ks:=kL (pre.map (·.2))) (ps:=rL (pre.map (·.2))) (p:=.str (rowS p.2)) (kp:=p.1.pv) (k:=p.1.key) rfl rfl rfl p.1.tk (by simp[kL];omega),zoa hany]
    simp only[kL,rL,List.map_append]
    rfl
   refine⟨lst_ ad X h hour found (pre.map (·.2)) (.val (.int i)) (.val p.1.pv) (.val (.str (rowS p.2))) .no .no,lst_ ad X h hour found ((pre++[(i,p)]).map (·.2)) (.val (.int i)) (.val p.1.pv) (.val (.str (rowS p.2))) .no .no,rfl,.inl ?_,_,_,_,rfl⟩
   by_cases hz:pre.length=0
   ·have hi0:¬ 0<i:=by omega
    simp only[lst_]
    generalize PV.lst (L++[p.1.pv])=LL at *
    generalize PV.dtt (kL ((pre++[(i,p)]).map (·.2))) (rL ((pre++[(i,p)]).map (·.2)))=KD2 at *
    generalize PV.dtt (kL (pre.map (·.2))) (rL (pre.map (·.2)))=KD at *
    generalize found.map zao=FS at *
    generalize p.1.pv=S at *
    generalize rowS p.2=RR at *
    generalize h.pv=H at *
    simp[zh8,ni,hi0,pt,ew,ng,al,nn]
   ·have hi0:0<i:=by omega
    obtain⟨q,hq⟩:∃q,found[pre.length-1]?=some q:=⟨_,List.getElem?_eq_getElem (by omega)⟩
    have hp':found[pre.length]?=some p:=by
     rw[hf,List.getElem?_append_right (by simp)]
     simp
    have lt:BF.lt q.2 p.2:=by
     obtain⟨q1,q2⟩:=List.getElem?_eq_some_iff.mp hq
     obtain⟨q3,q4⟩:=List.getElem?_eq_some_iff.mp hp'
     have:=List.pairwise_iff_getElem.mp F.inv.srt (pre.length-1) pre.length q1 q3 (by omega)
     rw[q2,q4] at this
     exact this
    have at1:atI (found.map zao) ((i:Int)-1)=some (zao q):=zby (n:=pre.length-1) (by omega) (by rw[List.getElem?_map,hq];rfl)
    have g1:gIx (zao q) (.int 1)=some (.str (rowS q.2)):=rfl
    have kq:=zy0 hg hour h0 hb F q (List.mem_of_getElem? hq)
    have ge:=Zff q.2 p.2 lt
    simp only[lst_]
    generalize PV.lst (L++[p.1.pv])=LL at *
    generalize PV.dtt (kL ((pre++[(i,p)]).map (·.2))) (rL ((pre++[(i,p)]).map (·.2)))=KD2 at *
    generalize PV.dtt (kL (pre.map (·.2))) (rL (pre.map (·.2)))=KD at *
    generalize zao q=NQ at *
    generalize found.map zao=FS at *
    generalize p.1.pv=S at *
    generalize rowS p.2=RR at *
    generalize rowS q.2=RQ at *
    generalize kR p.2=K1 at *
    generalize kR q.2=K2 at *
    generalize h.pv=H at *
    simp[zh8,ni,hi0,at1,g1,kq,ky,ge,pt,ew,ng,al,nn])
 have h2:((List.range found.length).zip found).map (·.2)=found:=List.map_snd_zip (by simp)
 rw[h2] at f1
 exact⟨a,b,c,f1⟩
theorem law2(ad:Nat)(p:BF.Row St)(hp:p∈found)(i:Nat)(hi:i<13)(a e:Sl):∃e',zlm (lst_ ad X h hour found found a (.val p.1.pv) (.val (.str (rowS p.2))) (.val (WO.sg (cd i))) e)=.ok (.next (lst_ ad X h hour found found a (.val p.1.pv) (.val (.str (rowS p.2))) (.val (WO.sg (cd i))) e')):=by
 obtain⟨q,hq,e1,e2⟩:=F.cl p hp i hi
 have st:=zqz hg hour p.1 (F.ok p hp) i
 rw[← e1] at st
 have ni:zfb q.1.pv (.dtt (kL found) (rL found))=some (.bl false):=by
  rw[ztx _ _ q.1.tk,znv,decide_eq_true (List.mem_map.mpr ⟨q,hq,rfl⟩)]
  rfl
 have ix:gIxT (.dtt (kL found) (rL found)) q.1.pv=some (.str (rowS q.2)):=by
  rw[Zd0 _ _ q.1.tk]
  exact zl8 found F.inv.nd q hq
 have kq:=zy0 hg hour h0 hb F q hq
 have fl:=zyz hg hour h0 hb F p hp
 have ad:=zq1 p.2 i (by omega)
 have kp:=zwr (p.2++[i]) (fun j hj=>by
  rcases List.mem_append.mp hj with hj | hj
  ·exact F.inv.rng p hp j hj
  ·rw[List.mem_singleton.mp hj];exact hi) (by simp;omega)
 have gt:=Zfe q.2 (p.2++[i]) e2
 refine⟨.val q.1.pv,?_⟩
 simp only[lst_]
 generalize PV.dtt (kL found) (rL found)=KD at *
 generalize found.map zao=FS at *
 generalize rowS (p.2++[i])=RA at *
 generalize kR (p.2++[i])=K1 at *
 generalize kR q.2=K2 at *
 generalize rowS p.2=RR at *
 generalize rowS q.2=RQ at *
 generalize p.1.pv=S at *
 generalize q.1.pv=S2 at *
 generalize WO.sg (cd i)=G at *
 generalize h.pv=H at *
 simp[zlm,st,ni,ix,kq,ad,kp,gt]
theorem law3(ad:Nat)(p:BF.Row St)(hp:p∈found)(a d e:Sl):∃d' e',zh7 (lst_ ad X h hour found found a (.val p.1.pv) (.val (.str (rowS p.2))) d e)=.ok (.next (lst_ ad X h hour found found a (.val p.1.pv) (.val (.str (rowS p.2))) d' e')):=by
 obtain⟨ρ',f1,d',e',rfl⟩:=forM (enc:=fun i=>WO.sg (cd i)) (xs:=List.range 13) (h:=zan 8) (g:=zlm) (ρ:=lst_ ad X h hour found found a (.val p.1.pv) (.val (.str (rowS p.2))) d e)
  (I:=fun _ ρ=>∃d e,ρ=lst_ ad X h hour found found a (.val p.1.pv) (.val (.str (rowS p.2))) d e) ⟨d,e,rfl⟩ (by
   rintro pre i post ρ hx ⟨d,e,rfl⟩
   have hi:i<13:=by
    have:i∈List.range 13:=by rw[hx];simp
    exact List.mem_range.mp this
   obtain⟨e',eb⟩:=law2 hg hour h0 hb F X ad p hp i hi a e
   exact⟨lst_ ad X h hour found found a (.val p.1.pv) (.val (.str (rowS p.2))) (.val (WO.sg (cd i))) e,_,rfl,.inl eb,_,_,rfl⟩)
 refine⟨d',e',?_⟩
 have it:=zv7
 generalize (List.range 13).map (fun i=>WO.sg (cd i))=SS at *
 generalize lst_ ad X h hour found found a (.val p.1.pv) (.val (.str (rowS p.2))) d' e'=R2 at *
 unfold zh7
 rw[zqi,Zdq,x_kS,zh4,k_it,it,R.ofO_some,zh4,zyl]
 exact f1
theorem loop2(ad:Nat):∃b c d e,forF (tupT 2 (za7 (zan 6) (za7 (zan 7) nilT))) zh7 (found.map zao) (lst_ ad X h hour found found .no .no .no .no .no)=.ok (.next (lst_ ad X h hour found found .no b c d e)):=by
 obtain⟨ρ',f1,b',c',d',e',rfl⟩:=forM (enc:=zao) (xs:=found) (h:=tupT 2 (za7 (zan 6) (za7 (zan 7) nilT))) (g:=zh7) (ρ:=lst_ ad X h hour found found .no .no .no .no .no)
  (I:=fun _ ρ=>∃b c d e,ρ=lst_ ad X h hour found found .no b c d e) ⟨_,_,_,_,rfl⟩ (by
   rintro pre p post ρ hx ⟨b,c,d,e,rfl⟩
   have pm:p∈found:=by rw[hx];simp
   obtain⟨d',e',eb⟩:=law3 hg hour h0 hb F X ad p pm .no d e
   exact⟨lst_ ad X h hour found found .no (.val p.1.pv) (.val (.str (rowS p.2))) d e,_,rfl,.inl eb,_,_,_,_,rfl⟩)
 exact⟨b',c',d',e',f1⟩
end
theorem zu2(ns:List Int):zst [.lst (ns.map .int)]=some (.bl true):=by
 refine zas rfl ?_
 obtain⟨h,nms,ord,hg,eh⟩:=house ns
 have c6:zal [PV.lst (ns.map PV.int),PV.int 6]=some (PV.int (ns.getD 6 0)):=zgy ns 6
 generalize ns.getD 6 0=z6 at c6
 have m24:gMod (.int z6) (.int 24)=some (.int (z6 % 24)):=zdm (by decide)
 generalize z6 % 24=hour at m24
 obtain⟨s0,h0,hb⟩:=zvv hg hour
 obtain⟨found,F,ep⟩:=zq8 hg hour s0 h0 hb
 have en:numL (found.map zao)=((List.range found.length).zip found).map enI:=Option.some.inj (Zfk found)
 have l1:forO 3 [5,6,7] numL (tupT 2 (za7 (zan 5) (za7 (tupT 2 (za7 (zan 6) (za7 (zan 7) nilT))) nilT))) zh8 [.val (.lst (ns.map .int)),.val h.pv,.val (.int hour),.own (.lst (found.map zao)),.own (.dtt [] []),.no,.no,.no,.no,.no,.no]=.ok (.next [.val (.lst (ns.map .int)),.val h.pv,.val (.int hour),.own (.lst (found.map zao)),.own (.dtt (kL found) (rL found)),.no,.no,.no,.no,.no,.no]):=by
  refine zsm (ps:=found.map zao) rfl fun ad=>?_
  obtain⟨a,b,c,l1⟩:=loop1 hg hour h0 hb F (.lst (ns.map .int)) ad
  rw[en]
  exact⟨_,l1,rfl,rfl⟩
 have l2:forO 3 [6,7,8,9] idL (tupT 2 (za7 (zan 6) (za7 (zan 7) nilT))) zh7 [.val (.lst (ns.map .int)),.val h.pv,.val (.int hour),.own (.lst (found.map zao)),.own (.dtt (kL found) (rL found)),.no,.no,.no,.no,.no,.no]=.ok (.next [.val (.lst (ns.map .int)),.val h.pv,.val (.int hour),.own (.lst (found.map zao)),.own (.dtt (kL found) (rL found)),.no,.no,.no,.no,.no,.no]):=by
  refine zsm (ps:=found.map zao) rfl fun ad=>?_
  obtain⟨b,c,d,e,l2⟩:=loop2 hg hour h0 hb F (.lst (ns.map .int)) ad
  exact⟨_,l2,rfl,rfl⟩
 obtain⟨tl,hf⟩:=F.inv.h0
 have hne:found≠[]:=by rw[hf];simp
 have pe:=zuu found hne
 have r0:zao (s0,[])=.tup [s0.pv,.str ""]:=by
  unfold zao rowS
  rw[zdv]
  rfl
 have f0:atI (found.map zao) 0=some (.tup [s0.pv,.str ""]):=zby (n:=0) rfl (by rw[hf,← r0];rfl)
 have n0:gNe (.tup [s0.pv,.str ""]) (.tup [s0.pv,.str ""])=some (.bl false):=by rw[← r0];exact Zan _
 have qe:=zy5 (ps:=found.map zao) fun p hp=>by
  obtain⟨x,_,rfl⟩:=List.mem_map.mp hp
  exact zua x
 have hrefl:=zp3 h hg.g.nd
 have la:zmi (.lst (found.map zao))=some (.lst (found.map zao)):=rfl
 generalize PV.dtt (kL found) (rL found)=KD at *
 generalize found.map zao=FS at *
 generalize s0.pv=S0 at *
 generalize ns.map PV.int=NS at *
 generalize h.pv=H at *
 simp[zve,PU.start,eh,c6,m24,ep,zt4,Zb5,pe,f0,hb,n0,newT,l1,l2,la,clrF,qe,hrefl]
end K31
namespace K31
open PySem PySem.Spec PyProof.Rows L2 PU
seal EV EO EN EA ET EW SV SVs TGt TGts TCt TCts EI ETs ED EOI EL
def top(i:Nat):Stmt:=PySem.Challenge.pw_menutree_k31_whole_places.main.body.getD i (.Pass ⟨0,0,0,0⟩)
structure Txt(w:World)(K:PySem.W.Frag)(mg:Str->Option Value):Prop where
 n_dict:mg "dict"=none
 n_enumerate:mg "enumerate"=none
 n_int:mg "int"=none
 n_isinstance:mg "isinstance"=none
 n_len:mg "len"=none
 n_list:mg "list"=none
 n_range:mg "range"=none
 n_str:mg "str"=none
 n_tuple:mg "tuple"=none
 n_zip:mg "zip"=none
 c_CODE_END:@Con (tw w) K mg "CODE_END" c_CODE_END
 c_SIGNS:@Con (tw w) K mg "SIGNS" c_SIGNS
 c_WAIT:@Con (tw w) K mg "WAIT" c_WAIT
abbrev zce:Stmt:=top 30
theorem zbe:FnScope ["_law_cell","_law_many","_law_found","_law_number","_law_k"] ["_law_cell","_law_many"] (zac zce):=⟨rfl,rfl,rfl,by decide +kernel,rfl,by decide +kernel,by decide +kernel⟩
theorem za8 {P:Program} {w:World} {K:PySem.W.Frag} {mg:Str->Option Value} {base:Heap} {f:Addr} {fd:FuncData} (T:Txt w K mg) (F:Fun K "_law_numbers" "_law_numbers" zce f fd) (hm:mg "_law_numbers"=some (.ref f)) (hb:Binds K fd ["_law_cell","_law_many"] []):@PF (tw w) P w K mg base 1 "_law_numbers" zau:=
  letI:TW:=(tw w)
  zdo F zbe hm hb (g:=zds) fun cdv A outer s H E hr=>by
    have hu:=hr.units
    refine zae ?_ ?_
    ·refine zem 2 zbe.nd rfl (.inl rfl) ?_
     refine zew ?_
     exact zag
    ·refine zae ?_ ?_
     ·refine za1 3 zbe.nd rfl (.inl rfl) ?_
      refine zaq zuw ?_ ?_
      ·exact EV.o (ev_v 0)
      ·exact EV.o zad
     ·refine zae ?_ ?_
      ·refine zc5 ?_ ?_ ?_
       ·refine zbb (opEq hu) zb8 ?_ ?_ (nomark _)
        ·refine EV.o ?_
         refine zaq zda ?_ ?_
         ·exact EV.o (ev_v 0)
         ·exact EV.o zad
        ·exact EV.o zad
       ·refine zae ?_ ?_
        ·refine zcv PassesOwn.never rfl ?_ ?_ ?_
         ·refine zf4 rfl T.n_range ?_
          exact ev_v 1
         ·exact zaz 4 zbe.nd rfl (.inl rfl)
         ·refine zae ?_ ?_
          ·refine zdf 2 rfl (by first | exact Or.inl rfl | exact Or.inr (Or.inl rfl)) ?_
           refine zaq zda ?_ ?_
           ·exact EV.o (ev_v 3)
           ·exact EV.o zad
          ·refine zaf ?_
           refine za1 3 zbe.nd rfl (.inl rfl) ?_
           refine zaq zuw ?_ ?_
           ·exact EV.o (ev_v 3)
           ·exact EV.o zad
        ·refine zaf ?_
         refine SV.frz 2 ?_
         refine zaw ?_
         exact ev_v 2
       ·exact za5
      ·refine zae ?_ ?_
       ·refine za1 3 zbe.nd rfl (.inl rfl) ?_
        refine zaq zda ?_ ?_
        ·exact EV.o (ev_v 3)
        ·exact EV.o zad
       ·refine zae ?_ ?_
        ·refine zcv PassesOwn.never rfl ?_ ?_ ?_
         ·refine zf4 rfl T.n_range ?_
          refine zaq zd7 ?_ ?_
          ·exact EV.o (ev_v 1)
          ·exact EV.o zad
         ·exact zaz 4 zbe.nd rfl (.inl rfl)
         ·refine zae ?_ ?_
          ·refine za1 3 zbe.nd rfl (.inl rfl) ?_
           refine zaq zda ?_ ?_
           ·refine EV.o ?_
            refine zaq zrk ?_ ?_
            ·refine EV.o ?_
             refine zaq zd7 ?_ ?_
             ·refine EV.o ?_
              refine zaq zd7 ?_ ?_
              ·exact EV.o (ev_v 3)
              ·exact EV.o (ev_v 4)
             ·exact EV.o zad
            ·exact EV.o zad
           ·exact EV.o zad
          ·refine zaf ?_
           refine zdf 2 rfl (by first | exact Or.inl rfl | exact Or.inr (Or.inl rfl)) ?_
           refine zaq zda ?_ ?_
           ·refine EV.o ?_
            refine zaq zrk ?_ ?_
            ·exact EV.o (ev_v 3)
            ·exact EV.o zad
           ·exact EV.o zad
        ·refine zaf ?_
         refine zaw ?_
         refine zo6 ?_ ?_ ?_
         ·exact eo_v 2
         ·refine zgo ?_
          exact zad
         ·exact zgp
abbrev zc8:Stmt:=top 31
theorem zbf:FnScope ["_law_cell","_law_letters","_law_some","_law_size","_law_at","_law_names_here","_law_turn","_law_name","_law_k"] ["_law_cell"] (zac zc8):=⟨rfl,rfl,rfl,by decide +kernel,rfl,by decide +kernel,by decide +kernel⟩
theorem zfr {P:Program} {w:World} {K:PySem.W.Frag} {mg:Str->Option Value} {base:Heap} {f:Addr} {fd:FuncData} (T:Txt w K mg) (F:Fun K "_law_names" "_law_names" zc8 f fd) (hm:mg "_law_names"=some (.ref f)) (hb:Binds K fd ["_law_cell"] []) (za8:@PF (tw w) P w K mg base 1 "_law_numbers" zau):@PF (tw w) P w K mg base 2 "_law_names" zfc:=
  letI:TW:=(tw w)
  zdo F zbf hm hb (g:=zgu) fun cdv A outer s H E hr=>by
    have hu:=hr.units
    refine zae ?_ ?_
    ·refine za1 1 zbf.nd rfl (.inl rfl) ?_
     exact zap
    ·refine zae ?_ ?_
     ·refine za1 2 zbf.nd rfl (.inl rfl) ?_
      refine zak za8 (hr.mono (by decide)) rfl ?_
      refine zaa ?_ ?_
      ·exact ev_v 0
      ·refine zaa ?_ ?_
       ·exact zad
       ·exact zag
     ·refine zae ?_ ?_
      ·refine za1 3 zbf.nd rfl (.inl rfl) ?_
       refine zaq zd7 ?_ ?_
       ·exact EV.o zad
       ·refine EV.o ?_
        refine zaq zda ?_ ?_
        ·refine EV.o ?_
         refine zaj (ixP hu) ?_ ?_ (fun _ _=>rfl)
         ·exact EV.o (ev_v 2)
         ·exact EV.o zad
        ·exact EV.o zad
      ·refine zae ?_ ?_
       ·refine za1 4 zbf.nd rfl (.inl rfl) ?_
        refine zaq zda ?_ ?_
        ·refine EV.o ?_
         refine zaj (ixP hu) ?_ ?_ (fun _ _=>rfl)
         ·exact EV.o (ev_v 2)
         ·exact EV.o zad
        ·exact EV.o (ev_v 3)
       ·refine zae ?_ ?_
        ·refine zem 5 zbf.nd rfl (.inl rfl) ?_
         refine zew ?_
         exact zag
        ·refine zae ?_ ?_
         ·refine zcv PassesOwn.never rfl ?_ ?_ ?_
          ·refine zf4 rfl T.n_range ?_
           exact zad
          ·exact zaz 6 zbf.nd rfl (.inl rfl)
          ·refine zae ?_ ?_
           ·refine za1 7 zbf.nd rfl (.inl rfl) ?_
            exact zap
           ·refine zae ?_ ?_
            ·refine zcv PassesOwn.never rfl ?_ ?_ ?_
             ·refine zf4 rfl T.n_range ?_
              exact ev_v 3
             ·exact zaz 8 zbf.nd rfl (.inl rfl)
             ·refine zaf ?_
              refine za1 7 zbf.nd rfl (.inl rfl) ?_
              refine zaq zd7 ?_ ?_
              ·exact EV.o (ev_v 7)
              ·refine EV.o ?_
               refine zaj (ixP hu) ?_ ?_ (fun _ _=>rfl)
               ·exact EV.o (ev_v 1)
               ·refine EV.o ?_
                refine zaq zda ?_ ?_
                ·refine EV.o ?_
                 refine zaq zd7 ?_ ?_
                 ·refine EV.o ?_
                  refine zaj (ixP hu) ?_ ?_ (fun _ _=>rfl)
                  ·exact EV.o (ev_v 2)
                  ·exact EV.o (ev_v 8)
                 ·refine EV.o ?_
                  refine zaq zrk ?_ ?_
                  ·refine EV.o ?_
                   refine zaq zrk ?_ ?_
                   ·exact EV.o zad
                   ·exact EV.o (ev_v 6)
                  ·refine EV.o ?_
                   refine zy1 cInt rfl T.n_int rfl ?_
                   refine EV.o ?_
                   refine zsx (opEq hu) ?_ ?_ (nomark _)
                   ·exact EV.o (ev_v 8)
                   ·exact EV.o (ev_v 4)
                ·exact EV.o zad
            ·refine zaf ?_
             refine zdf 5 rfl (by first | exact Or.inl rfl | exact Or.inr (Or.inl rfl)) ?_
             exact ev_v 7
         ·refine zaf ?_
          refine SV.frz 5 ?_
          refine zaw ?_
          exact ev_v 5
abbrev za6:Stmt:=top 33
theorem za2:FnScope ["_law_names_here","_law_cell","_law_low","_law_some","_law_words","_law_k","_law_word","_law_wrong"] ["_law_names_here","_law_cell","_law_low"] (zac za6):=⟨rfl,rfl,rfl,by decide +kernel,rfl,by decide +kernel,by decide +kernel⟩
theorem zbt {P:Program} {w:World} {K:PySem.W.Frag} {mg:Str->Option Value} {base:Heap} {f:Addr} {fd:FuncData} (T:Txt w K mg) (F:Fun K "_law_room_of_names" "_law_room_of_names" za6 f fd) (hm:mg "_law_room_of_names"=some (.ref f)) (hb:Binds K fd ["_law_names_here","_law_cell","_law_low"] []) (za8:@PF (tw w) P w K mg base 1 "_law_numbers" zau):@PF (tw w) P w K mg base 2 "_law_room_of_names" zbh:=
  letI:TW:=(tw w)
  zdo F za2 hm hb (g:=zb4) fun cdv A outer s H E hr=>by
    have hu:=hr.units
    refine zae ?_ ?_
    ·refine za1 3 za2.nd rfl (.inl rfl) ?_
     refine zak za8 (hr.mono (by decide)) rfl ?_
     refine zaa ?_ ?_
     ·exact ev_v 1
     ·refine zaa ?_ ?_
      ·exact zad
      ·exact zag
    ·refine zae ?_ ?_
     ·refine zem 4 za2.nd rfl (.inl rfl) ?_
      refine zew ?_
      exact zag
     ·refine zae ?_ ?_
      ·refine zcv PassesOwn.never rfl ?_ ?_ ?_
       ·refine zs1 rfl T.n_enumerate ?_
        refine EN.v ?_
        refine zew ?_
        refine zaa ?_ ?_
        ·exact zap
        ·refine zaa ?_ ?_
         ·exact zap
         ·refine zaa ?_ ?_
          ·exact zap
          ·refine zaa ?_ ?_
           ·exact zap
           ·refine zaa ?_ ?_
            ·exact zap
            ·refine zaa ?_ ?_
             ·exact zap
             ·exact zag
       ·refine zia rfl ?_
        refine zbn ?_ ?_
        ·exact zaz 5 za2.nd rfl (.inl rfl)
        ·refine zbn ?_ ?_
         ·exact zaz 6 za2.nd rfl (.inl rfl)
         ·exact zfm
       ·refine zaf ?_
        refine zc5 ?_ ?_ ?_
        ·refine EW.et ?_
         refine zsu ?_ ?_
         ·refine zbb (opEq hu) zb8 ?_ ?_ (nomark _)
          ·refine EV.o ?_
           refine zaq zda ?_ ?_
           ·refine EV.o ?_
            refine zaj (ixP hu) ?_ ?_ (fun _ _=>rfl)
            ·exact EV.o (ev_v 3)
            ·exact EV.o (ev_v 5)
           ·exact EV.o zad
          ·exact EV.o zad
         ·refine znp ?_
          refine zbb opLt zlb ?_ ?_ (nomark _)
          ·refine EV.o ?_
           refine zj5 cLen rfl T.n_len rfl ?_
           exact eo_v 4
          ·exact EV.o zad
        ·refine zaf ?_
         refine zdf 4 rfl (by first | exact Or.inl rfl | exact Or.inr (Or.inl rfl)) ?_
         refine zbj ?_
         refine zaa ?_ ?_
         ·exact ev_v 6
         ·refine zaa ?_ ?_
          ·refine zaj (ixP hu) ?_ ?_ (fun _ _=>rfl)
           ·exact EV.o (ev_v 0)
           ·refine EV.o ?_
            refine zaq zda ?_ ?_
            ·refine EV.o ?_
             refine zaq zuw ?_ ?_
             ·refine EV.o ?_
              refine zaj (ixP hu) ?_ ?_ (fun _ _=>rfl)
              ·exact EV.o (ev_v 3)
              ·exact EV.o (ev_v 5)
             ·exact EV.o zad
            ·exact EV.o (ev_v 2)
          ·exact zag
        ·exact za5
      ·refine zae ?_ ?_
       ·refine zc5 ?_ ?_ ?_
        ·refine zbb (opEq hu) zb8 ?_ ?_ (nomark _)
         ·refine EV.o ?_
          refine zj5 cLen rfl T.n_len rfl ?_
          exact eo_v 4
         ·exact EV.o zad
        ·refine zaf ?_
         refine zdf 4 rfl (by first | exact Or.inl rfl | exact Or.inr (Or.inl rfl)) ?_
         refine zbj ?_
         refine zaa ?_ ?_
         ·exact zap
         ·refine zaa ?_ ?_
          ·refine zaj (ixP hu) ?_ ?_ (fun _ _=>rfl)
           ·exact EV.o (ev_v 0)
           ·exact EV.o zad
          ·exact zag
        ·exact za5
       ·refine zae ?_ ?_
        ·refine za1 7 za2.nd rfl (.inl rfl) ?_
         refine zbj ?_
         refine zaa ?_ ?_
         ·exact zad
         ·refine zaa ?_ ?_
          ·refine zaj (ixP hu) ?_ ?_ (fun _ _=>rfl)
           ·exact EV.o (ev_v 0)
           ·refine EV.o ?_
            refine zaq zda ?_ ?_
            ·refine EV.o ?_
             refine zaj (ixP hu) ?_ ?_ (fun _ _=>rfl)
             ·exact EV.o (ev_v 3)
             ·exact EV.o zad
            ·exact EV.o (ev_v 2)
          ·exact zag
        ·refine zaf ?_
         refine zaw ?_
         refine zbj ?_
         refine zaa ?_ ?_
         ·exact zap
         ·refine zaa ?_ ?_
          ·exact zap
          ·refine zaa ?_ ?_
           ·refine zy1 zw1 rfl T.n_tuple rfl ?_
            exact eo_v 4
           ·refine zaa ?_ ?_
            ·exact ev_v 7
            ·refine zaa ?_ ?_
             ·refine zbj ?_
              refine zaa ?_ ?_
              ·exact zad
              ·refine zaa ?_ ?_
               ·refine zaj (ixP hu) ?_ ?_ (fun _ _=>rfl)
                ·exact EV.o (ev_v 0)
                ·refine EV.o ?_
                 refine zaq zda ?_ ?_
                 ·refine EV.o ?_
                  refine zaj (ixP hu) ?_ ?_ (fun _ _=>rfl)
                  ·exact EV.o (ev_v 3)
                  ·exact EV.o zad
                 ·exact EV.o (ev_v 2)
               ·exact zag
             ·exact zag
abbrev zcf:Stmt:=top 29
theorem zj0:FnScope ["_law_script","_law_k"] ["_law_script","_law_k"] (zac zcf):=⟨rfl,rfl,rfl,by decide +kernel,rfl,by decide +kernel,by decide +kernel⟩
theorem zay {P:Program} {w:World} {K:PySem.W.Frag} {mg:Str->Option Value} {base:Heap} {f:Addr} {fd:FuncData} (T:Txt w K mg) (F:Fun K "_law_cell_at" "_law_cell_at" zcf f fd) (hm:mg "_law_cell_at"=some (.ref f)) (hb:Binds K fd ["_law_script","_law_k"] []):@PF (tw w) P w K mg base 1 "_law_cell_at" zal:=
  letI:TW:=(tw w)
  zdo F zj0 hm hb (g:=zdt) fun cdv A outer s H E hr=>by
    have hu:=hr.units
    refine zae ?_ ?_
    ·refine zc5 ?_ ?_ ?_
     ·refine zbb opLt zlb ?_ ?_ (nomark _)
      ·exact EV.o (ev_v 1)
      ·refine EV.o ?_
       refine zj5 cLen rfl T.n_len rfl ?_
       exact EV.o (ev_v 0)
     ·refine zaf ?_
      refine zaw ?_
      refine zaj (ixP hu) ?_ ?_ (fun _ _=>rfl)
      ·exact EV.o (ev_v 0)
      ·exact EV.o (ev_v 1)
     ·exact za5
    ·refine zaf ?_
     refine zaw ?_
     exact zad
abbrev zd0:Stmt:=top 32
theorem zc6:FnScope ["_law_names_here","_law_text","_law_cell","_law_low","_law_some","_law_keys","_law_k","_law_key_here","_law_wrong"] ["_law_names_here","_law_text","_law_cell","_law_low"] (zac zd0):=⟨rfl,rfl,rfl,by decide +kernel,rfl,by decide +kernel,by decide +kernel⟩
theorem zgr {P:Program} {w:World} {K:PySem.W.Frag} {mg:Str->Option Value} {base:Heap} {f:Addr} {fd:FuncData} (T:Txt w K mg) (F:Fun K "_law_menu" "_law_menu" zd0 f fd) (hm:mg "_law_menu"=some (.ref f)) (hb:Binds K fd ["_law_names_here","_law_text","_law_cell","_law_low"] []) (za8:@PF (tw w) P w K mg base 1 "_law_numbers" zau):@PF (tw w) P w K mg base 2 "_law_menu" zgc:=
  letI:TW:=(tw w)
  zdo F zc6 hm hb (g:=zh6) fun cdv A outer s H E hr=>by
    have hu:=hr.units
    refine zae ?_ ?_
    ·refine za1 4 zc6.nd rfl (.inl rfl) ?_
     refine zak za8 (hr.mono (by decide)) rfl ?_
     refine zaa ?_ ?_
     ·exact ev_v 2
     ·refine zaa ?_ ?_
      ·exact zad
      ·exact zag
    ·refine zae ?_ ?_
     ·refine zem 5 zc6.nd rfl (.inl rfl) ?_
      refine zew ?_
      exact zag
     ·refine zae ?_ ?_
      ·refine zcv PassesOwn.never rfl ?_ ?_ ?_
       ·refine zs1 rfl T.n_enumerate ?_
        exact zap
       ·refine zia rfl ?_
        refine zbn ?_ ?_
        ·exact zaz 6 zc6.nd rfl (.inl rfl)
        ·refine zbn ?_ ?_
         ·exact zaz 7 zc6.nd rfl (.inl rfl)
         ·exact zfm
       ·refine zaf ?_
        refine zc5 ?_ ?_ ?_
        ·refine zbb (opEq hu) zb8 ?_ ?_ (nomark _)
         ·refine EV.o ?_
          refine zaq zda ?_ ?_
          ·refine EV.o ?_
           refine zaj (ixP hu) ?_ ?_ (fun _ _=>rfl)
           ·exact EV.o (ev_v 4)
           ·exact EV.o (ev_v 6)
          ·exact EV.o zad
         ·exact EV.o zad
        ·refine zaf ?_
         refine zdf 5 rfl (by first | exact Or.inl rfl | exact Or.inr (Or.inl rfl)) ?_
         refine zbj ?_
         refine zaa ?_ ?_
         ·exact ev_v 7
         ·refine zaa ?_ ?_
          ·refine zaj (ixP hu) ?_ ?_ (fun _ _=>rfl)
           ·refine EV.o ?_
            refine zaq zd7 ?_ ?_
            ·refine EV.o ?_
             refine zo6 ?_ ?_ ?_
             ·exact EV.o (ev_v 0)
             ·exact zgp
             ·refine zgo ?_
              exact ev_v 3
            ·refine EN.o ?_
             refine zew ?_
             refine zaa ?_ ?_
             ·exact zap
             ·exact zag
           ·refine EV.o ?_
            refine zaq zda ?_ ?_
            ·refine EV.o ?_
             refine zaj (ixP hu) ?_ ?_ (fun _ _=>rfl)
             ·exact EV.o (ev_v 4)
             ·refine EV.o ?_
              refine zaq zd7 ?_ ?_
              ·exact EV.o (ev_v 6)
              ·exact EV.o zad
            ·refine EV.o ?_
             refine zaq zd7 ?_ ?_
             ·exact EV.o (ev_v 3)
             ·exact EV.o zad
          ·exact zag
        ·exact za5
      ·refine zae ?_ ?_
       ·refine za1 8 zc6.nd rfl (.inl rfl) ?_
        refine zbj ?_
        refine zaa ?_ ?_
        ·refine zaq zd7 ?_ ?_
         ·exact EV.o zad
         ·refine EV.o ?_
          refine zaq zda ?_ ?_
          ·refine EV.o ?_
           refine zaj (ixP hu) ?_ ?_ (fun _ _=>rfl)
           ·exact EV.o (ev_v 4)
           ·exact EV.o zad
          ·exact EV.o zad
        ·refine zaa ?_ ?_
         ·refine zaj (ixP hu) ?_ ?_ (fun _ _=>rfl)
          ·exact EV.o (ev_v 0)
          ·refine EV.o ?_
           refine zaq zda ?_ ?_
           ·refine EV.o ?_
            refine zaj (ixP hu) ?_ ?_ (fun _ _=>rfl)
            ·exact EV.o (ev_v 4)
            ·exact EV.o zad
           ·exact EV.o (ev_v 3)
         ·exact zag
       ·refine zaf ?_
        refine zaw ?_
        refine zbj ?_
        refine zaa ?_ ?_
        ·exact zap
        ·refine zaa ?_ ?_
         ·exact ev_v 1
         ·refine zaa ?_ ?_
          ·refine zy1 zw1 rfl T.n_tuple rfl ?_
           exact eo_v 5
          ·refine zaa ?_ ?_
           ·exact ev_v 8
           ·refine zaa ?_ ?_
            ·refine zbj ?_
             refine zaa ?_ ?_
             ·refine zaq zd7 ?_ ?_
              ·exact EV.o zad
              ·refine EV.o ?_
               refine zaq zda ?_ ?_
               ·refine EV.o ?_
                refine zaj (ixP hu) ?_ ?_ (fun _ _=>rfl)
                ·exact EV.o (ev_v 4)
                ·exact EV.o zad
               ·exact EV.o zad
             ·refine zaa ?_ ?_
              ·refine zaj (ixP hu) ?_ ?_ (fun _ _=>rfl)
               ·exact EV.o (ev_v 0)
               ·refine EV.o ?_
                refine zaq zda ?_ ?_
                ·refine EV.o ?_
                 refine zaj (ixP hu) ?_ ?_ (fun _ _=>rfl)
                 ·exact EV.o (ev_v 4)
                 ·exact EV.o zad
                ·exact EV.o (ev_v 3)
              ·exact zag
            ·exact zag
abbrev zc9:Stmt:=top 34
theorem zb0:FnScope ["_law_script","_law_names_here","_law_low","_law_rooms","_law_k","_law_some","_law_span","_law_letters"] ["_law_script"] (zac zc9):=⟨rfl,rfl,rfl,by decide +kernel,rfl,by decide +kernel,by decide +kernel⟩
theorem zee {P:Program} {w:World} {K:PySem.W.Frag} {mg:Str->Option Value} {base:Heap} {f:Addr} {fd:FuncData} (T:Txt w K mg) (F:Fun K "_law_house" "_law_house" zc9 f fd) (hm:mg "_law_house"=some (.ref f)) (hb:Binds K fd ["_law_script"] []) (zfr:@PF (tw w) P w K mg base 2 "_law_names" zfc) (zay:@PF (tw w) P w K mg base 1 "_law_cell_at" zal) (zgr:@PF (tw w) P w K mg base 2 "_law_menu" zgc) (zbt:@PF (tw w) P w K mg base 2 "_law_room_of_names" zbh) (za8:@PF (tw w) P w K mg base 1 "_law_numbers" zau):@PF (tw w) P w K mg base 3 "_law_house" zd9:=
  letI:TW:=(tw w)
  zdo F zb0 hm hb (g:=zgv) fun cdv A outer s H E hr=>by
    have hu:=hr.units
    refine zae ?_ ?_
    ·refine za1 1 zb0.nd rfl (.inl rfl) ?_
     refine zak zfr (hr.mono (by decide)) rfl ?_
     refine zaa ?_ ?_
     ·refine zak zay (hr.mono (by decide)) rfl ?_
      refine zaa ?_ ?_
      ·exact ev_v 0
      ·refine zaa ?_ ?_
       ·exact zad
       ·exact zag
     ·exact zag
    ·refine zae ?_ ?_
     ·refine za1 2 zb0.nd rfl (.inl rfl) ?_
      refine zaj (ixP hu) ?_ ?_ (fun _ _=>rfl)
      ·refine EN.o ?_
       refine zew ?_
       refine zaa ?_ ?_
       ·exact zad
       ·refine zaa ?_ ?_
        ·exact zad
        ·refine zaa ?_ ?_
         ·exact zad
         ·exact zag
      ·refine EV.o ?_
       refine zaq zda ?_ ?_
       ·refine EV.o ?_
        refine zak zay (hr.mono (by decide)) rfl ?_
        refine zaa ?_ ?_
        ·exact ev_v 0
        ·refine zaa ?_ ?_
         ·exact zad
         ·exact zag
       ·exact EV.o zad
     ·refine zae ?_ ?_
      ·refine zem 3 zb0.nd rfl (.inl rfl) ?_
       exact zjr
      ·refine zae ?_ ?_
       ·refine zcv PassesOwn.never rfl ?_ ?_ ?_
        ·refine zf4 rfl T.n_range ?_
         exact zad
        ·exact zaz 4 zb0.nd rfl (.inl rfl)
        ·refine zaf ?_
         refine zfn 3 hu ?_ ?_
         ·refine zaj (ixP hu) ?_ ?_ (fun _ _=>rfl)
          ·exact EV.o (ev_v 1)
          ·exact EV.o (ev_v 4)
         ·refine zak zgr (hr.mono (by decide)) rfl ?_
          refine zaa ?_ ?_
          ·exact ev_v 1
          ·refine zaa ?_ ?_
           ·refine zaj (ixP hu) ?_ ?_ (fun _ _=>rfl)
            ·refine EN.o ?_
             refine zew ?_
             refine zaa ?_ ?_
             ·exact zap
             ·refine zaa ?_ ?_
              ·exact zap
              ·exact zag
            ·exact EV.o (ev_v 4)
           ·refine zaa ?_ ?_
            ·refine zaq zd7 ?_ ?_
             ·refine EV.o ?_
              refine zak zay (hr.mono (by decide)) rfl ?_
              refine zaa ?_ ?_
              ·exact ev_v 0
              ·refine zaa ?_ ?_
               ·refine zaq zd7 ?_ ?_
                ·exact EV.o zad
                ·exact EV.o (ev_v 4)
               ·exact zag
             ·refine EV.o ?_
              refine zaq zrk ?_ ?_
              ·exact EV.o zad
              ·exact EV.o (ev_v 4)
            ·refine zaa ?_ ?_
             ·exact ev_v 2
             ·exact zag
       ·refine zae ?_ ?_
        ·refine zfn 3 hu ?_ ?_
         ·refine zaj (ixP hu) ?_ ?_ (fun _ _=>rfl)
          ·exact EV.o (ev_v 1)
          ·exact EV.o zad
         ·refine zak zbt (hr.mono (by decide)) rfl ?_
          refine zaa ?_ ?_
          ·exact ev_v 1
          ·refine zaa ?_ ?_
           ·refine zak zay (hr.mono (by decide)) rfl ?_
            refine zaa ?_ ?_
            ·exact ev_v 0
            ·refine zaa ?_ ?_
             ·exact zad
             ·exact zag
           ·refine zaa ?_ ?_
            ·exact ev_v 2
            ·exact zag
        ·refine zae ?_ ?_
         ·refine zc5 ?_ ?_ ?_
          ·refine zbb (opEq hu) zb8 ?_ ?_ (nomark _)
           ·refine EV.o ?_
            refine zaq zda ?_ ?_
            ·refine EV.o ?_
             refine zaq zuw ?_ ?_
             ·refine EV.o ?_
              refine zak zay (hr.mono (by decide)) rfl ?_
              refine zaa ?_ ?_
              ·exact ev_v 0
              ·refine zaa ?_ ?_
               ·exact zad
               ·exact zag
             ·exact EV.o zad
            ·exact EV.o zad
           ·exact EV.o zad
          ·refine zaf ?_
           refine zfn 3 hu ?_ ?_
           ·refine zaj (ixP hu) ?_ ?_ (fun _ _=>rfl)
            ·exact EV.o (ev_v 1)
            ·exact EV.o zad
           ·refine zak zbt (hr.mono (by decide)) rfl ?_
            refine zaa ?_ ?_
            ·exact ev_v 1
            ·refine zaa ?_ ?_
             ·refine zaq zd7 ?_ ?_
              ·refine EV.o ?_
               refine zak zay (hr.mono (by decide)) rfl ?_
               refine zaa ?_ ?_
               ·exact ev_v 0
               ·refine zaa ?_ ?_
                ·exact zad
                ·exact zag
              ·exact EV.o zad
             ·refine zaa ?_ ?_
              ·exact ev_v 2
              ·exact zag
          ·exact za5
         ·refine zae ?_ ?_
          ·refine za1 5 zb0.nd rfl (.inl rfl) ?_
           refine zak za8 (hr.mono (by decide)) rfl ?_
           refine zaa ?_ ?_
           ·refine zak zay (hr.mono (by decide)) rfl ?_
            refine zaa ?_ ?_
            ·exact ev_v 0
            ·refine zaa ?_ ?_
             ·exact zad
             ·exact zag
           ·refine zaa ?_ ?_
            ·exact zad
            ·exact zag
          ·refine zae ?_ ?_
           ·refine za1 6 zb0.nd rfl (.inl rfl) ?_
            refine zbj ?_
            refine zaa ?_ ?_
            ·refine zaq zda ?_ ?_
             ·refine EV.o ?_
              refine zaj (ixP hu) ?_ ?_ (fun _ _=>rfl)
              ·exact EV.o (ev_v 5)
              ·exact EV.o zad
             ·exact EV.o zad
            ·refine zaa ?_ ?_
             ·refine zaq zd7 ?_ ?_
              ·exact EV.o zad
              ·refine EV.o ?_
               refine zaq zda ?_ ?_
               ·refine EV.o ?_
                refine zaj (ixP hu) ?_ ?_ (fun _ _=>rfl)
                ·exact EV.o (ev_v 5)
                ·exact EV.o zad
               ·exact EV.o zad
             ·refine zaa ?_ ?_
              ·refine zaj (ixP hu) ?_ ?_ (fun _ _=>rfl)
               ·exact EV.o (ev_v 1)
               ·refine EV.o ?_
                refine zaj (ixP hu) ?_ ?_ (fun _ _=>rfl)
                ·refine EN.o ?_
                 refine zew ?_
                 refine zaa ?_ ?_
                 ·exact zad
                 ·refine zaa ?_ ?_
                  ·exact zad
                  ·refine zaa ?_ ?_
                   ·exact zad
                   ·refine zaa ?_ ?_
                    ·exact zad
                    ·exact zag
                ·refine EV.o ?_
                 refine zaq zda ?_ ?_
                 ·refine EV.o ?_
                  refine zaj (ixP hu) ?_ ?_ (fun _ _=>rfl)
                  ·exact EV.o (ev_v 5)
                  ·exact EV.o zad
                 ·exact EV.o zad
              ·exact zag
           ·refine zae ?_ ?_
            ·refine zfn 3 hu ?_ ?_
             ·refine zaj (ixP hu) ?_ ?_ (fun _ _=>rfl)
              ·exact EV.o (ev_v 1)
              ·exact EV.o zad
             ·refine zbj ?_
              refine zaa ?_ ?_
              ·exact zap
              ·refine zaa ?_ ?_
               ·refine zbj ?_
                refine zaa ?_ ?_
                ·exact ev_v 6
                ·exact zag
               ·refine zaa ?_ ?_
                ·refine zaj (ixP hu) ?_ ?_ (fun _ _=>rfl)
                 ·exact EV.o (ev_v 1)
                 ·refine EV.o ?_
                  refine zaj (ixP hu) ?_ ?_ (fun _ _=>rfl)
                  ·refine EN.o ?_
                   refine zew ?_
                   refine zaa ?_ ?_
                   ·exact zad
                   ·refine zaa ?_ ?_
                    ·exact zad
                    ·refine zaa ?_ ?_
                     ·exact zad
                     ·refine zaa ?_ ?_
                      ·exact zad
                      ·exact zag
                  ·refine EV.o ?_
                   refine zaq zda ?_ ?_
                   ·refine EV.o ?_
                    refine zaj (ixP hu) ?_ ?_ (fun _ _=>rfl)
                    ·exact EV.o (ev_v 5)
                    ·exact EV.o zad
                   ·exact EV.o zad
                ·exact zag
            ·refine zae ?_ ?_
             ·refine zc5 ?_ ?_ ?_
              ·refine zbb (opEq hu) zb8 ?_ ?_ (nomark _)
               ·exact EV.o (ev_v 2)
               ·exact EV.o zad
              ·refine zaf ?_
               refine zfn 3 hu ?_ ?_
               ·refine zaj (ixP hu) ?_ ?_ (fun _ _=>rfl)
                ·exact EV.o (ev_v 1)
                ·exact EV.o zad
               ·refine zbj ?_
                refine zaa ?_ ?_
                ·exact zap
                ·refine zaa ?_ ?_
                 ·refine zbj ?_
                  exact zag
                 ·refine zaa ?_ ?_
                  ·refine zaj (ixP hu) ?_ ?_ (fun _ _=>rfl)
                   ·exact EV.o (ev_v 1)
                   ·refine EV.o ?_
                    refine zaq zda ?_ ?_
                    ·refine EV.o ?_
                     refine zaj (ixP hu) ?_ ?_ (fun _ _=>rfl)
                     ·exact EV.o (ev_v 5)
                     ·exact EV.o zad
                    ·exact EV.o zad
                  ·exact zag
              ·exact za5
             ·refine zae ?_ ?_
              ·refine zfn 3 hu ?_ ?_
               ·refine zaj (ixP hu) ?_ ?_ (fun _ _=>rfl)
                ·exact EV.o (ev_v 1)
                ·exact EV.o zad
               ·refine zbj ?_
                refine zaa ?_ ?_
                ·exact zap
                ·refine zaa ?_ ?_
                 ·exact zap
                 ·exact zag
              ·refine zae ?_ ?_
               ·refine zfn 3 hu ?_ ?_
                ·refine zaj (ixP hu) ?_ ?_ (fun _ _=>rfl)
                 ·exact EV.o (ev_v 1)
                 ·exact EV.o zad
                ·refine zbj ?_
                 refine zaa ?_ ?_
                 ·exact zap
                 ·refine zaa ?_ ?_
                  ·exact zap
                  ·exact zag
               ·refine zae ?_ ?_
                ·refine za1 7 zb0.nd rfl (.inl rfl) ?_
                 refine EN.v ?_
                 refine zew ?_
                 refine zaa ?_ ?_
                 ·refine zbj ?_
                  refine zaa ?_ ?_
                  ·exact zap
                  ·refine zaa ?_ ?_
                   ·exact zap
                   ·exact zag
                 ·refine zaa ?_ ?_
                  ·refine zbj ?_
                   refine zaa ?_ ?_
                   ·exact zap
                   ·refine zaa ?_ ?_
                    ·exact zap
                    ·exact zag
                  ·refine zaa ?_ ?_
                   ·refine zbj ?_
                    refine zaa ?_ ?_
                    ·exact zap
                    ·refine zaa ?_ ?_
                     ·exact zap
                     ·exact zag
                   ·refine zaa ?_ ?_
                    ·refine zbj ?_
                     refine zaa ?_ ?_
                     ·exact zap
                     ·refine zaa ?_ ?_
                      ·exact zap
                      ·exact zag
                    ·refine zaa ?_ ?_
                     ·refine zbj ?_
                      refine zaa ?_ ?_
                      ·exact zap
                      ·refine zaa ?_ ?_
                       ·exact zap
                       ·exact zag
                     ·exact zag
                ·refine zaf ?_
                 refine SV.frz 3 ?_
                 refine zaw ?_
                 refine EN.v ?_
                 refine zy8 ?_
                 refine znq ?_ ?_ ?_
                 ·exact zap
                 ·refine zaj (ixP hu) ?_ ?_ (fun _ _=>rfl)
                  ·exact EV.o (ev_v 1)
                  ·refine EV.o ?_
                   refine zaq zda ?_ ?_
                   ·refine EV.o ?_
                    refine zaj (ixP hu) ?_ ?_ (fun _ _=>rfl)
                    ·exact EV.o (ev_v 5)
                    ·exact EV.o zad
                   ·exact EV.o (ev_v 2)
                 ·refine znq ?_ ?_ ?_
                  ·exact zap
                  ·exact ev_v 7
                  ·refine znq ?_ ?_ ?_
                   ·exact zap
                   ·exact ev_v 3
                   ·exact Zcp
abbrev zf7:Stmt:=top 1
theorem zg5:FnScope ["room","hour","since","till","name"] ["room","hour"] (zac zf7):=⟨rfl,rfl,rfl,by decide +kernel,rfl,by decide +kernel,by decide +kernel⟩
theorem zi7 {P:Program} {w:World} {K:PySem.W.Frag} {mg:Str->Option Value} {base:Heap} {f:Addr} {fd:FuncData} (T:Txt w K mg) (F:Fun K "handed" "handed" zf7 f fd) (hm:mg "handed"=some (.ref f)) (hb:Binds K fd ["room","hour"] []):@PF (tw w) P w K mg base 1 "handed" ziw:=
  letI:TW:=(tw w)
  zdo F zg5 hm hb (g:=ziu) fun cdv A outer s H E hr=>by
    have hu:=hr.units
    refine zae ?_ ?_
    ·refine zcv PassesOwn.never rfl ?_ ?_ ?_
     ·refine zfj ?_
      refine zaj (ixP hu) ?_ ?_ (fun _ _=>rfl)
      ·exact EV.o (ev_v 0)
      ·exact EV.o zad
     ·refine zia rfl ?_
      refine zbn ?_ ?_
      ·exact zaz 2 zg5.nd rfl (.inl rfl)
      ·refine zbn ?_ ?_
       ·exact zaz 3 zg5.nd rfl (.inl rfl)
       ·refine zbn ?_ ?_
        ·exact zaz 4 zg5.nd rfl (.inl rfl)
        ·exact zfm
     ·refine zaf ?_
      refine zc5 ?_ ?_ ?_
      ·refine zvj opLe opLt zys zlb ?_ ?_ ?_
       ·exact EV.o (ev_v 2)
       ·exact EV.o (ev_v 1)
       ·exact EV.o (ev_v 3)
      ·refine zaf ?_
       refine zaw ?_
       exact ev_v 4
      ·exact za5
    ·refine zaf ?_
     refine zaw ?_
     refine zaj (ixP hu) ?_ ?_ (fun _ _=>rfl)
     ·exact EV.o (ev_v 0)
     ·exact EV.o zad
abbrev zep:Stmt:=top 2
theorem zhv:FnScope ["H","hour","name","come"] ["H","hour","name"] (zac zep):=⟨rfl,rfl,rfl,by decide +kernel,rfl,by decide +kernel,by decide +kernel⟩
theorem zh0 {P:Program} {w:World} {K:PySem.W.Frag} {mg:Str->Option Value} {base:Heap} {f:Addr} {fd:FuncData} (T:Txt w K mg) (F:Fun K "come_to" "come_to" zep f fd) (hm:mg "come_to"=some (.ref f)) (hb:Binds K fd ["H","hour","name"] []) (zi7:@PF (tw w) P w K mg base 1 "handed" ziw):@PF (tw w) P w K mg base 2 "come_to" zhl:=
  letI:TW:=(tw w)
  zdo F zhv hm hb (g:=zjm) fun cdv A outer s H E hr=>by
    have hu:=hr.units
    refine zae ?_ ?_
    ·refine za1 3 zhv.nd rfl (.inl rfl) ?_
     exact ev_v 2
    ·refine zae ?_ ?_
     ·refine zn3 300 PassesOwn.never ?_ ?_
      ·refine zbb (opEq hu) zb8 ?_ ?_ (nomark _)
       ·refine EV.o ?_
        refine zaj (ixP hu) ?_ ?_ (fun _ _=>rfl)
        ·refine EV.o ?_
         refine zaj (ixP hu) ?_ ?_ (fun _ _=>rfl)
         ·refine EV.o ?_
          refine zaj (ixP hu) ?_ ?_ (fun _ _=>rfl)
          ·exact EV.o (ev_v 0)
          ·exact EV.o zap
         ·exact EV.o (ev_v 3)
        ·exact EV.o zad
       ·exact EV.o zap
      ·refine zaf ?_
       refine za1 3 zhv.nd rfl (.inl rfl) ?_
       refine zak zi7 (hr.mono (by decide)) rfl ?_
       refine zaa ?_ ?_
       ·refine zaj (ixP hu) ?_ ?_ (fun _ _=>rfl)
        ·refine EV.o ?_
         refine zaj (ixP hu) ?_ ?_ (fun _ _=>rfl)
         ·exact EV.o (ev_v 0)
         ·exact EV.o zap
        ·exact EV.o (ev_v 3)
       ·refine zaa ?_ ?_
        ·exact ev_v 1
        ·exact zag
     ·refine zaf ?_
      refine zaw ?_
      exact ev_v 3
abbrev zer:Stmt:=top 13
theorem zpq:FnScope ["H","hour","name","back"] ["H","hour","name","back"] (zac zer):=⟨rfl,rfl,rfl,by decide +kernel,rfl,by decide +kernel,by decide +kernel⟩
theorem zcg {P:Program} {w:World} {K:PySem.W.Frag} {mg:Str->Option Value} {base:Heap} {f:Addr} {fd:FuncData} (T:Txt w K mg) (F:Fun K "arrival" "arrival" zer f fd) (hm:mg "arrival"=some (.ref f)) (hb:Binds K fd ["H","hour","name","back"] []) (zh0:@PF (tw w) P w K mg base 2 "come_to" zhl):@PF (tw w) P w K mg base 3 "arrival" zb5:=
  letI:TW:=(tw w)
  zdo F zpq hm hb (g:=zjo) fun cdv A outer s H E hr=>by
    have hu:=hr.units
    refine zaf ?_
    refine zaw ?_
    refine zbj ?_
    refine zaa ?_ ?_
    ·refine zak zh0 (hr.mono (by decide)) rfl ?_
     refine zaa ?_ ?_
     ·exact ev_v 0
     ·refine zaa ?_ ?_
      ·exact ev_v 1
      ·refine zaa ?_ ?_
       ·exact ev_v 2
       ·exact zag
    ·refine zaa ?_ ?_
     ·exact ev_v 3
     ·refine zaa ?_ ?_
      ·exact zad
      ·refine zaa ?_ ?_
       ·exact zad
       ·refine zaa ?_ ?_
        ·exact zap
        ·exact zag
abbrev zhx:Stmt:=top 12
theorem zt9:FnScope ["H","hour"] ["H","hour"] (zac zhx):=⟨rfl,rfl,rfl,by decide +kernel,rfl,by decide +kernel,by decide +kernel⟩
theorem ze7 {P:Program} {w:World} {K:PySem.W.Frag} {mg:Str->Option Value} {base:Heap} {f:Addr} {fd:FuncData} (T:Txt w K mg) (F:Fun K "begin" "begin" zhx f fd) (hm:mg "begin"=some (.ref f)) (hb:Binds K fd ["H","hour"] []) (zcg:@PF (tw w) P w K mg base 3 "arrival" zb5):@PF (tw w) P w K mg base 4 "begin" zcr:=
  letI:TW:=(tw w)
  zdo F zt9 hm hb (g:=znk) fun cdv A outer s H E hr=>by
    have hu:=hr.units
    refine zaf ?_
    refine zaw ?_
    refine zak zcg (hr.mono (by decide)) rfl ?_
    refine zaa ?_ ?_
    ·exact ev_v 0
    ·refine zaa ?_ ?_
     ·exact ev_v 1
     ·refine zaa ?_ ?_
      ·refine zaj (ixP hu) ?_ ?_ (fun _ _=>rfl)
       ·exact EV.o (ev_v 0)
       ·exact EV.o zap
      ·refine zaa ?_ ?_
       ·exact zap
       ·exact zag
abbrev zb6:Stmt:=top 20
theorem zd4:FnScope ["H","hour","state","bound","wrong"] ["H","hour","state"] (zac zb6):=⟨rfl,rfl,rfl,by decide +kernel,rfl,by decide +kernel,by decide +kernel⟩
theorem zcz {P:Program} {w:World} {K:PySem.W.Frag} {mg:Str->Option Value} {base:Heap} {f:Addr} {fd:FuncData} (T:Txt w K mg) (F:Fun K "by_wrong_key" "by_wrong_key" zb6 f fd) (hm:mg "by_wrong_key"=some (.ref f)) (hb:Binds K fd ["H","hour","state"] []) (zcg:@PF (tw w) P w K mg base 3 "arrival" zb5):@PF (tw w) P w K mg base 4 "by_wrong_key" zbr:=
  letI:TW:=(tw w)
  zdo F zd4 hm hb (g:=zde) fun cdv A outer s H E hr=>by
    have hu:=hr.units
    refine zae ?_ ?_
    ·refine za1 3 zd4.nd rfl (.inl rfl) ?_
     refine zaj (ixP hu) ?_ ?_ (fun _ _=>rfl)
     ·refine EV.o ?_
      refine zaj (ixP hu) ?_ ?_ (fun _ _=>rfl)
      ·refine EV.o ?_
       refine zaj (ixP hu) ?_ ?_ (fun _ _=>rfl)
       ·exact EV.o (ev_v 0)
       ·exact EV.o zap
      ·refine EV.o ?_
       refine zaj (ixP hu) ?_ ?_ (fun _ _=>rfl)
       ·exact EV.o (ev_v 2)
       ·exact EV.o zad
     ·exact EV.o zad
    ·refine zae ?_ ?_
     ·refine za1 4 zd4.nd rfl (.inl rfl) ?_
      refine zaq zd7 ?_ ?_
      ·refine EV.o ?_
       refine zaj (ixP hu) ?_ ?_ (fun _ _=>rfl)
       ·exact EV.o (ev_v 2)
       ·exact EV.o zad
      ·exact EV.o zad
     ·refine zae ?_ ?_
      ·refine zc5 ?_ ?_ ?_
       ·refine zbb (opEq hu) zb8 ?_ ?_ (nomark _)
        ·exact EV.o (ev_v 4)
        ·refine EV.o ?_
         refine zaj (ixP hu) ?_ ?_ (fun _ _=>rfl)
         ·exact EV.o (ev_v 3)
         ·exact EV.o zad
       ·refine zaf ?_
        refine zaw ?_
        refine zak zcg (hr.mono (by decide)) rfl ?_
        refine zaa ?_ ?_
        ·exact ev_v 0
        ·refine zaa ?_ ?_
         ·exact ev_v 1
         ·refine zaa ?_ ?_
          ·refine zaj (ixP hu) ?_ ?_ (fun _ _=>rfl)
           ·exact EV.o (ev_v 3)
           ·exact EV.o zad
          ·refine zaa ?_ ?_
           ·refine zaj (ixP hu) ?_ ?_ (fun _ _=>rfl)
            ·exact EV.o (ev_v 2)
            ·exact EV.o zad
           ·exact zag
       ·exact za5
      ·refine zaf ?_
       refine zaw ?_
       refine zbj ?_
       refine zaa ?_ ?_
       ·refine zaj (ixP hu) ?_ ?_ (fun _ _=>rfl)
        ·exact EV.o (ev_v 2)
        ·exact EV.o zad
       ·refine zaa ?_ ?_
        ·refine zaj (ixP hu) ?_ ?_ (fun _ _=>rfl)
         ·exact EV.o (ev_v 2)
         ·exact EV.o zad
        ·refine zaa ?_ ?_
         ·exact ev_v 4
         ·refine zaa ?_ ?_
          ·refine zaj (ixP hu) ?_ ?_ (fun _ _=>rfl)
           ·exact EV.o (ev_v 2)
           ·exact EV.o zad
          ·refine zaa ?_ ?_
           ·exact zap
           ·exact zag
abbrev zf9:Stmt:=top 19
theorem zi4:FnScope ["H","hour","ways","state","key","typed","target"] ["H","hour","ways","state","key"] (zac zf9):=⟨rfl,rfl,rfl,by decide +kernel,rfl,by decide +kernel,by decide +kernel⟩
theorem zi8 {P:Program} {w:World} {K:PySem.W.Frag} {mg:Str->Option Value} {base:Heap} {f:Addr} {fd:FuncData} (T:Txt w K mg) (F:Fun K "by_key" "by_key" zf9 f fd) (hm:mg "by_key"=some (.ref f)) (hb:Binds K fd ["H","hour","ways","state","key"] []) (zcz:@PF (tw w) P w K mg base 4 "by_wrong_key" zbr) (zcg:@PF (tw w) P w K mg base 3 "arrival" zb5):@PF (tw w) P w K mg base 5 "by_key" zdu:=
  letI:TW:=(tw w)
  zdo F zi4 hm hb (g:=zfa) fun cdv A outer s H E hr=>by
    have hu:=hr.units
    refine zae ?_ ?_
    ·refine za1 5 zi4.nd rfl (.inl rfl) ?_
     refine zaq zd7 ?_ ?_
     ·refine EV.o ?_
      refine zaj (ixP hu) ?_ ?_ (fun _ _=>rfl)
      ·exact EV.o (ev_v 3)
      ·exact EV.o zad
     ·exact EV.o (ev_v 4)
    ·refine zae ?_ ?_
     ·refine zc5 ?_ ?_ ?_
      ·refine zbb (zx5 hu) zp2 ?_ ?_ (by with_unfolding_all rfl)
       ·exact EV.o (ev_v 5)
       ·exact EV.o (ev_v 2)
      ·refine zaf ?_
       refine zaw ?_
       refine zak zcz (hr.mono (by decide)) rfl ?_
       refine zaa ?_ ?_
       ·exact ev_v 0
       ·refine zaa ?_ ?_
        ·exact ev_v 1
        ·refine zaa ?_ ?_
         ·exact ev_v 3
         ·exact zag
      ·exact za5
     ·refine zae ?_ ?_
      ·refine za1 6 zi4.nd rfl (.inl rfl) ?_
       refine Zci ?_ ?_ ?_
       ·refine zbb (opEq hu) zb8 ?_ ?_ (nomark _)
        ·refine EV.o ?_
         refine zaj (ixP hu) ?_ ?_ (fun _ _=>rfl)
         ·exact EV.o (ev_v 2)
         ·exact EV.o (ev_v 5)
        ·exact EV.o zap
       ·refine zaj (ixP hu) ?_ ?_ (fun _ _=>rfl)
        ·exact EV.o (ev_v 3)
        ·exact EV.o zad
       ·refine zaj (ixP hu) ?_ ?_ (fun _ _=>rfl)
        ·exact EV.o (ev_v 2)
        ·exact EV.o (ev_v 5)
      ·refine zae ?_ ?_
       ·refine zc5 ?_ ?_ ?_
        ·refine zbb Zer zu9 ?_ ?_ (nomark _)
         ·exact EV.o (ev_v 6)
         ·exact EV.o zmr
        ·refine zaf ?_
         refine zaw ?_
         refine zbj ?_
         refine zaa ?_ ?_
         ·refine zaj (ixP hu) ?_ ?_ (fun _ _=>rfl)
          ·exact EV.o (ev_v 3)
          ·exact EV.o zad
         ·refine zaa ?_ ?_
          ·refine zaj (ixP hu) ?_ ?_ (fun _ _=>rfl)
           ·exact EV.o (ev_v 3)
           ·exact EV.o zad
          ·refine zaa ?_ ?_
           ·refine zaj (ixP hu) ?_ ?_ (fun _ _=>rfl)
            ·exact EV.o (ev_v 3)
            ·exact EV.o zad
           ·refine zaa ?_ ?_
            ·refine zaj (ixP hu) ?_ ?_ (fun _ _=>rfl)
             ·exact EV.o (ev_v 3)
             ·exact EV.o zad
            ·refine zaa ?_ ?_
             ·exact ev_v 5
             ·exact zag
        ·exact za5
       ·refine zae ?_ ?_
        ·refine zc5 ?_ ?_ ?_
         ·refine zbb (opEq hu) zb8 ?_ ?_ (nomark _)
          ·exact EV.o (ev_v 6)
          ·exact EV.o zap
         ·refine zaf ?_
          refine zaw ?_
          refine zak zcz (hr.mono (by decide)) rfl ?_
          refine zaa ?_ ?_
          ·exact ev_v 0
          ·refine zaa ?_ ?_
           ·exact ev_v 1
           ·refine zaa ?_ ?_
            ·exact ev_v 3
            ·exact zag
         ·exact za5
        ·refine zaf ?_
         refine zaw ?_
         refine zak zcg (hr.mono (by decide)) rfl ?_
         refine zaa ?_ ?_
         ·exact ev_v 0
         ·refine zaa ?_ ?_
          ·exact ev_v 1
          ·refine zaa ?_ ?_
           ·exact ev_v 6
           ·refine zaa ?_ ?_
            ·refine zaj (ixP hu) ?_ ?_ (fun _ _=>rfl)
             ·exact EV.o (ev_v 3)
             ·exact EV.o zad
            ·exact zag
abbrev zeq:Stmt:=top 21
theorem zhw:FnScope ["H","hour","state","bound","waits"] ["H","hour","state"] (zac zeq):=⟨rfl,rfl,rfl,by decide +kernel,rfl,by decide +kernel,by decide +kernel⟩
theorem zh2 {P:Program} {w:World} {K:PySem.W.Frag} {mg:Str->Option Value} {base:Heap} {f:Addr} {fd:FuncData} (T:Txt w K mg) (F:Fun K "by_wait" "by_wait" zeq f fd) (hm:mg "by_wait"=some (.ref f)) (hb:Binds K fd ["H","hour","state"] []) (zcg:@PF (tw w) P w K mg base 3 "arrival" zb5):@PF (tw w) P w K mg base 4 "by_wait" zhm:=
  letI:TW:=(tw w)
  zdo F zhw hm hb (g:=zhg) fun cdv A outer s H E hr=>by
    have hu:=hr.units
    refine zae ?_ ?_
    ·refine za1 3 zhw.nd rfl (.inl rfl) ?_
     refine zaj (ixP hu) ?_ ?_ (fun _ _=>rfl)
     ·refine EV.o ?_
      refine zaj (ixP hu) ?_ ?_ (fun _ _=>rfl)
      ·refine EV.o ?_
       refine zaj (ixP hu) ?_ ?_ (fun _ _=>rfl)
       ·exact EV.o (ev_v 0)
       ·exact EV.o zap
      ·refine EV.o ?_
       refine zaj (ixP hu) ?_ ?_ (fun _ _=>rfl)
       ·exact EV.o (ev_v 2)
       ·exact EV.o zad
     ·exact EV.o zad
    ·refine zae ?_ ?_
     ·refine za1 4 zhw.nd rfl (.inl rfl) ?_
      refine zaq zd7 ?_ ?_
      ·refine EV.o ?_
       refine zaj (ixP hu) ?_ ?_ (fun _ _=>rfl)
       ·exact EV.o (ev_v 2)
       ·exact EV.o zad
      ·exact EV.o zad
     ·refine zae ?_ ?_
      ·refine zc5 ?_ ?_ ?_
       ·refine zbb (opEq hu) zb8 ?_ ?_ (nomark _)
        ·exact EV.o (ev_v 4)
        ·refine EV.o ?_
         refine zaj (ixP hu) ?_ ?_ (fun _ _=>rfl)
         ·exact EV.o (ev_v 3)
         ·exact EV.o zad
       ·refine zaf ?_
        refine zaw ?_
        refine zak zcg (hr.mono (by decide)) rfl ?_
        refine zaa ?_ ?_
        ·exact ev_v 0
        ·refine zaa ?_ ?_
         ·exact ev_v 1
         ·refine zaa ?_ ?_
          ·refine zaj (ixP hu) ?_ ?_ (fun _ _=>rfl)
           ·exact EV.o (ev_v 3)
           ·exact EV.o zad
          ·refine zaa ?_ ?_
           ·refine zaj (ixP hu) ?_ ?_ (fun _ _=>rfl)
            ·exact EV.o (ev_v 2)
            ·exact EV.o zad
           ·exact zag
       ·exact za5
      ·refine zaf ?_
       refine zaw ?_
       refine zbj ?_
       refine zaa ?_ ?_
       ·refine zaj (ixP hu) ?_ ?_ (fun _ _=>rfl)
        ·exact EV.o (ev_v 2)
        ·exact EV.o zad
       ·refine zaa ?_ ?_
        ·refine zaj (ixP hu) ?_ ?_ (fun _ _=>rfl)
         ·exact EV.o (ev_v 2)
         ·exact EV.o zad
        ·refine zaa ?_ ?_
         ·refine zaj (ixP hu) ?_ ?_ (fun _ _=>rfl)
          ·exact EV.o (ev_v 2)
          ·exact EV.o zad
         ·refine zaa ?_ ?_
          ·exact ev_v 4
          ·refine zaa ?_ ?_
           ·exact zap
           ·exact zag
abbrev zf8:Stmt:=top 18
theorem zlx:FnScope ["H","hour","ways","state","sign","kind"] ["H","hour","ways","state","sign"] (zac zf8):=⟨rfl,rfl,rfl,by decide +kernel,rfl,by decide +kernel,by decide +kernel⟩
theorem zcy {P:Program} {w:World} {K:PySem.W.Frag} {mg:Str->Option Value} {base:Heap} {f:Addr} {fd:FuncData} (T:Txt w K mg) (F:Fun K "follow" "follow" zf8 f fd) (hm:mg "follow"=some (.ref f)) (hb:Binds K fd ["H","hour","ways","state","sign"] []) (zh2:@PF (tw w) P w K mg base 4 "by_wait" zhm) (zi8:@PF (tw w) P w K mg base 5 "by_key" zdu):@PF (tw w) P w K mg base 6 "follow" zb9:=
  letI:TW:=(tw w)
  zdo F zlx hm hb (g:=zef) fun cdv A outer s H E hr=>by
    have hu:=hr.units
    refine zae ?_ ?_
    ·refine za1 5 zlx.nd rfl (.inl rfl) ?_
     refine zaj (ixP hu) ?_ ?_ (fun _ _=>rfl)
     ·refine EV.o ?_
      refine zaj (ixP hu) ?_ ?_ (fun _ _=>rfl)
      ·refine EV.o ?_
       refine zaj (ixP hu) ?_ ?_ (fun _ _=>rfl)
       ·exact EV.o (ev_v 0)
       ·exact EV.o zap
      ·refine EV.o ?_
       refine zaj (ixP hu) ?_ ?_ (fun _ _=>rfl)
       ·exact EV.o (ev_v 3)
       ·exact EV.o zad
     ·exact EV.o zad
    ·refine zae ?_ ?_
     ·refine zc5 ?_ ?_ ?_
      ·refine EW.et ?_
       refine zno ?_ ?_
       ·refine zbb (opEq hu) zb8 ?_ ?_ (nomark _)
        ·exact EV.o (ev_v 5)
        ·exact EV.o zap
       ·refine zkr ?_
        refine zbb (opEq hu) zb8 ?_ ?_ (nomark _)
        ·exact EV.o (ev_v 5)
        ·exact EV.o zap
      ·refine zaf ?_
       refine zaw ?_
       exact ev_v 3
      ·exact za5
     ·refine zae ?_ ?_
      ·refine zc5 ?_ ?_ ?_
       ·refine zbb (opEq hu) zb8 ?_ ?_ (nomark _)
        ·exact EV.o (ev_v 4)
        ·refine EV.o ?_
         exact zsw rfl T.c_WAIT
       ·refine zaf ?_
        refine zaw ?_
        refine zak zh2 (hr.mono (by decide)) rfl ?_
        refine zaa ?_ ?_
        ·exact ev_v 0
        ·refine zaa ?_ ?_
         ·exact ev_v 1
         ·refine zaa ?_ ?_
          ·exact ev_v 3
          ·exact zag
       ·exact za5
      ·refine zaf ?_
       refine zaw ?_
       refine zak zi8 (hr.mono (by decide)) rfl ?_
       refine zaa ?_ ?_
       ·exact ev_v 0
       ·refine zaa ?_ ?_
        ·exact ev_v 1
        ·refine zaa ?_ ?_
         ·exact ev_v 2
         ·refine zaa ?_ ?_
          ·exact ev_v 3
          ·refine zaa ?_ ?_
           ·exact ev_v 4
           ·exact zag
theorem zla {P:Program} {w:World} {K:PySem.W.Frag} {mg:Str->Option Value} {base:Heap} (T:Txt w K mg) (zcy:@PF (tw w) P w K mg base 6 "follow" zb9):@LamB (tw w) P w K mg base 6 zbz ["state","sign"] zge:=
  letI:TW:=tw w
  ⟨.of rfl rfl rfl (by decide +kernel) (by decide +kernel) (by decide +kernel) (by decide +kernel) (by decide +kernel),fun _ _ _ _ us h=>match us,h with | [_,_],_=>rfl,fun f c cl A outer s H hr=>by
    have hu:=hr.units
    refine zak zcy (hr.mono (by decide)) rfl ?_
    refine zaa ?_ ?_
    ·exact ev_v 4
    ·refine zaa ?_ ?_
     ·exact ev_v 3
     ·refine zaa ?_ ?_
      ·refine zaj (ixP hu) ?_ ?_ (fun _ _=>rfl)
       ·exact EV.o (ev_v 2)
       ·refine EV.o ?_
        refine zaj (ixP hu) ?_ ?_ (fun _ _=>rfl)
        ·exact EV.o (ev_v 0)
        ·exact EV.o zad
      ·refine zaa ?_ ?_
       ·exact ev_v 0
       ·refine zaa ?_ ?_
        ·exact ev_v 1
        ·exact zag⟩
theorem zk9 {P:Program} {w:World} {K:PySem.W.Frag} {mg:Str->Option Value} {base:Heap} (T:Txt w K mg):@LamB (tw w) P w K mg base 6 zbm ["state"] zks:=
 letI:TW:=tw w
 ⟨.of rfl rfl rfl (by decide +kernel) (by decide +kernel) (by decide +kernel) (by decide +kernel) (by decide +kernel),fun _ _ _ _ us h=>match us,h with | [_],_=>rfl,fun f c cl A outer s H hr=>by
  have hu:=hr.units
  exact zj4⟩
theorem lamT {P:Program} {w:World} {K:PySem.W.Frag} {mg:Str->Option Value} {base:Heap} (T:Txt w K mg) (zcy:@PF (tw w) P w K mg base 6 "follow" zb9):@LamT (tw w) P w K mg base 6 appL:=by
 letI:TW:=tw w
 intro L qs cs p e
 unfold appL at e
 split at e
 ·rename_i hL;subst hL;obtain⟨h1,h2⟩:=zrw e;exact⟨_,_,zla T zcy,h1,h2⟩
 split at e
 ·rename_i hL;subst hL;obtain⟨h1,h2⟩:=zrw e;exact⟨_,_,zk9 T,h1,h2⟩
 cases e
abbrev zba:Stmt:=top 8
theorem zb3:FnScope ["codes","counts","code","size"] ["codes"] (zac zba):=⟨rfl,rfl,rfl,by decide +kernel,rfl,by decide +kernel,by decide +kernel⟩
theorem zcp {P:Program} {w:World} {K:PySem.W.Frag} {mg:Str->Option Value} {base:Heap} {f:Addr} {fd:FuncData} (T:Txt w K mg) (F:Fun K "beginning_counts" "beginning_counts" zba f fd) (hm:mg "beginning_counts"=some (.ref f)) (hb:Binds K fd ["codes"] []):@PF (tw w) P w K mg base 1 "beginning_counts" zbp:=
  letI:TW:=(tw w)
  zdo F zb3 hm hb (g:=zc1) fun cdv A outer s H E hr=>by
    have hu:=hr.units
    refine zae ?_ ?_
    ·refine zem 1 zb3.nd rfl (.inl rfl) ?_
     exact zjr
    ·refine zae ?_ ?_
     ·refine zcv PassesOwn.never rfl ?_ ?_ ?_
      ·refine zfj ?_
       exact ev_v 0
      ·exact zaz 2 zb3.nd rfl (.inl rfl)
      ·refine zaf ?_
       refine zcv PassesOwn.never rfl ?_ ?_ ?_
       ·refine zjs rfl T.n_range ?_ ?_
        ·exact zad
        ·refine zaq zd7 ?_ ?_
         ·refine EV.o ?_
          refine zj5 cLen rfl T.n_len rfl ?_
          exact EV.o (ev_v 2)
         ·exact EV.o zad
       ·exact zaz 3 zb3.nd rfl (.inl rfl)
       ·refine zaf ?_
        refine zfn 1 hu ?_ ?_
        ·refine zf3 ?_ ?_ ?_
         ·exact EV.o (ev_v 2)
         ·exact zgp
         ·refine zgo ?_
          exact ev_v 3
        ·refine zaq zd7 ?_ ?_
         ·refine EV.o ?_
          refine zy3 ?_ ?_ ?_
          ·exact eo_v 1
          ·refine zf3 ?_ ?_ ?_
           ·exact EV.o (ev_v 2)
           ·exact zgp
           ·refine zgo ?_
            exact ev_v 3
          ·exact zad
         ·exact EV.o zad
     ·refine zaf ?_
      refine SV.frz 1 ?_
      refine zaw ?_
      exact ev_v 1
abbrev zf6:Stmt:=top 6
theorem zi3:FnScope ["letters","letter","key","held"] ["letters","letter"] (zac zf6):=⟨rfl,rfl,rfl,by decide +kernel,rfl,by decide +kernel,by decide +kernel⟩
theorem zi6 {P:Program} {w:World} {K:PySem.W.Frag} {mg:Str->Option Value} {base:Heap} {f:Addr} {fd:FuncData} (T:Txt w K mg) (F:Fun K "key_of" "key_of" zf6 f fd) (hm:mg "key_of"=some (.ref f)) (hb:Binds K fd ["letters","letter"] []):@PF (tw w) P w K mg base 1 "key_of" ziv:=
  letI:TW:=(tw w)
  zdo F zi3 hm hb (g:=zit) fun cdv A outer s H E hr=>by
    have hu:=hr.units
    refine zae ?_ ?_
    ·refine zcv PassesOwn.never rfl ?_ ?_ ?_
     ·refine zfj ?_
      exact ev_v 0
     ·refine zia rfl ?_
      refine zbn ?_ ?_
      ·exact zaz 2 zi3.nd rfl (.inl rfl)
      ·refine zbn ?_ ?_
       ·exact zaz 3 zi3.nd rfl (.inl rfl)
       ·exact zfm
     ·refine zaf ?_
      refine zc5 ?_ ?_ ?_
      ·refine zbb (opIn hu) zr5 ?_ ?_ (by with_unfolding_all rfl)
       ·exact EV.o (ev_v 1)
       ·exact EV.o (ev_v 3)
      ·refine zaf ?_
       refine zaw ?_
       exact ev_v 2
      ·exact za5
    ·refine zaf ?_
     refine zaw ?_
     exact zmr
abbrev zd6:Stmt:=top 5
theorem zkd:FnScope ["letters","word","keys"] ["letters","word"] (zac zd6):=⟨rfl,rfl,rfl,by decide +kernel,rfl,by decide +kernel,by decide +kernel⟩
theorem zh1 {P:Program} {w:World} {K:PySem.W.Frag} {mg:Str->Option Value} {base:Heap} {f:Addr} {fd:FuncData} (T:Txt w K mg) (F:Fun K "code_of" "code_of" zd6 f fd) (hm:mg "code_of"=some (.ref f)) (hb:Binds K fd ["letters","word"] []) (zi6:@PF (tw w) P w K mg base 1 "key_of" ziv):@PF (tw w) P w K mg base 2 "code_of" zf2:=
  letI:TW:=(tw w)
  zdo F zkd hm hb (g:=zjn) fun cdv A outer s H E hr=>by
    have hu:=hr.units
    refine zae ?_ ?_
    ·refine zqx false 2 zkd.nd rfl (.inl rfl) (N':=["letter","letters"]) (nt:=1) (idx:=[0]) (show CompOk ["letters","word","keys"] (zac zd6) _ ["letter","letters"] 1 [0] from ⟨rfl,by decide +kernel,by decide +kernel,by decide +kernel,rfl,by decide +kernel⟩) rfl ?_ ?_ ?_ ?_ ?_
     ·refine zfj ?_
      exact ev_v 1
     ·intro _ _ _ _ _
      exact zi2 0 (show List.Nodup (["letter","letters"]:List Str) from by decide +kernel) rfl (.inl rfl)
     ·exact zhb (by decide)
     ·intro _ _ _ _ _
      exact zlf
     ·intro _ _ _ _ _
      refine zak zi6 (hr.mono (by decide)) rfl ?_
      refine zaa ?_ ?_
      ·exact ev_v 1
      ·refine zaa ?_ ?_
       ·exact ev_v 0
       ·exact zag
    ·refine zaf ?_
     refine zaw ?_
     refine Zci ?_ ?_ ?_
     ·refine zbb (opIn hu) zr5 ?_ ?_ (by with_unfolding_all rfl)
      ·exact EV.o zmr
      ·exact EV.o (ev_v 2)
     ·exact zmr
     ·refine Zch Zec Zez ?_ ?_
      ·exact zap
      ·exact EV.o (ev_v 2)
abbrev zbw:Stmt:=top 9
theorem zfg:FnScope ["code","counts","size"] ["code","counts"] (zac zbw):=⟨rfl,rfl,rfl,by decide +kernel,rfl,by decide +kernel,by decide +kernel⟩
theorem zdn {P:Program} {w:World} {K:PySem.W.Frag} {mg:Str->Option Value} {base:Heap} {f:Addr} {fd:FuncData} (T:Txt w K mg) (F:Fun K "own_beginning" "own_beginning" zbw f fd) (hm:mg "own_beginning"=some (.ref f)) (hb:Binds K fd ["code","counts"] []):@PF (tw w) P w K mg base 1 "own_beginning" zc2:=
  letI:TW:=(tw w)
  zdo F zfg hm hb (g:=zc0) fun cdv A outer s H E hr=>by
    have hu:=hr.units
    refine zae ?_ ?_
    ·refine zcv PassesOwn.never rfl ?_ ?_ ?_
     ·refine zjs rfl T.n_range ?_ ?_
      ·exact zad
      ·refine zj5 cLen rfl T.n_len rfl ?_
       exact EV.o (ev_v 0)
     ·exact zaz 2 zfg.nd rfl (.inl rfl)
     ·refine zaf ?_
      refine zc5 ?_ ?_ ?_
      ·refine zbb (opEq hu) zb8 ?_ ?_ (nomark _)
       ·refine EV.o ?_
        refine zaj (ixP hu) ?_ ?_ (fun _ _=>rfl)
        ·exact EV.o (ev_v 1)
        ·refine EV.o ?_
         refine zf3 ?_ ?_ ?_
         ·exact EV.o (ev_v 0)
         ·exact zgp
         ·refine zgo ?_
          exact ev_v 2
       ·exact EV.o zad
      ·refine zaf ?_
       refine zaw ?_
       refine zf3 ?_ ?_ ?_
       ·exact EV.o (ev_v 0)
       ·exact zgp
       ·refine zgo ?_
        exact ev_v 2
      ·exact za5
    ·refine zaf ?_
     refine zaw ?_
     exact ev_v 0
abbrev zb1:Stmt:=top 7
theorem ze3:FnScope ["letters","words","codes","counts"] ["letters","words"] (zac zb1):=⟨rfl,rfl,rfl,by decide +kernel,rfl,by decide +kernel,by decide +kernel⟩
theorem ze6 {P:Program} {w:World} {K:PySem.W.Frag} {mg:Str->Option Value} {base:Heap} {f:Addr} {fd:FuncData} (T:Txt w K mg) (F:Fun K "beginnings" "beginnings" zb1 f fd) (hm:mg "beginnings"=some (.ref f)) (hb:Binds K fd ["letters","words"] []) (zh1:@PF (tw w) P w K mg base 2 "code_of" zf2) (zcp:@PF (tw w) P w K mg base 1 "beginning_counts" zbp) (zdn:@PF (tw w) P w K mg base 1 "own_beginning" zc2):@PF (tw w) P w K mg base 3 "beginnings" zdk:=
  letI:TW:=(tw w)
  zdo F ze3 hm hb (g:=zf1) fun cdv A outer s H E hr=>by
    have hu:=hr.units
    refine zae ?_ ?_
    ·refine zqx false 2 ze3.nd rfl (.inl rfl) (N':=["word","letters"]) (nt:=1) (idx:=[0]) (show CompOk ["letters","words","codes","counts"] (zac zb1) _ ["word","letters"] 1 [0] from ⟨rfl,by decide +kernel,by decide +kernel,by decide +kernel,rfl,by decide +kernel⟩) rfl ?_ ?_ ?_ ?_ ?_
     ·refine zfj ?_
      exact ev_v 1
     ·intro _ _ _ _ _
      exact zi2 0 (show List.Nodup (["word","letters"]:List Str) from by decide +kernel) rfl (.inl rfl)
     ·exact zhb (by decide)
     ·intro _ _ _ _ _
      exact zlf
     ·intro _ _ _ _ _
      refine zaq zd7 ?_ ?_
      ·refine EV.o ?_
       refine zak zh1 (hr.mono (by decide)) rfl ?_
       refine zaa ?_ ?_
       ·exact ev_v 1
       ·refine zaa ?_ ?_
        ·exact ev_v 0
        ·exact zag
      ·refine EV.o ?_
       exact zsw rfl T.c_CODE_END
    ·refine zae ?_ ?_
     ·refine za1 3 ze3.nd rfl (.inr rfl) ?_
      refine zak zcp (hr.mono (by decide)) rfl ?_
      refine zaa ?_ ?_
      ·exact ev_v 2
      ·exact zag
     ·refine zaf ?_
      refine zaw ?_
      refine EN.v ?_
      refine zs0 (N':=["word","code","counts"]) (nt:=2) (idx:=[3]) (show CompOk ["letters","words","codes","counts"] (zac zb1) _ ["word","code","counts"] 2 [3] from ⟨rfl,by decide +kernel,by decide +kernel,by decide +kernel,rfl,by decide +kernel⟩) rfl ?_ ?_ ?_ ?_ ?_
      ·refine Zco rfl T.n_zip ?_ ?_
       ·exact ev_v 1
       ·exact ev_v 2
      ·intro _ _ _ _ _
       refine Zaa rfl ?_
       refine znz ?_ ?_
       ·exact zi2 0 (show List.Nodup (["word","code","counts"]:List Str) from by decide +kernel) rfl (.inl rfl)
       ·refine znz ?_ ?_
        ·exact zi2 1 (show List.Nodup (["word","code","counts"]:List Str) from by decide +kernel) rfl (.inl rfl)
        ·exact zxc
      ·refine zyb ?_
       refine zoo ?_ ?_
       ·exact zhb (by decide)
       ·refine zoo ?_ ?_
        ·exact zhb (by decide)
        ·exact zyc
      ·intro _ _ _ _ _
       exact zlf
      ·intro _ _ _ _ _
       refine zbj ?_
       refine zaa ?_ ?_
       ·exact ev_v 0
       ·refine zaa ?_ ?_
        ·refine zak zdn (hr.mono (by decide)) rfl ?_
         refine zaa ?_ ?_
         ·exact ev_v 1
         ·refine zaa ?_ ?_
          ·exact ev_v 2
          ·exact zag
        ·exact zag
abbrev zcs:Stmt:=top 17
theorem zcw:FnScope ["letters","names","ways","word","beginning","size"] ["letters","names"] (zac zcs):=⟨rfl,rfl,rfl,by decide +kernel,rfl,by decide +kernel,by decide +kernel⟩
theorem ze4 {P:Program} {w:World} {K:PySem.W.Frag} {mg:Str->Option Value} {base:Heap} {f:Addr} {fd:FuncData} (T:Txt w K mg) (F:Fun K "names_ways" "names_ways" zcs f fd) (hm:mg "names_ways"=some (.ref f)) (hb:Binds K fd ["letters","names"] []) (ze6:@PF (tw w) P w K mg base 3 "beginnings" zdk):@PF (tw w) P w K mg base 4 "names_ways" zeg:=
  letI:TW:=(tw w)
  zdo F zcw hm hb (g:=zfy) fun cdv A outer s H E hr=>by
    have hu:=hr.units
    refine zae ?_ ?_
    ·refine zem 2 zcw.nd rfl (.inl rfl) ?_
     exact zjr
    ·refine zae ?_ ?_
     ·refine zcv PassesOwn.never rfl ?_ ?_ ?_
      ·refine zfj ?_
       refine zak ze6 (hr.mono (by decide)) rfl ?_
       refine zaa ?_ ?_
       ·exact ev_v 0
       ·refine zaa ?_ ?_
        ·refine EN.v ?_
         refine zvm zw2 rfl T.n_list rfl ?_
         exact EV.o (ev_v 1)
        ·exact zag
      ·refine zia rfl ?_
       refine zbn ?_ ?_
       ·exact zaz 3 zcw.nd rfl (.inl rfl)
       ·refine zbn ?_ ?_
        ·exact zaz 4 zcw.nd rfl (.inl rfl)
        ·exact zfm
      ·refine zae ?_ ?_
       ·refine zcv PassesOwn.never rfl ?_ ?_ ?_
        ·refine zjs rfl T.n_range ?_ ?_
         ·exact zad
         ·refine zj5 cLen rfl T.n_len rfl ?_
          exact EV.o (ev_v 4)
        ·exact zaz 5 zcw.nd rfl (.inl rfl)
        ·refine zaf ?_
         refine zfn 2 hu ?_ ?_
         ·refine zf3 ?_ ?_ ?_
          ·exact EV.o (ev_v 4)
          ·exact zgp
          ·refine zgo ?_
           exact ev_v 5
         ·exact zmr
       ·refine zaf ?_
        refine zfn 2 hu ?_ ?_
        ·exact ev_v 4
        ·refine zaj (ixP hu) ?_ ?_ (fun _ _=>rfl)
         ·exact EV.o (ev_v 1)
         ·exact EV.o (ev_v 3)
     ·refine zaf ?_
      refine SV.frz 2 ?_
      refine zaw ?_
      exact ev_v 2
abbrev zc7:Stmt:=top 16
theorem zid:FnScope ["H","name","room"] ["H","name"] (zac zc7):=⟨rfl,rfl,rfl,by decide +kernel,rfl,by decide +kernel,by decide +kernel⟩
theorem zdg {P:Program} {w:World} {K:PySem.W.Frag} {mg:Str->Option Value} {base:Heap} {f:Addr} {fd:FuncData} (T:Txt w K mg) (F:Fun K "room_ways" "room_ways" zc7 f fd) (hm:mg "room_ways"=some (.ref f)) (hb:Binds K fd ["H","name"] []) (ze4:@PF (tw w) P w K mg base 4 "names_ways" zeg):@PF (tw w) P w K mg base 5 "room_ways" zat:=
  letI:TW:=(tw w)
  zdo F zid hm hb (g:=zdb) fun cdv A outer s H E hr=>by
    have hu:=hr.units
    refine zae ?_ ?_
    ·refine za1 2 zid.nd rfl (.inl rfl) ?_
     refine zaj (ixP hu) ?_ ?_ (fun _ _=>rfl)
     ·refine EV.o ?_
      refine zaj (ixP hu) ?_ ?_ (fun _ _=>rfl)
      ·exact EV.o (ev_v 0)
      ·exact EV.o zap
     ·exact EV.o (ev_v 1)
    ·refine zae ?_ ?_
     ·refine zc5 ?_ ?_ ?_
      ·refine zbb (opEq hu) zb8 ?_ ?_ (nomark _)
       ·refine EV.o ?_
        refine zaj (ixP hu) ?_ ?_ (fun _ _=>rfl)
        ·exact EV.o (ev_v 2)
        ·exact EV.o zad
       ·exact EV.o zap
      ·refine zaf ?_
       refine zaw ?_
       refine EN.v ?_
       refine zvm zw3 rfl T.n_dict rfl ?_
       refine EV.o ?_
       refine zaj (ixP hu) ?_ ?_ (fun _ _=>rfl)
       ·exact EV.o (ev_v 2)
       ·exact EV.o zad
      ·exact za5
     ·refine zae ?_ ?_
      ·refine zc5 ?_ ?_ ?_
       ·refine zbb (opEq hu) zb8 ?_ ?_ (nomark _)
        ·refine EV.o ?_
         refine zaj (ixP hu) ?_ ?_ (fun _ _=>rfl)
         ·exact EV.o (ev_v 2)
         ·exact EV.o zad
        ·exact EV.o zap
       ·refine zaf ?_
        refine zaw ?_
        refine zak ze4 (hr.mono (by decide)) rfl ?_
        refine zaa ?_ ?_
        ·refine zaj (ixP hu) ?_ ?_ (fun _ _=>rfl)
         ·exact EV.o (ev_v 0)
         ·exact EV.o zap
        ·refine zaa ?_ ?_
         ·refine EN.v ?_
          refine zvm zw3 rfl T.n_dict rfl ?_
          refine EV.o ?_
          refine zaj (ixP hu) ?_ ?_ (fun _ _=>rfl)
          ·exact EV.o (ev_v 2)
          ·exact EV.o zad
         ·exact zag
       ·exact za5
      ·refine zaf ?_
       refine zaw ?_
       refine EN.v ?_
       exact zjr
abbrev zct:Stmt:=top 15
theorem ze2:FnScope ["H","ways","name"] ["H"] (zac zct):=⟨rfl,rfl,rfl,by decide +kernel,rfl,by decide +kernel,by decide +kernel⟩
theorem zcx {P:Program} {w:World} {K:PySem.W.Frag} {mg:Str->Option Value} {base:Heap} {f:Addr} {fd:FuncData} (T:Txt w K mg) (F:Fun K "house_ways" "house_ways" zct f fd) (hm:mg "house_ways"=some (.ref f)) (hb:Binds K fd ["H"] []) (zdg:@PF (tw w) P w K mg base 5 "room_ways" zat):@PF (tw w) P w K mg base 6 "house_ways" zb2:=
  letI:TW:=(tw w)
  zdo F ze2 hm hb (g:=zfz) fun cdv A outer s H E hr=>by
    have hu:=hr.units
    refine zae ?_ ?_
    ·refine zem 1 ze2.nd rfl (.inl rfl) ?_
     exact zjr
    ·refine zae ?_ ?_
     ·refine zcv PassesOwn.never rfl ?_ ?_ ?_
      ·refine zfj ?_
       refine zaj (ixP hu) ?_ ?_ (fun _ _=>rfl)
       ·exact EV.o (ev_v 0)
       ·exact EV.o zap
      ·exact zaz 2 ze2.nd rfl (.inl rfl)
      ·refine zaf ?_
       refine zfn 1 hu ?_ ?_
       ·exact ev_v 2
       ·refine zak zdg (hr.mono (by decide)) rfl ?_
        refine zaa ?_ ?_
        ·exact ev_v 0
        ·refine zaa ?_ ?_
         ·exact ev_v 2
         ·exact zag
     ·refine zaf ?_
      refine SV.frz 1 ?_
      refine zaw ?_
      exact ev_v 1
abbrev zcu:Stmt:=top 26
theorem zbo:FnScope ["start","lead","is_last","known","found","done","near","sign","thing"] ["start","lead","is_last"] (zac zcu):=⟨rfl,rfl,rfl,by decide +kernel,rfl,by decide +kernel,by decide +kernel⟩
theorem ze5 {P:Program} {w:World} {K:PySem.W.Frag} {mg:Str->Option Value} {base:Heap} {f:Addr} {fd:FuncData} (T:Txt w K mg) (F:Fun K "first_rows" "first_rows" zcu f fd) (hm:mg "first_rows"=some (.ref f)) (hb:Binds K fd ["start","lead","is_last"] []) (LT:@LamT (tw w) P w K mg base 6 appL):@PFN (tw w) P w K mg base 8 "first_rows" zdj:=
  letI:TW:=(tw w)
  zrc F zbo hm hb (g:=zf0) fun cdv A outer s H E hr=>by
    have hu:=hr.units
    refine zec (zja _ _) ?_ ?_
    ·refine zem 3 zbo.nd rfl (.inl rfl) ?_
     refine zvn hu ?_ ?_
     ·exact ev_v 0
     ·exact zj4
    ·refine zec (zja _ _) ?_ ?_
     ·refine zem 4 zbo.nd rfl (.inl rfl) ?_
      refine zew ?_
      refine zaa ?_ ?_
      ·refine zbj ?_
       refine zaa ?_ ?_
       ·exact ev_v 0
       ·refine zaa ?_ ?_
        ·exact zap
        ·exact zag
      ·exact zag
     ·refine zec (zfp _ _) ?_ ?_
      ·refine za1 5 zbo.nd rfl (.inl rfl) ?_
       exact zad
      ·refine zec (ztt (zfq (zfp _ _) (zfq (ztj _ _) (zmm (zfq (zfp _ _) (zox (zfq (zpv _ _ _) (zfq (zm4 _ _) (zox zth zkk))) zkk)))))) ?_ ?_
       ·refine zn3 20000 PassesOwn.never ?_ ?_
        ·refine EW.et ?_
         refine zsu ?_ ?_
         ·refine zbb opLt zlb ?_ ?_ (nomark _)
          ·exact EV.o (ev_v 5)
          ·refine EV.o ?_
           refine zj5 cLen rfl T.n_len rfl ?_
           exact eo_v 4
         ·refine znp ?_
          refine zms ?_
          refine zgd ?_
          refine EV.o ?_
          refine zle 2 LT (hr.mono (by decide)) ?_
          refine zaa ?_ ?_
          ·refine zaj (ixP hu) ?_ ?_ (fun _ _=>rfl)
           ·refine EV.o ?_
            refine zaj (ixP hu) ?_ ?_ (fun _ _=>rfl)
            ·exact eo_v 4
            ·refine EV.o ?_
             refine zo7 ?_
             exact zad
           ·exact EV.o zad
          ·exact zag
        ·refine zae ?_ ?_
         ·refine za1 6 zbo.nd rfl (.inl rfl) ?_
          refine zaj (ixP hu) ?_ ?_ (fun _ _=>rfl)
          ·exact eo_v 4
          ·exact EV.o (ev_v 5)
         ·refine zae ?_ ?_
          ·refine Zah 5 zbo.nd rfl (.inl rfl) ?_
           exact zad
          ·refine zaf ?_
           refine zcv PassesOwn.never rfl ?_ ?_ ?_
           ·refine zfj ?_
            exact zsw rfl T.c_SIGNS
           ·exact zaz 7 zbo.nd rfl (.inl rfl)
           ·refine zae ?_ ?_
            ·refine za1 8 zbo.nd rfl (.inl rfl) ?_
             refine zle 1 LT (hr.mono (by decide)) ?_
             refine zaa ?_ ?_
             ·refine zaj (ixP hu) ?_ ?_ (fun _ _=>rfl)
              ·exact EV.o (ev_v 6)
              ·exact EV.o zad
             ·refine zaa ?_ ?_
              ·exact ev_v 7
              ·exact zag
            ·refine zaf ?_
             refine zc5 ?_ ?_ ?_
             ·refine zbb (zok hu) zjf ?_ ?_ (by with_unfolding_all rfl)
              ·exact EV.o (ev_v 8)
              ·exact eo_v 3
             ·refine zae ?_ ?_
              ·refine zqv 3 hu ?_ ?_ rfl (by first | exact Or.inl rfl | exact Or.inr (Or.inl rfl))
               ·exact ev_v 8
               ·exact zj4
              ·refine zae ?_ ?_
               ·refine zdf 4 rfl (by first | exact Or.inl rfl | exact Or.inr (Or.inl rfl)) ?_
                refine zbj ?_
                refine zaa ?_ ?_
                ·exact ev_v 8
                ·refine zaa ?_ ?_
                 ·refine zaq zd7 ?_ ?_
                  ·refine EV.o ?_
                   refine zaj (ixP hu) ?_ ?_ (fun _ _=>rfl)
                   ·exact EV.o (ev_v 6)
                   ·exact EV.o zad
                  ·exact EV.o (ev_v 7)
                 ·exact zag
               ·refine zaf ?_
                refine zc5 ?_ ?_ ?_
                ·refine zgd ?_
                 refine EV.o ?_
                 refine zle 2 LT (hr.mono (by decide)) ?_
                 refine zaa ?_ ?_
                 ·exact ev_v 8
                 ·exact zag
                ·refine zaf ?_
                 exact zt7
                ·exact za5
             ·exact za5
       ·exact zn2 4
abbrev zed:Stmt:=top 27
theorem zlw:FnScope ["H","hour","ways"] ["H","hour"] (zac zed):=⟨rfl,rfl,rfl,by decide +kernel,rfl,by decide +kernel,by decide +kernel⟩
theorem znm:∀y∈zbz.scope.names,y.2=.free->(zac zed).names.lookup y.1=some .cell:=by decide +kernel
theorem znl:∀y∈zbm.scope.names,y.2=.free->(zac zed).names.lookup y.1=some .cell:=by decide +kernel
theorem zg7 {P:Program} {w:World} {K:PySem.W.Frag} {mg:Str->Option Value} {base:Heap} {f:Addr} {fd:FuncData} (T:Txt w K mg) (F:Fun K "places" "places" zed f fd) (hm:mg "places"=some (.ref f)) (hb:Binds K fd ["H","hour"] []) {cP:Addr} (hcode:fd.code=.ref cP) (hhd:PySem.W.codeHdIn K cP PT=true) (hKb:K.In base) (hbn:∃bm o,mg "__builtins__"=some (.ref bm)/\bm≠builtinsNs/\bm≠mainGlobals/\base.get? bm=some o/\o.cls=.type "module"/\o.dict=some builtinsNs/\o.data=.plain) (zcx:@PF (tw w) P w K mg base 6 "house_ways" zb2) (ze5:@PFN (tw w) P w K mg base 8 "first_rows" zdj) (ze7:@PF (tw w) P w K mg base 4 "begin" zcr):@PFN (tw w) P w K mg base 9 "places" zhk:=
  letI:TW:=(tw w)
  zuo F zlw hm hb (g:=zld) (hr:=(zvk _ _ _ (zvl _))) fun cdv hcdv A outer s H E hr=>by
    have hu:=hr.units
    refine zec (zfp _ _) ?_ ?_
    ·refine za1 2 zlw.nd rfl (.inr rfl) ?_
     refine zak zcx (hr.mono (by decide)) rfl ?_
     refine zaa ?_ ?_
     ·exact ev_v 0
     ·exact zag
    ·refine zxf ?_
     refine zvo ze5 (hr.mono (by decide)) rfl ?_ (fun _=>rfl)
     refine Zcm ?_ ?_
     ·refine zak ze7 (hr.mono (by decide)) rfl ?_
      refine zaa ?_ ?_
      ·exact ev_v 0
      ·refine zaa ?_ ?_
       ·exact ev_v 1
       ·exact zag
     ·refine zwx (L:=zbz) (idx:=[2,1,0]) (lp:=zwn ⟨0,0,0,0⟩ zj8) (c:=cP) (P:=PT) ⟨rfl,rfl,hcdv.trans hcode,PySem.W.codeHd_of_K hKb hhd,List.mem_singleton.mpr rfl,hbn,rfl,znm,rfl,by decide +kernel,rfl⟩ ?_
      refine zwx (L:=zbm) (idx:=[]) (lp:=zwn ⟨0,0,0,0⟩ zj7) (c:=cP) (P:=PT) ⟨rfl,rfl,hcdv.trans hcode,PySem.W.codeHd_of_K hKb hhd,List.mem_singleton.mpr rfl,hbn,rfl,znl,rfl,by decide +kernel,rfl⟩ ?_
      exact Zcn
abbrev zbx:Stmt:=top 36
theorem zfh:FnScope ["_law_found","_law_one"] ["_law_found"] (zac zbx):=⟨rfl,rfl,rfl,by decide +kernel,rfl,by decide +kernel,by decide +kernel⟩
theorem zdp {P:Program} {w:World} {K:PySem.W.Frag} {mg:Str->Option Value} {base:Heap} {f:Addr} {fd:FuncData} (T:Txt w K mg) (F:Fun K "_law_are_pairs" "_law_are_pairs" zbx f fd) (hm:mg "_law_are_pairs"=some (.ref f)) (hb:Binds K fd ["_law_found"] []):@PF (tw w) P w K mg base 1 "_law_are_pairs" zc3:=
  letI:TW:=(tw w)
  zdo F zfh hm hb (g:=zd8) fun cdv A outer s H E hr=>by
    have hu:=hr.units
    refine zae ?_ ?_
    ·refine zc5 ?_ ?_ ?_
     ·refine EW.et ?_
      refine zno ?_ ?_
      ·refine zms ?_
       refine zgd ?_
       refine EV.o ?_
       refine zsv zu8 rfl T.n_isinstance rfl T.n_list (by decide +kernel) ?_
       exact EV.o (ev_v 0)
      ·refine zkr ?_
       refine zbb (opEq hu) zb8 ?_ ?_ (nomark _)
       ·refine EV.o ?_
        refine zj5 cLen rfl T.n_len rfl ?_
        exact EV.o (ev_v 0)
       ·exact EV.o zad
     ·refine zaf ?_
      refine zaw ?_
      exact zj4
     ·exact za5
    ·refine zae ?_ ?_
     ·refine zcv PassesOwn.never rfl ?_ ?_ ?_
      ·refine zfj ?_
       exact ev_v 0
      ·exact zaz 1 zfh.nd rfl (.inl rfl)
      ·refine zaf ?_
       refine zc5 ?_ ?_ ?_
       ·refine EW.et ?_
        refine zno ?_ ?_
        ·refine zms ?_
         refine zgd ?_
         refine EV.o ?_
         refine zsv zr4 rfl T.n_isinstance rfl T.n_tuple (by decide +kernel) ?_
         exact EV.o (ev_v 1)
        ·refine zno ?_ ?_
         ·refine zbb (opNe hu) znj ?_ ?_ (nomark _)
          ·refine EV.o ?_
           refine zj5 cLen rfl T.n_len rfl ?_
           exact EV.o (ev_v 1)
          ·exact EV.o zad
         ·refine zkr ?_
          refine zms ?_
          refine zgd ?_
          refine EV.o ?_
          refine zsv zyq rfl T.n_isinstance rfl T.n_str (by decide +kernel) ?_
          refine EV.o ?_
          refine zaj (ixP hu) ?_ ?_ (fun _ _=>rfl)
          ·exact EV.o (ev_v 1)
          ·exact EV.o zad
       ·refine zaf ?_
        refine zaw ?_
        exact zj4
       ·exact za5
     ·refine zaf ?_
      refine zaw ?_
      exact zj4
abbrev zkf:Stmt:=top 14
theorem zxk:FnScope ["H","hour","state","sign"] ["H","hour","state","sign"] (zac zkf):=⟨rfl,rfl,rfl,by decide +kernel,rfl,by decide +kernel,by decide +kernel⟩
theorem znb {P:Program} {w:World} {K:PySem.W.Frag} {mg:Str->Option Value} {base:Heap} {f:Addr} {fd:FuncData} (T:Txt w K mg) (F:Fun K "step" "step" zkf f fd) (hm:mg "step"=some (.ref f)) (hb:Binds K fd ["H","hour","state","sign"] []) (zcy:@PF (tw w) P w K mg base 6 "follow" zb9) (zdg:@PF (tw w) P w K mg base 5 "room_ways" zat):@PF (tw w) P w K mg base 7 "step" zmq:=
  letI:TW:=(tw w)
  zdo F zxk hm hb (g:=zsj) fun cdv A outer s H E hr=>by
    have hu:=hr.units
    refine zaf ?_
    refine zaw ?_
    refine zak zcy (hr.mono (by decide)) rfl ?_
    refine zaa ?_ ?_
    ·exact ev_v 0
    ·refine zaa ?_ ?_
     ·exact ev_v 1
     ·refine zaa ?_ ?_
      ·refine zak zdg (hr.mono (by decide)) rfl ?_
       refine zaa ?_ ?_
       ·exact ev_v 0
       ·refine zaa ?_ ?_
        ·refine zaj (ixP hu) ?_ ?_ (fun _ _=>rfl)
         ·exact EV.o (ev_v 2)
         ·exact EV.o zad
        ·exact zag
      ·refine zaa ?_ ?_
       ·exact ev_v 2
       ·refine zaa ?_ ?_
        ·exact ev_v 3
        ·exact zag
abbrev zeo:Stmt:=top 23
theorem zf5:FnScope ["H","hour","state","row","ways","states","sign"] ["H","hour","state","row"] (zac zeo):=⟨rfl,rfl,rfl,by decide +kernel,rfl,by decide +kernel,by decide +kernel⟩
theorem zhz {P:Program} {w:World} {K:PySem.W.Frag} {mg:Str->Option Value} {base:Heap} {f:Addr} {fd:FuncData} (T:Txt w K mg) (F:Fun K "walk_on" "walk_on" zeo f fd) (hm:mg "walk_on"=some (.ref f)) (hb:Binds K fd ["H","hour","state","row"] []) (zcx:@PF (tw w) P w K mg base 6 "house_ways" zb2) (zcy:@PF (tw w) P w K mg base 6 "follow" zb9):@PFN (tw w) P w K mg base 7 "walk_on" zhj:=
  letI:TW:=(tw w)
  zrc F zf5 hm hb (g:=zjk) fun cdv A outer s H E hr=>by
    have hu:=hr.units
    refine zec (zfp _ _) ?_ ?_
    ·refine za1 4 zf5.nd rfl (.inl rfl) ?_
     refine zak zcx (hr.mono (by decide)) rfl ?_
     refine zaa ?_ ?_
     ·exact ev_v 0
     ·exact zag
    ·refine zec (zja _ _) ?_ ?_
     ·refine zem 5 zf5.nd rfl (.inl rfl) ?_
      refine zew ?_
      refine zaa ?_ ?_
      ·exact ev_v 2
      ·exact zag
     ·refine zec (zmm (zm4 _ _)) ?_ ?_
      ·refine zcv PassesOwn.never rfl ?_ ?_ ?_
       ·refine zfj ?_
        exact ev_v 3
       ·exact zaz 6 zf5.nd rfl (.inl rfl)
       ·refine zaf ?_
        refine zdf 5 rfl (by first | exact Or.inl rfl | exact Or.inr (Or.inl rfl)) ?_
        refine zak zcy (hr.mono (by decide)) rfl ?_
        refine zaa ?_ ?_
        ·exact ev_v 0
        ·refine zaa ?_ ?_
         ·exact ev_v 1
         ·refine zaa ?_ ?_
          ·refine zaj (ixP hu) ?_ ?_ (fun _ _=>rfl)
           ·exact EV.o (ev_v 4)
           ·refine EV.o ?_
            refine zaj (ixP hu) ?_ ?_ (fun _ _=>rfl)
            ·refine EV.o ?_
             refine zaj (ixP hu) ?_ ?_ (fun _ _=>rfl)
             ·exact eo_v 5
             ·refine EV.o ?_
              refine zo7 ?_
              exact zad
            ·exact EV.o zad
          ·refine zaa ?_ ?_
           ·refine zaj (ixP hu) ?_ ?_ (fun _ _=>rfl)
            ·exact eo_v 5
            ·refine EV.o ?_
             refine zo7 ?_
             exact zad
           ·refine zaa ?_ ?_
            ·exact ev_v 6
            ·exact zag
      ·exact zn2 5
abbrev zke:Stmt:=top 22
theorem zxj:FnScope ["H","hour","row"] ["H","hour","row"] (zac zke):=⟨rfl,rfl,rfl,by decide +kernel,rfl,by decide +kernel,by decide +kernel⟩
theorem zna {P:Program} {w:World} {K:PySem.W.Frag} {mg:Str->Option Value} {base:Heap} {f:Addr} {fd:FuncData} (T:Txt w K mg) (F:Fun K "walk" "walk" zke f fd) (hm:mg "walk"=some (.ref f)) (hb:Binds K fd ["H","hour","row"] []) (zhz:@PFN (tw w) P w K mg base 7 "walk_on" zhj) (ze7:@PF (tw w) P w K mg base 4 "begin" zcr):@PFN (tw w) P w K mg base 8 "walk" zmp:=
  letI:TW:=(tw w)
  Zav F zxj hm hb rfl fun cdv A outer s H E hr=>by
    have hu:=hr.units
    refine zlg zhz (hr.mono (by decide)) rfl ?_
    refine zaa ?_ ?_
    ·exact ev_v 0
    ·refine zaa ?_ ?_
     ·exact ev_v 1
     ·refine zaa ?_ ?_
      ·refine zak ze7 (hr.mono (by decide)) rfl ?_
       refine zaa ?_ ?_
       ·exact ev_v 0
       ·refine zaa ?_ ?_
        ·exact ev_v 1
        ·exact zag
      ·refine zaa ?_ ?_
       ·exact ev_v 2
       ·exact zag
abbrev zd5:Stmt:=top 35
theorem zpp:FnScope ["_law_row"] ["_law_row"] (zac zd5):=⟨rfl,rfl,rfl,by decide +kernel,rfl,by decide +kernel,by decide +kernel⟩
theorem zd1 {P:Program} {w:World} {K:PySem.W.Frag} {mg:Str->Option Value} {base:Heap} {f:Addr} {fd:FuncData} (T:Txt w K mg) (F:Fun K "_law_key" "_law_key" zd5 f fd) (hm:mg "_law_key"=some (.ref f)) (hb:Binds K fd ["_law_row"] []):@PF (tw w) P w K mg base 1 "_law_key" zdi:=
  letI:TW:=(tw w)
  zdo F zpp hm hb (g:=zjl) fun cdv A outer s H E hr=>by
    have hu:=hr.units
    refine zaf ?_
    refine zaw ?_
    refine zbj ?_
    refine zaa ?_ ?_
    ·refine zj5 cLen rfl T.n_len rfl ?_
     exact EV.o (ev_v 0)
    ·refine zaa ?_ ?_
     ·refine EN.v ?_
      refine zs0 (N':=["_law_sign"]) (nt:=1) (idx:=[]) (show CompOk ["_law_row"] (zac zd5) _ ["_law_sign"] 1 [] from ⟨rfl,by decide +kernel,by decide +kernel,by decide +kernel,rfl,by decide +kernel⟩) rfl ?_ ?_ ?_ ?_ ?_
      ·refine zfj ?_
       exact ev_v 0
      ·intro _ _ _ _ _
       exact zi2 0 (show List.Nodup (["_law_sign"]:List Str) from by decide +kernel) rfl (.inl rfl)
      ·exact zhb (by decide)
      ·intro _ _ _ _ _
       exact zlf
      ·intro _ _ _ _ _
       refine Zch Zak Zbi ?_ ?_
       ·exact zap
       ·exact EV.o (ev_v 0)
     ·exact zag
abbrev zk2:Stmt:=top 37
theorem zen:FnScope ["_law_script","_law_house_here","_law_hour","_law_found","_law_rows","_law_k","_law_state","_law_row","_law_sign","_law_after","_law_kept"] ["_law_script"] (zac zk2):=⟨rfl,rfl,rfl,by decide +kernel,rfl,by decide +kernel,by decide +kernel⟩
theorem Zbb {P:Program} {w:World} {K:PySem.W.Frag} {mg:Str->Option Value} {base:Heap} {f:Addr} {fd:FuncData} (T:Txt w K mg) (F:Fun K "law" "law" zk2 f fd) (zee:@PF (tw w) P w K mg base 3 "_law_house" zd9) (zay:@PF (tw w) P w K mg base 1 "_law_cell_at" zal) (zg7:@PFN (tw w) P w K mg base 9 "places" zhk) (zdp:@PF (tw w) P w K mg base 1 "_law_are_pairs" zc3) (ze7:@PF (tw w) P w K mg base 4 "begin" zcr) (zd1:@PF (tw w) P w K mg base 1 "_law_key" zdi) (zna:@PFN (tw w) P w K mg base 8 "walk" zmp) (znb:@PF (tw w) P w K mg base 7 "step" zmq):FnOk P w K mg base CX0 10 f fd ["_law_script"] (@spP (tw w) K 1 zst):=
  letI:TW:=(tw w)
  have main:FnOk P w K mg base CX0 (9+1) f fd ["_law_script"] (spP K 1 (runF 1 11 zve)):=by
    refine Zev (N:=["_law_script","_law_house_here","_law_hour","_law_found","_law_rows","_law_k","_law_state","_law_row","_law_sign","_law_after","_law_kept"]) (ps:=["_law_script"]) (k:=9) (g:=zve) F zen ?_
    intro cdv A outer s H E hr
    have hu:=hr.units
    refine zae ?_ ?_
    ·refine za1 1 zen.nd rfl (.inl rfl) ?_
     refine zak zee (hr.mono (by decide)) rfl ?_
     refine zaa ?_ ?_
     ·exact ev_v 0
     ·exact zag
    ·refine zae ?_ ?_
     ·refine za1 2 zen.nd rfl (.inl rfl) ?_
      refine zaq zda ?_ ?_
      ·refine EV.o ?_
       refine zak zay (hr.mono (by decide)) rfl ?_
       refine zaa ?_ ?_
       ·exact ev_v 0
       ·refine zaa ?_ ?_
        ·exact zad
        ·exact zag
      ·exact EV.o zad
     ·refine zae ?_ ?_
      ·refine zem 3 zen.nd rfl (.inl rfl) ?_
       refine zlg zg7 (hr.mono (by decide)) rfl ?_
       refine zaa ?_ ?_
       ·exact ev_v 1
       ·refine zaa ?_ ?_
        ·exact ev_v 2
        ·exact zag
      ·refine zae ?_ ?_
       ·refine zc5 ?_ ?_ ?_
        ·refine zy4 3 ?_
         refine EW.et ?_
         refine zno ?_ ?_
         ·refine zms ?_
          refine zgd ?_
          refine EV.o ?_
          refine zak zdp (hr.mono (by decide)) rfl ?_
          refine zaa ?_ ?_
          ·exact ev_v 3
          ·exact zag
         ·refine zkr ?_
          refine zbb (opNe hu) znj ?_ ?_ (nomark _)
          ·refine EV.o ?_
           refine zaj (ixP hu) ?_ ?_ (fun _ _=>rfl)
           ·exact EV.o (ev_v 3)
           ·exact EV.o zad
          ·refine EV.o ?_
           refine zbj ?_
           refine zaa ?_ ?_
           ·refine zak ze7 (hr.mono (by decide)) rfl ?_
            refine zaa ?_ ?_
            ·exact ev_v 1
            ·refine zaa ?_ ?_
             ·exact ev_v 2
             ·exact zag
           ·refine zaa ?_ ?_
            ·exact zap
            ·exact zag
        ·refine zaf ?_
         refine zaw ?_
         exact zj4
        ·exact za5
       ·refine zae ?_ ?_
        ·refine zem 4 zen.nd rfl (.inl rfl) ?_
         exact zy7
        ·refine zae ?_ ?_
         ·refine zqw 3 [5,6,7] numL PassesOwn.never rfl ?_ ?_ ?_
          ·exact zxz 3 rfl T.n_enumerate
          ·refine zia rfl ?_
           refine zbn ?_ ?_
           ·exact zaz 5 zen.nd rfl (.inl rfl)
           ·refine zbn ?_ ?_
            ·refine zia rfl ?_
             refine zbn ?_ ?_
             ·exact zaz 6 zen.nd rfl (.inl rfl)
             ·refine zbn ?_ ?_
              ·exact zaz 7 zen.nd rfl (.inl rfl)
              ·exact zfm
            ·exact zfm
          ·refine zae ?_ ?_
           ·refine zc5 ?_ ?_ ?_
            ·refine EW.et ?_
             refine zno ?_ ?_
             ·refine zbb (Zes hu) zva ?_ ?_ (by with_unfolding_all rfl)
              ·exact EV.o (ev_v 6)
              ·exact eo_v 4
             ·refine zkr ?_
              refine EW.et ?_
              refine zsu ?_ ?_
              ·refine zbb opGt zyt ?_ ?_ (nomark _)
               ·exact EV.o (ev_v 5)
               ·exact EV.o zad
              ·refine znp ?_
               refine zbb (Zeu hu) zvc ?_ ?_ (nomark _)
               ·refine EV.o ?_
                refine zak zd1 (hr.mono (by decide)) rfl ?_
                refine zaa ?_ ?_
                ·refine zaj (ixP hu) ?_ ?_ (fun _ _=>rfl)
                 ·refine EV.o ?_
                  refine zaj (ixP hu) ?_ ?_ (fun _ _=>rfl)
                  ·exact eo_v 3
                  ·refine EV.o ?_
                   refine zaq Zeq ?_ ?_
                   ·exact EV.o (ev_v 5)
                   ·exact EV.o zad
                 ·exact EV.o zad
                ·exact zag
               ·refine EV.o ?_
                refine zak zd1 (hr.mono (by decide)) rfl ?_
                refine zaa ?_ ?_
                ·exact ev_v 7
                ·exact zag
            ·refine zaf ?_
             refine zaw ?_
             exact zj4
            ·exact za5
           ·refine zae ?_ ?_
            ·refine zqv 4 hu ?_ ?_ rfl (by first | exact Or.inl rfl | exact Or.inr (Or.inl rfl))
             ·exact ev_v 6
             ·exact ev_v 7
            ·refine zaf ?_
             refine zc5 ?_ ?_ ?_
             ·refine zbb (opNe hu) znj ?_ ?_ (nomark _)
              ·refine EV.o ?_
               refine zaj (ixP hu) ?_ ?_ (fun _ _=>rfl)
               ·refine EN.o ?_
                refine zlg zna (hr.mono (by decide)) rfl ?_
                refine zaa ?_ ?_
                ·exact ev_v 1
                ·refine zaa ?_ ?_
                 ·exact ev_v 2
                 ·refine zaa ?_ ?_
                  ·exact ev_v 7
                  ·exact zag
               ·refine EV.o ?_
                refine zo7 ?_
                exact zad
              ·exact EV.o (ev_v 6)
             ·refine zaf ?_
              refine zaw ?_
              exact zj4
             ·exact za5
         ·refine zae ?_ ?_
          ·refine zqw 3 [6,7,8,9] idL PassesOwn.never rfl ?_ ?_ ?_
           ·exact Zau 3
           ·refine zia rfl ?_
            refine zbn ?_ ?_
            ·exact zaz 6 zen.nd rfl (.inl rfl)
            ·refine zbn ?_ ?_
             ·exact zaz 7 zen.nd rfl (.inl rfl)
             ·exact zfm
           ·refine zaf ?_
            refine zcv PassesOwn.never rfl ?_ ?_ ?_
            ·refine zfj ?_
             exact zap
            ·exact zaz 8 zen.nd rfl (.inl rfl)
            ·refine zae ?_ ?_
             ·refine za1 9 zen.nd rfl (.inl rfl) ?_
              refine zak znb (hr.mono (by decide)) rfl ?_
              refine zaa ?_ ?_
              ·exact ev_v 1
              ·refine zaa ?_ ?_
               ·exact ev_v 2
               ·refine zaa ?_ ?_
                ·exact ev_v 6
                ·refine zaa ?_ ?_
                 ·exact ev_v 8
                 ·exact zag
             ·refine zaf ?_
              refine zc5 ?_ ?_ ?_
              ·refine EW.et ?_
               refine zno ?_ ?_
               ·refine zbb (zok hu) zjf ?_ ?_ (by with_unfolding_all rfl)
                ·exact EV.o (ev_v 9)
                ·exact eo_v 4
               ·refine zkr ?_
                refine zbb (Zet hu) zvb ?_ ?_ (nomark _)
                ·refine EV.o ?_
                 refine zak zd1 (hr.mono (by decide)) rfl ?_
                 refine zaa ?_ ?_
                 ·refine zaj (ixT hu) ?_ ?_ (fun _ _=>rfl)
                  ·exact eo_v 4
                  ·exact EV.o (ev_v 9)
                 ·exact zag
                ·refine EV.o ?_
                 refine zak zd1 (hr.mono (by decide)) rfl ?_
                 refine zaa ?_ ?_
                 ·refine zaq zd7 ?_ ?_
                  ·exact EV.o (ev_v 7)
                  ·exact EV.o (ev_v 8)
                 ·exact zag
              ·refine zaf ?_
               refine zaw ?_
               exact zj4
              ·exact za5
          ·refine zae ?_ ?_
           ·refine za1 10 zen.nd rfl (.inl rfl) ?_
            refine EN.v ?_
            refine zvm zw2 rfl T.n_list rfl ?_
            exact eo_v 3
           ·refine zae ?_ ?_
            ·exact zt6 3 rfl (by first | exact Or.inl rfl | exact Or.inr (Or.inl rfl))
            ·refine zaf ?_
             refine zaw ?_
             refine Zcj ?_ ?_
             ·refine zsx (opEq hu) ?_ ?_ (nomark _)
              ·refine EN.o ?_
               refine zlg zg7 (hr.mono (by decide)) rfl ?_
               refine zaa ?_ ?_
               ·exact ev_v 1
               ·refine zaa ?_ ?_
                ·exact ev_v 2
                ·exact zag
              ·exact EV.o (ev_v 10)
             ·refine Zcg ?_
              refine zsx (opEq hu) ?_ ?_ (nomark _)
              ·exact EV.o (ev_v 1)
              ·refine EV.o ?_
               refine zak zee (hr.mono (by decide)) rfl ?_
               refine zaa ?_ ?_
               ·exact ev_v 0
               ·exact zag
  main
theorem all_mk {l:PySem.W.OpenLaw} {w:World} {K:PySem.W.Frag} {h:Heap} {mg:Str->Option Value} {fa:Addr} (X:K.In h) (G:h.Ns mainGlobals mg) (hfa:mg "law"=some (.ref fa))
  {f0 f1 f2 f3 f4 f5 f6 f7 f8 f9 f10 f11 f12 f13 f14 f15 f16 f17 f18 f19 f20 f21 f22 f23 f24 f25 f26 f27 f28 f29:Addr} {od0 an0 od1 an1 od2 an2 od3 an3 od4 an4 od5 an5 od6 an6 od7 an7 od8 an8 od9 an9 od10 an10 od11 an11 od12 an12 od13 an13 od14 an14 od15 an15 od16 an16 od17 an17 od18 an18 od19 an19 od20 an20 od21 an21 od22 an22 od23 an23 od24 an24 od25 an25 od26 an26 od27 an27 od28 an28 od29 an29:Option Addr} {sl0 sl1 sl2 sl3 sl4 sl5 sl6 sl7 sl8 sl9 sl10 sl11 sl12 sl13 sl14 sl15 sl16 sl17 sl18 sl19 sl20 sl21 sl22 sl23 sl24 sl25 sl26 sl27 sl28 sl29:Array (Option Value)} {oc0 kV0 dc0 pm0 cd0 ct0 oc1 kV1 dc1 pm1 cd1 ct1 oc2 kV2 dc2 pm2 cd2 ct2 oc3 kV3 dc3 pm3 cd3 ct3 oc4 kV4 dc4 pm4 cd4 ct4 oc5 kV5 dc5 pm5 cd5 ct5 oc6 kV6 dc6 pm6 cd6 ct6 oc7 kV7 dc7 pm7 cd7 ct7 oc8 kV8 dc8 pm8 cd8 ct8 oc9 kV9 dc9 pm9 cd9 ct9 oc10 kV10 dc10 pm10 cd10 ct10 oc11 kV11 dc11 pm11 cd11 ct11 oc12 kV12 dc12 pm12 cd12 ct12 oc13 kV13 dc13 pm13 cd13 ct13 oc14 kV14 dc14 pm14 cd14 ct14 oc15 kV15 dc15 pm15 cd15 ct15 oc16 kV16 dc16 pm16 cd16 ct16 oc17 kV17 dc17 pm17 cd17 ct17 oc18 kV18 dc18 pm18 cd18 ct18 oc19 kV19 dc19 pm19 cd19 ct19 oc20 kV20 dc20 pm20 cd20 ct20 oc21 kV21 dc21 pm21 cd21 ct21 oc22 kV22 dc22 pm22 cd22 ct22 oc23 kV23 dc23 pm23 cd23 ct23 oc24 kV24 dc24 pm24 cd24 ct24 oc25 kV25 dc25 pm25 cd25 ct25 oc26 kV26 dc26 pm26 cd26 ct26 oc27 kV27 dc27 pm27 cd27 ct27 oc28 kV28 dc28 pm28 cd28 ct28 oc29 kV29 dc29 pm29 cd29 ct29:Value}
  (a0:PySem.W.nsIn K mainGlobals "_law_numbers"=some (some (.ref f0))) (l0:K.lookup f0=some ⟨oc0,od0,.func (PySem.W.fnOf "_law_numbers" "_law_numbers" (zav zce) (zar zce) (zac zce) .none kV0 dc0 pm0 an0 cd0 ct0),sl0⟩) (c0:PySem.W.codeIn K cd0 "_law_numbers"=true) (k0:PySem.W.keepIn K (.ref f0)=true)
  (a1:PySem.W.nsIn K mainGlobals "_law_names"=some (some (.ref f1))) (l1:K.lookup f1=some ⟨oc1,od1,.func (PySem.W.fnOf "_law_names" "_law_names" (zav zc8) (zar zc8) (zac zc8) .none kV1 dc1 pm1 an1 cd1 ct1),sl1⟩) (c1:PySem.W.codeIn K cd1 "_law_names"=true) (k1:PySem.W.keepIn K (.ref f1)=true)
  (a2:PySem.W.nsIn K mainGlobals "_law_room_of_names"=some (some (.ref f2))) (l2:K.lookup f2=some ⟨oc2,od2,.func (PySem.W.fnOf "_law_room_of_names" "_law_room_of_names" (zav za6) (zar za6) (zac za6) .none kV2 dc2 pm2 an2 cd2 ct2),sl2⟩) (c2:PySem.W.codeIn K cd2 "_law_room_of_names"=true) (k2:PySem.W.keepIn K (.ref f2)=true)
  (a3:PySem.W.nsIn K mainGlobals "_law_cell_at"=some (some (.ref f3))) (l3:K.lookup f3=some ⟨oc3,od3,.func (PySem.W.fnOf "_law_cell_at" "_law_cell_at" (zav zcf) (zar zcf) (zac zcf) .none kV3 dc3 pm3 an3 cd3 ct3),sl3⟩) (c3:PySem.W.codeIn K cd3 "_law_cell_at"=true) (k3:PySem.W.keepIn K (.ref f3)=true)
  (a4:PySem.W.nsIn K mainGlobals "_law_menu"=some (some (.ref f4))) (l4:K.lookup f4=some ⟨oc4,od4,.func (PySem.W.fnOf "_law_menu" "_law_menu" (zav zd0) (zar zd0) (zac zd0) .none kV4 dc4 pm4 an4 cd4 ct4),sl4⟩) (c4:PySem.W.codeIn K cd4 "_law_menu"=true) (k4:PySem.W.keepIn K (.ref f4)=true)
  (a5:PySem.W.nsIn K mainGlobals "_law_house"=some (some (.ref f5))) (l5:K.lookup f5=some ⟨oc5,od5,.func (PySem.W.fnOf "_law_house" "_law_house" (zav zc9) (zar zc9) (zac zc9) .none kV5 dc5 pm5 an5 cd5 ct5),sl5⟩) (c5:PySem.W.codeIn K cd5 "_law_house"=true) (k5:PySem.W.keepIn K (.ref f5)=true)
  (a6:PySem.W.nsIn K mainGlobals "handed"=some (some (.ref f6))) (l6:K.lookup f6=some ⟨oc6,od6,.func (PySem.W.fnOf "handed" "handed" (zav zf7) (zar zf7) (zac zf7) .none kV6 dc6 pm6 an6 cd6 ct6),sl6⟩) (c6:PySem.W.codeIn K cd6 "handed"=true) (k6:PySem.W.keepIn K (.ref f6)=true)
  (a7:PySem.W.nsIn K mainGlobals "come_to"=some (some (.ref f7))) (l7:K.lookup f7=some ⟨oc7,od7,.func (PySem.W.fnOf "come_to" "come_to" (zav zep) (zar zep) (zac zep) .none kV7 dc7 pm7 an7 cd7 ct7),sl7⟩) (c7:PySem.W.codeIn K cd7 "come_to"=true) (k7:PySem.W.keepIn K (.ref f7)=true)
  (a8:PySem.W.nsIn K mainGlobals "arrival"=some (some (.ref f8))) (l8:K.lookup f8=some ⟨oc8,od8,.func (PySem.W.fnOf "arrival" "arrival" (zav zer) (zar zer) (zac zer) .none kV8 dc8 pm8 an8 cd8 ct8),sl8⟩) (c8:PySem.W.codeIn K cd8 "arrival"=true) (k8:PySem.W.keepIn K (.ref f8)=true)
  (a9:PySem.W.nsIn K mainGlobals "begin"=some (some (.ref f9))) (l9:K.lookup f9=some ⟨oc9,od9,.func (PySem.W.fnOf "begin" "begin" (zav zhx) (zar zhx) (zac zhx) .none kV9 dc9 pm9 an9 cd9 ct9),sl9⟩) (c9:PySem.W.codeIn K cd9 "begin"=true) (k9:PySem.W.keepIn K (.ref f9)=true)
  (a10:PySem.W.nsIn K mainGlobals "by_wrong_key"=some (some (.ref f10))) (l10:K.lookup f10=some ⟨oc10,od10,.func (PySem.W.fnOf "by_wrong_key" "by_wrong_key" (zav zb6) (zar zb6) (zac zb6) .none kV10 dc10 pm10 an10 cd10 ct10),sl10⟩) (c10:PySem.W.codeIn K cd10 "by_wrong_key"=true) (k10:PySem.W.keepIn K (.ref f10)=true)
  (a11:PySem.W.nsIn K mainGlobals "by_key"=some (some (.ref f11))) (l11:K.lookup f11=some ⟨oc11,od11,.func (PySem.W.fnOf "by_key" "by_key" (zav zf9) (zar zf9) (zac zf9) .none kV11 dc11 pm11 an11 cd11 ct11),sl11⟩) (c11:PySem.W.codeIn K cd11 "by_key"=true) (k11:PySem.W.keepIn K (.ref f11)=true)
  (a12:PySem.W.nsIn K mainGlobals "by_wait"=some (some (.ref f12))) (l12:K.lookup f12=some ⟨oc12,od12,.func (PySem.W.fnOf "by_wait" "by_wait" (zav zeq) (zar zeq) (zac zeq) .none kV12 dc12 pm12 an12 cd12 ct12),sl12⟩) (c12:PySem.W.codeIn K cd12 "by_wait"=true) (k12:PySem.W.keepIn K (.ref f12)=true)
  (a13:PySem.W.nsIn K mainGlobals "follow"=some (some (.ref f13))) (l13:K.lookup f13=some ⟨oc13,od13,.func (PySem.W.fnOf "follow" "follow" (zav zf8) (zar zf8) (zac zf8) .none kV13 dc13 pm13 an13 cd13 ct13),sl13⟩) (c13:PySem.W.codeIn K cd13 "follow"=true) (k13:PySem.W.keepIn K (.ref f13)=true)
  (a14:PySem.W.nsIn K mainGlobals "beginning_counts"=some (some (.ref f14))) (l14:K.lookup f14=some ⟨oc14,od14,.func (PySem.W.fnOf "beginning_counts" "beginning_counts" (zav zba) (zar zba) (zac zba) .none kV14 dc14 pm14 an14 cd14 ct14),sl14⟩) (c14:PySem.W.codeIn K cd14 "beginning_counts"=true) (k14:PySem.W.keepIn K (.ref f14)=true)
  (a15:PySem.W.nsIn K mainGlobals "key_of"=some (some (.ref f15))) (l15:K.lookup f15=some ⟨oc15,od15,.func (PySem.W.fnOf "key_of" "key_of" (zav zf6) (zar zf6) (zac zf6) .none kV15 dc15 pm15 an15 cd15 ct15),sl15⟩) (c15:PySem.W.codeIn K cd15 "key_of"=true) (k15:PySem.W.keepIn K (.ref f15)=true)
  (a16:PySem.W.nsIn K mainGlobals "code_of"=some (some (.ref f16))) (l16:K.lookup f16=some ⟨oc16,od16,.func (PySem.W.fnOf "code_of" "code_of" (zav zd6) (zar zd6) (zac zd6) .none kV16 dc16 pm16 an16 cd16 ct16),sl16⟩) (c16:PySem.W.codeIn K cd16 "code_of"=true) (k16:PySem.W.keepIn K (.ref f16)=true)
  (a17:PySem.W.nsIn K mainGlobals "own_beginning"=some (some (.ref f17))) (l17:K.lookup f17=some ⟨oc17,od17,.func (PySem.W.fnOf "own_beginning" "own_beginning" (zav zbw) (zar zbw) (zac zbw) .none kV17 dc17 pm17 an17 cd17 ct17),sl17⟩) (c17:PySem.W.codeIn K cd17 "own_beginning"=true) (k17:PySem.W.keepIn K (.ref f17)=true)
  (a18:PySem.W.nsIn K mainGlobals "beginnings"=some (some (.ref f18))) (l18:K.lookup f18=some ⟨oc18,od18,.func (PySem.W.fnOf "beginnings" "beginnings" (zav zb1) (zar zb1) (zac zb1) .none kV18 dc18 pm18 an18 cd18 ct18),sl18⟩) (c18:PySem.W.codeIn K cd18 "beginnings"=true) (k18:PySem.W.keepIn K (.ref f18)=true)
  (a19:PySem.W.nsIn K mainGlobals "names_ways"=some (some (.ref f19))) (l19:K.lookup f19=some ⟨oc19,od19,.func (PySem.W.fnOf "names_ways" "names_ways" (zav zcs) (zar zcs) (zac zcs) .none kV19 dc19 pm19 an19 cd19 ct19),sl19⟩) (c19:PySem.W.codeIn K cd19 "names_ways"=true) (k19:PySem.W.keepIn K (.ref f19)=true)
  (a20:PySem.W.nsIn K mainGlobals "room_ways"=some (some (.ref f20))) (l20:K.lookup f20=some ⟨oc20,od20,.func (PySem.W.fnOf "room_ways" "room_ways" (zav zc7) (zar zc7) (zac zc7) .none kV20 dc20 pm20 an20 cd20 ct20),sl20⟩) (c20:PySem.W.codeIn K cd20 "room_ways"=true) (k20:PySem.W.keepIn K (.ref f20)=true)
  (a21:PySem.W.nsIn K mainGlobals "house_ways"=some (some (.ref f21))) (l21:K.lookup f21=some ⟨oc21,od21,.func (PySem.W.fnOf "house_ways" "house_ways" (zav zct) (zar zct) (zac zct) .none kV21 dc21 pm21 an21 cd21 ct21),sl21⟩) (c21:PySem.W.codeIn K cd21 "house_ways"=true) (k21:PySem.W.keepIn K (.ref f21)=true)
  (a22:PySem.W.nsIn K mainGlobals "first_rows"=some (some (.ref f22))) (l22:K.lookup f22=some ⟨oc22,od22,.func (PySem.W.fnOf "first_rows" "first_rows" (zav zcu) (zar zcu) (zac zcu) .none kV22 dc22 pm22 an22 cd22 ct22),sl22⟩) (c22:PySem.W.codeIn K cd22 "first_rows"=true) (k22:PySem.W.keepIn K (.ref f22)=true)
  (a23:PySem.W.nsIn K mainGlobals "places"=some (some (.ref f23))) (l23:K.lookup f23=some ⟨oc23,od23,.func (PySem.W.fnOf "places" "places" (zav zed) (zar zed) (zac zed) .none kV23 dc23 pm23 an23 cd23 ct23),sl23⟩) (c23:PySem.W.codeIn K cd23 "places"=true) (k23:PySem.W.keepIn K (.ref f23)=true)
  (a24:PySem.W.nsIn K mainGlobals "_law_are_pairs"=some (some (.ref f24))) (l24:K.lookup f24=some ⟨oc24,od24,.func (PySem.W.fnOf "_law_are_pairs" "_law_are_pairs" (zav zbx) (zar zbx) (zac zbx) .none kV24 dc24 pm24 an24 cd24 ct24),sl24⟩) (c24:PySem.W.codeIn K cd24 "_law_are_pairs"=true) (k24:PySem.W.keepIn K (.ref f24)=true)
  (a25:PySem.W.nsIn K mainGlobals "step"=some (some (.ref f25))) (l25:K.lookup f25=some ⟨oc25,od25,.func (PySem.W.fnOf "step" "step" (zav zkf) (zar zkf) (zac zkf) .none kV25 dc25 pm25 an25 cd25 ct25),sl25⟩) (c25:PySem.W.codeIn K cd25 "step"=true) (k25:PySem.W.keepIn K (.ref f25)=true)
  (a26:PySem.W.nsIn K mainGlobals "walk_on"=some (some (.ref f26))) (l26:K.lookup f26=some ⟨oc26,od26,.func (PySem.W.fnOf "walk_on" "walk_on" (zav zeo) (zar zeo) (zac zeo) .none kV26 dc26 pm26 an26 cd26 ct26),sl26⟩) (c26:PySem.W.codeIn K cd26 "walk_on"=true) (k26:PySem.W.keepIn K (.ref f26)=true)
  (a27:PySem.W.nsIn K mainGlobals "walk"=some (some (.ref f27))) (l27:K.lookup f27=some ⟨oc27,od27,.func (PySem.W.fnOf "walk" "walk" (zav zke) (zar zke) (zac zke) .none kV27 dc27 pm27 an27 cd27 ct27),sl27⟩) (c27:PySem.W.codeIn K cd27 "walk"=true) (k27:PySem.W.keepIn K (.ref f27)=true)
  (a28:PySem.W.nsIn K mainGlobals "_law_key"=some (some (.ref f28))) (l28:K.lookup f28=some ⟨oc28,od28,.func (PySem.W.fnOf "_law_key" "_law_key" (zav zd5) (zar zd5) (zac zd5) .none kV28 dc28 pm28 an28 cd28 ct28),sl28⟩) (c28:PySem.W.codeIn K cd28 "_law_key"=true) (k28:PySem.W.keepIn K (.ref f28)=true)
  (a29:PySem.W.nsIn K mainGlobals "law"=some (some (.ref f29))) (l29:K.lookup f29=some ⟨oc29,od29,.func (PySem.W.fnOf "law" "law" (zav zk2) (zar zk2) (zac zk2) .none kV29 dc29 pm29 an29 cd29 ct29),sl29⟩) (c29:PySem.W.codeIn K cd29 "law"=true) (k29:PySem.W.keepIn K (.ref f29)=true)
  {cP:Addr} (hcode:cd23=.ref cP) (hhd:PySem.W.codeHdIn K cP PT=true)
  (z_dict:PySem.W.nsIn K mainGlobals "dict"=some none)
  (z_enumerate:PySem.W.nsIn K mainGlobals "enumerate"=some none)
  (z_int:PySem.W.nsIn K mainGlobals "int"=some none)
  (z_isinstance:PySem.W.nsIn K mainGlobals "isinstance"=some none)
  (z_len:PySem.W.nsIn K mainGlobals "len"=some none)
  (z_list:PySem.W.nsIn K mainGlobals "list"=some none)
  (z_range:PySem.W.nsIn K mainGlobals "range"=some none)
  (z_str:PySem.W.nsIn K mainGlobals "str"=some none)
  (z_tuple:PySem.W.nsIn K mainGlobals "tuple"=some none)
  (z_zip:PySem.W.nsIn K mainGlobals "zip"=some none)
  (c_CODE_END:@Con (tw w) K mg "CODE_END" c_CODE_END)
  (c_SIGNS:@Con (tw w) K mg "SIGNS" c_SIGNS)
  (c_WAIT:@Con (tw w) K mg "WAIT" c_WAIT)
  : ∃fd:FuncData,(∀(s:Shared) (v:Value),BindsTo s fd ⟨[v],[]⟩ [("_law_script",v)])/\∀base:Heap,K.In base->base.Ns mainGlobals mg->(∃bm o,mg "__builtins__"=some (.ref bm)/\bm≠builtinsNs/\bm≠mainGlobals/\base.get? bm=some o/\o.cls=.type "module"/\o.dict=some builtinsNs/\o.data=.plain)->FnOk l.prog w K mg base CX0 10 fa fd ["_law_script"] (@spP (tw w) K 1 zst):=by
 have e:=hfa.symm.trans (PySem.W.mg_of X G a29)
 cases e
 have T:Txt w K mg:=⟨PySem.W.mg_none_of X G z_dict,PySem.W.mg_none_of X G z_enumerate,PySem.W.mg_none_of X G z_int,PySem.W.mg_none_of X G z_isinstance,PySem.W.mg_none_of X G z_len,PySem.W.mg_none_of X G z_list,PySem.W.mg_none_of X G z_range,PySem.W.mg_none_of X G z_str,PySem.W.mg_none_of X G z_tuple,PySem.W.mg_none_of X G z_zip,c_CODE_END,c_SIGNS,c_WAIT⟩
 have F0:=zbi (st:=zce) l0 c0 k0
 have b0:=F0.binds (ps:=["_law_cell","_law_many"]) fun _ _ _ _ _ _ us hl=>match us,hl with | [_,_],_=>rfl
 have F1:=zbi (st:=zc8) l1 c1 k1
 have b1:=F1.binds (ps:=["_law_cell"]) fun _ _ _ _ _ _ us hl=>match us,hl with | [_],_=>rfl
 have F2:=zbi (st:=za6) l2 c2 k2
 have b2:=F2.binds (ps:=["_law_names_here","_law_cell","_law_low"]) fun _ _ _ _ _ _ us hl=>match us,hl with | [_,_,_],_=>rfl
 have F3:=zbi (st:=zcf) l3 c3 k3
 have b3:=F3.binds (ps:=["_law_script","_law_k"]) fun _ _ _ _ _ _ us hl=>match us,hl with | [_,_],_=>rfl
 have F4:=zbi (st:=zd0) l4 c4 k4
 have b4:=F4.binds (ps:=["_law_names_here","_law_text","_law_cell","_law_low"]) fun _ _ _ _ _ _ us hl=>match us,hl with | [_,_,_,_],_=>rfl
 have F5:=zbi (st:=zc9) l5 c5 k5
 have b5:=F5.binds (ps:=["_law_script"]) fun _ _ _ _ _ _ us hl=>match us,hl with | [_],_=>rfl
 have F6:=zbi (st:=zf7) l6 c6 k6
 have b6:=F6.binds (ps:=["room","hour"]) fun _ _ _ _ _ _ us hl=>match us,hl with | [_,_],_=>rfl
 have F7:=zbi (st:=zep) l7 c7 k7
 have b7:=F7.binds (ps:=["H","hour","name"]) fun _ _ _ _ _ _ us hl=>match us,hl with | [_,_,_],_=>rfl
 have F8:=zbi (st:=zer) l8 c8 k8
 have b8:=F8.binds (ps:=["H","hour","name","back"]) fun _ _ _ _ _ _ us hl=>match us,hl with | [_,_,_,_],_=>rfl
 have F9:=zbi (st:=zhx) l9 c9 k9
 have b9:=F9.binds (ps:=["H","hour"]) fun _ _ _ _ _ _ us hl=>match us,hl with | [_,_],_=>rfl
 have F10:=zbi (st:=zb6) l10 c10 k10
 have b10:=F10.binds (ps:=["H","hour","state"]) fun _ _ _ _ _ _ us hl=>match us,hl with | [_,_,_],_=>rfl
 have F11:=zbi (st:=zf9) l11 c11 k11
 have b11:=F11.binds (ps:=["H","hour","ways","state","key"]) fun _ _ _ _ _ _ us hl=>match us,hl with | [_,_,_,_,_],_=>rfl
 have F12:=zbi (st:=zeq) l12 c12 k12
 have b12:=F12.binds (ps:=["H","hour","state"]) fun _ _ _ _ _ _ us hl=>match us,hl with | [_,_,_],_=>rfl
 have F13:=zbi (st:=zf8) l13 c13 k13
 have b13:=F13.binds (ps:=["H","hour","ways","state","sign"]) fun _ _ _ _ _ _ us hl=>match us,hl with | [_,_,_,_,_],_=>rfl
 have F14:=zbi (st:=zba) l14 c14 k14
 have b14:=F14.binds (ps:=["codes"]) fun _ _ _ _ _ _ us hl=>match us,hl with | [_],_=>rfl
 have F15:=zbi (st:=zf6) l15 c15 k15
 have b15:=F15.binds (ps:=["letters","letter"]) fun _ _ _ _ _ _ us hl=>match us,hl with | [_,_],_=>rfl
 have F16:=zbi (st:=zd6) l16 c16 k16
 have b16:=F16.binds (ps:=["letters","word"]) fun _ _ _ _ _ _ us hl=>match us,hl with | [_,_],_=>rfl
 have F17:=zbi (st:=zbw) l17 c17 k17
 have b17:=F17.binds (ps:=["code","counts"]) fun _ _ _ _ _ _ us hl=>match us,hl with | [_,_],_=>rfl
 have F18:=zbi (st:=zb1) l18 c18 k18
 have b18:=F18.binds (ps:=["letters","words"]) fun _ _ _ _ _ _ us hl=>match us,hl with | [_,_],_=>rfl
 have F19:=zbi (st:=zcs) l19 c19 k19
 have b19:=F19.binds (ps:=["letters","names"]) fun _ _ _ _ _ _ us hl=>match us,hl with | [_,_],_=>rfl
 have F20:=zbi (st:=zc7) l20 c20 k20
 have b20:=F20.binds (ps:=["H","name"]) fun _ _ _ _ _ _ us hl=>match us,hl with | [_,_],_=>rfl
 have F21:=zbi (st:=zct) l21 c21 k21
 have b21:=F21.binds (ps:=["H"]) fun _ _ _ _ _ _ us hl=>match us,hl with | [_],_=>rfl
 have F22:=zbi (st:=zcu) l22 c22 k22
 have b22:=F22.binds (ps:=["start","lead","is_last"]) fun _ _ _ _ _ _ us hl=>match us,hl with | [_,_,_],_=>rfl
 have F23:=zbi (st:=zed) l23 c23 k23
 have b23:=F23.binds (ps:=["H","hour"]) fun _ _ _ _ _ _ us hl=>match us,hl with | [_,_],_=>rfl
 have F24:=zbi (st:=zbx) l24 c24 k24
 have b24:=F24.binds (ps:=["_law_found"]) fun _ _ _ _ _ _ us hl=>match us,hl with | [_],_=>rfl
 have F25:=zbi (st:=zkf) l25 c25 k25
 have b25:=F25.binds (ps:=["H","hour","state","sign"]) fun _ _ _ _ _ _ us hl=>match us,hl with | [_,_,_,_],_=>rfl
 have F26:=zbi (st:=zeo) l26 c26 k26
 have b26:=F26.binds (ps:=["H","hour","state","row"]) fun _ _ _ _ _ _ us hl=>match us,hl with | [_,_,_,_],_=>rfl
 have F27:=zbi (st:=zke) l27 c27 k27
 have b27:=F27.binds (ps:=["H","hour","row"]) fun _ _ _ _ _ _ us hl=>match us,hl with | [_,_,_],_=>rfl
 have F28:=zbi (st:=zd5) l28 c28 k28
 have b28:=F28.binds (ps:=["_law_row"]) fun _ _ _ _ _ _ us hl=>match us,hl with | [_],_=>rfl
 have F29:=zbi (st:=zk2) l29 c29 k29
 refine⟨PySem.W.fnOf "law" "law" (zav zk2) (zar zk2) (zac zk2) .none kV29 dc29 pm29 an29 cd29 ct29,fun s v=>.of_eq rfl,fun base hKb _ hbn=>?_⟩
 have p_law_numbers:=za8 (P:=l.prog) (base:=base) T F0 (PySem.W.mg_of X G a0) b0
 have p_law_names:=zfr (P:=l.prog) (base:=base) T F1 (PySem.W.mg_of X G a1) b1 p_law_numbers
 have p_law_room_of_names:=zbt (P:=l.prog) (base:=base) T F2 (PySem.W.mg_of X G a2) b2 p_law_numbers
 have p_law_cell_at:=zay (P:=l.prog) (base:=base) T F3 (PySem.W.mg_of X G a3) b3
 have p_law_menu:=zgr (P:=l.prog) (base:=base) T F4 (PySem.W.mg_of X G a4) b4 p_law_numbers
 have p_law_house:=zee (P:=l.prog) (base:=base) T F5 (PySem.W.mg_of X G a5) b5 p_law_names p_law_cell_at p_law_menu p_law_room_of_names p_law_numbers
 have p_handed:=zi7 (P:=l.prog) (base:=base) T F6 (PySem.W.mg_of X G a6) b6
 have p_come_to:=zh0 (P:=l.prog) (base:=base) T F7 (PySem.W.mg_of X G a7) b7 p_handed
 have p_arrival:=zcg (P:=l.prog) (base:=base) T F8 (PySem.W.mg_of X G a8) b8 p_come_to
 have p_begin:=ze7 (P:=l.prog) (base:=base) T F9 (PySem.W.mg_of X G a9) b9 p_arrival
 have p_by_wrong_key:=zcz (P:=l.prog) (base:=base) T F10 (PySem.W.mg_of X G a10) b10 p_arrival
 have p_by_key:=zi8 (P:=l.prog) (base:=base) T F11 (PySem.W.mg_of X G a11) b11 p_by_wrong_key p_arrival
 have p_by_wait:=zh2 (P:=l.prog) (base:=base) T F12 (PySem.W.mg_of X G a12) b12 p_arrival
 have p_follow:=zcy (P:=l.prog) (base:=base) T F13 (PySem.W.mg_of X G a13) b13 p_by_wait p_by_key
 have LT:=lamT (P:=l.prog) (base:=base) T p_follow
 have p_beginning_counts:=zcp (P:=l.prog) (base:=base) T F14 (PySem.W.mg_of X G a14) b14
 have p_key_of:=zi6 (P:=l.prog) (base:=base) T F15 (PySem.W.mg_of X G a15) b15
 have p_code_of:=zh1 (P:=l.prog) (base:=base) T F16 (PySem.W.mg_of X G a16) b16 p_key_of
 have p_own_beginning:=zdn (P:=l.prog) (base:=base) T F17 (PySem.W.mg_of X G a17) b17
 have p_beginnings:=ze6 (P:=l.prog) (base:=base) T F18 (PySem.W.mg_of X G a18) b18 p_code_of p_beginning_counts p_own_beginning
 have p_names_ways:=ze4 (P:=l.prog) (base:=base) T F19 (PySem.W.mg_of X G a19) b19 p_beginnings
 have p_room_ways:=zdg (P:=l.prog) (base:=base) T F20 (PySem.W.mg_of X G a20) b20 p_names_ways
 have p_house_ways:=zcx (P:=l.prog) (base:=base) T F21 (PySem.W.mg_of X G a21) b21 p_room_ways
 have p_first_rows:=ze5 (P:=l.prog) (base:=base) T F22 (PySem.W.mg_of X G a22) b22 LT
 have p_places:=zg7 (P:=l.prog) (base:=base) T F23 (PySem.W.mg_of X G a23) b23 hcode hhd hKb hbn p_house_ways p_first_rows p_begin
 have p_law_are_pairs:=zdp (P:=l.prog) (base:=base) T F24 (PySem.W.mg_of X G a24) b24
 have p_step:=znb (P:=l.prog) (base:=base) T F25 (PySem.W.mg_of X G a25) b25 p_follow p_room_ways
 have p_walk_on:=zhz (P:=l.prog) (base:=base) T F26 (PySem.W.mg_of X G a26) b26 p_house_ways p_follow
 have p_walk:=zna (P:=l.prog) (base:=base) T F27 (PySem.W.mg_of X G a27) b27 p_walk_on p_begin
 have p_law_key:=zd1 (P:=l.prog) (base:=base) T F28 (PySem.W.mg_of X G a28) b28
 exact Zbb T F29 p_law_house p_law_cell_at p_places p_law_are_pairs p_begin p_law_key p_walk p_step
theorem walk{l:PySem.W.OpenLaw}{q:Program}{loose:List Str}{XP:(Str->Option Value)->Heap->Prop}{YP:World->Heap->Prop}{d:DefRec}{K:Params->PySem.W.Frag}(hn:l.most=some 63)(hdf:d.params.defaults=[])
  (hY:∀(w:World)(h:Heap),YP w h->(K w.params).In h) (hT:∀(w:World)(h:Heap),YP w h->∀P∈[PT],h.get? P=some (PySem.W.tabObj #[])) (hC:∀(w:World),∀P∈[PT],∃c,PySem.W.codeHdIn (K w.params) c P=true) (hL:∀(w:World),∀P∈[PT],(K w.params).lookup P=none)
  (F:∀(w:World)(mg:Str->Option Value)(fa:Addr)(h:Heap),(K w.params).In h->h.Ns mainGlobals mg->mg d.name=some (.ref fa)->
   ∃fd:FuncData,(∀(s:Shared) (u:Value),BindsTo s fd ⟨[u],[]⟩ [("_law_script",u)])/\∀base:Heap,(K w.params).In base->base.Ns mainGlobals mg->(∃bm o,mg "__builtins__"=some (.ref bm)/\bm≠builtinsNs/\bm≠mainGlobals/\base.get? bm=some o/\o.cls=.type "module"/\o.dict=some builtinsNs/\o.data=.plain)->FnOk l.prog w (K w.params) mg base CX0 10 fa fd ["_law_script"] (@spP (tw w) (K w.params) 1 zst)) :
  PySem.W.WalkO q loose XP YP l.row.toRowW d [] (fun f vs=>PySem.call f vs):=
 L2.walk_ofT (n:=63) (k:=10) (x:="_law_script") (CX:=fun _=>CX0) (sp:=fun w=>@spP (tw w) (K w.params) 1 zst) hn (by decide) hdf ⟨rfl,by decide,by decide⟩ [PT] hY hT hC hL F
  (fun w _ a ns hl hT hS=>letI:TW:=tw w;⟨rfl,tabs0 (ts:=[PT]) rfl hT,_,_,zpo hS,zu2 ns,fun v _ _ r=>r⟩) fun _ _ _ _ _ z=>z
end K31
def PySem.W.Fast.tw729946392665423378:Nat:=0
def PySem.W.Fast.tw16455827158224320794:Nat:=0
def PySem.W.Fast.tw4617129747237147799:Nat:=0
def PySem.W.Fast.tw5903224325257013158:Nat:=0
def PySem.W.Fast.tw6279546768926499679:Nat:=0
def PySem.W.Fast.tw1081898607330138438:Nat:=0
def PySem.W.Fast.tw13059729729176674436:Nat:=0
def PySem.W.Fast.tw2667583512741550568:Nat:=0
def PySem.W.Fast.tw14783198438829952251:Nat:=0
open PySem PySem.W PyProof.Rows
set_option maxRecDepth 100000 in
set_option maxHeartbeats 0 in
theorem PySem.Challenge.cw_menutree_k31_whole_places_holds : PySem.Challenge.rw_menutree_k31_whole_places.Holds := by
 w_on;o_law;km_head;(case hw=>w_witness2)
 k_fill
 refine K31.walk (l:=PySem.Challenge.rw_menutree_k31_whole_places) rfl rfl (fun w h Y=>PySem.W.km_in_of Y) (fun w h Y=>PySem.W.km_tabs_of Y) ?C ?L ?F
 case F=>
  intro w mg fa h KX G hmg
  refine' K31.all_mk KX G hmg ?a0 ?l0 ?c0 ?k0 ?a1 ?l1 ?c1 ?k1 ?a2 ?l2 ?c2 ?k2 ?a3 ?l3 ?c3 ?k3 ?a4 ?l4 ?c4 ?k4 ?a5 ?l5 ?c5 ?k5 ?a6 ?l6 ?c6 ?k6 ?a7 ?l7 ?c7 ?k7 ?a8 ?l8 ?c8 ?k8 ?a9 ?l9 ?c9 ?k9 ?a10 ?l10 ?c10 ?k10 ?a11 ?l11 ?c11 ?k11 ?a12 ?l12 ?c12 ?k12 ?a13 ?l13 ?c13 ?k13 ?a14 ?l14 ?c14 ?k14 ?a15 ?l15 ?c15 ?k15 ?a16 ?l16 ?c16 ?k16 ?a17 ?l17 ?c17 ?k17 ?a18 ?l18 ?c18 ?k18 ?a19 ?l19 ?c19 ?k19 ?a20 ?l20 ?c20 ?k20 ?a21 ?l21 ?c21 ?k21 ?a22 ?l22 ?c22 ?k22 ?a23 ?l23 ?c23 ?k23 ?a24 ?l24 ?c24 ?k24 ?a25 ?l25 ?c25 ?k25 ?a26 ?l26 ?c26 ?k26 ?a27 ?l27 ?c27 ?k27 ?a28 ?l28 ?c28 ?k28 ?a29 ?l29 ?c29 ?k29 ?hcode ?hhd ?z_dict ?z_enumerate ?z_int ?z_isinstance ?z_len ?z_list ?z_range ?z_str ?z_tuple ?z_zip ?q_CODE_END ?q_SIGNS ?q_WAIT
  (case a0=>k_is)
  (case l0=>k_is)
  (case c0=>k_is)
  (case k0=>k_is)
  (case a1=>k_is)
  (case l1=>k_is)
  (case c1=>k_is)
  (case k1=>k_is)
  (case a2=>k_is)
  (case l2=>k_is)
  (case c2=>k_is)
  (case k2=>k_is)
  (case a3=>k_is)
  (case l3=>k_is)
  (case c3=>k_is)
  (case k3=>k_is)
  (case a4=>k_is)
  (case l4=>k_is)
  (case c4=>k_is)
  (case k4=>k_is)
  (case a5=>k_is)
  (case l5=>k_is)
  (case c5=>k_is)
  (case k5=>k_is)
  (case a6=>k_is)
  (case l6=>k_is)
  (case c6=>k_is)
  (case k6=>k_is)
  (case a7=>k_is)
  (case l7=>k_is)
  (case c7=>k_is)
  (case k7=>k_is)
  (case a8=>k_is)
  (case l8=>k_is)
  (case c8=>k_is)
  (case k8=>k_is)
  (case a9=>k_is)
  (case l9=>k_is)
  (case c9=>k_is)
  (case k9=>k_is)
  (case a10=>k_is)
  (case l10=>k_is)
  (case c10=>k_is)
  (case k10=>k_is)
  (case a11=>k_is)
  (case l11=>k_is)
  (case c11=>k_is)
  (case k11=>k_is)
  (case a12=>k_is)
  (case l12=>k_is)
  (case c12=>k_is)
  (case k12=>k_is)
  (case a13=>k_is)
  (case l13=>k_is)
  (case c13=>k_is)
  (case k13=>k_is)
  (case a14=>k_is)
  (case l14=>k_is)
  (case c14=>k_is)
  (case k14=>k_is)
  (case a15=>k_is)
  (case l15=>k_is)
  (case c15=>k_is)
  (case k15=>k_is)
  (case a16=>k_is)
  (case l16=>k_is)
  (case c16=>k_is)
  (case k16=>k_is)
  (case a17=>k_is)
  (case l17=>k_is)
  (case c17=>k_is)
  (case k17=>k_is)
  (case a18=>k_is)
  (case l18=>k_is)
  (case c18=>k_is)
  (case k18=>k_is)
  (case a19=>k_is)
  (case l19=>k_is)
  (case c19=>k_is)
  (case k19=>k_is)
  (case a20=>k_is)
  (case l20=>k_is)
  (case c20=>k_is)
  (case k20=>k_is)
  (case a21=>k_is)
  (case l21=>k_is)
  (case c21=>k_is)
  (case k21=>k_is)
  (case a22=>k_is)
  (case l22=>k_is)
  (case c22=>k_is)
  (case k22=>k_is)
  (case a23=>k_is)
  (case l23=>k_is)
  (case c23=>k_is)
  (case k23=>k_is)
  (case a24=>k_is)
  (case l24=>k_is)
  (case c24=>k_is)
  (case k24=>k_is)
  (case a25=>k_is)
  (case l25=>k_is)
  (case c25=>k_is)
  (case k25=>k_is)
  (case a26=>k_is)
  (case l26=>k_is)
  (case c26=>k_is)
  (case k26=>k_is)
  (case a27=>k_is)
  (case l27=>k_is)
  (case c27=>k_is)
  (case k27=>k_is)
  (case a28=>k_is)
  (case l28=>k_is)
  (case c28=>k_is)
  (case k28=>k_is)
  (case a29=>k_is)
  (case l29=>k_is)
  (case c29=>k_is)
  (case k29=>k_is)
  (case hcode=>exact rfl)
  (case hhd=>exact rfl)
  (case z_dict=>k_is)
  (case z_enumerate=>k_is)
  (case z_int=>k_is)
  (case z_isinstance=>k_is)
  (case z_len=>k_is)
  (case z_list=>k_is)
  (case z_range=>k_is)
  (case z_str=>k_is)
  (case z_tuple=>k_is)
  (case z_zip=>k_is)
  (case q_CODE_END=>(refine' PU.con_str KX G ?n1;(case n1=>k_is)))
  (case q_SIGNS=>(refine' PU.con_str KX G ?n1;(case n1=>k_is)))
  (case q_WAIT=>(refine' PU.con_str KX G ?n1;(case n1=>k_is)))
 case C=>
  intro w P hP;cases List.mem_singleton.mp hP;exact⟨156,rfl⟩
 case L=>
  intro w P hP;cases List.mem_singleton.mp hP;exact rfl
