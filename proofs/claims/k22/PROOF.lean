import PyProof.Rows.All
import Wide.All
import OpenK.AllK
import Wide.FinOn
import Lean
import PyProof.EqAt
import PyProof.EqKinds
import PyProof.TupleCall
import PyProof.StrLawsIdx
import PyProof.StrBlockH
import PyProof.EnumStmt
import PyProof.ListNew
import PyProof.AutoListH
import PyProof.TupleIter
import PyProof.ZipIter
import PyProof.Rows.ZipGen
import KE.KDictOf
import PyProof.ListIndex
import PyProof.AttrMissHeap
import PyProof.NeKinds
import PyProof.StrLawsIn
import PySem.Challenge.RW_menutree_k22_whole_calls_walked
set_option Elab.async false
set_option linter.all false
set_option maxRecDepth 100000
set_option maxHeartbeats 16000000
section
namespace L2
open PySem PySem.Spec PyProof.Rows
abbrev Key:=Sum Int Str
def znp:Key->Value->Bool
 | .inl k,v=>Value.isInt k v
 | .inr x,v=>Value.isStrOf x v
def keyH (w:World):Key->Int
 | .inl k=>hashInt k
 | .inr x=>hashStr w x
theorem zbq:∀ {k:Key} {v:Value},znp k v=true->(∃ i t,k=Sum.inl i/\v=Value.int i t)\/(∃ x t,k=Sum.inr x/\v=Value.str x t)
 | .inl i,v,h=>by
  obtain ⟨t,e⟩:=Value.isInt_shape (k:=i) (v:=v) h
  exact .inl ⟨i,t,rfl,e⟩
 | .inr x,v,h=>by
  obtain ⟨t,e⟩:=Value.isStrOf_shape (x:=x) (v:=v) h
  exact .inr ⟨x,t,rfl,e⟩
theorem zrl (i:Int) (t:Tok):znp (.inl i) (.int i t)=true:=by simp [znp,Value.isInt]
theorem zrk (x:Str) (t:Tok):znp (.inr x) (.str x t)=true:=by simp [znp,Value.isStrOf]
theorem key_ll (a b:Int):decide ((Sum.inl a:Key)=Sum.inl b)=(a == b):=by
 by_cases e:a=b
 ·subst e;simp
 ·have h:¬ (Sum.inl a:Key)=Sum.inl b:=fun q=>e (Sum.inl.inj q)
  rw [decide_eq_false h]
  exact (beq_eq_false_iff_ne.mpr e).symm
theorem key_rr (a b:Str):decide ((Sum.inr a:Key)=Sum.inr b)=decide (a=b):=by
 by_cases e:a=b
 ·subst e;simp
 ·have h:¬ (Sum.inr a:Key)=Sum.inr b:=fun q=>e (Sum.inr.inj q)
  rw [decide_eq_false h,decide_eq_false e]
theorem key_lr (a:Int) (b:Str):decide ((Sum.inl a:Key)=Sum.inr b)=false:=decide_eq_false (fun q=>nomatch q)
theorem key_rl (a:Str) (b:Int):decide ((Sum.inr a:Key)=Sum.inl b)=false:=decide_eq_false (fun q=>nomatch q)
def za2 (prog:Program) (w:World):PySem.KeyKind prog w Key where
 is:=znp
 hash:=keyH w
 inj:=fun v a b ha hb=>by
  rcases zbq ha with ⟨i,t,rfl,rfl⟩ | ⟨x,t,rfl,rfl⟩
  ·rcases zbq hb with ⟨j,u,rfl,e⟩ | ⟨y,u,rfl,e⟩
   ·injection e with e1 _;rw [e1]
   ·exact nomatch e
  ·rcases zbq hb with ⟨j,u,rfl,e⟩ | ⟨y,u,rfl,e⟩
   ·exact nomatch e
   ·injection e with e1 _;rw [e1]
 byValue:=fun k v h=>by
  rcases zbq h with ⟨i,t,rfl,rfl⟩ | ⟨x,t,rfl,rfl⟩ <;> rfl
 pyHash:=fun hv h=>by
  rcases zbq hv with ⟨i,t,rfl,rfl⟩ | ⟨x,t,rfl,rfl⟩
  ·exact wpAny_pyHash_int h
  ·exact wpAny_pyHash_str h
 eqBool:=fun hu hv h=>by
  rcases zbq hu with ⟨i,t,rfl,rfl⟩ | ⟨x,t,rfl,rfl⟩
  ·rcases zbq hv with ⟨j,u,rfl,rfl⟩ | ⟨y,u,rfl,rfl⟩
   ·rw [key_ll] at h;exact wpAny_eqBool_int h
   ·rw [key_lr] at h;exact SeqAt.EqAt.int_str i t y u _ _ _ _ h
  ·rcases zbq hv with ⟨j,u,rfl,rfl⟩ | ⟨y,u,rfl,rfl⟩
   ·rw [key_rl] at h;exact SeqAt.EqAt.str_int x t j u _ _ _ _ h
   ·rw [key_rr] at h;exact wpAny_eqBool_str h
 «strs»:=fun k x t v h=>by
  rcases zbq h with ⟨i,u,rfl,e⟩ | ⟨y,u,rfl,e⟩
  ·exact nomatch e
  ·injection e with e1 _
   subst e1
   cases v <;> rfl
theorem znl (prog:Program) (w:World) (i:Int) (t:Tok):(za2 prog w).is (.inl i) (.int i t)=true:=zrl i t
theorem zf9 (prog:Program) (w:World) (x:Str) (t:Tok):(za2 prog w).is (.inr x) (.str x t)=true:=zrk x t
end L2
namespace L2
open PySem PySem.Spec PyProof.Rows
inductive V where
 | non | bl (b:Bool) | int (i:Int) | str (x:Str) | byt (b:Array UInt8) | flt (b:UInt64) | ref (a:Addr) | ty (n:String)
 deriving DecidableEq
def RelV:V->Value->Prop
 | .non,u=>u=Value.none
 | .bl b,u=>u=Value.bool b
 | .int i,u=>∃ t,u=Value.int i t
 | .str x,u=>∃ t,u=Value.str x t
 | .byt b,u=>∃ t,u=Value.bytes b t
 | .flt b,u=>∃ t,u=Value.float b t
 | .ref a,u=>u=Value.ref a
 | .ty n,u=>u=Value.type n
abbrev Vals:List V->List Value->Prop:=Paired RelV
theorem Vals.length {xs:List V} {us:List Value} (r:Vals xs us):xs.length=us.length:=Paired.length r
theorem Vals.get:∀ {xs:List V} {us:List Value} {i:Nat} {x:V},Vals xs us->xs[i]?=some x->∃ u,us[i]?=some u/\RelV x u
 | _,_,_,_,.nil,e=>by simp at e
 | _,_,0,_,.cons r _,e=>by simp at e;subst e;exact ⟨_,rfl,r⟩
 | _,_,i + 1,x,.cons _ t,e=>by
  obtain ⟨u,h1,h2⟩:=Vals.get (i:=i) (x:=x) t (by simpa using e)
  exact ⟨u,by simpa using h1,h2⟩
theorem Vals.append:∀ {xs ys:List V} {us ws:List Value},Vals xs us->Vals ys ws->Vals (xs++ys) (us++ws)
 | _,_,_,_,.nil,s=>s
 | _,_,_,_,.cons r t,s=>.cons r (Vals.append t s)
theorem Vals.take:∀ {xs:List V} {us:List Value} (n:Nat),Vals xs us->Vals (xs.take n) (us.take n)
 | _,_,0,_=>.nil
 | _,_,_ + 1,.nil=>.nil
 | _,_,n + 1,.cons r t=>.cons r (Vals.take n t)
theorem Vals.drop:∀ {xs:List V} {us:List Value} (n:Nat),Vals xs us->Vals (xs.drop n) (us.drop n)
 | _,_,0,r=>r
 | _,_,_ + 1,.nil=>.nil
 | _,_,n + 1,.cons _ t=>Vals.drop n t
def RelO:Option V->Option Value->Prop
 | some v,some u=>RelV v u
 | none,none=>True
 | _,_=>False
def KV {κ:Type}:List (κ × V)->List (κ × Value)->Prop:=Paired fun (p:κ × V) (q:κ × Value)=>p.1=q.1/\RelV p.2 q.2
def kV:Key->V
 | .inl i=>.int i
 | .inr x=>.str x
inductive HO where
  | lst (xs:List V)
  | tup (xs:List V)
  | dK (kvs:List (Key × V)) | dT (kvs:List (List Key × V))
  | set (S:Int->Bool) (n:Nat)
  | ins (C dx:Addr) (fs:List (Str × V))
  | own (x:Addr)
  | xd (fs:List (Str × V))
  | met (f x:Addr)
  | rng (lo hi:Int)
  | frz (o:Obj) (u:HO)
  | tbl (ps:Array Value)
  | ext (φ:Heap->Prop)
abbrev Hp:=Addr->Option HO
def upd (H:Hp) (a:Addr) (o:HO):Hp:=fun b=>if b=a then some o else H b
theorem za0 {H:Hp} {a:Addr} {o:HO}:upd H a o a=some o:=by unfold upd;rw [if_pos rfl]
theorem za4 {H:Hp} {a b:Addr} {o:HO} (h:b≠a):upd H a o b=H b:=by unfold upd;rw [if_neg h]
theorem ne_of {H:Hp} {a b:Addr} {o u:HO} (h:H a=some o) (h':H b=some u) (d:o≠u):a≠b:=by
 intro e;subst e;rw [h] at h';exact d (Option.some.inj h')
theorem zbi {H:Hp} {a b:Addr} {o:HO} (h:H a=some o) (h':H b=none):a≠b:=by
 intro e;subst e;rw [h] at h';cases h'
def IsTp (h:Heap) (a:Addr) (items:Array Value):Prop:=∃ o,h.get? a=some o/\o.cls=.type "tuple"/\(∃ n,o.data=.seq items n)/\((∀ v∈items.toList,∃ b,v=Value.ref b)->o.dict=none)
theorem IsTp.up {h:Heap} {a:Addr} {items:Array Value} (x:IsTp h a items):IsTup h a items:=by
 obtain ⟨o,e,c,d,_⟩:=x
 exact ⟨o,e,c,d⟩
theorem IsTp.new (h:Heap) (items:Array Value):IsTp (h.push { cls:=.type "tuple",data:=.seq items }) h.objs.size items:=⟨_,Heap.get?_push_size _ rfl,rfl,⟨_,rfl⟩,fun _=>rfl⟩
section
variable (P : Program) (w : World)
def ze6 (H:Hp) (h:Heap) (a:Addr):HO->Prop
 | .lst xs=>xs.length<=sizeLine/\∃ (its:List Value) (n:Nat),Vals xs its/\h.get? a=some { cls:=.type "list",data:=.seq its.toArray n }
 | .tup xs=>xs.length<=sizeLine/\∃ its:List Value,Vals xs its/\IsTp h a its.toArray
 | .dK kvs=>kvs.length<=sizeLine/\(a == sysModules)=false/\∃ vs,KV kvs vs/\h.DictOf (za2 P w) a vs
 | .dT kvs=>kvs.length<=sizeLine/\(a == sysModules)=false/\∃ xs:List (List Key × Addr × Value),
   Paired (fun (p:List Key × V) (q:List Key × Addr × Value)=>p.1=q.1/\H q.2.1=some (.tup (p.1.map kV))/\RelV p.2 q.2.2) kvs xs ∧
   ∃ o es ep,h.get? a=some o/\o.ExactDict/\o.data=.dict es ep/\es.toList=xs.map (entryOfKey (tupleKind (za2 P w)))/\(xs.map (·.1)).Nodup
 | .set S n=>h.SetOf (intKind P w) a S n
 | .ins C dx fs=>H dx=some (.own a)/\fs.length<=1000/\dx≠a/\h.get? a=some (PySem.W.instObj C dx) ∧
   ∃ mA,h.Ns1 dx mA/\(∀ f,RelO (fs.lookup f) (mA f))/\PySem.Within mA (fs.map (·.1))
 | .own _=>∃ o,h.get? a=some o
 | .xd fs=>∃ mA,h.Ns1 a mA/\∀ f,RelO (fs.lookup f) (mA f)
 | .rng lo hi=>∃ t u v,h.get? a=some { cls:=.type "range",data:=.fields #[.int lo t,.int hi u,.int 1 v] }
 | .frz o u=>h.get? a=some o/\ze6 H h a u
 | .tbl ps=>h.get? a=some { cls:=.none,data:=.fields ps }
 | .met f x=>h.get? a=some (PySem.W.methodObj (.ref f) (.ref x))
 | .ext φ=>φ h/\(∃ o,h.get? a=some o)/\∀ h1 h2:Heap,φ h1->(∀ o,h1.get? a=some o->h2.get? a=some o)->φ h2
def HOk (H:Hp) (h:Heap):Prop:=∀ a o,H a=some o->ze6 P w H h a o
end
section
variable {P : Program} {w : World} {H H' : Hp} {h h' : Heap} {a : Addr} {o : HO}
theorem ze6.lt (x:ze6 P w H h a o):a < h.objs.size:=by
 cases o with
 | lst xs=>obtain ⟨_,_,_,_,e⟩:=x;exact Heap.lt_size e
 | tup xs=>obtain ⟨_,_,_,p⟩:=x;exact p.up.lt
 | dK kvs=>obtain ⟨_,_,_,_,o,_,_,e,_⟩:=x;exact Heap.lt_size e
 | dT kvs=>obtain ⟨_,_,_,_,o,_,_,e,_⟩:=x;exact Heap.lt_size e
 | set S n=>obtain ⟨o,_,_,_,e,_⟩:=x;exact Heap.lt_size e
 | ins C dx fs=>obtain ⟨_,_,_,e,_⟩:=x;exact Heap.lt_size e
 | own y=>obtain ⟨_,e⟩:=x;exact Heap.lt_size e
 | xd fs=>obtain ⟨_,⟨_,_,_,e,_⟩,_⟩:=x;exact Heap.lt_size e
 | rng lo hi=>obtain ⟨_,_,_,e⟩:=x;exact Heap.lt_size e
 | frz ob u=>obtain ⟨e,_⟩:=x;exact Heap.lt_size e
 | tbl ps=>exact Heap.lt_size (show h.get? a=some _ from x)
 | met f y=>exact Heap.lt_size (show h.get? a=some _ from x)
 | ext φ=>obtain ⟨_,⟨_,e⟩,_⟩:=x;exact Heap.lt_size e
theorem Paired.mapP {α β:Type} {F G:α->β->Prop}:∀ {l₁:List α} {l₂:List β},Paired F l₁ l₂->(∀ a b,F a b->G a b)->Paired G l₁ l₂
 | _,_,.nil,_=>.nil
 | _,_,.cons r t,f=>.cons (f _ _ r) (Paired.mapP t f)
theorem ze6.stay (x:ze6 P w H h a o) (k:∀ b u,(b=a\/H b=some (.own a))->h.get? b=some u->h'.get? b=some u)
  (ho:∀ b,H b=some (.own a)->H' b=some (.own a)) (ht:∀ b xs,H b=some (.tup xs)->H' b=some (.tup xs)):ze6 P w H' h' a o:=by
 induction o with
 | lst xs=>obtain ⟨z,its,n,r,e⟩:=x;exact ⟨z,its,n,r,k _ _ (.inl rfl) e⟩
 | tup xs=>obtain ⟨z,its,r,ob,e,c⟩:=x;exact ⟨z,its,r,ob,k _ _ (.inl rfl) e,c⟩
 | dK kvs=>obtain ⟨z,y,vs,r,ob,es,ep,e,c⟩:=x;exact ⟨z,y,vs,r,ob,es,ep,k _ _ (.inl rfl) e,c⟩
 | dT kvs =>
  obtain ⟨z,y,xs,r,ob,es,ep,e,c⟩:=x
  exact ⟨z,y,xs,Paired.mapP r fun p q z=>⟨z.1,ht _ _ z.2.1,z.2.2⟩,ob,es,ep,k _ _ (.inl rfl) e,c⟩
 | set S n=>obtain ⟨ob,es,ep,t,e,c⟩:=x;exact ⟨ob,es,ep,t,k _ _ (.inl rfl) e,c⟩
 | ins C dx fs =>
  obtain ⟨d,z,ne,e,mA,⟨od,es,ep,e2,c⟩,r⟩:=x
  exact ⟨ho _ d,z,ne,k _ _ (.inl rfl) e,mA,⟨od,es,ep,k _ _ (.inr d) e2,c⟩,r⟩
 | own y=>obtain ⟨ob,e⟩:=x;exact ⟨ob,k _ _ (.inl rfl) e⟩
 | xd fs=>obtain ⟨mA,⟨od,es,ep,e,c⟩,r⟩:=x;exact ⟨mA,⟨od,es,ep,k _ _ (.inl rfl) e,c⟩,r⟩
 | rng lo hi=>obtain ⟨t,u,v,e⟩:=x;exact ⟨t,u,v,k _ _ (.inl rfl) e⟩
 | frz ob u ih=>obtain ⟨e,q⟩:=x;exact ⟨k _ _ (.inl rfl) e,ih q⟩
 | tbl ps =>
  have e:h.get? a=some { cls:=.none,data:=.fields ps }:=x
  show h'.get? a=some { cls:=.none,data:=.fields ps }
  exact k a _ (.inl rfl) e
 | met f y =>
  have e:h.get? a=some (PySem.W.methodObj (.ref f) (.ref y)):=x
  show h'.get? a=some (PySem.W.methodObj (.ref f) (.ref y))
  exact k a _ (.inl rfl) e
 | ext φ=>obtain ⟨p,⟨o,e⟩,st⟩:=x;exact ⟨st _ _ p fun o q=>k _ _ (.inl rfl) q,⟨o,k _ _ (.inl rfl) e⟩,st⟩
theorem HOk.lt (x:HOk P w H h) (e:H a=some o):a < h.objs.size:=(x a o e).lt
theorem HOk.fresh (x:HOk P w H h) (e:h.objs.size<=a):H a=none:=by
 cases q:H a with
 | none=>rfl
 | some u=>exact absurd (Nat.lt_of_lt_of_le (x.lt q) e) (Nat.lt_irrefl _)
theorem HOk.kept (x:HOk P w H h) (k:∀ b u,h.get? b=some u->h'.get? b=some u):HOk P w H h':=fun a o e =>
 (x a o e).stay (fun b u _ q=>k b u q) (fun _ q=>q) fun _ _ q=>q
theorem HOk.laid (x:HOk P w H h) (k:∀ b u,h.get? b=some u->h'.get? b=some u) (hp:h.objs.size<=a) (new:ze6 P w (upd H a o) h' a o):HOk P w (upd H a o) h':=fun b u e=>by
 have hn:=x.fresh hp
 by_cases hb:b=a
 ·subst hb;rw [za0] at e;cases e;exact new
 ·rw [za4 hb] at e
  exact (x b u e).stay (fun c v _ q=>k c v q) (fun c q=>by rw [za4 (zbi q hn)];exact q) fun c xs q=>by rw [za4 (zbi q hn)];exact q
end
def Rd (H:Hp) (a:Addr) (u:HO):Prop:=H a=some u\/∃ o,H a=some (.frz o u)
theorem Rd.ok {P:Program} {w:World} {H:Hp} {h:Heap} {a:Addr} {u:HO} (r:Rd H a u) (x:HOk P w H h):ze6 P w H h a u:=by
 rcases r with r | ⟨o,r⟩
 ·exact x a u r
 ·obtain ⟨_,q⟩:=x a _ r
  exact q
def Mut:Option HO->Prop
 | some (.lst _)=>True
 | some (.dK _)=>True
 | some (.dT _)=>True
 | some (.set _ _)=>True
 | some (.ins _ _ _)=>True
 | some (.ext _)=>True
 | _=>False
section
variable {P : Program} {w : World} {H : Hp} {h h' : Heap} {x e : Addr} {o' : HO}
theorem HOk.write (ok:HOk P w H h) (mu:Mut (H x)) (he:e=x\/H e=some (.own x)) (k:∀ b u,b≠e->h.get? b=some u->h'.get? b=some u) (heo:∃ u,h'.get? e=some u)
  (new:ze6 P w (upd H x o') h' x o'):HOk P w (upd H x o') h':=fun b u q=>by
 have nown:∀ c y,H c=some (.own y)->c≠x:=fun c y r z=>by subst z;rw [r] at mu;exact mu
 have ntup:∀ c xs,H c=some (.tup xs)->c≠x:=fun c xs r z=>by subst z;rw [r] at mu;exact mu
 by_cases hb:b=x
 ·subst hb;rw [za0] at q;cases q;exact new
 ·rw [za4 hb] at q
  by_cases hbe:b=e
  ·have q':H b=some (.own x):=by
    rcases he with z | z
    ·exact absurd (hbe.trans z) hb
    ·rw [hbe];exact z
   rw [q] at q';cases q'
   obtain ⟨v,hv⟩:=heo
   exact ⟨v,by rw [hbe];exact hv⟩
  ·refine (ok b u q).stay (fun c v hc r=>k c v ?_ r) (fun c r=>by rw [za4 (nown c b r)];exact r) fun c xs r=>by rw [za4 (ntup c xs r)];exact r
   rcases hc with rfl | hc
   ·exact hbe
   ·rintro rfl
    rcases he with z | z
    ·exact nown c b hc z
    ·rw [hc] at z;cases z;exact hb rfl
end
structure Un (fs ex:List Addr) (H H':Hp) (h h':Heap):Prop where
 keep:∀ b o,h.get? b=some o->H b=none->b ∉ fs->b ∉ ex->h'.get? b=some o
 slot:∀ b o,h.get? b=some o->H b=none->b∈fs->b ∉ ex->∃ sl,h'.get? b=some { o with slots:=sl }
 free:∀ b o,h.get? b=some o->H b=none->b ∉ ex->H' b=none
 there:∀ b o,h.get? b=some o->b ∉ ex->∃ o',h'.get? b=some o'
 tups:∀ b xs,H b=some (.tup xs)->H' b=some (.tup xs)
 frzs:∀ b o u,H b=some (.frz o u)->H' b=some (.frz o u)
 tbls:∀ b ps,H b=some (.tbl ps)->∃ more,H' b=some (.tbl (ps++more))
section
variable {fs fs' ex ex' : List Addr} {H H1 H2 : Hp} {h h1 h2 h' : Heap} {a x e : Addr} {o : HO}
theorem Un.any (u:Un fs ex H H1 h h1) {b:Addr} {ob:Obj} (q:h.get? b=some ob) (n:H b=none) (hx:b ∉ ex):∃ sl,h1.get? b=some { ob with slots:=sl }:=by
 by_cases hb:b∈fs
 ·exact u.slot b ob q n hb hx
 ·exact ⟨ob.slots,u.keep b ob q n hb hx⟩
theorem Un.kept (k:∀ b u,h.get? b=some u->h'.get? b=some u):Un fs ex H H h h' :=
 ⟨fun b ob q _ _ _=>k b ob q,fun b ob q _ _ _=>⟨ob.slots,k b ob q⟩,fun _ _ _ n _=>n,fun b ob q _=>⟨ob,k b ob q⟩,fun _ _ q=>q,fun _ _ _ q=>q,fun _ ps q=>⟨#[],by rw [q];simp⟩⟩
theorem Un.refl:Un fs ex H H h h:=Un.kept fun _ _ q=>q
theorem Un.laid (k:∀ b u,h.get? b=some u->h'.get? b=some u) (hp:h.objs.size<=a) (hn:H a=none):Un fs ex H (upd H a o) h h' where
 keep:=fun b u q _ _ _=>k b u q
 slot:=fun b u q _ _ _=>⟨u.slots,k b u q⟩
 free:=fun b u q n _=>by rw [za4 (Nat.ne_of_lt (Nat.lt_of_lt_of_le (Heap.lt_size q) hp))];exact n
 there:=fun b u q _=>⟨u,k b u q⟩
 tups:=fun b xs q=>by rw [za4 (zbi q hn)];exact q
 frzs:=fun b u xs q=>by rw [za4 (zbi q hn)];exact q
 tbls:=fun b ps q=>⟨#[],by rw [za4 (zbi q hn),q];simp⟩
theorem Un.write (mu:Mut (H x)) (he:e=x\/H e=some (.own x)) (k:∀ b u,b≠e->h.get? b=some u->h'.get? b=some u) (heo:∃ u,h'.get? e=some u):Un fs ex H (upd H x o) h h':=by
 have hx:∀ b,H b=none->b≠x:=fun b n z=>by subst z;rw [n] at mu;exact mu
 have hb:∀ b,H b=none->b≠e:=fun b n z=>by
  subst z
  rcases he with r | r
  ·exact hx b n r
  ·rw [n] at r;cases r
 have hm:∀ b u,H b=some u->¬ Mut (some u)->b≠x:=fun b u q nm z=>by subst z;rw [q] at mu;exact nm mu
 refine ⟨fun b u q n _ _=>k b u (hb b n) q,fun b u q n _ _=>⟨u.slots,k b u (hb b n) q⟩,fun b u q n _=>by rw [za4 (hx b n)];exact n,fun b u q _=>?_,
  fun b xs q=>by rw [za4 (hm b _ q fun z=>z)];exact q,fun b u xs q=>by rw [za4 (hm b _ q fun z=>z)];exact q,fun b ps q=>⟨#[],by rw [za4 (hm b _ q fun z=>z),q];simp⟩⟩
 by_cases hbe:b=e
 ·subst hbe;exact heo
 ·exact ⟨u,k b u hbe q⟩
end
def trk (h:Heap) (H:Hp):List Addr:=(List.range h.objs.size).filter fun a=>(H a).isSome
def hidT (h:Heap) (H:Hp):Heap:=PySem.W.hideAll h (trk h H)
theorem zrt (h:Heap) (H:Hp):(hidT h H).objs.size=h.objs.size:=PySem.W.hideAll_size _ _
theorem zuc {h:Heap} {H:Hp} {b:Addr} {o:Obj} (e:h.get? b=some o) (n:H b=none):(hidT h H).get? b=some o :=
 PySem.W.hideAll_get _ e fun hm=>by
  have q:(H b).isSome=true:=(List.mem_filter.mp hm).2
  rw [n] at q;simp at q
theorem zwu {h:Heap} {H:Hp} {b:Addr} {o:Obj} (e:(hidT h H).get? b=some o):h.get? b=some o/\H b=none:=by
 have e':h.get? b=some o:=PySem.W.of_hideAll (trk h H) e
 refine ⟨e',?_⟩
 cases q:H b with
 | none=>rfl
 | some x =>
  have hm:b∈trk h H:=List.mem_filter.mpr ⟨List.mem_range.mpr (Heap.lt_size e'),by simp [q]⟩
  have z:(hidT h H).get? b=none:=PySem.W.hideAll_none (trk h H) hm
  rw [z] at e;cases e
def zxx (g h:Heap) (L:Addr):List (Addr × Obj):=(List.range h.objs.size).filterMap fun a=>if a=L\/(g.get? a).isSome=true then none else (h.get? a).map fun o=>(a,o)
def rest (g h:Heap) (L d:Addr):List (Addr × Obj):=(zxx g h L).filter fun p=>decide (p.1≠d)
end L2
namespace L2
open PySem PySem.Spec PyProof.Rows
structure Mod (K:PySem.W.Frag) (mg:Str->Option Value) (base:Heap):Prop where
 kin:K.In base
 glob:base.Ns mainGlobals mg
 blt:∃ mb,base.Ns builtinsNs mb/\∀ x:Str,x≠"__name__"->mb x=bootBuiltins x
 nolimit:base.NoLimit
structure Cx where
 prog:Program
 w:World
 K:PySem.W.Frag
 mg:Str->Option Value
 base:Heap
 A:Around
 N:List Str
 s₀:Shared
 H₀:Hp
 env:Env
 outer:List Env
 stack:List Env
 ex:List Addr
 fn:Str->Bool
 calm:Bool
 pn:List (Addr × Obj)
 xe:Value->Shared->Prop
def frs (l:List Env):List Addr:=l.filterMap (·.frame)
abbrev Cx.fs (X:Cx):List Addr:=frs X.outer
def Vis (sc:Scope) (x:Str):Prop:=sc.names.lookup x=some .local\/sc.names.lookup x=some .cell\/sc.names.lookup x=some .free
def Loc (sc:Scope) (x:Str):Prop:=sc.names.lookup x=some .local\/sc.names.lookup x=some .cell
def Look (env:Env) (h:Heap) (m:Str->Option Value) (x:Str) (u:Value):Prop :=
 (env.kindOf x=some .local/\m x=some u)\/((env.kindOf x=some .cell\/env.kindOf x=some .free)/\∃ c,env.cells.lookup x=some c/\h.IsCell c (some u))
structure Cx.Ok (X:Cx):Prop where
 mod:Mod X.K X.mg X.base
 kind:X.env.scope.kind=.function
 glob:X.env.globals=mainGlobals
 blt:X.env.builtins=builtinsNs
 above:X.s₀.heap.objs.size<=X.env.locals
 inj:∀ x y c,X.env.cells.lookup x=some c->X.env.cells.lookup y=some c->x=y
 has:∀ x,(X.env.kindOf x=some .cell\/X.env.kindOf x=some .free)->∃ c,X.env.cells.lookup x=some c
 cab:∀ x c,X.fn x=true->X.env.cells.lookup x=some c->X.s₀.heap.objs.size<=c
 hd:X.calm=true->X.A.handled=none
 frames:X.A.frames=some X.stack
 stk:X.stack=X.outer\/(X.stack=X.env::X.outer/\X.env.frame=some X.env.locals)
 exf:∀ b∈X.ex,b≠X.env.locals/\∀ x c,X.env.cells.lookup x=some c->c≠b
 bs:∀ b o,X.base.get? b=some o->X.s₀.heap.get? b=some o/\X.H₀ b=none
 bsz:X.base.objs.size<=X.s₀.heap.objs.size
 noex:∀ b o,X.base.get? b=some o->b ∉ X.ex
 exfs:∀ b∈X.ex,b ∉ X.fs
 funs:X.s₀.heap.FunFrames X.base X.outer
 frf:∀ b∈X.fs,X.H₀ b=none
structure Inv (X:Cx) (pins:List (Addr × Obj)) (σ:List (Option V)) (H:Hp) (s:Shared):Prop where
 ok:X.Ok
 os:s.os=X.s₀.os
 bare:AllBare s.gens
 base:Un X.fs X.ex X.H₀ H X.s₀.heap s.heap
 loc:∃ m,s.heap.Ns X.env.locals m/\∀ (i:Nat) (x:Str) (v:V),X.N[i]?=some x->σ[i]?=some (some v)->Vis X.env.scope x->∃ u,RelV v u/\Look X.env s.heap m x u
 cell:∀ x c,X.env.cells.lookup x=some c->∃ v,s.heap.IsCell c v
 free:H X.env.locals=none
 freeC:∀ x c,X.env.cells.lookup x=some c->H c=none
 pin:∀ p∈X.pn++pins,s.heap.get? p.1=some p.2/\H p.1=none/\p.1≠X.env.locals/\p.1 ∉ X.fs/\∀ v,p.2.data≠.cell v
 hok:HOk X.prog X.w H s.heap
 len:σ.length=X.N.length
section
variable {X : Cx} {pins : List (Addr × Obj)} {σ : List (Option V)} {H H' : Hp} {s : Shared} {h' : Heap}
theorem Cx.Ok.nofr (ok:X.Ok) {b:Addr} {o:Obj} (e:X.base.get? b=some o):b ∉ X.fs:=fun hb=>by
 have:=(ok.funs.mem hb).1
 rw [e] at this;cases this
theorem Inv.bs (I:Inv X pins σ H s):∀ b o,X.base.get? b=some o->s.heap.get? b=some o/\H b=none:=fun b o e =>
 ⟨I.base.keep b o (I.ok.bs b o e).1 (I.ok.bs b o e).2 (I.ok.nofr e) (I.ok.noex b o e),I.base.free b o (I.ok.bs b o e).1 (I.ok.bs b o e).2 (I.ok.noex b o e)⟩
theorem Inv.bk (I:Inv X pins σ H s):∀ b o,X.base.get? b=some o->s.heap.get? b=some o:=fun b o e=>(I.bs b o e).1
theorem Inv.mod (I:Inv X pins σ H s):Mod X.K X.mg X.base:=I.ok.mod
theorem Inv.kIn (I:Inv X pins σ H s):X.K.In s.heap:=I.ok.mod.kin.keeps I.bk
theorem Inv.lt (I:Inv X pins σ H s):X.env.locals < s.heap.objs.size:=let ⟨_,hn,_⟩:=I.loc;hn.lt
theorem Inv.sz (I:Inv X pins σ H s):X.s₀.heap.objs.size<=s.heap.objs.size:=Nat.le_trans I.ok.above (Nat.le_of_lt I.lt)
theorem Inv.nofs (I:Inv X pins σ H s) {a:Addr} (h:s.heap.objs.size<=a):a ∉ X.fs:=fun hb=>by
 obtain ⟨_,o,ho,_⟩:=I.ok.funs.mem hb
 exact absurd (Nat.lt_of_lt_of_le (Heap.lt_size ho) (Nat.le_trans I.sz h)) (Nat.lt_irrefl _)
theorem Inv.cne (I:Inv X pins σ H s):∀ x c,X.env.cells.lookup x=some c->c≠X.env.locals:=fun x c e z=>by
 obtain ⟨v,o,ho,hd⟩:=I.cell x c e
 obtain ⟨m,⟨o',es,ep,ho',hd',_⟩,_⟩:=I.loc
 rw [z,ho'] at ho;cases ho;rw [hd'] at hd;cases hd
theorem Inv.funs (I:Inv X pins σ H s):s.heap.FunFrames X.base X.outer:=by
 have all:∀ (l:List Env),(∀ b∈frs l,b∈X.fs)->X.s₀.heap.FunFrames X.base l->s.heap.FunFrames X.base l:=by
  intro l
  induction l with
  | nil=>intro _ _;trivial
  | cons env r ih =>
   intro hs hl
   obtain ⟨hk,⟨L,o,hf,hn,ho,hd⟩,hr⟩:=hl
   have hL:L∈X.fs:=hs L (by unfold frs;rw [List.filterMap_cons,hf];exact List.mem_cons_self)
   obtain ⟨sl,e⟩:=I.base.slot L o ho (I.ok.frf L hL) hL fun z=>I.ok.exfs L z hL
   exact ⟨hk,⟨L,_,hf,hn,e,hd⟩,ih (fun b hb=>hs b (by unfold frs;rw [List.filterMap_cons,hf];exact List.mem_cons_of_mem _ hb)) hr⟩
 exact all X.outer (fun _ hb=>hb) I.ok.funs
theorem Inv.stack (I:Inv X pins σ H s):s.heap.FunFrames X.base X.stack:=by
 rcases I.ok.stk with e | ⟨e,hf⟩
 ·rw [e];exact I.funs
 ·rw [e]
  obtain ⟨m,hn,_⟩:=I.loc
  refine .cons (by rw [I.ok.kind];decide) hf hn ?_ I.funs
  exact Heap.get?_none_of_le (Nat.le_trans I.ok.bsz I.ok.above)
theorem Inv.stkSub (I:Inv X pins σ H s):∀ b∈frs X.stack,b∈X.env.locals::X.fs:=fun b hb=>by
 rcases I.ok.stk with e | ⟨e,hf⟩
 ·rw [e] at hb;exact List.mem_cons_of_mem _ hb
 ·rw [e] at hb
  unfold frs at hb
  rw [List.filterMap_cons,hf] at hb
  exact hb
theorem Inv.stkFree (I:Inv X pins σ H s):∀ b∈frs X.stack,H b=none:=fun b hb=>by
 rcases List.mem_cons.mp (I.stkSub b hb) with e | hb
 ·rw [e];exact I.free
 ·obtain ⟨_,o,ho,_⟩:=I.ok.funs.mem hb
  exact I.base.free b o ho (I.ok.frf b hb) fun z=>I.ok.exfs b z hb
theorem Inv.step {g':Array GenState} {t':Nat} {d':Drawn} {ch:List Addr} (I:Inv X pins σ H s)
  (hch:∀ b∈ch,(b∈X.ex\/X.s₀.heap.objs.size<=b)/\b≠X.env.locals/\(∀ x c,X.env.cells.lookup x=some c->c≠b)/\∀ p∈X.pn++pins,p.1≠b)
  (keep:∀ b o,b≠X.env.locals->b ∉ X.fs->b ∉ ch->s.heap.get? b=some o->H b=none->h'.get? b=some o)
  (slot:∀ b o,b≠X.env.locals->b∈X.fs->b ∉ ch->s.heap.get? b=some o->H b=none->∃ sl,h'.get? b=some { o with slots:=sl }) (free:∀ b o,b ∉ ch->s.heap.get? b=some o->H b=none->H' b=none)
  (there:∀ b o,b ∉ ch->s.heap.get? b=some o->∃ o',h'.get? b=some o')
  (tups:∀ b xs,H b=some (.tup xs)->H' b=some (.tup xs)) (frzs:∀ b o u,H b=some (.frz o u)->H' b=some (.frz o u)) (tbls:∀ b ps,H b=some (.tbl ps)->∃ more,H' b=some (.tbl (ps++more)))
  (ns:∀ m,s.heap.Ns X.env.locals m->h'.Ns X.env.locals m) (hok:HOk X.prog X.w H' h') (hg:AllBare g') :
  Inv X pins σ H' { s with heap:=h',gens:=g',drawn:=d',toks:=t' }:=by
 have neL:∀ b o,X.s₀.heap.get? b=some o->b≠X.env.locals:=fun b o e=>Nat.ne_of_lt (Nat.lt_of_lt_of_le (Heap.lt_size e) I.ok.above)
 have neC:∀ b o,X.s₀.heap.get? b=some o->b ∉ X.ex->b ∉ ch:=fun b o e hx hb=>by
  rcases (hch b hb).1 with z | z
  ·exact hx z
  ·exact absurd (Nat.lt_of_lt_of_le (Heap.lt_size e) z) (Nat.lt_irrefl _)
 have cellK:∀ x c,X.env.cells.lookup x=some c->∀ v,s.heap.IsCell c v->h'.IsCell c v:=fun x c e v ⟨o,ho,hd⟩=>by
  have nch:c ∉ ch:=fun z=>(hch c z).2.2.1 x c e rfl
  by_cases hc:c∈X.fs
  ·obtain ⟨sl,q⟩:=slot c o (I.cne x c e) hc nch ho (I.freeC x c e)
   exact ⟨_,q,hd⟩
  ·exact ⟨o,keep c o (I.cne x c e) hc nch ho (I.freeC x c e),hd⟩
 refine ⟨I.ok,I.os,hg,⟨fun b o e n hb hx=>?_,fun b o e n hb hx=>?_,fun b o e n hx=>?_,fun b o e hx=>?_,fun b xs e=>tups b xs (I.base.tups b xs e),fun b o xs e=>frzs b o xs (I.base.frzs b o xs e),fun b ps e=>?_⟩,?_,fun x c e=>?_,?_,fun x c e=>?_,fun p hp=>?_,hok,I.len⟩
 ·exact keep b o (neL b o e) hb (neC b o e hx) (I.base.keep b o e n hb hx) (I.base.free b o e n hx)
 ·obtain ⟨sl,e1⟩:=I.base.slot b o e n hb hx
  obtain ⟨sl',e2⟩:=slot b _ (neL b o e) hb (neC b o e hx) e1 (I.base.free b o e n hx)
  exact ⟨sl',e2⟩
 ·obtain ⟨o',e1⟩:=I.base.there b o e hx
  exact free b o' (neC b o e hx) e1 (I.base.free b o e n hx)
 ·obtain ⟨o',e1⟩:=I.base.there b o e hx
  exact there b o' (neC b o e hx) e1
 ·obtain ⟨m1,e1⟩:=I.base.tbls b ps e
  obtain ⟨m2,e2⟩:=tbls b _ e1
  exact ⟨m1++m2,by rw [e2,Array.append_assoc]⟩
 ·obtain ⟨m,hn,hl⟩:=I.loc
  refine ⟨m,ns m hn,fun i x v e1 e2 e3=>?_⟩
  obtain ⟨u,r,l⟩:=hl i x v e1 e2 e3
  refine ⟨u,r,?_⟩
  rcases l with l | ⟨k,c,e,z⟩
  ·exact .inl l
  ·exact .inr ⟨k,c,e,cellK x c e _ z⟩
 ·obtain ⟨v,z⟩:=I.cell x c e
  exact ⟨v,cellK x c e v z⟩
 ·obtain ⟨m,⟨o,_,_,ho,_⟩,_⟩:=I.loc
  exact free _ o (fun z=>(hch _ z).2.1 rfl) ho I.free
 ·obtain ⟨v,o,ho,hd⟩:=I.cell x c e
  exact free c o (fun z=>(hch c z).2.2.1 x c e rfl) ho (I.freeC x c e)
 ·obtain ⟨e,n,ne,nf,d⟩:=I.pin p hp
  have nch:p.1 ∉ ch:=fun z=>(hch p.1 z).2.2.2 p hp rfl
  exact ⟨keep p.1 p.2 ne nf nch e n,free p.1 p.2 nch e n,ne,nf,d⟩
theorem Inv.un {t':Nat} (I:Inv X pins σ H s) (u:Un X.fs [] H H' s.heap h') (hok:HOk X.prog X.w H' h'):Inv X pins σ H' { s with heap:=h',toks:=t' }:=by
 obtain ⟨m,⟨o,es,ep,ho,r⟩,_⟩:=id I.loc
 obtain ⟨sl,hL⟩:=u.any ho I.free (by simp)
 exact I.step (g':=s.gens) (d':=s.drawn) (ch:=[]) (fun _ z=>nomatch z) (fun b o _ hb _ e n=>u.keep b o e n hb (by simp)) (fun b o _ hb _ e n=>u.slot b o e n hb (by simp)) (fun b o _ e n=>u.free b o e n (by simp)) (fun b o _ e=>u.there b o e (by simp)) u.tups u.frzs u.tbls (fun m' hm=>by
  obtain ⟨o',es',ep',ho',r'⟩:=hm
  rw [ho] at ho';cases ho'
  exact ⟨_,es',ep',hL,r'⟩) hok I.bare
theorem Inv.call {g':Array GenState} {t':Nat} {d':Drawn} {ch:List Addr} (I:Inv X pins σ H s) (u:Un (frs X.stack) ch H H' s.heap h') (hok:HOk X.prog X.w H' h') (hg:AllBare g')
  (hch:∀ b∈ch,(b∈X.ex\/X.s₀.heap.objs.size<=b)/\b≠X.env.locals/\(∀ x c,X.env.cells.lookup x=some c->c≠b)/\∀ p∈X.pn++pins,p.1≠b) :
  Inv X pins σ H' { s with heap:=h',gens:=g',drawn:=d',toks:=t' }:=by
 obtain ⟨m,⟨o,es,ep,ho,r⟩,_⟩:=id I.loc
 obtain ⟨sl,hL⟩:=u.any ho I.free fun z=>(hch _ z).2.1 rfl
 exact I.step (ch:=ch) hch (fun b o hL hb hc e n=>u.keep b o e n (fun z=>(List.mem_cons.mp (I.stkSub b z)).elim hL hb) hc) (fun b o _ _ hc e n=>u.any e n hc) (fun b o hc e n=>u.free b o e n hc) (fun b o hc e=>u.there b o e hc) u.tups u.frzs u.tbls (fun m' hm=>by
  obtain ⟨o',es',ep',ho',r'⟩:=hm
  rw [ho] at ho';cases ho'
  exact ⟨_,es',ep',hL,r'⟩) hok hg
theorem Inv.turned {t':Nat} {it:Addr} (I:Inv X pins σ H s) (k:∀ b o,b≠it->s.heap.get? b=some o->h'.get? b=some o) (hn:H it=none) (hL:it≠X.env.locals)
  (h1:it∈X.ex\/X.s₀.heap.objs.size<=it) (h2:∀ x c,X.env.cells.lookup x=some c->c≠it) (h3:∀ p∈X.pn++pins,p.1≠it):Inv X pins σ H { s with heap:=h',toks:=t' }:=by
 have nit:∀ b u,H b=some u->b≠it:=fun b u e z=>by rw [z,hn] at e;cases e
 refine I.step (g':=s.gens) (d':=s.drawn) (ch:=[it]) (fun b hb=>?_) (fun b o _ _ hc e _=>k b o (fun z=>hc (by simp [z])) e) (fun b o _ _ hc e _=>⟨o.slots,k b o (fun z=>hc (by simp [z])) e⟩) (fun _ _ _ _ n=>n)
  (fun b o hc e=>⟨o,k b o (fun z=>hc (by simp [z])) e⟩) (fun _ _ e=>e) (fun _ _ _ e=>e) (fun b ps e=>⟨#[],by rw [e];simp⟩) (fun m hm=>?_) (fun b u e=>?_) I.bare
 ·have e:b=it:=by simpa using hb
  subst e
  exact ⟨h1,hL,h2,h3⟩
 ·obtain ⟨o,es,ep,ho,r⟩:=hm
  exact ⟨o,es,ep,k _ o (Ne.symm hL) ho,r⟩
 ·refine (I.hok b u e).stay (fun c v hc q=>k c v ?_ q) (fun _ q=>q) fun _ _ q=>q
  rcases hc with z | z
  ·rw [z];exact nit b u e
  ·exact nit c _ z
theorem Inv.tok (I:Inv X pins σ H s) (t:Nat):Inv X pins σ H { s with toks:=t }:=I.un (h':=s.heap) (t':=t) Un.refl I.hok
theorem Inv.kept {t':Nat} (I:Inv X pins σ H s) (k:∀ b u,s.heap.get? b=some u->h'.get? b=some u):Inv X pins σ H { s with heap:=h',toks:=t' }:=I.un (Un.kept k) (I.hok.kept k)
theorem Inv.laid {a:Addr} {o:HO} {t':Nat} (I:Inv X pins σ H s) (k:∀ b u,s.heap.get? b=some u->h'.get? b=some u) (hp:s.heap.objs.size<=a) (new:ze6 X.prog X.w (upd H a o) h' a o) :
  Inv X pins σ (upd H a o) { s with heap:=h',toks:=t' }:=I.un (Un.laid k hp (I.hok.fresh hp)) (I.hok.laid k hp new)
theorem Inv.write {x e:Addr} {o:HO} {t':Nat} (I:Inv X pins σ H s) (mu:Mut (H x)) (he:e=x\/H e=some (.own x)) (k:∀ b u,b≠e->s.heap.get? b=some u->h'.get? b=some u) (heo:∃ u,h'.get? e=some u)
  (new:ze6 X.prog X.w (upd H x o) h' x o):Inv X pins σ (upd H x o) { s with heap:=h',toks:=t' }:=I.un (Un.write mu he k heo) (I.hok.write mu he k heo new)
theorem Inv.pins_of {pins':List (Addr × Obj)} (I:Inv X pins σ H s) (h:∀ p∈pins',s.heap.get? p.1=some p.2/\H p.1=none/\p.1≠X.env.locals/\p.1 ∉ X.fs/\∀ v,p.2.data≠.cell v):Inv X pins' σ H s :=
 ⟨I.ok,I.os,I.bare,I.base,I.loc,I.cell,I.free,I.freeC,fun p hp=>(List.mem_append.mp hp).elim (fun z=>I.pin p (List.mem_append_left _ z)) (h p),I.hok,I.len⟩
theorem zoo {N:List Str} (hN:N.Nodup) {i j:Nat} {x:Str} (a:N[i]?=some x) (b:N[j]?=some x):i=j:=by
 obtain ⟨h1,e1⟩:=List.getElem?_eq_some_iff.mp a
 obtain ⟨h2,e2⟩:=List.getElem?_eq_some_iff.mp b
 exact (List.getElem_inj hN).mp (e1.trans e2.symm)
theorem zqo {M:Model} {A:Around} {E:Value->Shared->Prop} {i:Nat} {x:Str} {v:V} {u:Value} {Q:Unit->Shared->Prop} (I:Inv X pins σ H s) (hN:X.N.Nodup) (hi:X.N[i]?=some x) (hx:Loc X.env.scope x) (r:RelV v u)
  (h:∀ s',Inv X pins (σ.set i (some v)) H s'->(∃ a,Heap.SameBut a s.heap s'.heap/\(a=X.env.locals\/X.env.cells.lookup x=some a))->Q () s') (hf:X.fn x=true\/X.env.scope.names.lookup x=some .local:=by first | exact .inl rfl | exact .inr rfl | assumption):wpAny M A (storeName X.env x u) Q E s:=by
 obtain ⟨m,hn,hl⟩:=id I.loc
 have hcls:(X.env.scope.kind == .class || (X.env.scope.kind == .module && X.env.locals != X.env.globals))=false:=by rw [I.ok.kind];rfl
 have hiσ:i < σ.length:=by rw [I.len];exact (List.getElem?_eq_some_iff.mp hi).1
 have cne:=I.cne
 have tracked:∀ {a:Addr} {h':Heap},(∃ o,s.heap.get? a=some o/\H a=none)->Heap.SameBut a s.heap h'->HOk X.prog X.w H h':=fun {a h'} ha hs b ob e=>by
  obtain ⟨_,_,hfree⟩:=ha
  refine (I.hok b ob e).stay (fun c w' hc q=>(hs.2 c ?_).trans q) (fun _ q=>q) fun _ _ q=>q
  rintro rfl
  rcases hc with rfl | hc
  ·rw [hfree] at e;cases e
  ·rw [hfree] at hc;cases hc
 rcases hx with hk | hk
 ·refine wpAny_storeName_local hk hn (fun h' hn' hs=>?_) hcls
  obtain ⟨oL,_,_,hoL,_⟩:=id hn
  refine h _ ⟨I.ok,I.os,I.bare,⟨fun b o e n hb hx=>?_,fun b o e n hb hx=>?_,I.base.free,fun b o e hx=>?_,I.base.tups,I.base.frzs,I.base.tbls⟩,⟨_,hn',fun j y v' e1 e2 e3=>?_⟩,fun y c e=>?_,I.free,I.freeC,fun p hp=>?_,tracked ⟨oL,hoL,I.free⟩ hs,by simpa using I.len⟩ ⟨_,hs,.inl rfl⟩
  ·exact (hs.2 b (Nat.ne_of_lt (Nat.lt_of_lt_of_le (Heap.lt_size e) I.ok.above))).trans (I.base.keep b o e n hb hx)
  ·obtain ⟨sl,e1⟩:=I.base.slot b o e n hb hx
   exact ⟨sl,(hs.2 b (Nat.ne_of_lt (Nat.lt_of_lt_of_le (Heap.lt_size e) I.ok.above))).trans e1⟩
  ·obtain ⟨o',e1⟩:=I.base.there b o e hx
   exact ⟨o',(hs.2 b (Nat.ne_of_lt (Nat.lt_of_lt_of_le (Heap.lt_size e) I.ok.above))).trans e1⟩
  ·by_cases hj:j=i
   ·subst hj
    rw [hi] at e1;cases e1
    rw [List.getElem?_set_self hiσ] at e2
    cases e2
    exact ⟨u,r,.inl ⟨hk,by simp⟩⟩
   ·rw [List.getElem?_set_ne (Ne.symm hj)] at e2
    obtain ⟨u',r',q⟩:=hl j y v' e1 e2 e3
    refine ⟨u',r',?_⟩
    rcases q with ⟨k,e⟩ | ⟨k,c,e,z⟩
    ·refine .inl ⟨k,?_⟩
     have:y≠x:=fun e=>hj (zoo hN e1 (e ▸ hi))
     simp [this,e]
    ·exact .inr ⟨k,c,e,z.sameBut hs (cne y c e)⟩
  ·obtain ⟨w',z⟩:=I.cell y c e
   exact ⟨w',z.sameBut hs (cne y c e)⟩
  ·obtain ⟨e,n,ne,nf,d⟩:=I.pin p hp
   exact ⟨(hs.2 p.1 ne).trans e,n,ne,nf,d⟩
 ·have hfn:X.fn x=true:=by
   rcases hf with z | z
   ·exact z
   ·rw [z] at hk;cases hk
  obtain ⟨c,hc⟩:=I.ok.has x (.inl hk)
  obtain ⟨w',z⟩:=I.cell x c hc
  refine wpAny_storeName_cell I.ok.kind hk hc z (fun h' hc' hs=>?_)
  obtain ⟨oc,hoc,hocd⟩:=id z
  refine h { s with heap:=h' } ⟨I.ok,I.os,I.bare,⟨fun b o e n hb hx=>?_,fun b o e n hb hx=>?_,I.base.free,fun b o e hx=>?_,I.base.tups,I.base.frzs,I.base.tbls⟩,⟨m,hn.sameBut hs (Ne.symm (cne x c hc)),fun j y v' e1 e2 e3=>?_⟩,fun y c' e=>?_,I.free,I.freeC,fun p hp=>?_,tracked ⟨oc,hoc,I.freeC x c hc⟩ hs,by simpa using I.len⟩ ⟨c,hs,.inr hc⟩
  ·exact (hs.2 b (Nat.ne_of_lt (Nat.lt_of_lt_of_le (Heap.lt_size e) (I.ok.cab x c hfn hc)))).trans (I.base.keep b o e n hb hx)
  ·obtain ⟨sl,e1⟩:=I.base.slot b o e n hb hx
   exact ⟨sl,(hs.2 b (Nat.ne_of_lt (Nat.lt_of_lt_of_le (Heap.lt_size e) (I.ok.cab x c hfn hc)))).trans e1⟩
  ·obtain ⟨o',e1⟩:=I.base.there b o e hx
   exact ⟨o',(hs.2 b (Nat.ne_of_lt (Nat.lt_of_lt_of_le (Heap.lt_size e) (I.ok.cab x c hfn hc)))).trans e1⟩
  ·by_cases hj:j=i
   ·subst hj
    rw [hi] at e1;cases e1
    rw [List.getElem?_set_self hiσ] at e2
    cases e2
    exact ⟨u,r,.inr ⟨.inl hk,c,hc,hc'⟩⟩
   ·rw [List.getElem?_set_ne (Ne.symm hj)] at e2
    obtain ⟨u',r',q⟩:=hl j y v' e1 e2 e3
    refine ⟨u',r',?_⟩
    rcases q with q | ⟨k,c',e,z'⟩
    ·exact .inl q
    ·refine .inr ⟨k,c',e,z'.sameBut hs ?_⟩
     rintro rfl
     exact hj (zoo hN e1 (I.ok.inj _ _ _ e hc ▸ hi))
  ·by_cases hcc:c'=c
   ·subst hcc;exact ⟨_,hc'⟩
   ·obtain ⟨w2,z2⟩:=I.cell y c' e
    exact ⟨w2,z2.sameBut hs hcc⟩
  ·obtain ⟨e,n,ne,nf,d⟩:=I.pin p hp
   refine ⟨(hs.2 p.1 ?_).trans e,n,ne,nf,d⟩
   intro q
   rw [q,hoc] at e
   have q':oc=p.2:=Option.some.inj e
   exact d w' (by rw [← q'];exact hocd)
theorem zn8 {M:Model} {A:Around} {E:Value->Shared->Prop} {i:Nat} {x:Str} {v:V} {u:Value} {Q:Unit->Shared->Prop} (I:Inv X pins σ H s) (hN:X.N.Nodup) (hi:X.N[i]?=some x) (hx:Loc X.env.scope x) (r:RelV v u)
  (h:∀ s',Inv X pins (σ.set i (some v)) H s'->Q () s') (hf:X.fn x=true\/X.env.scope.names.lookup x=some .local:=by first | exact .inl rfl | exact .inr rfl | assumption):wpAny M A (storeName X.env x u) Q E s :=
 zqo I hN hi hx r (fun s' I' _=>h s' I') hf
theorem Inv.call' {s':Shared} {ch:List Addr} (I:Inv X pins σ H s) (ho:s'.os=s.os) (u:Un (frs X.stack) ch H H' s.heap s'.heap) (hok:HOk X.prog X.w H' s'.heap) (hg:AllBare s'.gens)
  (hch:∀ b∈ch,(b∈X.ex\/X.s₀.heap.objs.size<=b)/\b≠X.env.locals/\(∀ x c,X.env.cells.lookup x=some c->c≠b)/\∀ p∈X.pn++pins,p.1≠b):Inv X pins σ H' s':=by
 obtain ⟨h',g',d',t',o'⟩:=s'
 have e:o'=s.os:=ho
 subst e
 exact I.call (g':=g') (t':=t') (d':=d') u hok hg hch
end
abbrev XK:=Value->Option Addr->Hp->Prop
abbrev St:=List (Option V)
abbrev VK:=V->Hp->Prop
abbrev TE:=St->Hp->VK->Prop
abbrev TT:=St->Hp->(Bool->Hp->Prop)->Prop
abbrev TA:=St->Hp->(List V->Hp->Prop)->Prop
structure Ends where
 nx:St->Hp->Prop
 rt:VK
 bk:St->Hp->Prop:=fun _ _=>False
 ct:St->Hp->Prop:=fun _ _=>False
abbrev TS:=Ends->St->Hp->Prop
def EP (X:Cx) (pins:List (Addr × Obj)) (σ:St) (Q:VK) (u:Value) (s':Shared):Prop:=∃ v H',Inv X pins σ H' s'/\RelV v u/\Q v H'
def TP (X:Cx) (pins:List (Addr × Obj)) (σ:St) (Q:Bool->Hp->Prop) (b:Bool) (s':Shared):Prop:=∃ H',Inv X pins σ H' s'/\Q b H'
def AP (X:Cx) (pins:List (Addr × Obj)) (σ:St) (Q:List V->Hp->Prop) (us:List Value) (s':Shared):Prop:=∃ vs H',Inv X pins σ H' s'/\Vals vs us/\Q vs H'
def SP (X:Cx) (pins:List (Addr × Obj)) (D:Ends) (f:Flow) (s':Shared):Prop :=
 match f with
 | .next=>∃ σ' H',Inv X pins σ' H' s'/\D.nx σ' H'
 | .brk=>∃ σ' H',Inv X pins σ' H' s'/\D.bk σ' H'
 | .cont=>∃ σ' H',Inv X pins σ' H' s'/\D.ct σ' H'
 | .ret u=>∃ v σ' H',Inv X pins σ' H' s'/\RelV v u/\D.rt v H'
def PE (X:Cx) (e:Expr) (t:TE):Prop :=
 ∀ (pins:List (Addr × Obj)) (s:Shared) (σ:St) (H:Hp) (Q:VK),Inv X pins σ H s->t σ H Q->wpAny (model X.prog X.w) X.A (eval e X.env) (EP X pins σ Q) X.xe s
def PT (X:Cx) (e:Expr) (t:TT):Prop :=
 ∀ (pins:List (Addr × Obj)) (s:Shared) (σ:St) (H:Hp) (Q:Bool->Hp->Prop),Inv X pins σ H s->t σ H Q->wpAny (model X.prog X.w) X.A (isTrue e X.env (eval e X.env)) (TP X pins σ Q) X.xe s
def PW (X:Cx) (e:Expr) (t:TT):Prop :=
 ∀ (whole:Sem Value) (pins:List (Addr × Obj)) (s:Shared) (σ:St) (H:Hp) (Q:Bool->Hp->Prop),Inv X pins σ H s->t σ H Q->wpAny (model X.prog X.w) X.A (isTrue e X.env whole) (TP X pins σ Q) X.xe s
theorem PW.pt {X:Cx} {e:Expr} {t:TT} (h:PW X e t):PT X e t:=h _
def PA (X:Cx) (es:List Expr) (t:TA):Prop :=
 ∀ (pos:Pos) (pins:List (Addr × Obj)) (s:Shared) (σ:St) (H:Hp) (Q:List V->Hp->Prop),Inv X pins σ H s->t σ H Q->wpAny (model X.prog X.w) X.A (spliced (backTo pos (starEach es X.env))) (AP X pins σ Q) X.xe s
def PS (X:Cx) (st:Stmt) (t:TS):Prop :=
 ∀ (pins:List (Addr × Obj)) (s:Shared) (σ:St) (H:Hp) (D:Ends),Inv X pins σ H s->t D σ H->wpAny (model X.prog X.w) X.A (exec st X.env) (SP X pins D) X.xe s
def PSs (X:Cx) (st:List Stmt) (t:TS):Prop :=
 ∀ (pins:List (Addr × Obj)) (s:Shared) (σ:St) (H:Hp) (D:Ends),Inv X pins σ H s->t D σ H->wpAny (model X.prog X.w) X.A (execs st X.env) (SP X pins D) X.xe s
theorem thn {α:Type} {t:Sem α} {Q Q':α->Shared->Prop} {M:Model} {A:Around} {E:Value->Shared->Prop} {s:Shared} (h:wpAny M A t Q E s) (hQ:∀ a s,Q a s->Q' a s):wpAny M A t Q' E s:=wpAny_mono h hQ fun _ _ x=>x
end L2
namespace L2
open PySem PySem.Spec PyProof.Rows
section
variable {X : Cx}
def tVar (i:Nat):TE:=fun σ H Q=>∃ v,σ[i]?=some (some v)/\Q v H
def tC (v:V):TE:=fun _ H Q=>Q v H
theorem zj2 {i:Nat} {x:Str} {pos:Pos} (hN:X.N[i]?=some x) (hv:Vis X.env.scope x) (hd:(x == ("__debug__":Str))=false:=by decide) (hcd:(x == ("__classdict__":Str))=false:=by decide):PE X (.Name x pos) (tVar i):=by
 intro pins s σ H Q I h
 obtain ⟨v,e,h⟩:=h
 obtain ⟨m,hn,hl⟩:=I.loc
 obtain ⟨u,r,l⟩:=hl i x v hN e hv
 have fin:EP X pins σ Q u s:=⟨v,H,I,r,h⟩
 rcases l with ⟨hk,hm⟩ | ⟨hk,c,hc,hcell⟩
 ·exact wpAny_Name (wpAny_loadName_local I.ok.kind hk hn hm fin) hd
 ·rcases hk with hk | hk
  ·exact wpAny_Name (wpAny_loadName_cell I.ok.kind hk hc hcell fin) hd
  ·exact wpAny_Name (wpAny_loadName_free I.ok.kind hk hc hcell fin hcd) hd
theorem zza {i j pos}:PE X (.Constant (.int i) j pos) (tC (.int i)):=fun _ _ _ H _ I h=>wpAny_Constant_int ⟨.int i,H,I.tok _,⟨_,rfl⟩,h⟩
theorem pe_bl {b j pos}:PE X (.Constant (.bool b) j pos) (tC (.bl b)):=fun _ _ _ H _ I h=>Constant_bool ⟨.bl b,H,I,rfl,h⟩
theorem zy8 {j pos}:PE X (.Constant .none j pos) (tC .non):=fun _ _ _ H _ I h=>Constant_none ⟨.non,H,I,rfl,h⟩
theorem zy7 {x j pos}:PE X (.Constant (.str x) j pos) (tC (.str x)):=fun _ _ _ H _ I h=>Calls.Constant_str ⟨.str x,H,I.tok _,⟨_,rfl⟩,h⟩
def Gl (X:Cx) (x:Str):Prop:=X.env.kindOf x=some .globalImplicit
theorem zrf {E:Value->Shared->Prop} {pins:List (Addr × Obj)} {s:Shared} {σ:St} {H:Hp} {x:Str} {u:Value} {pos:Pos} {Q:Value->Shared->Prop} (I:Inv X pins σ H s) (hg:Gl X x) (hm:X.mg x=some u) (h:Q u s)
  (hd:(x == ("__debug__":Str))=false:=by decide):wpAny (model X.prog X.w) X.A (eval (.Name x pos) X.env) Q E s :=
 Calls.Name_function_global I.ok.kind hg (Calls.loadGlobal_global (by rw [I.ok.glob];exact I.mod.glob.keeps I.bk) hm h) hd
theorem zjf {E:Value->Shared->Prop} {pins:List (Addr × Obj)} {s:Shared} {σ:St} {H:Hp} {x:Str} {u:Value} {pos:Pos} {Q:Value->Shared->Prop} (I:Inv X pins σ H s) (hg:Gl X x) (hm:X.mg x=none) (hv:bootBuiltins x=some u) (h:Q u s)
  (hn:x≠"__name__":=by decide) (hd:(x == ("__debug__":Str))=false:=by decide):wpAny (model X.prog X.w) X.A (eval (.Name x pos) X.env) Q E s:=by
 obtain ⟨mb,h1,h2⟩:=I.mod.blt
 exact Calls.Name_function_global I.ok.kind hg (Calls.loadGlobal_builtin (by rw [I.ok.glob];exact I.mod.glob.keeps I.bk) hm (by rw [I.ok.blt];exact h1.keeps I.bk) ((h2 x hn).trans hv) h) hd
theorem zwo {x:Str} {v:V} {u:Value} {pos:Pos} (hg:Gl X x) (hm:X.mg x=some u) (r:RelV v u) (hd:(x == ("__debug__":Str))=false:=by decide):PE X (.Name x pos) (tC v) :=
 fun _ _ _ H _ I h=>zrf I hg hm ⟨v,H,I,r,h⟩ hd
theorem zwr {x:Str} {v:V} {u:Value} {pos:Pos} (hg:Gl X x) (hm:X.mg x=none) (hv:bootBuiltins x=some u) (r:RelV v u) (hn:x≠"__name__":=by decide) (hd:(x == ("__debug__":Str))=false:=by decide):PE X (.Name x pos) (tC v) :=
 fun _ _ _ H _ I h=>zjf I hg hm hv ⟨v,H,I,r,h⟩ hn hd
def t2I (ta tb:TE) (k:Int->Int->Hp->Prop):St->Hp->Prop:=fun σ H=>ta σ H fun x H1=>tb σ H1 fun y H2=>∃ i j,x=.int i/\y=.int j/\k i j H2
def tAdd (ta tb:TE):TE:=fun σ H Q=>t2I ta tb (fun i j H2=>Q (.int (i + j)) H2) σ H
def tSub (ta tb:TE):TE:=fun σ H Q=>t2I ta tb (fun i j H2=>Q (.int (i - j)) H2) σ H
def tMul (ta tb:TE):TE:=fun σ H Q=>t2I ta tb (fun i j H2=>(-(2 ^ 64) < i/\i < 2 ^ 64)/\Q (.int (i * j)) H2) σ H
variable {a b : Expr} {ta tb : TE} {pos : Pos}
def PC (X:Cx) (op:CmpOp) (a b:Expr) (t:TE):Prop :=
 ∀ (pins:List (Addr × Obj)) (s:Shared) (σ:St) (H:Hp) (Q:VK),Inv X pins σ H s->t σ H Q →
  wpAny (model X.prog X.w) X.A (eval a X.env) (fun v s₁=>wpAny (model X.prog X.w) X.A (eval b X.env) (fun u s₂=>wpAny (model X.prog X.w) X.A (compareOp op v u) (EP X pins σ Q) X.xe s₂) X.xe s₁) X.xe s
def tCmp (p:Int->Int->Bool) (ta tb:TE):TE:=fun σ H Q=>t2I ta tb (fun i j H2=>Q (.bl (p i j)) H2) σ H
abbrev tLt:TE->TE->TE:=tCmp fun i j=>decide (i < j)
abbrev tLe:TE->TE->TE:=tCmp fun i j=>decide (i<=j)
abbrev tGt:TE->TE->TE:=tCmp fun i j=>decide (j < i)
abbrev tGe:TE->TE->TE:=tCmp fun i j=>decide (j<=i)
abbrev tEqI:TE->TE->TE:=tCmp fun i j=>decide (i=j)
abbrev tNeI:TE->TE->TE:=tCmp fun i j=>!decide (i=j)
def tIsN (ta:TE):TE:=fun σ H Q=>ta σ H fun x H1=>Q (.bl (decide (x=.non))) H1
def tNotN (ta:TE):TE:=fun σ H Q=>ta σ H fun x H1=>Q (.bl (!decide (x=.non))) H1
def tB (t:TE):TT:=fun σ H Q=>t σ H fun x H1=>∃ c,x=.bl c/\Q c H1
variable {tA tB' : TT} {rest : List Expr}
def tAnd (t u:TT):TT:=fun σ H Q=>t σ H fun c H1=>if c=true then u σ H1 Q else Q false H1
def tOr (t u:TT):TT:=fun σ H Q=>t σ H fun c H1=>if c=true then Q true H1 else u σ H1 Q
def tNot (t:TT):TT:=fun σ H Q=>t σ H fun c H1=>Q (!c) H1
theorem zwd (ha:PT X a tA):PW X (.BoolOp .And [a] pos) tA:=by
 intro wh pins s σ H Q I h
 refine isTrue_and (thn (ha pins s σ H Q I h) fun c s1 e=>?_)
 cases c with
 | true=>exact isTrue_and_nil e
 | false=>exact e
theorem zy0 (ha:PT X a tA):PW X (.BoolOp .Or [a] pos) tA:=by
 intro wh pins s σ H Q I h
 refine isTrue_or (thn (ha pins s σ H Q I h) fun c s1 e=>?_)
 cases c with
 | false=>exact isTrue_or_nil e
 | true=>exact e
theorem zy1 (ha:PT X a tA) (hb:PW X (.BoolOp .And (b::rest) pos) tB'):PW X (.BoolOp .And (a::b::rest) pos) (tAnd tA tB'):=by
 intro wh pins s σ H Q I h
 refine isTrue_and (thn (ha pins s σ H _ I h) fun c s1 ⟨H1,I1,q1⟩=>?_)
 cases c with
 | true=>exact hb wh pins s1 σ H1 Q I1 q1
 | false=>exact ⟨H1,I1,q1⟩
theorem pw_or (ha:PT X a tA) (hb:PW X (.BoolOp .Or (b::rest) pos) tB'):PW X (.BoolOp .Or (a::b::rest) pos) (tOr tA tB'):=by
 intro wh pins s σ H Q I h
 refine isTrue_or (thn (ha pins s σ H _ I h) fun c s1 ⟨H1,I1,q1⟩=>?_)
 cases c with
 | true=>exact ⟨H1,I1,q1⟩
 | false=>exact hb wh pins s1 σ H1 Q I1 q1
theorem zy2 (ha:PT X a tA):PT X (.UnaryOp .Not a pos) (tNot tA):=by
 intro pins s σ H Q I h
 exact isTrue_not (ha pins s σ H (fun c H1=>Q (!c) H1) I h)
def tAndV (ta tb:TE):TE:=fun σ H Q=>ta σ H fun x H1=>∃ c,x=.bl c/\if c=true then tb σ H1 Q else Q (.bl false) H1
def tOrV (ta tb:TE):TE:=fun σ H Q=>ta σ H fun x H1=>∃ c,x=.bl c/\if c=true then Q (.bl true) H1 else tb σ H1 Q
def tNotV (ta:TE):TE:=fun σ H Q=>ta σ H fun x H1=>∃ c,x=.bl c/\Q (.bl (!c)) H1
def tIf (t:TT) (ta tb:TE):TE:=fun σ H Q=>t σ H fun c H1=>if c=true then ta σ H1 Q else tb σ H1 Q
theorem ztu {c:Expr} (hc:PT X c tA) (ha:PE X a ta) (hb:PE X b tb):PE X (.IfExp c a b pos) (tIf tA ta tb):=by
 intro pins s σ H Q I h
 refine wpAny_IfExp (thn (hc pins s σ H _ I h) fun d s1 ⟨H1,I1,q1⟩=>?_)
 cases d with
 | true=>exact ha pins s1 σ H1 Q I1 q1
 | false=>exact hb pins s1 σ H1 Q I1 q1
end
end L2
namespace L2
open PySem PySem.Spec PyProof.Rows
def SqL (K:PySem.W.Frag) (H:Hp) (a:Addr) (xs:List V):Prop :=
 Rd H a (.lst xs) ∨
  ∃ (o:Obj) (its:Array Value) (n:Nat),K.lookup a=some o/\o.cls=.type "list"/\o.dict=none/\o.data=.seq its n/\its.size<=sizeLine/\Vals xs its.toList
def SqT (K:PySem.W.Frag) (H:Hp) (a:Addr) (xs:List V):Prop :=
 Rd H a (.tup xs) ∨
  ∃ (o:Obj) (its:Array Value) (n:Nat),K.lookup a=some o/\o.cls=.type "tuple"/\o.data=.seq its n/\its.size<=sizeLine/\Vals xs its.toList/\o.dict=none
def absV:Value->Option V
 | .none=>some .non
 | .bool b=>some (.bl b)
 | .int i _=>some (.int i)
 | .str x _=>some (.str x)
 | .bytes b _=>some (.byt b)
 | .float b _=>some (.flt b)
 | .ref a=>some (.ref a)
 | .type n=>some (.ty n)
 | _=>none
theorem RelV.abs {x:V} {u:Value} (r:RelV x u):absV u=some x:=by
 cases x with
 | non=>cases r;rfl
 | bl _=>cases r;rfl
 | int _=>obtain ⟨t,rfl⟩:=r;rfl
 | str _=>obtain ⟨t,rfl⟩:=r;rfl
 | byt _=>obtain ⟨t,rfl⟩:=r;rfl
 | flt _=>obtain ⟨t,rfl⟩:=r;rfl
 | ref _=>cases r;rfl
 | ty _=>cases r;rfl
theorem RelV.inj {x y:V} {u:Value} (r:RelV x u) (q:RelV y u):x=y:=Option.some.inj (r.abs.symm.trans q.abs)
theorem Vals.inj:∀ {xs ys:List V} {us:List Value},Vals xs us->Vals ys us->xs=ys
 | _,_,_,.nil,.nil=>rfl
 | _,_,_,.cons r t,.cons r' t'=>by rw [r.inj r',Vals.inj t t']
section
variable {X : Cx} {pins : List (Addr × Obj)} {σ : St} {H : Hp} {s : Shared} {a : Addr} {xs ys : List V}
theorem SqL.of {K:PySem.W.Frag} (h:H a=some (.lst xs)):SqL K H a xs:=.inl (.inl h)
theorem Inv.list (I:Inv X pins σ H s) (h:SqL X.K H a xs):∃ its:List Value,Vals xs its/\PlainL s.heap a its.toArray/\xs.length<=sizeLine:=by
 rcases h with h | ⟨o,its,n,hk,hc,hd,hs,hz,r⟩
 ·obtain ⟨z,its,n,r,e⟩:=h.ok I.hok
  exact ⟨its,r,⟨_,n,e,rfl,rfl,rfl⟩,z⟩
 ·refine ⟨its.toList,r,⟨o,n,I.kIn a o hk,hc,hd,by simpa using hs⟩,?_⟩
  have e:=r.length
  simp only [Array.length_toList] at e
  omega
theorem Inv.tuple (I:Inv X pins σ H s) (h:SqT X.K H a xs):∃ its:List Value,Vals xs its/\IsTup s.heap a its.toArray/\xs.length<=sizeLine:=by
 rcases h with h | ⟨o,its,n,hk,hc,hs,hz,r,hdn⟩
 ·obtain ⟨z,its,r,p⟩:=h.ok I.hok
  exact ⟨its,r,p.up,z⟩
 ·refine ⟨its.toList,r,⟨o,I.kIn a o hk,hc,n,by simpa using hs⟩,?_⟩
  have e:=r.length
  simp only [Array.length_toList] at e
  omega
theorem Inv.tupleX (I:Inv X pins σ H s) (h:SqT X.K H a xs):∃ its:List Value,Vals xs its/\IsTp s.heap a its.toArray/\xs.length<=sizeLine:=by
 rcases h with h | ⟨o,its,n,hk,hc,hs,hz,r,hdn⟩
 ·obtain ⟨z,its,r,p⟩:=h.ok I.hok
  exact ⟨its,r,p,z⟩
 ·refine ⟨its.toList,r,⟨o,I.kIn a o hk,hc,⟨n,by simpa using hs⟩,fun _=>hdn⟩,?_⟩
  have e:=r.length
  simp only [Array.length_toList] at e
  omega
theorem Inv.list_inj (I:Inv X pins σ H s) (h:SqL X.K H a xs) (h':SqL X.K H a ys):xs=ys:=by
 obtain ⟨its,r,⟨o,n,e,_,_,d⟩,_⟩:=I.list h
 obtain ⟨its',r',⟨o',n',e',_,_,d'⟩,_⟩:=I.list h'
 rw [e] at e';cases e'
 rw [d] at d'
 injection d' with d1 _
 have:its=its':=by simpa using congrArg Array.toList d1
 subst this
 exact r.inj r'
theorem Inv.tuple_inj (I:Inv X pins σ H s) (h:SqT X.K H a xs) (h':SqT X.K H a ys):xs=ys:=by
 obtain ⟨its,r,⟨o,e,_,n,d⟩,_⟩:=I.tuple h
 obtain ⟨its',r',⟨o',e',_,n',d'⟩,_⟩:=I.tuple h'
 rw [e] at e';cases e'
 rw [d] at d'
 injection d' with d1 _
 have:its=its':=by simpa using congrArg Array.toList d1
 subst this
 exact r.inj r'
end
abbrev Cx.wish (X:Cx) (E:Value->Shared->Prop):Cx:={ X with xe:=E }
abbrev Cx.nox (X:Cx):Cx:=X.wish fun _ _=>False
theorem Cx.Ok.wish {X:Cx} (ok:X.Ok) (E:Value->Shared->Prop):(X.wish E).Ok :=
 ⟨ok.mod,ok.kind,ok.glob,ok.blt,ok.above,ok.inj,ok.has,ok.cab,ok.hd,ok.frames,ok.stk,ok.exf,ok.bs,ok.bsz,ok.noex,ok.exfs,ok.funs,ok.frf⟩
theorem Cx.Ok.unwish {X:Cx} {E:Value->Shared->Prop} (ok:(X.wish E).Ok):X.Ok :=
 ⟨ok.mod,ok.kind,ok.glob,ok.blt,ok.above,ok.inj,ok.has,ok.cab,ok.hd,ok.frames,ok.stk,ok.exf,ok.bs,ok.bsz,ok.noex,ok.exfs,ok.funs,ok.frf⟩
section
variable {X : Cx} {pins : List (Addr × Obj)} {σ : St} {H : Hp} {s : Shared} {E : Value → Shared → Prop}
theorem Inv.wish (I:Inv X pins σ H s) (E:Value->Shared->Prop):Inv (X.wish E) pins σ H s:=⟨I.ok.wish E,I.os,I.bare,I.base,I.loc,I.cell,I.free,I.freeC,I.pin,I.hok,I.len⟩
theorem Inv.unwish (I:Inv (X.wish E) pins σ H s):Inv X pins σ H s:=⟨I.ok.unwish,I.os,I.bare,I.base,I.loc,I.cell,I.free,I.freeC,I.pin,I.hok,I.len⟩
theorem SP.unwish {D:Ends} {f:Flow} {s':Shared} (h:SP (X.wish E) pins D f s'):SP X pins D f s':=by
 cases f with
 | next=>obtain ⟨σ',H',I,q⟩:=h;exact ⟨σ',H',I.unwish,q⟩
 | brk=>obtain ⟨σ',H',I,q⟩:=h;exact ⟨σ',H',I.unwish,q⟩
 | cont=>obtain ⟨σ',H',I,q⟩:=h;exact ⟨σ',H',I.unwish,q⟩
 | ret u=>obtain ⟨v,σ',H',I,r,q⟩:=h;exact ⟨v,σ',H',I.unwish,r,q⟩
theorem PSs.nox {st:List Stmt} {t:TS} (h:PSs X.nox st t):PSs X st t:=fun pins s σ H D I hw =>
 wpAny_mono (h pins s σ H D (I.wish _) hw) (fun _ _ q=>q.unwish) fun _ _ z=>False.elim z
end
section
variable {X : Cx} {st : Stmt} {rest : List Stmt} {t u : TS} {e : Expr} {te : TE} {pos : Pos}
def tNext:TS:=fun D σ H=>D.nx σ H
def tSeq (t u:TS):TS:=fun D σ H=>t { D with nx:=u D } σ H
theorem zwg:PSs X [] tNext:=fun _ _ σ H _ I h=>wpAny_execs_nil ⟨σ,H,I,h⟩
theorem zog (h1:PS X st t) (h2:PSs X rest u):PSs X (st::rest) (tSeq t u):=by
 intro pins s σ H D I h
 refine wpAny_execs_cons (thn (h1 pins s σ H { D with nx:=u D } I h) fun f s1 q=>?_)
 cases f with
 | next =>
  obtain ⟨σ',H',I',q⟩:=q
  exact h2 pins s1 σ' H' D I' q
 | ret v=>exact q
 | brk=>exact q
 | cont=>exact q
theorem znf (h1:PS X st t):PSs X [st] t:=by
 intro pins s σ H D I h
 refine wpAny_execs_cons (thn (h1 pins s σ H D I h) fun f s1 q=>?_)
 cases f with
 | next=>exact wpAny_execs_nil q
 | ret v=>exact q
 | brk=>exact q
 | cont=>exact q
def tBreak:TS:=fun D σ H=>D.bk σ H
def tCont:TS:=fun D σ H=>D.ct σ H
theorem Inv.quiet {pins:List (Addr × Obj)} {σ:St} {H:Hp} {s:Shared} (I:Inv X pins σ H s):interactive X.env=false:=by simp [interactive,I.ok.kind]
def tDrop (te:TE):TS:=fun D σ H=>te σ H fun _ H1=>D.nx σ H1
theorem zwh (he:PE X e te) (hs:swapsWith e none pos.line X.env=pure false:=by rfl):PS X (.Expr e pos) (tDrop te):=by
 intro pins s σ H D I h
 exact wpAny_Expr_any (thn (he pins s σ H _ I h) fun v s1 ⟨x,H1,I1,r1,q1⟩=>⟨σ,H1,I1,q1⟩) I.quiet hs
def tRet (te:TE):TS:=fun D σ H=>te σ H D.rt
theorem zqu (he:PE X e te):PS X (.Return (some e) pos) (tRet te):=by
 intro pins s σ H D I h
 exact wpAny_Return_some (thn (he pins s σ H _ I h) fun v s1 ⟨x,H1,I1,r1,q1⟩=>⟨x,σ,H1,I1,r1,q1⟩)
def tRetN:TS:=fun D _ H=>D.rt .non H
def tIfS (c:TT) (t u:TS):TS:=fun D σ H=>c σ H fun b H1=>if b=true then t D σ H1 else u D σ H1
theorem ps_if {c:Expr} {a b:List Stmt} {tc:TT} (hc:PT X c tc) (ha:PSs X a t) (hb:PSs X b u):PS X (.If c a b pos) (tIfS tc t u):=by
 intro pins s σ H D I h
 refine wpAny_If (thn (hc pins s σ H _ I h) fun d s1 ⟨H1,I1,q1⟩=>?_)
 cases d with
 | true=>exact ha pins s1 σ H1 D I1 q1
 | false=>exact hb pins s1 σ H1 D I1 q1
def tNever:TS:=fun _ _ _=>False
end
abbrev TG:=V->St->Hp->(St->Hp->Prop)->Prop
abbrev TGs:=List V->St->Hp->(St->Hp->Prop)->Prop
def PG (X:Cx) (target:Expr) (t:TG):Prop :=
 ∀ (pins:List (Addr × Obj)) (s:Shared) (σ:St) (H:Hp) (v:V) (u:Value) (Q:St->Hp->Prop),Inv X pins σ H s->RelV v u->t v σ H Q →
  wpAny (model X.prog X.w) X.A (assign target X.env u) (fun _ s'=>∃ σ' H',Inv X pins σ' H' s'/\Q σ' H') X.xe s
def PGs (X:Cx) (ts:List Expr) (t:TGs):Prop :=
 ∀ (pins:List (Addr × Obj)) (s:Shared) (σ:St) (H:Hp) (vs:List V) (us:List Value) (Q:St->Hp->Prop),Inv X pins σ H s->Vals vs us->t vs σ H Q →
  wpAny (model X.prog X.w) X.A (assignInOrder ((assignEach ts X.env).map (·.2)) us) (fun _ s'=>∃ σ' H',Inv X pins σ' H' s'/\Q σ' H') X.xe s
abbrev TSet:=V->V->V->Hp->(Hp->Prop)->Prop
def PSet (X:Cx) (t:TSet):Prop :=
 ∀ (pins:List (Addr × Obj)) (s:Shared) (σ:St) (H:Hp) (o i v:V) (ov iv u:Value) (Q:Hp->Prop),Inv X pins σ H s->RelV o ov->RelV i iv->RelV v u->t o i v H Q →
  wpAny (model X.prog X.w) X.A (setItem ov iv u) (fun _ s'=>∃ H',Inv X pins σ H' s'/\Q H') X.xe s
abbrev TIp:=V->V->Hp->VK->Prop
def PIp (X:Cx) (op:Operator) (t:TIp):Prop :=
 ∀ (pins:List (Addr × Obj)) (s:Shared) (σ:St) (H:Hp) (x y:V) (v u:Value) (Q:VK),Inv X pins σ H s->RelV x v->RelV y u->t x y H Q →
  wpAny (model X.prog X.w) X.A (inplaceOp op v u) (EP X pins σ Q) X.xe s
section
variable {X : Cx} {pos : Pos}
def gName (i:Nat):TG:=fun v σ H Q=>Q (σ.set i (some v)) H
theorem zng {i:Nat} {x:Str} (hN:X.N.Nodup) (hi:X.N[i]?=some x) (hx:Loc X.env.scope x) (hf:X.fn x=true\/X.env.scope.names.lookup x=some .local:=by first | exact .inl rfl | exact .inr rfl | assumption):PG X (.Name x pos) (gName i):=by
 intro pins s σ H v u Q I r h
 exact wpAny_assign_Name (zn8 I hN hi hx r (fun s' I'=>⟨_,H,I',h⟩) hf)
def gNil:TGs:=fun vs σ H Q=>vs=[]/\Q σ H
def gCons (t:TG) (u:TGs):TGs:=fun vs σ H Q=>∃ v r,vs=v::r/\t v σ H fun σ' H'=>u r σ' H' Q
theorem zqy:PGs X [] gNil:=by
 intro pins s σ H vs us Q I r h
 obtain ⟨e,h⟩:=h
 subst e
 cases r
 exact assignInOrder_nil ⟨σ,H,I,h⟩
theorem zoh {e:Expr} {es:List Expr} {t:TG} {u:TGs} (h1:PG X e t) (h2:PGs X es u)
  (hs:(assignEach (e::es) X.env).map (·.2)=assign e X.env::(assignEach es X.env).map (·.2):=by rfl):PGs X (e::es) (gCons t u):=by
 intro pins s σ H vs us Q I r h
 obtain ⟨v,vr,e1,h⟩:=h
 subst e1
 cases r with
 | cons r rr =>
  rw [hs]
  refine assignInOrder_cons (thn (h1 pins s σ H _ _ _ I r h) fun _ s1 ⟨σ1,H1,I1,q1⟩=>?_)
  exact h2 pins s1 σ1 H1 _ _ Q I1 rr q1
def gTup (K:PySem.W.Frag) (n:Nat) (t:TGs):TG:=fun v σ H Q=>∃ a xs,v=.ref a/\SqT K H a xs/\xs.length=n/\t xs σ H Q
theorem zu6 {es:List Expr} {k:Nat} {t:TGs} {n:Nat} (hc:X.calm=true) (h:PGs X es t)
  (hn:(assignEach es X.env).length=n:=by rfl) (hst:(assignEach es X.env).findIdx? (·.1)=none:=by rfl):PG X (.Tuple es k pos) (gTup X.K n t):=by
 intro pins s σ H v u Q I r hw
 obtain ⟨a,xs,e1,hq,hl,hw⟩:=hw
 subst e1
 cases r
 obtain ⟨its,rv,ht,hz⟩:=I.tuple hq
 refine assign_Tuple_tuple (I.ok.hd hc) ht (by simp [hn,← hl,rv.length]) hst fun h' hx=>?_
 have I1:Inv X pins σ H { s with heap:=h' }:=I.kept (t':=s.toks) fun b o e=>hx b o (Nat.ne_of_lt (Heap.lt_size e)) e
 exact h pins _ σ H xs _ Q I1 (by simpa using rv) hw
def gSub (to ti:TE) (t:TSet):TG:=fun v σ H Q=>to σ H fun o H1=>ti σ H1 fun i H2=>t o i v H2 fun H3=>Q σ H3
def tAsg (te:TE) (g:TG):TS:=fun D σ H=>te σ H fun x H1=>g x σ H1 D.nx
theorem zy4 {tg e:Expr} {te:TE} {g:TG} (he:PE X e te) (hg:PG X tg g) (hs:swapsWithSole [tg] e pos.line X.env=pure false:=by rfl) (hw:swappedStores [tg] e X.env=pure none:=by rfl)
  (h1:(assignEach [tg] X.env).map (·.2)=[assign tg X.env]:=by rfl):PS X (.Assign [tg] e pos) (tAsg te g):=by
 intro pins s σ H D I h
 refine wpAny_Assign_stores (thn (he pins s σ H _ I h) fun v s1 ⟨x,H1,I1,r1,q1⟩=>?_) hs hw
 rw [h1]
 exact thn (hg pins s1 σ H1 x v _ I1 r1 q1) fun _ s2 q=>q
theorem zu5 {i:Nat} {x:Str} {e:Expr} {te:TE} {pos':Pos} (hN:X.N.Nodup) (hi:X.N[i]?=some x) (hx:Loc X.env.scope x) (he:PE X e te) (hs:swapsWith e (some (.Name x pos')) pos.line X.env=pure false:=by rfl) (hf:X.fn x=true\/X.env.scope.names.lookup x=some .local:=by first | exact .inl rfl | exact .inr rfl | assumption) :
  PS X (.Assign [.Name x pos'] e pos) (tAsg te (gName i)):=by
 intro pins s σ H D I h
 refine wpAny_Assign_Name (thn (he pins s σ H _ I h) fun v s1 ⟨y,H1,I1,r1,q1⟩=>?_) hs
 exact zn8 I1 hN hi hx r1 (fun s2 I2=>⟨_,H1,I2,q1⟩) hf
def tPar (i j:Nat) (ta:TA):TS:=fun D σ H=>ta σ H fun vs H1=>∃ v w,vs=[v,w]/\D.nx ((σ.set i (some v)).set j (some w)) H1
def tAug (i:Nat) (te:TE) (ti:TIp):TS:=fun D σ H=>∃ x,σ[i]?=some (some x)/\te σ H fun y H1=>ti x y H1 fun z H2=>D.nx (σ.set i (some z)) H2
def tAugS (to ti te:TE) (tget:V->V->Hp->VK->Prop) (tip:TIp) (tset:TSet):TS:=fun D σ H=>to σ H fun o H1=>ti σ H1 fun i H2=>tget o i H2 fun x H3=>te σ H3 fun y H4=>tip x y H4 fun z H5=>tset o i z H5 fun H6=>D.nx σ H6
def PGet (X:Cx) (t:V->V->Hp->VK->Prop):Prop :=
 ∀ (pins:List (Addr × Obj)) (s:Shared) (σ:St) (H:Hp) (o i:V) (ov iv:Value) (Q:VK),Inv X pins σ H s->RelV o ov->RelV i iv->t o i H Q →
  wpAny (model X.prog X.w) X.A (getItem ov iv) (EP X pins σ Q) X.xe s
def ipI (f:Int->Int->Int):TIp:=fun x y H Q=>∃ i j,x=.int i/\y=.int j/\Q (.int (f i j)) H
end
section
variable {X : Cx} {pos : Pos}
def zyn (c:TT) (tb:TS):TS:=fun D σ H=>∃ W:Nat->St->Hp->Prop,(∃ m,W m σ H)/\∀ m σ H,W m σ H →
 c σ H fun b H1=>if b=true then ∃ N:St->Hp->Prop,(∀ σ' H',N σ' H'->∃ m',m' < m/\W m' σ' H')/\tb { D with nx:=N,ct:=N,bk:=D.nx } σ H1 else D.nx σ H1
theorem ztr {c:Expr} {body:List Stmt} {tc:TT} {tb:TS} (hp:PassesOwn (model X.prog X.w) X.A X.env X.xe) (hc:PT X c tc) (hb:PSs X body tb):PS X (.While c body [] pos) (zyn tc tb):=by
 intro pins s σ H D I h
 obtain ⟨W,⟨m0,w0⟩,turn⟩:=h
 refine wpAny_While (codeAny_whileLoop (fun n s'=>∃ σ' H',Inv X pins σ' H' s'/\W n σ' H') ?_ m0 ⟨σ,H,I,w0⟩)
 rintro n s1 ⟨σ1,H1,I1,w1⟩
 refine wpAny_passesOwn hp (thn (hc pins s1 σ1 H1 _ I1 (turn n σ1 H1 w1)) fun b s2 ⟨H2,I2,q2⟩=>?_)
 cases b with
 | true =>
  obtain ⟨N,hN,q2⟩:=q2
  rw [if_pos rfl]
  refine wpAny_passesOwn hp (thn (hb pins s2 σ1 H2 _ I2 q2) fun f s3 q3=>?_)
  cases f with
  | next =>
   obtain ⟨σ3,H3,I3,n3⟩:=q3
   obtain ⟨m',hm,w3⟩:=hN σ3 H3 n3
   exact ⟨m',hm,σ3,H3,I3,w3⟩
  | cont =>
   obtain ⟨σ3,H3,I3,n3⟩:=q3
   obtain ⟨m',hm,w3⟩:=hN σ3 H3 n3
   exact ⟨m',hm,σ3,H3,I3,w3⟩
  | brk=>exact q3
  | ret v=>exact q3
 | false =>
  rw [if_neg Bool.false_ne_true]
  exact wpAny_execs_nil ⟨σ1,H2,I2,q2⟩
end
structure It where
 go:Nat->Hp->Prop
 yld:Nat->Hp->V->Hp->Prop
 stop:Nat->Hp->Prop
def FpOk (X:Cx) (pins:List (Addr × Obj)) (H:Hp) (b:Addr):Prop :=
 H b=none/\b≠X.env.locals/\b ∉ X.fs/\(b∈X.ex\/X.s₀.heap.objs.size<=b)/\(∀ x c,X.env.cells.lookup x=some c->c≠b)/\∀ p∈X.pn++pins,p.1≠b
theorem Inv.fpOk {X:Cx} {pins:List (Addr × Obj)} {σ:St} {H H':Hp} {s:Shared} {b:Addr} (I:Inv X pins σ H s) (hb:s.heap.objs.size<=b) (hn:H' b=none):FpOk X pins H' b:=by
 refine ⟨hn,Nat.ne_of_gt (Nat.lt_of_lt_of_le I.lt hb),I.nofs hb,.inr (Nat.le_trans I.sz hb),fun x c e z=>?_,fun p hp z=>?_⟩
 ·obtain ⟨v,q⟩:=I.cell x c e
  exact absurd (Nat.lt_of_lt_of_le q.lt (by rw [z];exact hb)) (Nat.lt_irrefl _)
 ·exact absurd (Nat.lt_of_lt_of_le (Heap.lt_size (I.pin p hp).1) (by rw [z];exact hb)) (Nat.lt_irrefl _)
structure Turn (P:Program) (w:World) (K:PySem.W.Frag) (tg:Expr) (J:It) (fp:List Addr) (it:Addr) (tn:Nat->Heap->Prop):Prop where
 mem:it∈fp
 obj:∀ i h,tn i h->∀ b∈fp,∃ o,h.get? b=some o/\∀ v,o.data≠.cell v
 keep:∀ i h h',tn i h->(∀ b∈fp,∀ o,h.get? b=some o->h'.get? b=some o)->tn i h'
 item:∀ (X:Cx),X.prog=P->X.w=w->X.K=K->X.calm=true->∀ (i:Nat) (pins:List (Addr × Obj)) (s:Shared) (σ:St) (H:Hp) (E:Value->Shared->Prop),Inv X pins σ H s->(∀ b∈fp,FpOk X pins H b)->tn i s.heap->J.go i H →
  wpAny (model P w) X.A (pyNext (.ref it)) (fun r s1=>∃ u,r=some u ∧
   wpAny (model P w) X.A (letOwnedTupleGo tg (.ref it) u) (fun _ s2=>∃ x H',Inv X pins σ H' s2/\RelV x u/\J.yld i H x H'/\tn (i + 1) s2.heap/\∀ b∈fp,H' b=none) E s1) E s
 done:∀ (X:Cx),X.prog=P->X.w=w->X.K=K->X.calm=true->∀ (i:Nat) (pins:List (Addr × Obj)) (s:Shared) (σ:St) (H:Hp) (E:Value->Shared->Prop),Inv X pins σ H s->(∀ b∈fp,FpOk X pins H b)->tn i s.heap->J.stop i H →
  wpAny (model P w) X.A (pyNext (.ref it)) (fun r s1=>r=none/\Inv X pins σ H s1) E s
 self:∀ (A:Around) (i:Nat) (s:Shared) (Q:Value->Shared->Prop) (E:Value->Shared->Prop),tn i s.heap->Q (.ref it) s->wpAny (model P w) A (pyIter (.ref it)) Q E s
abbrev TI:=St->Hp->(It->Hp->Prop)->Prop
def PIE (X:Cx) (pins:List (Addr × Obj)) (σ:St) (tg:Expr) (R:It->Hp->Prop) (itv:Value) (s2:Shared):Prop :=
 ∃ (it:Addr) (fp:List Addr) (tn:Nat->Heap->Prop) (J:It) (H':Hp),itv=.ref it/\Inv X pins σ H' s2/\Turn X.prog X.w X.K tg J fp it tn/\tn 0 s2.heap/\(∀ b∈fp,FpOk X pins H' b)/\R J H'
def PI (X:Cx) (tg iter:Expr) (wi:TI):Prop :=
 ∀ (pins:List (Addr × Obj)) (s:Shared) (σ:St) (H:Hp) (R:It->Hp->Prop),Inv X pins σ H s->wi σ H R →
  wpAny (model X.prog X.w) X.A (eval iter X.env) (fun v s1=>wpAny (model X.prog X.w) X.A (pyIter v) (PIE X pins σ tg R) X.xe s1) X.xe s
theorem zpy {M:Model} {A:Around} {E:Value->Shared->Prop} {s:Shared} {tg:Expr} {it:Addr} {u:Value} {o:Obj} {n:String} {vs:Array Value} {Q:Unit->Shared->Prop} (ho:s.heap.get? it=some o) (hc:o.cls=.type n) (hd:o.data=.fields vs)
    (hn:["enumerate","zip","dict_itemiterator","dict_reverseitemiterator","odict_iterator","itertools.zip_longest","itertools.pairwise"].contains n=false) (hQ:Q () s):wpAny M A (letOwnedTupleGo tg (.ref it) u) Q E s:=by
  unfold letOwnedTupleGo
  cases tg <;> first
    | exact wpAny_pure hQ
    | (cases u <;> first
        | exact wpAny_pure hQ
        | (refine wpAny_bind (wpAny_load ho ?_)
           rw [hc,hd]
           show wpAny M A (if (["enumerate","zip","dict_itemiterator","dict_reverseitemiterator","odict_iterator","itertools.zip_longest","itertools.pairwise"].contains n && vs[0]? == some (rawInt _))=true then _ else _) Q E s
           rw [if_neg (by intro h;rw [hn,Bool.false_and] at h;cases h)]
           exact wpAny_pure hQ))
def Itl (K:PySem.W.Frag) (a:Addr):It :=
 ⟨fun i H=>∃ xs x,SqL K H a xs/\xs[i]?=some x,fun i H x H'=>H'=H/\∀ xs,SqL K H a xs->xs[i]?=some x,fun i H=>∃ xs,SqL K H a xs/\xs.length<=i⟩
def Itt (K:PySem.W.Frag) (a:Addr):It :=
 ⟨fun i H=>∃ xs x,SqT K H a xs/\xs[i]?=some x,fun i H x H'=>H'=H/\∀ xs,SqT K H a xs->xs[i]?=some x,fun i H=>∃ xs,SqT K H a xs/\xs.length<=i⟩
def Itr (lo:Int) (n:Nat):It:=⟨fun i _=>i < n,fun i H x H'=>H'=H/\x=.int (lo + i),fun i _=>n<=i⟩
theorem zqg {P:Program} {w:World} {K:PySem.W.Frag} {tg:Expr} (a it:Addr):Turn P w K tg (Itl K a) [it] it (fun i h=>h.IsListIter it a i) where
 mem:=by simp
 obj:=fun i h st b hb=>by
  have e:b=it:=by simpa using hb
  subst e
  obtain ⟨o,e,c,d⟩:=st
  exact ⟨o,e,fun v z=>by rw [d] at z;cases z⟩
 keep:=fun i h h' st k=>st.at fun o e=>k it (by simp) o e
 item:=by
  intro X hP hw hK hc i pins s σ H E I hf st hg
  subst hP hw hK
  obtain ⟨xs,x,hq,hx⟩:=hg
  obtain ⟨its,rv,p,hz⟩:=I.list hq
  obtain ⟨u,hu,ru⟩:=rv.get hx
  obtain ⟨f0,f1,f2,f3,f4,f5⟩:=hf it (by simp)
  refine wpAny_pyNext_list_item st p.isList (x:=u) (by simpa using hu) fun h' st' sb=>?_
  have I1:Inv X pins σ H { s with heap:=h' }:=I.turned (t':=s.toks) (fun b o hb e=>(sb.2 b hb).trans e) f0 f1 f3 f4 f5
  obtain ⟨o,e,c,d⟩:=id st'
  exact ⟨u,rfl,zpy (s:={ s with heap:=h' }) e c d (by decide) ⟨x,H,I1,ru,⟨rfl,fun ys hy=>by rw [I.list_inj hy hq];exact hx⟩,st',fun b hb=>(hf b hb).1⟩⟩
 done:=by
  intro X hP hw hK hc i pins s σ H E I hf st hg
  subst hP hw hK
  obtain ⟨xs,hq,hx⟩:=hg
  obtain ⟨its,rv,p,hz⟩:=I.list hq
  obtain ⟨f0,f1,f2,f3,f4,f5⟩:=hf it (by simp)
  have hl:=rv.length
  exact wpAny_pyNext_list_end (I.ok.hd hc) st p.isList (by simp;omega) fun h' eb=>⟨rfl,I.turned (t':=s.toks) (fun b o hb e=>eb b o hb e) f0 f1 f3 f4 f5⟩
 self:=fun _ _ _ _ _ st h=>wpAny_pyIter_listiter st h
theorem zpf {P:Program} {w:World} {K:PySem.W.Frag} {tg:Expr} (a it:Addr):Turn P w K tg (Itt K a) [it] it (fun i h=>h.IsTupleIter it a i) where
 mem:=by simp
 obj:=fun i h st b hb=>by
  have e:b=it:=by simpa using hb
  subst e
  obtain ⟨o,e,c,d⟩:=st
  exact ⟨o,e,fun v z=>by rw [d] at z;cases z⟩
 keep:=fun i h h' st k=>st.at fun o e=>k it (by simp) o e
 item:=by
  intro X hP hw hK hc i pins s σ H E I hf st hg
  subst hP hw hK
  obtain ⟨xs,x,hq,hx⟩:=hg
  obtain ⟨its,rv,p,hz⟩:=I.tuple hq
  obtain ⟨u,hu,ru⟩:=rv.get hx
  obtain ⟨f0,f1,f2,f3,f4,f5⟩:=hf it (by simp)
  refine wpAny_pyNext_tuple_item st (show s.heap.IsTuple a its.toArray from p) (x:=u) (by simpa using hu) fun h' st' sb=>?_
  have I1:Inv X pins σ H { s with heap:=h' }:=I.turned (t':=s.toks) (fun b o hb e=>(sb.2 b hb).trans e) f0 f1 f3 f4 f5
  obtain ⟨o,e,c,d⟩:=id st'
  exact ⟨u,rfl,zpy (s:={ s with heap:=h' }) e c d (by decide) ⟨x,H,I1,ru,⟨rfl,fun ys hy=>by rw [I.tuple_inj hy hq];exact hx⟩,st',fun b hb=>(hf b hb).1⟩⟩
 done:=by
  intro X hP hw hK hc i pins s σ H E I hf st hg
  subst hP hw hK
  obtain ⟨xs,hq,hx⟩:=hg
  obtain ⟨its,rv,p,hz⟩:=I.tuple hq
  obtain ⟨f0,f1,f2,f3,f4,f5⟩:=hf it (by simp)
  have hl:=rv.length
  exact wpAny_pyNext_tuple_end (I.ok.hd hc) st (show s.heap.IsTuple a its.toArray from p) (by simp;omega) fun h' eb=>⟨rfl,I.turned (t':=s.toks) (fun b o hb e=>eb b o hb e) f0 f1 f3 f4 f5⟩
 self:=fun _ _ _ _ _ st h=>wpAny_pyIter_tupleiter st h
theorem zph {P:Program} {w:World} {K:PySem.W.Frag} {tg:Expr} (it:Addr) (lo:Int) (n:Nat):Turn P w K tg (Itr lo n) [it] it (fun i h=>IsRangeIter h it (lo + (i:Nat) * 1) ((n:Int) - (i:Nat)) 1) where
 mem:=by simp
 obj:=fun i h st b hb=>by
  have e:b=it:=by simpa using hb
  subst e
  exact ⟨_,st,fun v z=>by
   have z':Data.fields _=Data.cell v:=z
   cases z'⟩
 keep:=fun i h h' st k=>k it (by simp) _ st
 item:=by
  intro X hP hw hK hc i pins s σ H E I hf st hg
  subst hP hw hK
  obtain ⟨f0,f1,f2,f3,f4,f5⟩:=hf it (by simp)
  have W:=Walks.range (prog:=X.prog) (w:=X.w) (I.ok.hd hc) it lo 1 n
  refine W.item i s _ _ hg st fun v h' tk hv st' kk=>?_
  obtain ⟨t,rfl⟩:=hv
  have I1:Inv X pins σ H { s with heap:=h',toks:=tk }:=I.turned (fun b o hb e=>kk b o (by simpa using hb) e) f0 f1 f3 f4 f5
  refine ⟨_,rfl,zpy (s:={ s with heap:=h',toks:=tk }) (n:="range_iterator") st' rfl rfl (by decide) ⟨.int (lo + i),H,I1,⟨t,?_⟩,⟨rfl,rfl⟩,st',fun b hb=>(hf b hb).1⟩⟩
  rw [Int.mul_one]
 done:=by
  intro X hP hw hK hc i pins s σ H E I hf st hg
  subst hP hw hK
  obtain ⟨f0,f1,f2,f3,f4,f5⟩:=hf it (by simp)
  exact wpAny_pyNext_range_end (I.ok.hd hc) st (by have:n<=i:=hg;omega) fun h' eb=>⟨rfl,I.turned (t':=s.toks) (fun b o hb e=>eb b o hb e) f0 f1 f3 f4 f5⟩
 self:=fun _ _ _ _ _ st h=>wpAny_pyIter_rangeiter st h
end L2
namespace L2
open PySem PySem.Spec PyProof.Rows
section
variable {X : Cx} {tg : Expr}
def iList (K:PySem.W.Frag) (tl:TE):TI:=fun σ H R=>tl σ H fun x H1=>∃ a,x=.ref a/\(∃ xs,SqL K H1 a xs)/\R (Itl K a) H1
def iTup (K:PySem.W.Frag) (tl:TE):TI:=fun σ H R=>tl σ H fun x H1=>∃ a,x=.ref a/\(∃ xs,SqT K H1 a xs)/\R (Itt K a) H1
theorem zoe {pins:List (Addr × Obj)} {σ:St} {H:Hp} {s:Shared} {R:It->Hp->Prop} {E:Value->Shared->Prop} {lo hi:Int} {t u v:Tok} {tk:Nat} (I:Inv X pins σ H s) (h1:-(2 ^ 62)<=lo) (h2:lo < 2 ^ 62) (h3:-(2 ^ 62)<=hi) (h4:hi < 2 ^ 62)
  (q:R (Itr lo (hi - lo).toNat) H):wpAny (model X.prog X.w) X.A (pyIter (.ref s.heap.objs.size)) (PIE X pins σ tg R) E { s with heap:=s.heap.push { cls:=.type "range",data:=.fields #[.int lo t,.int hi u,.int 1 v] },toks:=tk }:=by
 refine wpAny_pyIter_range (IsRange.new ..) (small_one h1 h2 h3 h4) ?_
 have I1:Inv X pins σ H { s with heap:=s.heap.push { cls:=.type "range",data:=.fields #[.int lo t,.int hi u,.int 1 v] },toks:=tk }:=I.kept fun b o e=>Heap.get?_push_of_some _ e
 refine ⟨(s.heap.push { cls:=.type "range",data:=.fields #[.int lo t,.int hi u,.int 1 v] }).objs.size,[(s.heap.push { cls:=.type "range",data:=.fields #[.int lo t,.int hi u,.int 1 v] }).objs.size],_,_,H,rfl,
  I1.kept (t':=tk) fun b o e=>Heap.get?_push_of_some _ e,zph _ lo (hi - lo).toNat,?_,fun b hb=>?_,q⟩
 ·have e1:lo + ((0:Nat):Int) * 1=lo:=by simp
  have e2:(((hi - lo).toNat:Nat):Int) - ((0:Nat):Int)=Builtin.Range.rangeSize lo hi 1:=by rw [rangeSize_one];split <;> omega
  show IsRangeIter _ _ (lo + ((0:Nat):Int) * 1) ((((hi - lo).toNat:Nat):Int) - ((0:Nat):Int)) 1
  rw [e1,e2]
  exact Heap.get?_push_size _ rfl
 ·have e:b=(s.heap.push { cls:=.type "range",data:=.fields #[.int lo t,.int hi u,.int 1 v] }).objs.size:=by simpa using hb
  subst e
  exact I1.fpOk (Nat.le_refl _) (I1.hok.fresh (Nat.le_refl _))
def iRng1 (ta:TA):TI:=fun σ H R=>ta σ H fun vs H1=>∃ j:Int,vs=[.int j]/\-(2 ^ 62)<=j/\j < 2 ^ 62/\R (Itr 0 j.toNat) H1
def iRng2 (ta:TA):TI:=fun σ H R=>ta σ H fun vs H1=>∃ i j:Int,vs=[.int i,.int j]/\(-(2 ^ 62)<=i/\i < 2 ^ 62/\-(2 ^ 62)<=j/\j < 2 ^ 62)/\R (Itr i (j - i).toNat) H1
theorem zqx {a:Expr} {ta:TA} {p pos:Pos} (hg:Gl X "range") (hm:X.mg "range"=none) (ha:PA X [a] ta) (hs:starEach [a] X.env=[(false,eval a X.env)]:=by rfl):PI X tg (.Call (.Name "range" p) [a] [] pos) (iRng1 ta):=by
 intro pins s σ H R I h
 refine Call_ (zjf I hg hm boot_range (PyProof.Rows.callWith_type1 (thn (ha pos pins s σ H _ I h) fun us s1 ⟨vs,H1,I1,r1,q1⟩=>?_) hs rfl))
 obtain ⟨j,e,q1,q2,q⟩:=q1
 subst e
 cases r1 with
 | cons r rr =>
  cases rr
  obtain ⟨t,rfl⟩:=r
  exact call_range_1 (zoe I1 (by omega) (by omega) q1 q2 (by simpa using q))
theorem zqw {a b:Expr} {ta:TA} {p pos:Pos} (hg:Gl X "range") (hm:X.mg "range"=none) (ha:PA X [a,b] ta) (hs:starEach [a,b] X.env=[(false,eval a X.env),(false,eval b X.env)]:=by rfl) (hs2:starEach [b] X.env=[(false,eval b X.env)]:=by rfl) :
  PI X tg (.Call (.Name "range" p) [a,b] [] pos) (iRng2 ta):=by
 intro pins s σ H R I h
 refine Call_ (zjf I hg hm boot_range (PyProof.Rows.callWith_type1 (thn (ha pos pins s σ H _ I h) fun us s1 ⟨vs,H1,I1,r1,q1⟩=>?_) (by rw [hs,hs2]) (by rw [hs2];rfl)))
 obtain ⟨i,j,e,⟨q1,q2,q3,q4⟩,q⟩:=q1
 subst e
 cases r1 with
 | cons r rr =>
  cases rr with
  | cons r' rr =>
   cases rr
   obtain ⟨t,rfl⟩:=r
   obtain ⟨t',rfl⟩:=r'
   exact call_range_2 (zoe I1 q1 q2 q3 q4 q)
def tFor (wi:TI) (g:TG) (tb:TS):TS:=fun D σ H=>wi σ H fun J H1=>∃ W:Nat->Nat->St->Hp->Prop,(∃ m,W 0 m σ H1)/\∀ i m σ H,W i m σ H →
 (J.stop i H/\D.nx σ H)\/(J.go i H/\∃ N:St->Hp->Prop,(∀ σ' H',N σ' H'->∃ m',m' < m/\W (i + 1) m' σ' H')/\∀ x H',J.yld i H x H'->g x σ H' fun σ2 H2=>tb { D with nx:=N,ct:=N,bk:=D.nx } σ2 H2)
def zky (fp:List Addr) (h:Heap):List (Addr × Obj):=fp.filterMap fun b=>(h.get? b).map fun o=>(b,o)
theorem zg8 {fp:List Addr} {h:Heap} {b:Addr} {o:Obj} (hb:b∈fp) (e:h.get? b=some o):(b,o)∈zky fp h:=List.mem_filterMap.mpr ⟨b,hb,by rw [e];rfl⟩
theorem zq8 {fp:List Addr} {h:Heap} {p:Addr × Obj} (hp:p∈zky fp h):p.1∈fp/\h.get? p.1=some p.2:=by
 obtain ⟨b,hb,e⟩:=List.mem_filterMap.mp hp
 cases q:h.get? b with
 | none=>rw [q] at e;cases e
 | some o =>
  rw [q] at e
  have e':(b,o)=p:=Option.some.inj e
  subst e'
  exact ⟨hb,q⟩
theorem Inv.pinned {pins:List (Addr × Obj)} {σ:St} {H:Hp} {s:Shared} {fp:List Addr} (I:Inv X pins σ H s) (hf:∀ b∈fp,FpOk X pins H b) (ho:∀ b∈fp,∃ o,s.heap.get? b=some o/\∀ v,o.data≠.cell v):Inv X (pins++zky fp s.heap) σ H s :=
 I.pins_of fun p hp=>(List.mem_append.mp hp).elim (fun z=>I.pin p (List.mem_append_right _ z)) fun z=>by
  obtain ⟨hb,e⟩:=zq8 z
  obtain ⟨f0,f1,f2,_⟩:=hf p.1 hb
  obtain ⟨o,e',d⟩:=ho p.1 hb
  rw [e] at e';cases e'
  exact ⟨e,f0,f1,f2,d⟩
theorem Inv.unpinned {pins pl:List (Addr × Obj)} {σ:St} {H:Hp} {s:Shared} (I:Inv X (pins++pl) σ H s):Inv X pins σ H s:=I.pins_of fun p hp=>I.pin p (List.mem_append_right _ (List.mem_append_left _ hp))
theorem zy3 {iter:Expr} {body:List Stmt} {wi:TI} {g:TG} {tb:TS} {pos:Pos} (hp:PassesOwn (model X.prog X.w) X.A X.env X.xe) (hc:X.calm=true) (hi:PI X tg iter wi) (hg:PG X tg g) (hb:PSs X body tb)
  (hs:∀ x,foldedSetIterable iter X.env x=pure x:=by intro _;rfl):PS X (.For tg iter body [] pos) (tFor wi g tb):=by
 intro pins s σ H D I h
 refine wpAny_For (thn (hi pins s σ H _ I h) fun v s1 h1=>thn h1 fun itv s2 h2=>?_) hs
 obtain ⟨it,fp,tn,J,H2,e,I2,T,st2,f2,W,⟨m0,w0⟩,turn⟩:=h2
 subst e
 have stat:∀ {H':Hp},(∀ b∈fp,H' b=none)->∀ b∈fp,FpOk X pins H' b:=fun hn b hb=>⟨hn b hb,(f2 b hb).2⟩
 refine codeAny_forLoop_any (fun n s'=>∃ i σ' H',Inv X pins σ' H' s'/\tn i s'.heap/\(∀ b∈fp,H' b=none)/\W i n σ' H') ?_ m0 ⟨0,σ,H2,I2,st2,fun b hb=>(f2 b hb).1,w0⟩
 rintro n s3 ⟨i,σ3,H3,I3,st3,fr3,w3⟩
 rcases turn i n σ3 H3 w3 with ⟨stop,qn⟩ | ⟨go,N,hN,step⟩
 ·refine wpAny_passesOwn hp (thn (T.done X rfl rfl rfl hc i pins s3 σ3 H3 X.xe I3 (stat fr3) st3 stop) fun r s4 ⟨hr,I4⟩=>?_)
  subst hr
  exact wpAny_execs_nil ⟨σ3,H3,I4,qn⟩
 ·refine wpAny_passesOwn hp (thn (T.item X rfl rfl rfl hc i pins s3 σ3 H3 X.xe I3 (stat fr3) st3 go) fun r s4 ⟨u,hr,h4⟩=>?_)
  subst hr
  refine wpAny_passesOwn hp (thn h4 fun _ s5 ⟨x,H5,I5,r5,y5,st5,fr5⟩=>?_)
  have I5':=I5.pinned (stat fr5) (T.obj _ _ st5)
  refine wpAny_passesOwn hp (thn (hg _ s5 σ3 H5 x u _ I5' r5 (step x H5 y5)) fun _ s6 ⟨σ6,H6,I6,q6⟩=>?_)
  refine wpAny_passesOwn hp (thn (hb _ s6 σ6 H6 _ I6 q6) fun f s7 q7=>?_)
  have again:∀ {σ7:St} {H7:Hp},Inv X (pins++zky fp s5.heap) σ7 H7 s7->N σ7 H7->∃ m,m < n/\∃ i σ' H',Inv X pins σ' H' s7/\tn i s7.heap/\(∀ b∈fp,H' b=none)/\W i m σ' H':=fun {σ7 H7} I7 n7=>by
   obtain ⟨m',hm,w7⟩:=hN σ7 H7 n7
   refine ⟨m',hm,i + 1,σ7,H7,I7.unpinned,T.keep _ _ _ st5 fun b hb o e=>(I7.pin (b,o) (List.mem_append_right _ (List.mem_append_right _ (zg8 hb e)))).1,fun b hb=>?_,w7⟩
   obtain ⟨o,e,d⟩:=T.obj _ _ st5 b hb
   exact (I7.pin (b,o) (List.mem_append_right _ (List.mem_append_right _ (zg8 hb e)))).2.1
  cases f with
  | next=>obtain ⟨σ7,H7,I7,n7⟩:=q7;exact again I7 n7
  | cont=>obtain ⟨σ7,H7,I7,n7⟩:=q7;exact again I7 n7
  | brk=>obtain ⟨σ7,H7,I7,q7⟩:=q7;exact ⟨σ7,H7,I7.unpinned,q7⟩
  | ret v=>obtain ⟨x7,σ7,H7,I7,r7,q7⟩:=q7;exact ⟨x7,σ7,H7,I7.unpinned,r7,q7⟩
end
end L2
namespace L2
open PySem PySem.Spec PyProof.Rows
abbrev R2:=V->V->Hp->VK->Prop
def OpR (X:Cx) (f:Value->Value->Sem Value) (r:R2):Prop :=
 ∀ (pins:List (Addr × Obj)) (s:Shared) (σ:St) (H:Hp) (x y:V) (v u:Value) (Q:VK),Inv X pins σ H s->RelV x v->RelV y u->r x y H Q →
  wpAny (model X.prog X.w) X.A (f v u) (EP X pins σ Q) X.xe s
def UnR (X:Cx) (f:Value->Sem Value) (r:V->Hp->VK->Prop):Prop :=
 ∀ (pins:List (Addr × Obj)) (s:Shared) (σ:St) (H:Hp) (x:V) (v:Value) (Q:VK),Inv X pins σ H s->RelV x v->r x H Q →
  wpAny (model X.prog X.w) X.A (f v) (EP X pins σ Q) X.xe s
def zhw (X:Cx) (f:Value) (r:List V->Hp->VK->Prop):Prop :=
 ∀ (pins:List (Addr × Obj)) (s:Shared) (σ:St) (H:Hp) (xs:List V) (us:List Value) (Q:VK),Inv X pins σ H s->Vals xs us->r xs H Q →
  wpAny (model X.prog X.w) X.A (call f us) (EP X pins σ Q) X.xe s
def TruR (X:Cx) (r:V->Hp->(Bool->Hp->Prop)->Prop):Prop :=
 ∀ (pins:List (Addr × Obj)) (s:Shared) (σ:St) (H:Hp) (x:V) (v:Value) (Q:Bool->Hp->Prop),Inv X pins σ H s->RelV x v->r x H Q →
  wpAny (model X.prog X.w) X.A (truthy v) (TP X pins σ Q) X.xe s
def tOp (r:R2) (ta tb:TE):TE:=fun σ H Q=>ta σ H fun x H1=>tb σ H1 fun y H2=>r x y H2 Q
def tUn (r:V->Hp->VK->Prop) (ta:TE):TE:=fun σ H Q=>ta σ H fun x H1=>r x H1 Q
def rI (C:Int->Int->Prop) (g:Int->Int->V):R2:=fun x y H Q=>∃ i j,x=.int i/\y=.int j/\C i j/\Q (g i j) H
def rI0 (g:Int->Int->V):R2:=fun x y H Q=>∃ i j,x=.int i/\y=.int j/\Q (g i j) H
def rU (g:Int->V):V->Hp->VK->Prop:=fun x H Q=>∃ i,x=.int i/\Q (g i) H
section
variable {X : Cx} {a b c : Expr} {ta tb tc : TE} {pos : Pos}
theorem binT (ha:PE X a ta) (hb:PE X b tb) {pins:List (Addr × Obj)} {s:Shared} {σ:St} {H:Hp} {R:V->V->Hp->Prop} (I:Inv X pins σ H s)
  (h:ta σ H fun x H1=>tb σ H1 fun y H2=>R x y H2) {Q:Value->Shared->Prop} {f:Value->Value->Sem Value}
  (hf:∀ v u s2 x y H2,Inv X pins σ H2 s2->RelV x v->RelV y u->R x y H2->wpAny (model X.prog X.w) X.A (f v u) Q X.xe s2) :
  wpAny (model X.prog X.w) X.A (eval a X.env) (fun v s₁=>wpAny (model X.prog X.w) X.A (eval b X.env) (fun u s₂=>wpAny (model X.prog X.w) X.A (f v u) Q X.xe s₂) X.xe s₁) X.xe s:=by
 refine thn (ha pins s σ H _ I h) fun v s1 ⟨x,H1,I1,r1,q1⟩=>?_
 refine thn (hb pins s1 σ H1 _ I1 q1) fun u s2 ⟨y,H2,I2,r2,q2⟩=>?_
 exact hf v u s2 x y H2 I2 r1 r2 q2
theorem pe_op {op:Operator} {r:R2} (ho:OpR X (binaryOp op) r) (ha:PE X a ta) (hb:PE X b tb):PE X (.BinOp a op b pos) (tOp r ta tb):=by
 intro pins s σ H Q I h
 exact wpAny_BinOp (binT ha hb I h fun v u s2 x y H2 I2 rx ry q=>ho pins s2 σ H2 x y v u Q I2 rx ry q)
theorem pe_un {op:UnaryOp} {r:V->Hp->VK->Prop} (ho:UnR X (unaryOp op) r) (ha:PE X a ta):PE X (.UnaryOp op a pos) (tUn r ta):=by
 intro pins s σ H Q I h
 exact UnaryOp_ (thn (ha pins s σ H _ I h) fun v s1 ⟨x,H1,I1,r1,q1⟩=>ho pins s1 σ H1 x v Q I1 r1 q1)
theorem opI {f:Value->Value->Sem Value} {C:Int->Int->Prop} {g:Int->Int->Int}
  (rule:∀ (i j:Int) (t u:Tok) (s:Shared) (Q:Value->Shared->Prop) (E:Value->Shared->Prop),C i j->Q (.int (g i j) s.toks) { s with toks:=s.toks + 1 }->wpAny (model X.prog X.w) X.A (f (.int i t) (.int j u)) Q E s) :
  OpR X f (rI C fun i j=>.int (g i j)):=by
 intro pins s σ H x y v u Q I rx ry h
 obtain ⟨i,j,rfl,rfl,hc,q⟩:=h
 obtain ⟨t,rfl⟩:=rx
 obtain ⟨t',rfl⟩:=ry
 exact rule i j t t' s _ _ hc ⟨.int (g i j),H,I.tok _,⟨_,rfl⟩,q⟩
theorem opI0 {f:Value->Value->Sem Value} {g:Int->Int->Int}
  (rule:∀ (i j:Int) (t u:Tok) (s:Shared) (Q:Value->Shared->Prop) (E:Value->Shared->Prop),Q (.int (g i j) s.toks) { s with toks:=s.toks + 1 }->wpAny (model X.prog X.w) X.A (f (.int i t) (.int j u)) Q E s) :
  OpR X f (rI0 fun i j=>.int (g i j)):=by
 intro pins s σ H x y v u Q I rx ry h
 obtain ⟨i,j,rfl,rfl,q⟩:=h
 obtain ⟨t,rfl⟩:=rx
 obtain ⟨t',rfl⟩:=ry
 exact rule i j t t' s _ _ ⟨.int (g i j),H,I.tok _,⟨_,rfl⟩,q⟩
theorem opB0 {f:Value->Value->Sem Value} {g:Int->Int->Bool}
  (rule:∀ (i j:Int) (t u:Tok) (s:Shared) (Q:Value->Shared->Prop) (E:Value->Shared->Prop),Q (.bool (g i j)) s->wpAny (model X.prog X.w) X.A (f (.int i t) (.int j u)) Q E s) :
  OpR X f (rI0 fun i j=>.bl (g i j)):=by
 intro pins s σ H x y v u Q I rx ry h
 obtain ⟨i,j,rfl,rfl,q⟩:=h
 obtain ⟨t,rfl⟩:=rx
 obtain ⟨t',rfl⟩:=ry
 exact rule i j t t' s _ _ ⟨.bl (g i j),H,I,rfl,q⟩
def CDiv (i j:Int):Prop:=0 < j/\j < 1073741824
def CDivN (i j:Int):Prop:=j≠0/\j.natAbs < 1073741824
def CPow (i j:Int):Prop:=0<=j/\j<=1000000/\i.natAbs < 2 ^ 64
def CMul (i j:Int):Prop:=(-(2 ^ 64) < i/\i < 2 ^ 64)\/(-(2 ^ 64) < j/\j < 2 ^ 64)
theorem CMul.ok {i j:Int} (h:CMul i j):IntMulOk i j:=by
 rcases h with ⟨h1,h2⟩ | ⟨h1,h2⟩
 ·exact .of_left (intBits_le_64 h1 h2)
 ·exact .of_right (intBits_le_64 h1 h2)
theorem op_add:OpR X (binaryOp .Add) (rI0 fun i j=>.int (i + j)):=opI0 fun _ _ _ _ _ _ _ q=>add_int q
theorem op_sub:OpR X (binaryOp .Sub) (rI0 fun i j=>.int (i - j)):=opI0 fun _ _ _ _ _ _ _ q=>sub_int q
theorem op_mul:OpR X (binaryOp .Mult) (rI CMul fun i j=>.int (i * j)):=opI fun _ _ _ _ _ _ _ hc q=>mul_int q hc.ok
theorem zws:OpR X (binaryOp .FloorDiv) (rI CDiv fun i j=>.int (i / j)):=opI fun i j _ _ _ _ _ hc q=>by
 have h1:(0:Int) < j:=hc.1
 have h2:j < 1073741824:=hc.2
 exact floordiv_int (by omega) (by rw [Int.fdiv_eq_ediv_of_nonneg i (by omega)];exact q) (.inl (PyProof.noPylong_small (by omega)))
theorem op_mod:OpR X (binaryOp .Mod) (rI (fun _ j=>0 < j) fun i j=>.int (i % j)):=opI fun i j _ _ _ _ _ hc q=>by
 have h1:(0:Int) < j:=hc
 exact mod_int' (by omega) (by rw [Int.fmod_eq_emod_of_nonneg i (by omega)];exact q)
theorem unI {f:Value->Sem Value} {g:Int->Int}
  (rule:∀ (i:Int) (t:Tok) (s:Shared) (Q:Value->Shared->Prop) (E:Value->Shared->Prop),Q (.int (g i) s.toks) { s with toks:=s.toks + 1 }->wpAny (model X.prog X.w) X.A (f (.int i t)) Q E s) :
  UnR X f (rU fun i=>.int (g i)):=by
 intro pins s σ H x v Q I rx h
 obtain ⟨i,rfl,q⟩:=h
 obtain ⟨t,rfl⟩:=rx
 exact rule i t s _ _ ⟨.int (g i),H,I.tok _,⟨_,rfl⟩,q⟩
theorem zyk:UnR X (unaryOp .USub) (rU fun i=>.int (-i)):=unI fun _ _ _ _ _ q=>neg_int q
end
def scal:V->V->Bool
 | .non,.non=>true | .non,.int _=>true | .int _,.non=>true | .non,.bl _=>true | .bl _,.non=>true | .non,.str _=>true | .str _,.non=>true
 | .int _,.int _=>true | .bl _,.bl _=>true | .str _,.str _=>true | .byt _,.byt _=>true
 | .int _,.str _=>true | .str _,.int _=>true | .bl _,.str _=>true | .str _,.bl _=>true
 | _,_=>false
def rEq:R2:=fun x y H Q=>scal x y=true/\Q (.bl (decide (x=y))) H
def rNe:R2:=fun x y H Q=>scal x y=true/\Q (.bl (!decide (x=y))) H
theorem zsi {i j:Int}:decide (V.int i=V.int j)=(i == j):=by
 rw [Bool.eq_iff_iff]
 simp
theorem zvk {i j:Bool}:decide (V.bl i=V.bl j)=(i == j):=by
 rw [Bool.eq_iff_iff]
 simp
theorem zsh {i j:Str}:decide (V.str i=V.str j)=(i == j):=by
 rw [Bool.eq_iff_iff]
 simp
theorem zsj {i j:Array UInt8}:decide (V.byt i=V.byt j)=(i.toList == j.toList):=by
 rw [Bool.eq_iff_iff]
 cases i
 cases j
 simp
section
variable {X : Cx} {a b c : Expr} {ta tb tc : TE} {pos : Pos}
theorem zbj {pins:List (Addr × Obj)} {σ:St} {H:Hp} {s:Shared} {Q:VK} {k k':Bool} (I:Inv X pins σ H s) (q:Q (.bl k) H) (e:k=k'):EP X pins σ Q (.bool k') s:=by
 subst e
 exact ⟨.bl k,H,I,rfl,q⟩
theorem op_eq:OpR X (compareOp .Eq) rEq:=by
 intro pins s σ H x y v u Q I rx ry h
 obtain ⟨hs,q⟩:=h
 cases x with
 | non =>
  cases rx
  cases y with
  | non=>cases ry;exact PySem.EqNone.eq_none_none (zbj I q (by simp))
  | bl j=>cases ry;exact PySem.EqNone.eq_none_bool (zbj I q (by simp))
  | int j=>obtain ⟨t',rfl⟩:=ry;exact PySem.EqNone.eq_none_int (zbj I q (by simp))
  | str j=>obtain ⟨t',rfl⟩:=ry;exact PySem.EqNone.eq_none_str (zbj I q (by simp))
  | _=>exact absurd (show false=true from hs) Bool.false_ne_true
 | bl i =>
  cases rx
  cases y with
  | non=>cases ry;exact PySem.EqNone.eq_bool_none (zbj I q (by simp))
  | bl j=>cases ry;exact eq_bool (zbj I q zvk)
  | str j=>obtain ⟨t',rfl⟩:=ry;exact PySem.EqMixed.eq_bool_str (zbj I q (by simp))
  | _=>exact absurd (show false=true from hs) Bool.false_ne_true
 | int i =>
  obtain ⟨t,rfl⟩:=rx
  cases y with
  | non=>cases ry;exact PySem.EqNone.eq_int_none (zbj I q (by simp))
  | int j=>obtain ⟨t',rfl⟩:=ry;exact eq_int (zbj I q zsi)
  | str j=>obtain ⟨t',rfl⟩:=ry;exact PySem.EqMixed.eq_int_str (zbj I q (by simp))
  | _=>exact absurd (show false=true from hs) Bool.false_ne_true
 | str i =>
  obtain ⟨t,rfl⟩:=rx
  cases y with
  | non=>cases ry;exact PySem.EqNone.eq_str_none (zbj I q (by simp))
  | bl j=>cases ry;exact PySem.EqMixed.eq_str_bool (zbj I q (by simp))
  | int j=>obtain ⟨t',rfl⟩:=ry;exact PySem.EqMixed.eq_str_int (zbj I q (by simp))
  | str j=>obtain ⟨t',rfl⟩:=ry;exact eq_str (zbj I q zsh)
  | _=>exact absurd (show false=true from hs) Bool.false_ne_true
 | byt i =>
  obtain ⟨t,rfl⟩:=rx
  cases y with
  | byt j=>obtain ⟨t',rfl⟩:=ry;exact PySem.W.eq_bytes (zbj I q zsj)
  | _=>exact absurd (show false=true from hs) Bool.false_ne_true
 | _=>cases y <;> exact absurd (show false=true from hs) Bool.false_ne_true
theorem op_ne:OpR X (compareOp .NotEq) rNe:=by
 intro pins s σ H x y v u Q I rx ry h
 obtain ⟨hs,q⟩:=h
 cases x with
 | non =>
  cases rx
  cases y with
  | non=>cases ry;exact PySem.EqNone.ne_none_none (zbj I q (by simp))
  | bl j=>cases ry;exact PySem.EqNone.ne_none_bool (zbj I q (by simp))
  | int j=>obtain ⟨t',rfl⟩:=ry;exact PySem.EqNone.ne_none_int (zbj I q (by simp))
  | str j=>obtain ⟨t',rfl⟩:=ry;exact PySem.EqNone.ne_none_str (zbj I q (by simp))
  | _=>exact absurd (show false=true from hs) Bool.false_ne_true
 | bl i =>
  cases rx
  cases y with
  | non=>cases ry;exact PySem.EqNone.ne_bool_none (zbj I q (by simp))
  | bl j=>cases ry;exact ne_bool (zbj I q (congrArg not zvk))
  | str j=>obtain ⟨t',rfl⟩:=ry;exact PySem.EqMixed.ne_bool_str (zbj I q (by simp))
  | _=>exact absurd (show false=true from hs) Bool.false_ne_true
 | int i =>
  obtain ⟨t,rfl⟩:=rx
  cases y with
  | non=>cases ry;exact PySem.EqNone.ne_int_none (zbj I q (by simp))
  | int j=>obtain ⟨t',rfl⟩:=ry;exact ne_int (zbj I q (congrArg not zsi))
  | str j=>obtain ⟨t',rfl⟩:=ry;exact PySem.EqMixed.ne_int_str (zbj I q (by simp))
  | _=>exact absurd (show false=true from hs) Bool.false_ne_true
 | str i =>
  obtain ⟨t,rfl⟩:=rx
  cases y with
  | non=>cases ry;exact PySem.EqNone.ne_str_none (zbj I q (by simp))
  | bl j=>cases ry;exact PySem.EqMixed.ne_str_bool (zbj I q (by simp))
  | int j=>obtain ⟨t',rfl⟩:=ry;exact PySem.EqMixed.ne_str_int (zbj I q (by simp))
  | str j=>obtain ⟨t',rfl⟩:=ry;exact ne_str (zbj I q (congrArg not zsh))
  | _=>exact absurd (show false=true from hs) Bool.false_ne_true
 | byt i =>
  obtain ⟨t,rfl⟩:=rx
  cases y with
  | byt j=>obtain ⟨t',rfl⟩:=ry;exact PySem.W.ne_bytes (zbj I q (congrArg not zsj))
  | _=>exact absurd (show false=true from hs) Bool.false_ne_true
 | _=>cases y <;> exact absurd (show false=true from hs) Bool.false_ne_true
theorem op_lt:OpR X (compareOp .Lt) (rI0 fun i j=>.bl (decide (i < j))):=opB0 fun _ _ _ _ _ _ _ q=>lt_int q
theorem op_le:OpR X (compareOp .LtE) (rI0 fun i j=>.bl (decide (i<=j))):=opB0 fun _ _ _ _ _ _ _ q=>le_int q
theorem op_gt:OpR X (compareOp .Gt) (rI0 fun i j=>.bl (decide (j < i))):=opB0 fun _ _ _ _ _ _ _ q=>gt_int q
theorem zq6:OpR X (compareOp .Lt) (fun x y H Q=>∃ i j,x=.str i/\y=.str j/\Q (.bl (decide (i.cps.toList < j.cps.toList))) H):=by
 intro pins s σ H x y v u Q I rx ry h
 obtain ⟨i,j,rfl,rfl,q⟩:=h
 obtain ⟨t,rfl⟩:=rx
 obtain ⟨t',rfl⟩:=ry
 exact lt_str (zbj I q rfl)
theorem zq7:OpR X (compareOp .In) (fun x y H Q=>∃ i j,x=.str i/\y=.str j/\Q (.bl (!(Builtin.Str.occurrences j i 0 j.length 1).isEmpty)) H):=by
 intro pins s σ H x y v u Q I rx ry h
 obtain ⟨i,j,rfl,rfl,q⟩:=h
 obtain ⟨t,rfl⟩:=rx
 obtain ⟨t',rfl⟩:=ry
 exact in_str (zbj I q rfl)
theorem op_isN:OpR X (compareOp .Is) (fun x y H Q=>y=.non/\Q (.bl (decide (x=.non))) H):=by
 intro pins s σ H x y v u Q I rx ry h
 obtain ⟨rfl,q⟩:=h
 cases ry
 refine is_none_gen (zbj I q ?_)
 cases x <;> first
  | (cases rx;rfl)
  | (obtain ⟨t,rfl⟩:=rx;rfl)
def isObj:HO->Bool
 | .lst _=>true
 | .ins _ _ _=>true
 | _=>false
theorem nomark (b:Expr) {op:CmpOp} (h:op≠.In:=by decide) (h2:op≠.NotIn:=by decide):behindInMarks op b=false:=by
 have e1:(op == CmpOp.In)=false:=by cases op <;> first | rfl | exact absurd rfl h
 have e2:(op == CmpOp.NotIn)=false:=by cases op <;> first | rfl | exact absurd rfl h2
 cases b <;> simp [behindInMarks,e1,e2]
theorem zwq {op:CmpOp} {r:R2} (ho:OpR X (compareOp op) r) (ha:PE X a ta) (hb:PE X b tb) (hm:behindInMarks op b=false):PE X (.Compare a [op] [b] pos) (tOp r ta tb):=by
 intro pins s σ H Q I h
 exact wpAny_Compare1 (binT ha hb I h fun v u s2 x y H2 I2 rx ry q=>ho pins s2 σ H2 x y v u Q I2 rx ry q) hm
def zyo (t:TE):TT:=fun σ H Q=>t σ H fun x H'=>∃ k,x=.bl k/\Q k H'
theorem zwf {op:CmpOp} {r:R2} (ho:OpR X (compareOp op) r) (ha:PE X a ta) (hb:PE X b tb) (hm:behindInMarks op b=false):PT X (.Compare a [op] [b] pos) (zyo (tOp r ta tb)):=by
 intro pins s σ H Q I h
 refine wpAny_isTrue_Compare1 (thn (ha pins s σ H _ I h) fun v s1 ⟨x,H1,I1,r1,q1⟩=>thn (hb pins s1 σ H1 _ I1 q1) fun u s2 ⟨y,H2,I2,r2,q2⟩ =>
  thn (ho pins s2 σ H2 x y v u _ I2 r1 r2 q2) fun c s3 ⟨z,H3,I3,r3,k,e,q3⟩=>?_) hm
 subst e
 cases r3
 exact wpAny_truthy_bool ⟨H3,I3,q3⟩
def zyq (r r':R2) (ta tb tc:TE):TE:=fun σ H Q=>ta σ H fun x H1=>tb σ H1 fun y H2=>r x y H2 fun z H3=>∃ k,z=.bl k ∧
 (if k=true then tc σ H3 fun w' H4=>r' y w' H4 Q else Q (.bl false) H3)
theorem ztq {op op':CmpOp} {r r':R2} (ho:OpR X (compareOp op) r) (ho':OpR X (compareOp op') r') (ha:PE X a ta) (hb:PE X b tb) (hc:PE X c tc)
  (hm:lastMarks [op,op'] [b,c]=false:=by with_unfolding_all rfl):PT X (.Compare a [op,op'] [b,c] pos) (zyo (zyq r r' ta tb tc)):=by
 intro pins s σ H Q I h
 refine isTrue_chain (thn (ha pins s σ H _ I h) fun v s1 ⟨x,H1,I1,r1,q1⟩=>test_link (thn (hb pins s1 σ H1 _ I1 q1) fun u s2 ⟨y,H2,I2,r2,q2⟩ =>
  thn (ho pins s2 σ H2 x y v u _ I2 r1 r2 q2) fun d s3 ⟨z,H3,I3,r3,k,e,q3⟩=>?_)) hm
 subst e
 cases r3
 refine wpAny_truthy_bool ?_
 cases k with
 | false =>
  obtain ⟨k',e',q'⟩:=q3
  cases e'
  exact ite_ff ⟨H3,I3,q'⟩
 | true =>
  refine ite_tt (test_last (thn (hc pins s3 σ H3 _ I3 q3) fun w' s4 ⟨z',H4,I4,r4,q4⟩=>thn (ho' pins s4 σ H4 y z' u w' _ I4 r2 r4 q4) fun d' s5 ⟨z2,H5,I5,r5,k2,e2,q5⟩=>?_))
  subst e2
  cases r5
  exact wpAny_truthy_bool ⟨H5,I5,q5⟩
def TruV (K:PySem.W.Frag) (x:V) (H:Hp) (k:Bool):Prop :=
 match x with
 | .non=>k=false
 | .bl b=>k=b
 | .int i=>k=(i != 0)
 | .str y=>y.length<=sizeLine/\k=((y.length:Int) != 0)
 | .byt y=>y.size<=sizeLine/\k=((y.size:Int) != 0)
 | .ref p=>(∃ xs,SqL K H p xs/\k=!xs.isEmpty)\/(∃ xs,SqT K H p xs/\k=!xs.isEmpty)\/∃ kvs,H p=some (.dK kvs)/\k=!kvs.isEmpty
 | _=>False
theorem zk6 {κ:Type} {kvs:List (κ × V)} {vs:List (κ × Value)} (r:KV kvs vs):(!vs.isEmpty)=!kvs.isEmpty:=by
 cases r <;> rfl
theorem zk5 {xs:List V} {its:List Value} (r:Vals xs its):(!its.toArray.isEmpty)=!xs.isEmpty:=by
 cases r <;> simp
theorem line63:(sizeLine:Nat) < 2 ^ 63:=by rw [sizeLine_eq];decide
theorem zks:TruR X (fun x H Q=>∃ k,TruV X.K x H k/\Q k H):=by
 intro pins s σ H x v Q I rx h
 obtain ⟨k,e,q⟩:=h
 have hl:=line63
 have hs:sizeLine=16777216:=sizeLine_eq
 cases x with
 | non =>
  cases rx
  have e':k=false:=e
  subst e'
  exact truthy_none ⟨H,I,q⟩
 | bl b =>
  cases rx
  have e':k=b:=e
  subst e'
  exact wpAny_truthy_bool ⟨H,I,q⟩
 | int i =>
  obtain ⟨t,rfl⟩:=rx
  have e':k=(i != 0):=e
  subst e'
  exact PySem.P.truthy_int ⟨H,I,q⟩
 | str y =>
  obtain ⟨t,rfl⟩:=rx
  obtain ⟨hy,e'⟩:y.length<=sizeLine/\k=((y.length:Int) != 0):=e
  subst e'
  exact PySem.P.truthy_str (by omega) ⟨H,I.tok _,q⟩
 | byt y =>
  obtain ⟨t,rfl⟩:=rx
  obtain ⟨hy,e'⟩:y.size<=sizeLine/\k=((y.size:Int) != 0):=e
  subst e'
  exact PySem.W.truthy_bytes (by omega) ⟨H,I.tok _,q⟩
 | ref p =>
  cases rx
  have e':(∃ xs,SqL X.K H p xs/\k=!xs.isEmpty)\/(∃ xs,SqT X.K H p xs/\k=!xs.isEmpty)\/∃ kvs,H p=some (.dK kvs)/\k=!kvs.isEmpty:=e
  rcases e' with ⟨xs,hx,e'⟩ | ⟨xs,hx,e'⟩ | ⟨kvs,hx,e'⟩
  ·subst e'
   obtain ⟨its,r,pl,hz⟩:=I.list hx
   have hlen:=r.length
   exact wpAny_truthy_list pl.isList (by simp only [List.size_toArray];omega) ⟨H,I.tok _,by rw [zk5 r];exact q⟩
  ·subst e'
   obtain ⟨its,r,pl,hz⟩:=I.tuple hx
   have hlen:=r.length
   exact truthy_tuple pl (by simp only [List.size_toArray];omega) ⟨H,I.tok _,by rw [zk5 r];exact q⟩
  ·subst e'
   obtain ⟨hz,hS,vs,r,m⟩:kvs.length<=sizeLine/\(p == sysModules)=false/\∃ vs,KV kvs vs/\s.heap.DictOf (za2 X.prog X.w) p vs:=I.hok p _ hx
   have hlen:kvs.length=vs.length:=Paired.length r
   exact wpAny_truthy_dict hS m (by omega) ⟨H,I.tok _,by rw [zk6 r];exact q⟩
 | _=>exact (show False from e).elim
theorem zpt:OpR X (binaryOp .Add) (fun x y H Q=>∃ i j,x=.str i/\y=.str j/\i.length + j.length<=sizeLine/\Q (.str (i++j)) H):=by
 intro pins s σ H x y v u Q I rx ry h
 obtain ⟨i,j,rfl,rfl,hz,q⟩:=h
 obtain ⟨t,rfl⟩:=rx
 obtain ⟨t',rfl⟩:=ry
 exact add_str (fun t' tk=>⟨.str (i++j),H,I.tok _,⟨_,rfl⟩,q⟩) hz
def PlainIxT (b:Expr):Prop:=∀ o i,subscripted b false o i=operate [o,i] (getItem o i)
theorem vals1 {x:V} {us:List Value} (r:Vals [x] us):∃ u,us=[u]/\RelV x u:=by
 cases r with
 | cons r1 r2=>cases r2;exact ⟨_,rfl,r1⟩
theorem vals2 {x y:V} {us:List Value} (r:Vals [x,y] us):∃ u w',us=[u,w']/\RelV x u/\RelV y w':=by
 cases r with
 | cons r1 r2 =>
  cases r2 with
  | cons r3 r4=>cases r4;exact ⟨_,_,rfl,r1,r3⟩
theorem zm6:zhw X (.type "int") (fun xs H Q=>(∃ i,xs=[.int i]/\Q (.int i) H)\/∃ k,xs=[.bl k]/\Q (.int (if k then 1 else 0)) H):=by
 intro pins s σ H xs us Q I r h
 rcases h with ⟨i,rfl,q⟩ | ⟨k,rfl,q⟩
 ·obtain ⟨u,rfl,t,rfl⟩:=vals1 r
  exact call_int_int ⟨.int i,H,I,⟨_,rfl⟩,q⟩
 ·obtain ⟨u,rfl,r1⟩:=vals1 r
  cases r1
  exact call_int_bool ⟨.int (if k then 1 else 0),H,I.tok _,⟨_,rfl⟩,q⟩
def LenV (K:PySem.W.Frag) (x:V) (H:Hp) (n:Nat):Prop :=
 match x with
 | .str y=>y.length<=sizeLine/\n=y.length
 | .byt y=>y.size<=sizeLine/\n=y.size
 | .ref p=>(∃ xs,SqL K H p xs/\n=xs.length)\/∃ xs,SqT K H p xs/\n=xs.length
 | _=>False
theorem zl4:zhw X (.builtin "len") (fun xs H Q=>∃ x n,xs=[x]/\LenV X.K x H n/\Q (.int n) H):=by
 intro pins s σ H xs us Q I r h
 obtain ⟨x,n,rfl,e,q⟩:=h
 obtain ⟨u,rfl,rx⟩:=vals1 r
 have hl:=line63
 have hs:sizeLine=16777216:=sizeLine_eq
 cases x with
 | str y =>
  obtain ⟨t,rfl⟩:=rx
  obtain ⟨hy,e'⟩:y.length<=sizeLine/\n=y.length:=e
  subst e'
  exact len_str (by omega) ⟨.int _,H,I.tok _,⟨_,rfl⟩,q⟩
 | byt y =>
  obtain ⟨t,rfl⟩:=rx
  obtain ⟨hy,e'⟩:y.size<=sizeLine/\n=y.size:=e
  subst e'
  exact PySem.W.len_bytes (by omega) ⟨.int _,H,I.tok _,⟨_,rfl⟩,q⟩
 | ref p =>
  cases rx
  have e':(∃ xs,SqL X.K H p xs/\n=xs.length)\/∃ xs,SqT X.K H p xs/\n=xs.length:=e
  rcases e' with ⟨xs,hx,e'⟩ | ⟨xs,hx,e'⟩
  ·subst e'
   obtain ⟨its,r',pl,hz⟩:=I.list hx
   have hlen:=r'.length
   exact Calls.call_len_list pl.isList (by simp only [List.size_toArray];omega) ⟨.int xs.length,H,I.tok _,⟨_,by simp only [List.size_toArray];rw [hlen]⟩,q⟩
  ·subst e'
   obtain ⟨its,r',pl,hz⟩:=I.tuple hx
   have hlen:=r'.length
   exact len_tuple pl (by simp only [List.size_toArray];omega) ⟨.int xs.length,H,I.tok _,⟨_,by simp only [List.size_toArray];rw [hlen]⟩,q⟩
 | _=>exact (show False from e).elim
end
end L2
namespace L2
open PySem PySem.Spec PyProof.Rows
structure ObjM (h:Heap) (x dx C:Addr) (mA:Str->Option Value):Prop where
 obj:h.get? x=some (PySem.W.instObj C dx)
 ns:h.Ns1 dx mA
 ne:dx≠x
section
variable {prog : Program} {w : World} {A : Around} {E : Value → Shared → Prop} {s : Shared} {K : PySem.W.Frag} {x dx C f : Addr} {mA : Str → Option Value} {name : Str} {v : Value}
end
def putF (f:Str) (v:V):List (Str × V)->List (Str × V)
 | []=>[(f,v)]
 | (g,x)::r=>if g=f then (g,v)::r else (g,x)::putF f v r
theorem RelO.some_of {v:V} {o:Option Value} (r:RelO (some v) o):∃ u,o=some u/\RelV v u:=by
 cases o with
 | none=>exact (show False from r).elim
 | some u=>exact ⟨u,rfl,r⟩
theorem RelO.none_of {o:Option Value} (r:RelO none o):o=none:=by
 cases o with
 | none=>rfl
 | some u=>exact (show False from r).elim
section
variable {P : Program} {w : World} {H H' : Hp} {h h' : Heap} {a C dx : Addr} {fs fs' : List (Str × V)}
end
structure Cls (K:PySem.W.Frag) (C:Addr):Prop where
 pg:PySem.W.plainGet K C Str.empty=true
 hd:PySem.W.hasDictIn K C=true
 po:PySem.W.plainOver K C=true
 sa:PySem.W.findIn K (.ref C) "__setattr__"=some (some (.builtin "object.__setattr__"))
def zsy (K:PySem.W.Frag) (C:Addr) (f:Str):Prop:=PySem.W.findIn K (.ref C) f=some none
structure Con (K:PySem.W.Frag) (C:Addr) (f:Str) (v:V) (u:Value):Prop where
 at_:PySem.W.findIn K (.ref C) f=some (some u)
 rel:RelV v u
 get:PySem.W.specialIn K u "__get__"=some none
 cp:PySem.W.copiedNames.contains f=false
structure Meth (K:PySem.W.Frag) (C:Addr) (m:Str) (f:Addr):Prop where
 at_:PySem.W.findIn K (.ref C) m=some (some (.ref f))
 fn:PySem.W.isFn K (.ref f)=true
 kp:PySem.W.keepIn K (.ref f)=true
section
variable {X : Cx} {pins : List (Addr × Obj)} {σ : St} {H : Hp} {s : Shared} {a C dx : Addr} {fs : List (Str × V)} {f : Str} {v : V} {A : Around} {E : Value → Shared → Prop}
end
def tFld (K:PySem.W.Frag) (ta:TE) (f:Str):TE:=fun σ H Q=>ta σ H fun x H1=>∃ a C dx fs v,x=.ref a/\H1 a=some (.ins C dx fs)/\Cls K C/\zsy K C f/\fs.lookup f=some v/\Q v H1
def tCon (K:PySem.W.Frag) (ta:TE) (f:Str):TE:=fun σ H Q=>ta σ H fun x H1=>∃ a C dx fs v u,x=.ref a/\H1 a=some (.ins C dx fs)/\Cls K C/\Con K C f v u/\fs.lookup f=none/\Q v H1
def sFld (K:PySem.W.Frag) (ta tv:TE) (f:Str):TS:=fun D σ H=>tv σ H fun y H1=>ta σ H1 fun x H2=>∃ a C dx fs,x=.ref a/\H2 a=some (.ins C dx fs)/\Cls K C/\zsy K C f/\fs.length < 1000 ∧
 D.nx σ (upd H2 a (.ins C dx (putF f y fs)))
def InOp (X:Cx) (op:Operator) (rd:V->V->Hp->VK->Prop):Prop :=
 ∀ (pins:List (Addr × Obj)) (s:Shared) (σ:St) (H:Hp) (x y:V) (u v:Value) (Q:VK),Inv X pins σ H s->RelV x u->RelV y v->rd x y H Q->wpAny (model X.prog X.w) X.A (inplaceOp op u v) (EP X pins σ Q) X.xe s
def sFldAug (K:PySem.W.Frag) (ta tv:TE) (rd:V->V->Hp->VK->Prop) (f:Str):TS:=fun D σ H=>ta σ H fun x H1=>∃ a C dx fs v,x=.ref a/\H1 a=some (.ins C dx fs)/\Cls K C/\zsy K C f/\fs.lookup f=some v ∧
 tv σ H1 fun y H2=>rd v y H2 fun z H3=>∃ dx' fs',H3 a=some (.ins C dx' fs')/\fs'.length < 1000/\D.nx σ (upd H3 a (.ins C dx' (putF f z fs')))
section
variable {X : Cx} {o e value : Expr} {f : Str} {pos pos' tpos : Pos} {ta tv : TE}
def rAdd:V->V->Hp->VK->Prop:=fun x y H Q=>∃ i j,x=.int i/\y=.int j/\Q (.int (i + j)) H
def rSub:V->V->Hp->VK->Prop:=fun x y H Q=>∃ i j,x=.int i/\y=.int j/\Q (.int (i - j)) H
end
section
variable {X : Cx} {pins : List (Addr × Obj)} {σ : St} {H : Hp} {s : Shared} {A : Around} {E : Value → Shared → Prop} {Q : Value → Shared → Prop} {c : Value} {b : Bool}
inductive TyOf (K:PySem.W.Frag) (H:Hp):V->Value->Prop where
 | non:TyOf K H .non (.type "NoneType")
 | bl (x:Bool):TyOf K H (.bl x) (.type "bool")
 | int (i:Int):TyOf K H (.int i) (.type "int")
 | str (x:Str):TyOf K H (.str x) (.type "str")
 | flt (x:UInt64):TyOf K H (.flt x) (.type "float")
 | lst {a:Addr} {xs:List V} (e:H a=some (.lst xs)):TyOf K H (.ref a) (.type "list")
 | frz {a:Addr} {o:Obj} {xs:List V} (e:H a=some (.frz o (.lst xs))):TyOf K H (.ref a) (.type "list")
 | tup {a:Addr} {xs:List V} (e:H a=some (.tup xs)):TyOf K H (.ref a) (.type "tuple")
 | dK {a:Addr} {kvs:List (Key × V)} (e:H a=some (.dK kvs)):TyOf K H (.ref a) (.type "dict")
 | dT {a:Addr} {kvs:List (List Key × V)} (e:H a=some (.dT kvs)):TyOf K H (.ref a) (.type "dict")
 | ins {a C dx:Addr} {fs:List (Str × V)} (e:H a=some (.ins C dx fs)) (cl:Cls K C) (ha:PySem.W.findIn K (.ref C) "__class__"=some (some (.builtin "object.__class__")))
   (hn:PySem.W.specialIn K (.builtin "object.__class__") "__get__"=some (some (.builtin "getset_descriptor.__get__"))) (htk:PySem.W.takesIn K (.builtin "object.__class__")=some true)
   (hm:PySem.W.mroIn K C (.type "object")=some true):TyOf K H (.ref a) (.ref C)
end
end L2
namespace L2
open PySem PySem.Spec PyProof.Rows
structure Room (k:Nat) (A:Around):Prop where
 hd:A.handled=none
 dp:A.depth + 3 * k + 5 < recursionLimit
 un:A.units + 16 * k + 200 < cLine
theorem Room.mono {j k:Nat} {A:Around} (r:Room k A) (h:j<=k):Room j A:=⟨r.hd,by have:=r.dp;omega,by have:=r.un;omega⟩
theorem Room.deeper {k:Nat} {A:Around} (r:Room (k + 1) A) (env:Env):Room k (A.deeper env) :=
 ⟨r.hd,by have:=r.dp;show A.depth + 1 + 3 * k + 5 < _;omega,by have:=r.un;show A.units + 3 + 16 * k + 200 < _;omega⟩
theorem Room.depth {k:Nat} {A:Around} (r:Room k A):A.depth < recursionLimit:=by have:=r.dp;omega
theorem Room.units {k:Nat} {A:Around} (r:Room k A):A.units + 64 < cLine:=by have:=r.un;omega
def tNil:TA:=fun _ H Q=>Q [] H
def zvx (ta:TE) (tr:TA):TA:=fun σ H Q=>ta σ H fun x H1=>tr σ H1 fun xs H2=>Q (x::xs) H2
section
variable {X : Cx} {e : Expr} {es : List Expr} {te : TE} {t : TA} {pos : Pos}
theorem zhc:PA X [] tNil:=fun _ _ _ _ H Q I h=>Calls.spliced_nil ⟨[],H,I,.nil,h⟩
theorem zde (ha:PE X e te) (hr:PA X es t) (hs:starEach (e::es) X.env=(false,eval e X.env)::starEach es X.env:=by rfl):PA X (e::es) (zvx te t):=by
 intro pos pins s σ H Q I h
 rw [hs]
 show wpAny _ _ (spliced ((false,eval e X.env)::backTo pos (starEach es X.env))) _ _ s
 refine Calls.spliced_cons (thn (ha pins s σ H _ I h) fun u s1 ⟨x,H1,I1,r1,q1⟩=>?_)
 exact thn (hr pos pins s1 σ H1 _ I1 q1) fun us s2 ⟨xs,H2,I2,r2,q2⟩=>⟨x::xs,H2,I2,.cons r1 r2,q2⟩
def tTup (t:TA):TE:=fun σ H Q=>t σ H fun xs H1=>xs.length<=sizeLine/\∀ p,H1 p=none->Q (.ref p) (upd H1 p (.tup xs))
def tLst (t:TA):TE:=fun σ H Q=>t σ H fun xs H1=>xs.length<=sizeLine/\∀ p,H1 p=none->Q (.ref p) (upd H1 p (.lst xs))
theorem zy6 {x1} (h:PA X es t):PE X (.Tuple es x1 pos) (tTup t):=by
 intro pins s σ H Q I hq
 refine wpAny_Tuple_spliced (thn (h pos pins s σ H _ I hq) fun us s1 ⟨xs,H1,I1,r,z,q⟩=>⟨by rw [← r.length];exact z,?_⟩)
 have hf:H1 s1.heap.objs.size=none:=I1.hok.fresh (Nat.le_refl _)
 refine ⟨.ref s1.heap.objs.size,upd H1 s1.heap.objs.size (.tup xs),I1.laid (t':=s1.toks) (fun b u e=>Heap.get?_push_of_some _ e) (Nat.le_refl _) ?_,rfl,q _ hf⟩
 exact ⟨z,us,r,⟨_,Heap.get?_push_size _ rfl,rfl,⟨_,rfl⟩,fun _=>rfl⟩⟩
theorem zy9 (h:PA X es t):PE X (.List es pos) (tLst t):=by
 intro pins s σ H Q I hq
 refine wpAny_List_spliced (thn (h pos pins s σ H _ I hq) fun us s1 ⟨xs,H1,I1,r,z,q⟩=>⟨by rw [← r.length];exact z,?_⟩)
 have hf:H1 s1.heap.objs.size=none:=I1.hok.fresh (Nat.le_refl _)
 refine ⟨.ref s1.heap.objs.size,upd H1 s1.heap.objs.size (.lst xs),I1.laid (t':=s1.toks) (fun b u e=>Heap.get?_push_of_some _ e) (Nat.le_refl _) ?_,rfl,q _ hf⟩
 exact ⟨z,us,0,r,Heap.get?_push_size _ rfl⟩
end
abbrev Sp:=List V->Hp->VK->XK->Prop
abbrev CXT:=List Env->Hp->Shared->XK->Value->Shared->Prop
structure Env0 (P:Program) (w:World) (K:PySem.W.Frag) (mg:Str->Option Value) (base:Heap) (A:Around) (outer:List Env) (s:Shared) (H:Hp):Prop where
 frames:A.frames=some outer
 mod:Mod K mg base
 bs:∀ b o,base.get? b=some o->s.heap.get? b=some o/\H b=none
 bsz:base.objs.size<=s.heap.objs.size
 funs:s.heap.FunFrames base outer
 frf:∀ b∈frs outer,H b=none
 hok:HOk P w H s.heap
 bare:AllBare s.gens
def CE (outer:List Env) (P:Program) (w:World) (H:Hp) (s:Shared) (Q:VK) (u:Value) (s':Shared):Prop :=
 ∃ v H',s'.os=s.os/\AllBare s'.gens/\Un (frs outer) [] H H' s.heap s'.heap/\HOk P w H' s'.heap/\RelV v u/\Q v H'
def CR (CX:CXT) (outer:List Env) (P:Program) (w:World) (H:Hp) (s:Shared) (Q:VK) (E:XK) (r:Result) (s':Shared):Prop :=
 match r with
 | .ok (.ret u)=>CE outer P w H s Q u s'
 | .ok _=>False
 | .error e=>CX outer H s E e s'
structure FnOk (P:Program) (w:World) (K:PySem.W.Frag) (mg:Str->Option Value) (base:Heap) (CX:CXT) (k:Nat) (f:Addr) (fd:FuncData) (ps:List Str) (sp:Sp):Prop where
 len:∀ vs H Q E,sp vs H Q E->vs.length=ps.length
 run:∀ (A:Around) (outer:List Env) (s:Shared) (H:Hp) (args:Args) (us:List Value) (vs:List V) (Q:VK) (E:XK),Room k A->Env0 P w K mg base A outer s H->BindsTo s fd args (ps.zip us)->Vals vs us->sp vs H Q E →
  codeAny (model P w) A (.call (.ref f) args) (CR CX outer P w H s Q E) s
section
variable {X : Cx} {pins : List (Addr × Obj)} {σ : St} {H : Hp} {s s' : Shared}
theorem Inv.env0 (I:Inv X pins σ H s):Env0 X.prog X.w X.K X.mg X.base X.A X.stack s H :=
 ⟨I.ok.frames,I.ok.mod,I.bs,Nat.le_trans I.ok.bsz I.sz,I.stack,I.stkFree,I.hok,I.bare⟩
theorem Inv.after {Q:VK} {u:Value} (I:Inv X pins σ H s) (h:CE X.stack X.prog X.w H s Q u s'):EP X pins σ Q u s':=by
 obtain ⟨v,H',os,bare,un,hok,r,q⟩:=h
 obtain ⟨hh,g,d,t,os'⟩:=s'
 obtain rfl:os'=s.os:=os
 exact ⟨v,H',I.call (h':=hh) (g':=g) (d':=d) (t':=t) (ch:=[]) un hok bare (fun b z=>absurd z (by simp)),r,q⟩
end
def tCall (sp:Sp) (dvs:List V) (E:XK) (t:TA):TE:=fun σ H Q=>t σ H fun vs H1=>sp (vs++dvs) H1 Q E
def tMeth (C:Addr) (m:Str) (sp:Sp) (dvs:List V) (E:XK) (ta:TE) (t:TA):TE:=fun σ H Q=>ta σ H fun x H1=>∃ a dx fs,x=.ref a/\H1 a=some (.ins C dx fs)/\fs.lookup m=none ∧
 t σ H1 fun vs H2=>sp (x::(vs++dvs)) H2 Q E
def tMake (C:Addr) (sp:Sp) (dvs:List V) (E:XK) (t:TA):TE:=fun σ H Q=>t σ H fun vs H1=>∀ x dx,H1 x=none->H1 dx=none->dx≠x →
 sp (.ref x::(vs++dvs)) (upd (upd H1 dx (.own x)) x (.ins C dx [])) (fun v H2=>v=.non/\Q (.ref x) H2) E
def Binds (K:PySem.W.Frag) (fd:FuncData) (ps:List Str) (ds:List Value):Prop :=
 ∀ (s:Shared) (us:List Value),K.In s.heap->(us++ds).length=ps.length->BindsTo s fd ⟨us,[]⟩ (ps.zip (us++ds))
theorem Binds.all {K:PySem.W.Frag} {fd:FuncData} {ps:List Str} (h:∀ us:List Value,us.length=ps.length->bindArgs fd ⟨us,[]⟩=pure (ps.zip us)):Binds K fd ps []:=fun s us _ hl=>by
 rw [List.append_nil] at hl ⊢
 exact .of_eq (h us hl)
def Passes (CX:CXT) (X:Cx) (E:XK):Prop:=∀ (pins:List (Addr × Obj)) (σ:St) (H:Hp) (s:Shared) (e:Value) (s':Shared),Inv X pins σ H s->CX X.stack H s E e s'->X.xe e s'
section
variable {X : Cx} {CX : CXT} {k : Nat} {f C : Addr} {fd : FuncData} {ps : List Str} {sp : Sp} {dvs : List V} {ds : List Value} {E : XK} {x m : Str} {p pos apos : Pos} {e o : Expr} {es : List Expr} {ta : TE} {t : TA}
theorem zyx {pins:List (Addr × Obj)} {σ:St} {H:Hp} {s:Shared} {Q:VK} {us:List Value} {vs:List V} (F:FnOk X.prog X.w X.K X.mg X.base CX k f fd ps sp) (hr:Room k X.A) (hb:Binds X.K fd ps ds) (hd:Vals dvs ds) (hx:Passes CX X E)
  (I:Inv X pins σ H s) (r:Vals vs us) (h:sp (vs++dvs) H Q E):wpAny (model X.prog X.w) X.A (call (.ref f) us) (EP X pins σ Q) X.xe s:=by
 have r2:Vals (vs++dvs) (us++ds):=r.append hd
 have hl:(us++ds).length=ps.length:=by rw [← r2.length];exact F.len _ _ _ _ h
 refine wpAny_call (codeAny_mono (F.run X.A X.stack s H ⟨us,[]⟩ (us++ds) (vs++dvs) Q E hr I.env0 (hb s us I.kIn hl) r2 h) fun r s' hq=>?_)
 cases r with
 | error e=>exact hx pins σ H s e s' I hq
 | ok fl =>
  cases fl with
  | ret u=>exact I.after hq
  | next=>exact False.elim hq
  | brk=>exact False.elim hq
  | cont=>exact False.elim hq
theorem zq0 (F:FnOk X.prog X.w X.K X.mg X.base CX k f fd ps sp) (hr:Room k X.A) (hg:Gl X x) (hm:X.mg x=some (.ref f)) (hk:PySem.W.keepIn X.K (.ref f)=true) (hb:Binds X.K fd ps ds) (hd:Vals dvs ds) (hx:Passes CX X E)
  (ha:PA X (e::es) t) (hdb:(x == ("__debug__":Str))=false:=by decide) (he:starEach (e::es) X.env=(false,eval e X.env)::starEach es X.env:=by rfl) (hpl:(backTo pos (starEach es X.env)).any (·.1)=false:=by rfl) :
  PE X (.Call (.Name x p) (e::es) [] pos) (tCall sp dvs E t):=by
 intro pins s σ H Q I h
 refine wpAny_Call_Name_kw (zrf I hg hm ?_ hdb)
 refine PySem.W.callWith_K (h₀:=X.base) I.ok.mod.kin hk (thn (ha pos pins s σ H _ I h) fun us s1 ⟨vs,H1,I1,r,q⟩=>⟨I1.kIn,?_⟩) he hpl
 exact zyx F hr hb hd hx I1 r q
structure Mk (K:PySem.W.Frag) (C f:Addr):Prop where
 makes:PySem.W.makesIn K C=true
 init:PySem.W.findIn K (.ref C) "__init__"=some (some (.ref f))
 fn:PySem.W.isFn K (.ref f)=true
 kp:PySem.W.keepIn K (.ref C)=true
end
def PK (X:Cx) (kws:List Keyword) (t:TA):Prop :=
 ∀ (pos:Pos) (pins:List (Addr × Obj)) (s:Shared) (σ:St) (H:Hp) (Q:List V->Hp->Prop),Inv X pins σ H s->t σ H Q->wpAny (model X.prog X.w) X.A (evalAll ((backToKw pos (keywordEach kws X.env)).map (·.2))) (AP X pins σ Q) X.xe s
section
variable {X : Cx} {CX : CXT} {k : Nat} {f C : Addr} {fd : FuncData} {ps ks : List Str} {sp : Sp} {E : XK} {x m : Str} {p pos apos kpos : Pos} {e o : Expr} {es : List Expr} {kws : List Keyword} {te ta : TE} {t tk : TA} {nm : Option Str}
structure KBinds (K:PySem.W.Frag) (fd:FuncData) (ps ks:List Str) (g:List Value->List Value->List Value) (gV:List V->List V->List V):Prop where
 to:∀ (s:Shared) (us ws:List Value),K.In s.heap->(g us ws).length=ps.length->BindsTo s fd ⟨us,ks.zip ws⟩ (ps.zip (g us ws))
 rel:∀ {vs:List V} {us:List Value} {zs:List V} {ws:List Value},Vals vs us->Vals zs ws->Vals (gV vs zs) (g us ws)
def tCallK (sp:Sp) (gV:List V->List V->List V) (E:XK) (t tk:TA):TE:=fun σ H Q=>t σ H fun vs H1=>tk σ H1 fun zs H2=>sp (gV vs zs) H2 Q E
variable {g : List Value → List Value → List Value} {gV : List V → List V → List V}
end
structure FnScope (N P:List Str) (sc:Scope):Prop where
 kind:sc.kind=.function
 co:sc.isCoroutine=false
 gen:sc.isGenerator=false
 nd:N.Nodup
 pre:N.take P.length=P
 par:∀ x∈P,sc.names.lookup x=some .local\/sc.names.lookup x=some .cell
 nofree:∀ y∈sc.names,y.2≠.free
theorem zm7 {kindOf:Str->Option NameKind} {x:Str}:∀ {binds:List (Str × Value)} {m:Str->Option Value},(∀ v,(x,v) ∉ binds)->bindL kindOf binds m x=m x
 | [],_,_=>rfl
 | (n,v)::r,m,h=>by
  unfold bindL
  rw [zm7 fun w hw=>h w (List.mem_cons_of_mem _ hw)]
  split
  ·have:x≠n:=by rintro rfl;exact h v List.mem_cons_self
   simp [this]
  ·rfl
theorem zm9 {kindOf:Str->Option NameKind} {x:Str}:∀ {binds:List (Str × Value)} {m:Str->Option Value},(∀ v,(x,v) ∉ binds)->bindC kindOf binds m x=m x
 | [],_,_=>rfl
 | (n,v)::r,m,h=>by
  unfold bindC
  rw [zm9 fun w hw=>h w (List.mem_cons_of_mem _ hw)]
  split
  ·rfl
  ·have:x≠n:=by rintro rfl;exact h v List.mem_cons_self
   simp [this]
theorem zm8 {kindOf:Str->Option NameKind} {x:Str} {v:Value}:∀ {P:List Str} {vs:List Value} {i:Nat} {m:Str->Option Value},P.Nodup->P[i]?=some x->vs[i]?=some v->kindOf x=some .local →
  bindL kindOf (P.zip vs) m x=some v
 | [],_,_,_,_,h,_,_=>by simp at h
 | _::_,[],_,_,_,_,h,_=>by simp at h
 | p::P,w::vs,0,m,nd,h1,h2,hk=>by
  simp at h1 h2;subst h1;subst h2
  show bindL kindOf ((p,w)::P.zip vs) m p=_
  unfold bindL
  rw [zm7 fun v hv=>(List.nodup_cons.mp nd).1 (List.of_mem_zip hv).1,if_pos hk]
  simp
 | p::P,w::vs,i + 1,m,nd,h1,h2,hk=>by
  show bindL kindOf ((p,w)::P.zip vs) m x=_
  unfold bindL
  exact zm8 (i:=i) (List.nodup_cons.mp nd).2 (by simpa using h1) (by simpa using h2) hk
theorem zna {kindOf:Str->Option NameKind} {x:Str} {v:Value}:∀ {P:List Str} {vs:List Value} {i:Nat} {m:Str->Option Value},P.Nodup->P[i]?=some x->vs[i]?=some v->kindOf x≠some .local →
  bindC kindOf (P.zip vs) m x=some v
 | [],_,_,_,_,h,_,_=>by simp at h
 | _::_,[],_,_,_,_,h,_=>by simp at h
 | p::P,w::vs,0,m,nd,h1,h2,hk=>by
  simp at h1 h2;subst h1;subst h2
  show bindC kindOf ((p,w)::P.zip vs) m p=_
  unfold bindC
  rw [zm9 fun v hv=>(List.nodup_cons.mp nd).1 (List.of_mem_zip hv).1,if_neg hk]
  simp
 | p::P,w::vs,i + 1,m,nd,h1,h2,hk=>by
  show bindC kindOf ((p,w)::P.zip vs) m x=_
  unfold bindC
  exact zna (i:=i) (List.nodup_cons.mp nd).2 (by simpa using h1) (by simpa using h2) hk
def start (N:List Str) (vs:List V):St:=vs.map some++List.replicate (N.length - vs.length) none
def cxOf (CX:CXT) (P:Program) (w:World) (K:PySem.W.Frag) (mg:Str->Option Value) (base:Heap) (N:List Str) (qual:Str) (scope:Scope) (f:Addr) (cd:Value) (A:Around) (outer:List Env) (s:Shared) (H:Hp) (E:XK):Cx where
 prog:=P
 w:=w
 K:=K
 mg:=mg
 base:=base
 A:=A.deeper (envOfC qual scope s.heap.objs.size f cd)
 N:=N
 s₀:=s
 H₀:=H
 env:=envOfC qual scope s.heap.objs.size f cd
 outer:=outer
 stack:=envOfC qual scope s.heap.objs.size f cd::outer
 ex:=[]
 calm:=true
 fn:=fun _=>true
 pn:=[]
 xe:=fun e s'=>wpAny (model P w) (A.deeper (envOfC qual scope s.heap.objs.size f cd)) (leaving (envOfC qual scope s.heap.objs.size f cd) e) (fun _ s''=>CX outer H s E e s'') (fun e' s''=>CX outer H s E e' s'') s'
theorem zpa {sc:Scope} {n:Nat} {x:Str} (h:sc.names.lookup x=some .cell):∃ c,(cellsFrom n sc.names []).lookup x=some c:=by
 have q:=PySem.W.cellsFrom_some sc.names n [] (.inl h)
 exact Option.isSome_iff_exists.mp q
theorem zrr {CX:CXT} {P:Program} {w:World} {K:PySem.W.Frag} {mg:Str->Option Value} {base:Heap} {N ps:List Str} {qual:Str} {scope:Scope} {f:Addr} {cd:Value} {A:Around} {outer:List Env} {s s1:Shared} {H:Hp} {E:XK} {us:List Value} {vs:List V}
  (S:FnScope N ps scope) (hd:A.handled=none) (e0:Env0 P w K mg base A outer s H) (hl:vs.length=ps.length) (r:Vals vs us)
  (x:InCallC s s.heap.objs.size (bindL (envOfC qual scope s.heap.objs.size f cd).kindOf (ps.zip us) fun _=>none) (cellsFrom (s.heap.objs.size + 1) scope.names []) (bindC (envOfC qual scope s.heap.objs.size f cd).kindOf (ps.zip us) fun _=>none) s1) :
  Inv (cxOf CX P w K mg base N qual scope f cd A outer s H E) [] (start N vs) H s1:=by
 have hpl:ps.length<=N.length:=by have:=congrArg List.length S.pre;rw [List.length_take] at this;omega
 obtain ⟨h1,tk,rfl,hk⟩:=x.done
 have noA:∀ b:Addr,b ∉ (cxOf CX P w K mg base N qual scope f cd A outer s H E).ex:=fun b z=>absurd (show b∈([]:List Addr) from z) (by simp)
 refine ⟨⟨e0.mod,S.kind,rfl,rfl,Nat.le_refl _,fun y z c h1 h2=>?_,fun y hy=>?_,fun y c _ h=>?_,fun _=>hd,Around.frames_deeper e0.frames,.inr ⟨rfl,rfl⟩,fun b z=>absurd z (noA b),e0.bs,e0.bsz,fun b _ _=>noA b,fun b z=>absurd z (noA b),e0.funs,e0.frf⟩,
  rfl,e0.bare,Un.kept hk,⟨_,x.toInCall.ns,fun i y v h1 h2 h3=>?_⟩,fun y c h=>⟨_,x.cell y c h⟩,e0.hok.fresh (Nat.le_refl _),fun y c h=>?_,fun p hp=>absurd (show p∈([]:List (Addr × Obj)) from hp) (by simp),e0.hok.kept hk,?_⟩
 ·exact name_of_addr x.apart (PySem.mem_of_lookup h1) (PySem.mem_of_lookup h2)
 ·have hy:scope.names.lookup y=some .cell\/scope.names.lookup y=some .free:=hy
  rcases hy with hy | hy
  ·exact zpa hy
  ·exact absurd rfl (S.nofree _ (PySem.mem_of_lookup hy))
 ·exact Nat.le_of_lt (x.above y c (PySem.mem_of_lookup h))
 ·have hi:i < vs.length:=by
   unfold start at h2
   by_cases hi:i < vs.length
   ·exact hi
   ·rw [List.getElem?_append_right (by simpa using hi)] at h2
    rw [List.getElem?_replicate] at h2
    split at h2 <;> cases h2
  have ha:vs[i]?=some v:=by
   unfold start at h2
   rw [List.getElem?_append_left (by simpa using hi),List.getElem?_map] at h2
   cases e:vs[i]? with
   | none=>rw [e] at h2;cases h2
   | some a=>rw [e] at h2;cases h2;rfl
  obtain ⟨u,hu,rv⟩:=r.get ha
  have hp:ps[i]?=some y:=by
   rw [← S.pre,List.getElem?_take_of_lt (by omega)];exact h1
  have ndP:ps.Nodup:=by rw [← S.pre];exact S.nd.sublist (List.take_sublist _ _)
  refine ⟨u,rv,?_⟩
  rcases S.par y (List.mem_of_getElem? hp) with k | k
  ·exact .inl ⟨k,zm8 ndP hp hu k⟩
  ·obtain ⟨c,e⟩:=zpa (n:=s.heap.objs.size + 1) k
   refine .inr ⟨.inl k,c,e,?_⟩
   have q:=x.cell y c e
   rw [zna ndP hp hu (by show scope.names.lookup y≠_;rw [k];decide)] at q
   exact q
 ·exact e0.hok.fresh (Nat.le_of_lt (x.above y c (PySem.mem_of_lookup h)))
 ·unfold start
  show _=N.length
  rw [List.length_append,List.length_map,List.length_replicate]
  omega
theorem fn_of {CX:CXT} {P:Program} {w:World} {K:PySem.W.Frag} {mg:Str->Option Value} {base:Heap} {k:Nat} {f:Addr} {name qual:Str} {params:Arguments} {body:List Stmt} {scope:Scope} {dV kV doc pm cdv ct oc:Value} {an od:Option Addr}
  {osl:Array (Option Value)} {N ps:List Str} {sp:Sp} (lk:K.lookup f=some ⟨oc,od,.func (PySem.W.fnOf name qual params body scope dV kV doc pm an cdv ct),osl⟩) (hcd:PySem.W.codeIn K cdv qual=true) (S:FnScope N ps scope)
  (len:∀ vs H Q E,sp vs H Q E->vs.length=ps.length)
  (hbody:∀ (A:Around) (outer:List Env) (s:Shared) (H:Hp) (vs:List V) (Q:VK) (E:XK),Room k (A.deeper (envOfC qual scope s.heap.objs.size f cdv))->sp vs H Q E →
   ∃ t,PSs (cxOf CX P w K mg base N qual scope f cdv A outer s H E) body t/\t { nx:=fun _ H'=>Q .non H',rt:=Q } (start N vs) H) :
  FnOk P w K mg base CX (k + 1) f (PySem.W.fnOf name qual params body scope dV kV doc pm an cdv ct) ps sp:=by
 refine ⟨len,fun A outer s H args us vs Q E hr e0 hb r hsp=>?_⟩
 have hl:=len _ _ _ _ hsp
 have KX:K.In s.heap:=e0.mod.kin.keeps fun b o e=>(e0.bs b o e).1
 have lim:s.heap.NoLimit:=e0.mod.nolimit.keeps fun b o e=>(e0.bs b o e).1
 have hkind:∀ y∈ps.zip us,scope.names.lookup y.1=some .local\/(scope.names.lookup y.1=some .cell/\((cellsFrom (s.heap.objs.size + 1) scope.names []).lookup y.1).isSome=true):=fun ⟨n,v⟩ hy=>by
  rcases S.par n (List.of_mem_zip hy).1 with q | q
  ·exact .inl q
  ·exact .inr ⟨q,PySem.W.cellsFrom_some _ _ _ (.inl q)⟩
 refine codeAny_call_function hr.depth (KX _ _ lk) rfl S.co S.gen rfl (PySem.W.codeRec_of KX hcd) (hb _ _ _ _ ?_)
 refine wpAny_newFunctionEnv_cells S.kind hkind fun env he s1 x=>?_
 subst he
 refine ⟨lim.keeps x.toInCall.keep,codeAny_func ?_⟩
 obtain ⟨t,ht,hq⟩:=hbody A outer s H vs Q E (hr.deeper _) hsp
 have I:Inv (cxOf CX P w K mg base N qual scope f cdv A outer s H E) [] (start N vs) H s1:=zrr S hr.hd e0 hl r x
 refine wpAny_mono (ht [] s1 (start N vs) H _ I hq) (fun fl s' hs=>?_) fun e s' hs=>hs
 have fin:∀ {σ':St} {H':Hp} {v:V} {u:Value},Inv (cxOf CX P w K mg base N qual scope f cdv A outer s H E) [] σ' H' s'->RelV v u->Q v H'->CE outer P w H s Q u s' :=
  fun {σ' H' v u} J rv q=>⟨v,H',J.os,J.bare,J.base,J.hok,rv,q⟩
 cases fl with
 | ret u =>
  obtain ⟨v,σ',H',J,rv,q⟩:=hs
  exact fin J rv q
 | next =>
  obtain ⟨σ',H',J,q⟩:=hs
  exact fin (v:=V.non) (u:=Value.none) J rfl q
 | brk =>
  obtain ⟨_,_,_,q⟩:=hs
  exact False.elim q
 | cont =>
  obtain ⟨_,_,_,q⟩:=hs
  exact False.elim q
end L2
namespace L2
open PySem PySem.Spec PyProof.Rows
section
variable {X : Cx} {x : Str} {p pos : Pos} {e : Expr} {es : List Expr} {t : TA} {id T : String} {r : List V → Hp → VK → Prop}
def tCB (r:List V->Hp->VK->Prop) (t:TA):TE:=fun σ H Q=>t σ H fun vs H1=>r vs H1 Q
theorem zoj (hc:zhw X (.builtin id) r) (hg:Gl X x) (hm:X.mg x=none) (hv:bootBuiltins x=some (.builtin id)) (ha:PA X (e::es) t) (hn:x≠"__name__":=by decide) (hdb:(x == ("__debug__":Str))=false:=by decide)
  (he:starEach (e::es) X.env=(false,eval e X.env)::starEach es X.env:=by rfl) (hpl:(backTo pos (starEach es X.env)).any (·.1)=false:=by rfl):PE X (.Call (.Name x p) (e::es) [] pos) (tCB r t):=by
 intro pins s σ H Q I h
 refine wpAny_Call_Name_kw (zjf I hg hm hv ?_ hn hdb)
 exact PyProof.Rows.callWith_builtin1 (thn (ha pos pins s σ H _ I h) fun us s1 ⟨vs,H1,I1,r1,q1⟩=>hc pins s1 σ H1 vs us Q I1 r1 q1) he hpl
theorem zmi (hc:zhw X (.type T) r) (hg:Gl X x) (hm:X.mg x=none) (hv:bootBuiltins x=some (.type T)) (ha:PA X (e::es) t) (hn:x≠"__name__":=by decide) (hdb:(x == ("__debug__":Str))=false:=by decide)
  (he:starEach (e::es) X.env=(false,eval e X.env)::starEach es X.env:=by rfl) (hpl:(backTo pos (starEach es X.env)).any (·.1)=false:=by rfl):PE X (.Call (.Name x p) (e::es) [] pos) (tCB r t):=by
 intro pins s σ H Q I h
 refine wpAny_Call_Name_kw (zjf I hg hm hv ?_ hn hdb)
 exact PyProof.Rows.callWith_type1 (thn (ha pos pins s σ H _ I h) fun us s1 ⟨vs,H1,I1,r1,q1⟩=>hc pins s1 σ H1 vs us Q I1 r1 q1) he hpl
end
end L2
namespace HT
open PySem PyProof.Rows
def lexLt:List Int->List Int->Bool
 | [],[]=>false
 | [],_::_=>true
 | _::_,[]=>false
 | x::xs,y::ys=>if x=y then lexLt xs ys else decide (x < y)
section
open PySem.SeqAt
open PySem.AutoSeq1 (wpAny_loadPart')
open PySem.MeetsSeq PySem.MeetsSeq2 PySem.MeetsSeq3
end
section
variable {prog : Program} {w : World} {A : Around} {E : Value → Shared → Prop} {s : Shared}
def sIx (n d:Nat):Option Int->Nat
 | none=>d
 | some v=>if v < 0 then (v + (n:Int)).toNat else min v.toNat n
theorem zyu (n d:Nat) (hd:d<=n) (o:Option Int):sIx n d o<=n:=by
 cases o with
 | none=>exact hd
 | some v =>
  show (if v < 0 then (v + (n:Int)).toNat else min v.toNat n)<=n
  by_cases hv:v < 0
  ·rw [if_pos hv];omega
  ·rw [if_neg hv];exact Nat.min_le_right _ _
theorem zsr (v:Int) (n d:Nat):(if v < 0 then max (v + (n:Int)) 0 else min v (n:Int))=((sIx n d (some v):Nat):Int):=by
 show (if v < 0 then max (v + (n:Int)) 0 else min v (n:Int))=(((if v < 0 then (v + (n:Int)).toNat else min v.toNat n):Nat):Int)
 by_cases hv:v < 0
 ·simp only [if_pos hv];omega
 ·simp only [if_neg hv];omega
theorem zp8 (lo hi:Option Int) (n:Nat):Builtin.Slice.sliceAdjust lo hi 1 (n:Int)=(((sIx n 0 lo:Nat):Int),((sIx n n hi:Nat):Int)):=by
 have h1:¬ ((1:Int) < 0):=by omega
 unfold Builtin.Slice.sliceAdjust
 simp only [h1,if_false]
 refine Prod.ext ?_ ?_
 ·cases lo with
  | none=>rfl
  | some v=>exact zsr v n 0
 ·cases hi with
  | none=>rfl
  | some v=>exact zsr v n n
theorem zpr (i j:Nat):Builtin.Slice.slicePlaces (i:Int) (j:Int) 1=j - i:=by
 unfold Builtin.Slice.slicePlaces
 have h1:(1:Int) > 0:=by omega
 simp only [h1,if_true,Int.ediv_one]
 split <;> omega
theorem zku {v:Value} {o:Option Int} {Q:Option Int->Shared->Prop} (p:IsPart v o) (h:Q o s):wpAny (model prog w) A (Builtin.Slice.slicePartIndex v) Q E s:=by
 cases p with
 | none=>exact slicePart_none h
 | int i t=>exact slicePart_int h
theorem zjh {sl:Addr} {vl vu:Value} {lo hi:Option Int} {n:Nat} {Q:Int × Int × Nat->Shared->Prop} (hs:s.heap.IsSliceOf sl vl vu .none) (pl:IsPart vl lo) (pu:IsPart vu hi)
  (h:Q (((sIx n 0 lo:Nat):Int),1,sIx n n hi - sIx n 0 lo) s):wpAny (model prog w) A (Builtin.Slice.sliceApplied (.ref sl) (pure (n:Int))) Q E s:=by
 obtain ⟨os,hos,hcs,hds⟩:=id hs
 unfold Builtin.Slice.sliceApplied Builtin.Slice.sliceFields
 refine wpAny_bind (wpAny_bind (wpAny_field hos hds (x:=vl) rfl (wpAny_bind (wpAny_field hos hds (x:=vu) rfl (wpAny_bind (wpAny_field hos hds (x:=.none) rfl (wpAny_pure ?_)))))))
 refine wpAny_bind (slicePart_none ?_)
 show wpAny _ _ (if ((1:Int) == 0)=true then _ else _) _ _ s
 rw [if_neg (by decide)]
 refine wpAny_bind (zku pl (wpAny_bind (zku pu (wpAny_bind (wpAny_pure ?_)))))
 show wpAny _ _ (match Builtin.Slice.sliceAdjust lo hi 1 (n:Int) with | (lo,hi)=>pure (lo,(1:Int),Builtin.Slice.slicePlaces lo hi 1)) _ _ s
 rw [zp8 lo hi n]
 show wpAny _ _ (pure (((sIx n 0 lo:Nat):Int),(1:Int),Builtin.Slice.slicePlaces ((sIx n 0 lo:Nat):Int) ((sIx n n hi:Nat):Int) 1)) _ _ s
 rw [zpr]
 exact wpAny_pure h
theorem ztt (xs:Array Value) (i k:Nat):((List.range k).filterMap fun (m:Nat)=>xs[((i:Int) + (m:Int) * 1).toNat]?).toArray=((xs.toList.drop i).take k).toArray:=by
 have e:(fun (m:Nat)=>xs[((i:Int) + (m:Int) * 1).toNat]?)=fun m=>xs[i + m]?:=by
  funext m
  have:((i:Int) + (m:Int) * 1).toNat=i + m:=by omega
  rw [this]
 rw [e]
 have:=pick_run xs i k
 rw [List.filterMap_map] at this
 have e2:((fun x=>xs[x]?) ∘ fun x=>i + x)=fun m=>xs[i + m]?:=rfl
 rw [e2] at this
 rw [this]
theorem getItem_tuple_cut {t sl:Addr} {items:Array Value} {vl vu:Value} {lo hi:Option Int} {Q:Value->Shared->Prop} (ht:IsTup s.heap t items) (hs:s.heap.IsSliceOf sl vl vu .none) (pl:IsPart vl lo) (pu:IsPart vu hi)
  (hw:¬ (sIx items.size 0 lo=0/\sIx items.size items.size hi=items.size))
  (h:Q (.ref s.heap.objs.size) { s with heap:=s.heap.push { cls:=.type "tuple",data:=.seq ((items.toList.drop (sIx items.size 0 lo)).take (sIx items.size items.size hi - sIx items.size 0 lo)).toArray } })
  (hsz:items.size<=sizeLine):wpAny (model prog w) A (getItem (.ref t) (.ref sl)) Q E s:=by
 have htake:sizeOk (.seq ((items.toList.drop (sIx items.size 0 lo)).take (sIx items.size items.size hi - sIx items.size 0 lo)).toArray):=by
  show ((items.toList.drop (sIx items.size 0 lo)).take (sIx items.size items.size hi - sIx items.size 0 lo)).toArray.size<=sizeLine
  rw [List.size_toArray,List.length_take,List.length_drop,Array.length_toList]
  omega
 have hj:sIx items.size items.size hi<=items.size:=zyu _ _ (Nat.le_refl _) hi
 obtain ⟨os,hos,hcs,hds⟩:=id hs
 have hTs:s.TypeIs (.ref sl) "slice":=⟨os,hos,hcs⟩
 unfold getItem
 try with_reducible refine wpAny_holding ?_
 first | refine wpAny_bind (wpAny_pure ?_) | skip
 refine wpAny_bind (wpAny_sequenceKey ht.typeIs (by decide) ?_)
 refine wpAny_bind (wpAny_callSpecial?_slot (name:=Str.ofString "__getitem__") ht.typeIs PyProof.Rows.slot_tuple_getitem
  (wpAny_call_entry PyProof.Rows.slot_tuple_getitem ht.typeIs entry_tuple_getitem ?_ (args_tuple_getitem _ _)))
 show wpAny _ _ (Builtin.Tuple.tupleItemsOf (.ref t) >>= _) _ _ s
 refine wpAny_bind (tupleItemsOf_ ht ?_)
 refine wpAny_bind (wpAny_typeOf hTs ?_)
 rw [if_pos (by decide)]
 refine wpAny_bind (zjh hs pl pu ?_)
 have hno:¬ ((((sIx items.size 0 lo:Nat):Int) == 0 && (1:Int) == 1 && (sIx items.size items.size hi - sIx items.size 0 lo) == items.size)=true):=by
  intro q
  rw [Bool.and_eq_true,Bool.and_eq_true] at q
  have q1:((sIx items.size 0 lo:Nat):Int)=0:=eq_of_beq q.1.1
  have q2:sIx items.size items.size hi - sIx items.size 0 lo=items.size:=eq_of_beq q.2
  exact hw ⟨by omega,by omega⟩
 show wpAny _ _ (if (((sIx items.size 0 lo:Nat):Int) == 0 && (1:Int) == 1 && (sIx items.size items.size hi - sIx items.size 0 lo) == items.size)=true then _ else _) _ _ s
 rw [if_neg hno,ztt]
 first
  | exact wpAny_bind (m:=Builtin.Tuple.tupleExact _) (wpAny_newObj_type (wpAny_pure ⟨_,rfl,wpAny_pure h⟩) htake)
  | exact wpAny_bind (m:=Builtin.Tuple.tupleExact _) (wpAny_newObj_type (wpAny_bind (wpAny_pure (wpAny_pure ⟨_,rfl,wpAny_pure h⟩))) htake)
  | exact wpAny_bind (wpAny_bind (m:=Builtin.Tuple.tupleExact _) (wpAny_newObj_type (wpAny_pure (wpAny_pure ⟨_,rfl,wpAny_pure h⟩)) htake))
  | exact wpAny_bind (wpAny_bind (m:=Builtin.Tuple.tupleExact _) (wpAny_newObj_type (wpAny_pure ⟨_,rfl,wpAny_pure h⟩) htake))
end
end HT
namespace L2
open PySem PySem.Spec PyProof.Rows
abbrev TO:=St->Hp->(Option Int->Hp->Prop)->Prop
def PO (X:Cx) (e:Option Expr) (t:TO):Prop :=
 ∀ (pins:List (Addr × Obj)) (s:Shared) (σ:St) (H:Hp) (Q:Option Int->Hp->Prop),Inv X pins σ H s->t σ H Q →
  wpAny (model X.prog X.w) X.A (evalPart e X.env) (fun u s'=>∃ o H',Inv X pins σ H' s'/\IsPart u o/\Q o H') X.xe s
def zvw:TO:=fun _ H Q=>Q none H
def tPart (t:TE):TO:=fun σ H Q=>t σ H fun x H1=>∃ i,x=.int i/\Q (some i) H1
section
variable {X : Cx} {e : Expr} {te : TE} {lo hi : Option Expr} {tl th : TO} {pos p2 : Pos}
theorem zwm:PO X none zvw:=by
 intro pins s σ H Q I h
 rw [evalPart_none]
 exact wpAny_pure ⟨none,H,I,.none,h⟩
theorem zwl (h:PE X e te):PO X (some e) (tPart te):=by
 intro pins s σ H Q I hw
 rw [evalPart_some]
 refine thn (h pins s σ H _ I hw) fun u s1 ⟨x,H1,I1,r1,q1⟩=>?_
 obtain ⟨i,rfl,q⟩:=q1
 obtain ⟨t,rfl⟩:=r1
 exact ⟨some i,H1,I1,.int i t,q⟩
def SlR (X:Cx) (r:V->Option Int->Option Int->Hp->VK->Prop):Prop :=
 ∀ (pins:List (Addr × Obj)) (s:Shared) (σ:St) (H:Hp) (x:V) (v vl vu:Value) (lo hi:Option Int) (sl:Addr) (Q:VK),Inv X pins σ H s->RelV x v->s.heap.IsSliceOf sl vl vu .none->IsPart vl lo->IsPart vu hi->r x lo hi H Q →
  ∃ T id,typeLookup (.type T) "__getitem__"=pure (some (.builtin id))/\s.TypeIs v T/\wpAny (model X.prog X.w) X.A (getItem v (.ref sl)) (EP X pins σ Q) X.xe s
def tSl (r:V->Option Int->Option Int->Hp->VK->Prop) (te:TE) (tl th:TO):TE:=fun σ H Q=>te σ H fun x H1=>tl σ H1 fun l H2=>th σ H2 fun u H3=>r x l u H3 Q
theorem zoi {r:V->Option Int->Option Int->Hp->VK->Prop} (hr:SlR X r) (he:PE X e te) (hl:PO X lo tl) (hu:PO X hi th):PE X (.Subscript e (.Slice lo hi none p2) pos) (tSl r te tl th):=by
 intro pins s σ H Q I h
 refine Subscript_ (thn (he pins s σ H _ I h) fun v s1 ⟨x,H1,I1,r1,q1⟩=>?_)
 refine wpAny_Slice (thn (hl pins s1 σ H1 _ I1 q1) fun vl s2 ⟨l,H2,I2,pl,q2⟩=>thn (hu pins s2 σ H2 _ I2 q2) fun vu s3 ⟨u,H3,I3,pu,q3⟩=>?_)
 rw [evalPart_none]
 refine wpAny_pure ?_
 have I4:Inv X pins σ H3 { s3 with heap:=s3.heap.push { cls:=.type "slice",data:=.fields #[vl,vu,.none] } }:=I3.kept (t':=s3.toks) fun b ob q=>Heap.get?_push_of_some _ q
 obtain ⟨T,id,hT,ht,hg⟩:=hr pins { s3 with heap:=s3.heap.push { cls:=.type "slice",data:=.fields #[vl,vu,.none] } } σ H3 x v vl vu l u s3.heap.objs.size Q I4 r1 (Heap.IsSliceOf.new ..) pl pu q3
 show wpAny (model X.prog X.w) X.A (subscriptTail e (.Slice lo hi none p2) v (.ref s3.heap.objs.size)) (EP X pins σ Q) X.xe { s3 with heap:=s3.heap.push { cls:=.type "slice",data:=.fields #[vl,vu,.none] } }
 exact tail_any (ops:=[.ref s3.heap.objs.size,v]) ht hT hg (by with_unfolding_all rfl)
def cutV (xs:List V) (lo hi:Option Int):List V:=(xs.drop (HT.sIx xs.length 0 lo)).take (HT.sIx xs.length xs.length hi - HT.sIx xs.length 0 lo)
theorem zkh (xs:List V) (lo hi:Option Int):(cutV xs lo hi).length<=xs.length:=by
 unfold cutV
 rw [List.length_take,List.length_drop]
 omega
def rSlT (K:PySem.W.Frag):V->Option Int->Option Int->Hp->VK->Prop:=fun x lo hi H Q=>∃ a xs,x=.ref a/\SqT K H a xs ∧
 ¬ (HT.sIx xs.length 0 lo=0/\HT.sIx xs.length xs.length hi=xs.length)/\∀ p,H p=none->Q (.ref p) (upd H p (.tup (cutV xs lo hi)))
theorem zyr:SlR X (rSlT X.K):=by
 intro pins s σ H x v vl vu lo hi sl Q I rx hs pl pu h
 obtain ⟨a,xs,rfl,hx,hw,q⟩:=h
 cases rx
 obtain ⟨its,r,ht,hz⟩:=I.tuple hx
 have hlen:its.toArray.size=xs.length:=by rw [List.size_toArray];exact r.length.symm
 refine ⟨"tuple",_,PyProof.Rows.slot_tuple_getitem.lookup,ht.typeIs,?_⟩
 refine HT.getItem_tuple_cut ht hs pl pu (by rw [hlen];exact hw) ?_ (by rw [hlen];exact hz)
 rw [hlen]
 refine ⟨.ref s.heap.objs.size,_,I.laid (t':=s.toks) (o:=.tup (cutV xs lo hi)) (fun b ob q=>Heap.get?_push_of_some _ q) (Nat.le_refl _) ?_,rfl,q _ (I.hok.fresh (Nat.le_refl _))⟩
 exact ⟨Nat.le_trans (zkh xs lo hi) hz,_,(r.drop (HT.sIx xs.length 0 lo)).take (HT.sIx xs.length xs.length hi - HT.sIx xs.length 0 lo),IsTp.new _ _⟩
def rLtT (K:PySem.W.Frag):R2:=fun x y H Q=>∃ a b ns ms,x=.ref a/\y=.ref b/\SqT K H a (ns.map V.int)/\SqT K H b (ms.map V.int)/\Q (.bl (HT.lexLt ns ms)) H
def rCatT (K:PySem.W.Frag):R2:=fun x y H Q=>∃ a b xs ys,x=.ref a/\y=.ref b/\SqT K H a xs/\SqT K H b ys/\xs≠[]/\xs.length + ys.length<=sizeLine ∧
 (ys=[]->Q (.ref a) H)/\(ys≠[]->∀ p,H p=none->Q (.ref p) (upd H p (.tup (xs++ys))))
end
end L2
namespace L2
open PySem PySem.Spec PyProof.Rows
def ixN (n:Nat) (i:Int):Option Nat:=if 0<=i then (if i < n then some i.toNat else none) else if -(n:Int)<=i then some (i + n).toNat else none
def atI {α:Type} (xs:List α) (i:Int):Option α:=(ixN xs.length i).bind fun j=>xs[j]?
theorem zw5 {n:Nat} {i:Int} {j:Nat} (h:ixN n i=some j):seqIndex? i n=some j/\j < n/\-(n:Int)<=i/\i < n:=by
 unfold ixN at h
 by_cases h0:0<=i
 ·rw [if_pos h0] at h
  by_cases h1:i < n
  ·rw [if_pos h1] at h
   have e:i.toNat=j:=Option.some.inj h
   exact ⟨by rw [seqIndex_of h0 h1,e],by omega,by omega,h1⟩
  ·rw [if_neg h1] at h;cases h
 ·rw [if_neg h0] at h
  by_cases h1:-(n:Int)<=i
  ·rw [if_pos h1] at h
   have e:(i + n).toNat=j:=Option.some.inj h
   exact ⟨by rw [seqIndex_neg (by omega) h1,e],by omega,h1,by omega⟩
  ·rw [if_neg h1] at h;cases h
theorem zn0 {α:Type} {xs:List α} {i:Int} {v:α} (h:atI xs i=some v):∃ j,seqIndex? i xs.length=some j/\xs[j]?=some v/\j < xs.length/\-(xs.length:Int)<=i/\i < xs.length:=by
 unfold atI at h
 cases e:ixN xs.length i with
 | none=>rw [e] at h;cases h
 | some j =>
  rw [e] at h
  obtain ⟨h1,h2,h3,h4⟩:=zw5 e
  exact ⟨j,h1,h,h2,h3,h4⟩
def zsx (b:Expr):Prop:=∀ o i,subscripted b false o i=operate [o,i] (getItem o i)
def IxR (X:Cx) (r:R2):Prop :=
 ∀ (value slice:Expr) (pins:List (Addr × Obj)) (s:Shared) (σ:St) (H:Hp) (x y:V) (v u:Value) (Q:VK),Inv X pins σ H s->RelV x v->RelV y u->r x y H Q →
  subscripted slice false v u=operate [v,u] (getItem v u)->wpAny (model X.prog X.w) X.A (subscriptTail value slice v u) (EP X pins σ Q) X.xe s
def MtR (X:Cx) (id:String) (r:V->List V->Hp->VK->Prop):Prop :=
 ∀ (pins:List (Addr × Obj)) (s:Shared) (σ:St) (H:Hp) (x:V) (xs:List V) (v:Value) (us:List Value) (Q:VK),Inv X pins σ H s->RelV x v->Vals xs us->r x xs H Q →
  wpAny (model X.prog X.w) X.A (call (.builtin id) (v::us)) (EP X pins σ Q) X.xe s
section
variable {X : Cx} {a b : Expr} {ta tb : TE} {pos : Pos}
theorem pe_ix {r:R2} (hr:IxR X r) (ha:PE X a ta) (hb:PE X b tb) (hs:zsx b):PE X (.Subscript a b pos) (tOp r ta tb):=by
 intro pins s σ H Q I h
 exact Subscript_ (binT ha hb I h fun v u s2 x y H2 I2 rx ry q=>hr a b pins s2 σ H2 x y v u Q I2 rx ry q (hs _ _))
def rIxL (K:PySem.W.Frag):R2:=fun x y H Q=>∃ p xs i v,x=.ref p/\y=.int i/\SqL K H p xs/\atI xs i=some v/\Q v H
def rIxT (K:PySem.W.Frag):R2:=fun x y H Q=>∃ p xs i v,x=.ref p/\y=.int i/\SqT K H p xs/\atI xs i=some v/\Q v H
def rIxS:R2:=fun x y H Q=>∃ z i c,x=.str z/\y=.int i/\z.length<=sizeLine/\atI z.cps.toList i=some c/\Q (.str ⟨#[c]⟩) H
theorem zw4:IxR X (rIxL X.K):=by
 intro value slice pins s σ H x y v u Q I rx ry h hs
 obtain ⟨p,xs,i,z,rfl,rfl,hq,he,q⟩:=h
 cases rx
 obtain ⟨t,rfl⟩:=ry
 obtain ⟨its,r,pl,hz⟩:=I.list hq
 obtain ⟨j,h1,h2,h3,h4,h5⟩:=zn0 he
 obtain ⟨w,ew,rw'⟩:=r.get h2
 have hl:=r.length
 have hn:=line63
 have fin:EP X pins σ Q w s:=⟨z,H,I,rw',q⟩
 by_cases h0:0<=i
 ·have hj:i.toNat=j:=by
   rw [seqIndex_of h0 h5] at h1
   exact Option.some.inj h1
  exact item_listR pl.isList h0 (by omega) (by rw [hj];simpa using ew) fin hs
 ·have hj:(i + (its.toArray.size:Int)).toNat=j:=by
   rw [seqIndex_neg (by omega) h4] at h1
   rw [List.size_toArray,← hl]
   exact Option.some.inj h1
  exact subscriptTail_builtinR (x:=w) pl.isList.typeIs slot_list_getitem.lookup
   (wpAny_getItem_list_neg (Q:=fun r s'=>r=w/\EP X pins σ Q r s') pl.isList (by omega) (by rw [List.size_toArray] <;> omega) (by omega) (by rw [hj];simpa using ew) ⟨rfl,fin⟩) hs
theorem ix_tup:IxR X (rIxT X.K):=by
 intro value slice pins s σ H x y v u Q I rx ry h hs
 obtain ⟨p,xs,i,z,rfl,rfl,hq,he,q⟩:=h
 cases rx
 obtain ⟨t,rfl⟩:=ry
 obtain ⟨its,r,pl,hz⟩:=I.tuple hq
 obtain ⟨j,h1,h2,h3,h4,h5⟩:=zn0 he
 obtain ⟨w,ew,rw'⟩:=r.get h2
 have hl:=r.length
 have hn:=line63
 have fin:EP X pins σ Q w s:=⟨z,H,I,rw',q⟩
 exact subscriptTail_builtinR (x:=w) pl.typeIs slot_tuple_getitem.lookup
  (getItem_tuple (j:=j) (Q:=fun r s'=>r=w/\EP X pins σ Q r s') pl (by omega) (by omega) (by rw [List.size_toArray,← hl];exact h1) (by simpa using ew) ⟨rfl,fin⟩) hs
theorem ix_str:IxR X rIxS:=by
 intro value slice pins s σ H x y v u Q I rx ry h hs
 obtain ⟨z,i,c,rfl,rfl,hz,he,q⟩:=h
 obtain ⟨t,rfl⟩:=rx
 obtain ⟨t',rfl⟩:=ry
 obtain ⟨j,h1,h2,h3,h4,h5⟩:=zn0 he
 have hl:z.cps.toList.length=z.length:=by simp [Str.length]
 rw [hl] at h1 h4 h5
 have hn:=line63
 exact tail_any (typeIs_str s z t) slot_str_getitem.lookup (getItem_str (c:=c) (by
  have e1:decide (i < -(2 ^ 63:Int))=false:=decide_eq_false (by omega)
  have e2:decide (i ≥ 2 ^ 63)=false:=decide_eq_false (by omega)
  rw [e1,e2,Bool.or_false]) (by rw [h1];simpa using h2) ⟨.str ⟨#[c]⟩,H,I.tok _,⟨_,rfl⟩,q⟩) hs
def rIx (K:PySem.W.Frag):R2:=fun x y H Q=>rIxL K x y H Q\/rIxT K x y H Q\/rIxS x y H Q
def rSetL:V->V->V->Hp->(Hp->Prop)->Prop:=fun o i v H Q=>∃ p xs k j,o=.ref p/\i=.int k/\H p=some (.lst xs)/\ixN xs.length k=some j/\Q (upd H p (.lst (xs.set j v)))
theorem zmd (lo hi:Option Int) (n:Nat):(sliceBounds lo hi none n).1=((HT.sIx n 0 lo:Nat):Int)/\(sliceBounds lo hi none n).2.1=((HT.sIx n n hi:Nat):Int)/\(sliceBounds lo hi none n).2.2=1:=by
 refine ⟨?_,?_,rfl⟩
 ·cases lo with
  | none=>simp [sliceBounds,HT.sIx]
  | some i =>
   simp only [sliceBounds,HT.sIx,Option.getD_none,show (1:Int) > 0 by decide,if_true]
   by_cases h:i < 0
   ·simp only [h,if_true] <;> omega
   ·simp only [h,if_false] <;> omega
 ·cases hi with
  | none=>simp [sliceBounds,HT.sIx]
  | some i =>
   simp only [sliceBounds,HT.sIx,Option.getD_none,show (1:Int) > 0 by decide,if_true]
   by_cases h:i < 0
   ·simp only [h,if_true] <;> omega
   ·simp only [h,if_false] <;> omega
theorem zli (its:List Value) (lo hi:Option Int):slicePick its.toArray lo hi none=((its.drop (HT.sIx its.length 0 lo)).take (HT.sIx its.length its.length hi - HT.sIx its.length 0 lo)).toArray:=by
 obtain ⟨h1,h2,h3⟩:=zmd lo hi its.toArray.size
 unfold slicePick
 rw [h1,h2,h3]
 simp only [sliceRange_one,pick_run,List.size_toArray] <;> rfl
def rSlL (K:PySem.W.Frag):V->Option Int->Option Int->Hp->VK->Prop:=fun x lo hi H Q=>∃ a xs,x=.ref a/\SqL K H a xs/\∀ p,H p=none->Q (.ref p) (upd H p (.lst (cutV xs lo hi)))
theorem zv2:SlR X (rSlL X.K):=by
 intro pins s σ H x v vl vu lo hi sl Q I rx hs pl pu h
 obtain ⟨a,xs,rfl,hx,q⟩:=h
 cases rx
 obtain ⟨its,r,ht,hz⟩:=I.list hx
 have hlen:=r.length
 refine ⟨"list",_,slot_list_getitem.lookup,ht.isList.typeIs,?_⟩
 refine wpAny_getItem_list_slice ht.isList hs pl pu .none (by simp) ?_ (by rw [List.size_toArray] <;> omega)
 rw [zli,← hlen]
 refine ⟨.ref s.heap.objs.size,_,I.laid (t':=s.toks) (o:=.lst (cutV xs lo hi)) (fun b ob q=>Heap.get?_push_of_some _ q) (Nat.le_refl _) ?_,rfl,q _ (I.hok.fresh (Nat.le_refl _))⟩
 exact ⟨Nat.le_trans (zkh xs lo hi) hz,_,0,(r.drop (HT.sIx xs.length 0 lo)).take (HT.sIx xs.length xs.length hi - HT.sIx xs.length 0 lo),Heap.get?_push_size _ rfl⟩
def zko:V->Bool
 | .non=>true
 | .bl _=>true
 | .int _=>true
 | .str _=>true
 | _=>false
def eqV:V->V->Bool
 | .non,.non=>true
 | .bl a,.bl b=>a == b
 | .bl a,.int b=>(if a then 1 else 0) == b
 | .int a,.bl b=>a == (if b then 1 else 0)
 | .int a,.int b=>a == b
 | .str a,.str b=>a == b
 | _,_=>false
theorem eqAt_V {A:Around} {s:Shared} {y x:V} {u v:Value} (ry:RelV y u) (rx:RelV x v) (fy:zko y=true) (fx:zko x=true):SeqAt.EqAt A s u v (eqV y x):=by
 cases y with
 | non =>
  cases ry
  cases x with
  | non=>cases rx;exact SeqAt.EqAt.same _
  | bl b=>cases rx;exact SeqAt.EqAt.none_bool b
  | int b=>obtain ⟨t,rfl⟩:=rx;exact SeqAt.EqAt.none_int b t
  | str b=>obtain ⟨t,rfl⟩:=rx;exact SeqAt.EqAt.none_str b t
  | _=>exact absurd (show false=true from fx) Bool.false_ne_true
 | bl a =>
  cases ry
  cases x with
  | non=>cases rx;exact SeqAt.EqAt.bool_none a
  | bl b=>cases rx;exact SeqAt.EqAt.bool_bool a b
  | int b=>obtain ⟨t,rfl⟩:=rx;exact SeqAt.EqAt.bool_int a b t
  | str b=>obtain ⟨t,rfl⟩:=rx;exact SeqAt.EqAt.bool_str a b t
  | _=>exact absurd (show false=true from fx) Bool.false_ne_true
 | int a =>
  obtain ⟨t',rfl⟩:=ry
  cases x with
  | non=>cases rx;exact SeqAt.EqAt.int_none a t'
  | bl b=>cases rx;exact SeqAt.EqAt.int_bool a t' b
  | int b=>obtain ⟨t,rfl⟩:=rx;exact SeqAt.EqAt.int_int a t' b t
  | str b=>obtain ⟨t,rfl⟩:=rx;exact SeqAt.EqAt.int_str a t' b t
  | _=>exact absurd (show false=true from fx) Bool.false_ne_true
 | str a =>
  obtain ⟨t',rfl⟩:=ry
  cases x with
  | non=>cases rx;exact SeqAt.EqAt.str_none a t'
  | bl b=>cases rx;exact SeqAt.EqAt.str_bool a t' b
  | int b=>obtain ⟨t,rfl⟩:=rx;exact SeqAt.EqAt.str_int a t' b t
  | str b=>obtain ⟨t,rfl⟩:=rx;exact SeqAt.EqAt.str_str a t' b t
  | _=>exact absurd (show false=true from fx) Bool.false_ne_true
 | _=>exact absurd (show false=true from fy) Bool.false_ne_true
def eqU (x:V) (u:Value):Bool:=match u with
 | .none=>eqV .non x
 | .bool b=>eqV (.bl b) x
 | .int i _=>eqV (.int i) x
 | .str z _=>eqV (.str z) x
 | _=>false
theorem zvi {x y:V} {u:Value} (r:RelV y u) (f:zko y=true):eqU x u=eqV y x:=by
 cases y with
 | non=>cases r;rfl
 | bl b=>cases r;rfl
 | int i=>obtain ⟨t,rfl⟩:=r;rfl
 | str z=>obtain ⟨t,rfl⟩:=r;rfl
 | _=>exact absurd (show false=true from f) Bool.false_ne_true
theorem zkj {x:V}:∀ {xs:List V} {us:List Value},Vals xs us->xs.all zko=true->us.any (eqU x)=xs.any fun y=>eqV y x
 | _,_,.nil,_=>rfl
 | y::xs,u::us,.cons r t,f=>by
  rw [List.all_cons,Bool.and_eq_true] at f
  rw [List.any_cons,List.any_cons,zvi r f.1,zkj t f.2]
theorem zh5 {A:Around} {s:Shared} {x:V} {v:Value} (rx:RelV x v) (fx:zko x=true):∀ {xs:List V} {us:List Value},Vals xs us->xs.all zko=true->∀ u∈us,SeqAt.EqAt A s u v (eqU x u)
 | _,_,.nil,_=>fun u hu=>by cases hu
 | y::xs,u::us,.cons r t,f=>fun u' hu=>by
  rw [List.all_cons,Bool.and_eq_true] at f
  rcases List.mem_cons.mp hu with rfl | hu
  ·rw [zvi r f.1];exact eqAt_V r rx f.1 fx
  ·exact zh5 rx fx t f.2 u' hu
def inV (x:V) (xs:List V):Bool:=xs.any fun y=>eqV y x
def rIn (K:PySem.W.Frag) (neg:Bool):R2:=fun x y H Q=>∃ p xs,y=.ref p/\(SqL K H p xs\/SqT K H p xs)/\zko x=true/\xs.all zko=true/\Q (.bl (if neg then !inV x xs else inV x xs)) H
theorem zmn:OpR X (compareOp .In) (rIn X.K false):=by
 intro pins s σ H x y v u Q I rx ry h
 obtain ⟨p,xs,rfl,hq,fx,fs,q⟩:=h
 cases ry
 rcases hq with hq | hq
 ·obtain ⟨its,r,pl,hz⟩:=I.list hq
  refine SeqAt.in_listAt (eqU x) pl.isList (fun w hw=>zh5 rx fx r fs w (by simpa using hw)) ⟨.bl _,H,I,rfl,?_⟩
  rw [show its.toArray.any (eqU x)=its.any (eqU x) by simp,zkj r fs]
  exact q
 ·obtain ⟨its,r,pl,hz⟩:=I.tuple hq
  refine SeqAt.in_tupleAt (eqU x) pl (fun w hw=>zh5 rx fx r fs w (by simpa using hw)) ⟨.bl _,H,I,rfl,?_⟩
  rw [show its.toArray.any (eqU x)=its.any (eqU x) by simp,zkj r fs]
  exact q
theorem zje:OpR X (compareOp .NotIn) (rIn X.K true):=by
 intro pins s σ H x y v u Q I rx ry h
 obtain ⟨p,xs,rfl,hq,fx,fs,q⟩:=h
 cases ry
 rcases hq with hq | hq
 ·obtain ⟨its,r,pl,hz⟩:=I.list hq
  refine SeqAt.notIn_listAt (eqU x) pl.isList (fun w hw=>zh5 rx fx r fs w (by simpa using hw)) ⟨.bl _,H,I,rfl,?_⟩
  rw [show its.toArray.any (eqU x)=its.any (eqU x) by simp,zkj r fs]
  exact q
 ·obtain ⟨its,r,pl,hz⟩:=I.tuple hq
  refine SeqAt.notIn_tupleAt (eqU x) pl (fun w hw=>zh5 rx fx r fs w (by simpa using hw)) ⟨.bl _,H,I,rfl,?_⟩
  rw [show its.toArray.any (eqU x)=its.any (eqU x) by simp,zkj r fs]
  exact q
theorem zmm:OpR X (compareOp .NotIn) (fun x y H Q=>∃ i j,x=.str i/\y=.str j/\Q (.bl (!(!(Builtin.Str.occurrences j i 0 j.length 1).isEmpty))) H):=by
 intro pins s σ H x y v u Q I rx ry h
 obtain ⟨i,j,rfl,rfl,q⟩:=h
 obtain ⟨t,rfl⟩:=rx
 obtain ⟨t',rfl⟩:=ry
 exact notIn_str ⟨.bl _,H,I,rfl,q⟩
theorem zjg:zhw X (.type "list") (fun xs H Q=>∃ p ys,xs=[.ref p]/\(SqL X.K H p ys\/SqT X.K H p ys)/\∀ l,H l=none->Q (.ref l) (upd H l (.lst ys))):=by
 intro pins s σ H xs us Q I r h
 obtain ⟨p,ys,rfl,hq,q⟩:=h
 obtain ⟨u,rfl,rx⟩:=vals1 r
 cases rx
 have fin:∀ (its:List Value),Vals ys its->ys.length<=sizeLine->∀ (h':Heap) (c':Nat),(∀ b o',s.heap.get? b=some o'->h'.get? b=some o') →
   h'.get? s.heap.objs.size=some { cls:=.type "list",dict:=none,data:=.seq its.toArray c',slots:=#[] }->EP X pins σ Q (.ref s.heap.objs.size) { s with heap:=h' }:=fun its r' hz h' c' kp e =>
  ⟨.ref s.heap.objs.size,_,I.laid (t':=s.toks) kp (Nat.le_refl _) (show ze6 X.prog X.w _ h' _ (.lst ys) from ⟨hz,its,c',r',e⟩),rfl,q _ (I.hok.fresh (Nat.le_refl _))⟩
 rcases hq with hq | hq
 ·obtain ⟨its,r',pl,hz⟩:=I.list hq
  have hlen:=r'.length
  obtain ⟨o,ho,hc,n,hd⟩:=pl.isList
  exact call_list_seq p (.inl rfl) ho hc hd (fun h' c' kp e=>fin its r' hz h' c' kp e) (by simp only [List.size_toArray] <;> omega)
 ·obtain ⟨its,r',pl,hz⟩:=I.tuple hq
  have hlen:=r'.length
  obtain ⟨o,ho,hc,n,hd⟩:=pl
  exact call_list_seq p (.inr rfl) ho hc hd (fun h' c' kp e=>fin its r' hz h' c' kp e) (by simp only [List.size_toArray] <;> omega)
theorem zik:zhw X (.type "tuple") (fun xs H Q=>∃ p ys,xs=[.ref p]/\((SqL X.K H p ys/\∀ l,H l=none->Q (.ref l) (upd H l (.tup ys)))\/(SqT X.K H p ys/\Q (.ref p) H))):=by
 intro pins s σ H xs us Q I r h
 obtain ⟨p,ys,rfl,h⟩:=h
 obtain ⟨u,rfl,rx⟩:=vals1 r
 cases rx
 rcases h with ⟨hq,q⟩ | ⟨hq,q⟩
 ·obtain ⟨its,r',pl,hz⟩:=I.list hq
  have hlen:=r'.length
  refine call_tuple_list pl.isList (fun h' kp=>?_) (by simp only [List.size_toArray] <;> omega)
  have I1:Inv X pins σ H { s with heap:=h' }:=I.kept (t':=s.toks) kp
  have I2:Inv X pins σ (upd H h'.objs.size (.tup ys)) { s with heap:=h'.push { cls:=.type "tuple",data:=.seq its.toArray } } :=
   I1.laid (t':=s.toks) (fun b o e=>Heap.get?_push_of_some _ e) (Nat.le_refl _) (show ze6 X.prog X.w _ _ _ (.tup ys) from ⟨hz,its,r',IsTp.new _ _⟩)
  exact ⟨.ref h'.objs.size,_,I2,rfl,q _ (I1.hok.fresh (Nat.le_refl _))⟩
 ·obtain ⟨its,r',pl,hz⟩:=I.tuple hq
  exact call_tuple_same pl ⟨.ref p,H,I,rfl,q⟩
def tyV (K:PySem.W.Frag) (T:String) (x:V) (H:Hp):Prop:=match x with
 | .str _=>T="str"
 | .int _=>T="int"
 | .ref p=>(T="list"/\∃ xs,SqL K H p xs)\/(T="tuple"/\∃ o,K.lookup p=some o/\o.cls=.type "tuple"/\o.dict=none) ∨
   (T="dict"/\((∃ kvs,H p=some (.dK kvs))\/∃ kvs,H p=some (.dT kvs)))\/(T="set"/\∃ S n,H p=some (.set S n))
 | _=>False
theorem zyl {pins:List (Addr × Obj)} {σ:St} {H:Hp} {s:Shared} {T:String} {x:V} {v:Value} (I:Inv X pins σ H s) (r:RelV x v) (ty:tyV X.K T x H) :
  s.TypeIs v T/\∀ a,v=.ref a->∃ ob,s.heap.get? a=some ob/\ob.dict=none:=by
 cases x with
 | str z =>
  obtain ⟨t,rfl⟩:=r
  cases (show T="str" from ty)
  exact ⟨typeIs_str s z t,fun _ e=>nomatch e⟩
 | int i =>
  obtain ⟨t,rfl⟩:=r
  cases (show T="int" from ty)
  exact ⟨typeIs_int s i t,fun _ e=>nomatch e⟩
 | ref p =>
  cases r
  rcases ty with ⟨rfl,xs,hq⟩ | ⟨rfl,o,hk,hc,hd⟩ | ⟨rfl,hk⟩ | ⟨rfl,S,n,hk⟩
  ·obtain ⟨its,_,pl,_⟩:=I.list hq
   refine ⟨pl.isList.typeIs,fun a e=>?_⟩
   cases e
   obtain ⟨o,n,e,c,hd,_⟩:=pl
   exact ⟨o,e,hd⟩
  ·refine ⟨⟨o,I.kIn p o hk,hc⟩,fun a e=>?_⟩
   cases e
   exact ⟨o,I.kIn _ o hk,hd⟩
  ·have z:∃ o,s.heap.get? p=some o/\o.ExactDict:=by
    rcases hk with ⟨kvs,hk⟩ | ⟨kvs,hk⟩
    ·obtain ⟨_,_,_,_,o,_,_,e,ex,_⟩:=I.hok p _ hk
     exact ⟨o,e,ex⟩
    ·obtain ⟨_,_,_,_,o,_,_,e,ex,_⟩:=I.hok p _ hk
     exact ⟨o,e,ex⟩
   obtain ⟨o,e,ex⟩:=z
   refine ⟨⟨o,e,ex.1⟩,fun a e2=>?_⟩
   cases e2
   exact ⟨o,e,ex.2.1⟩
  ·obtain ⟨o,_,_,_,e,ex,_⟩:=I.hok p _ hk
   refine ⟨⟨o,e,ex.1⟩,fun a e2=>?_⟩
   cases e2
   exact ⟨o,e,ex.2.1⟩
 | _=>exact False.elim ty
def tBM0 (K:PySem.W.Frag) (T:String) (r:V->List V->Hp->VK->Prop) (to:TE):TE:=fun σ H Q=>to σ H fun x H1=>tyV K T x H1/\r x [] H1 Q
def tBM (K:PySem.W.Frag) (T:String) (r:V->List V->Hp->VK->Prop) (to:TE) (t:TA):TE:=fun σ H Q=>to σ H fun x H1=>tyV K T x H1/\t σ H1 fun xs H2=>r x xs H2 Q
variable {o e : Expr} {es : List Expr} {to : TE} {t : TA} {name : Str} {apos cpos : Pos} {T id : String} {r : V → List V → Hp → VK → Prop}
theorem pe_bm (pa:PlainAttrs T) (slot:Slot T name id) (hty:typeOf (.builtin id)=pure (.type "method_descriptor")) (hm:MtR X id r) (ho:PE X o to) (ha:PA X (e::es) t)
  (hbase:attributeBase o name X.env (eval o X.env)=eval o X.env:=by rfl)
  (hfew:((backTo cpos (starEach (e::es) X.env)).all (fun x=>!x.1) && (backToKw cpos (keywordEach [] X.env)).all (fun x=>x.1.isSome)
   && decide ((e::es).length + ([]:List Keyword).length + (if ([]:List Keyword).isEmpty then 0 else 1) < 30))=true:=by rfl)
  (hline:(apos.endLine == cpos.line)=true:=by rfl) (hs:starEach (e::es) X.env=(false,eval e X.env)::starEach es X.env:=by rfl) (hplain:(backTo cpos (starEach es X.env)).any (·.1)=false:=by rfl) :
  PE X (.Call (.Attribute o name apos) (e::es) [] cpos) (tBM X.K T r to t):=by
 intro pins s σ H Q I h
 refine wpAny_Call_method_late hbase hfew hline rfl (thn (ho pins s σ H _ I h) fun v s1 ⟨x,H1,I1,r1,ty,q1⟩=>?_)
 obtain ⟨h1,h2⟩:=zyl I1 r1 ty
 refine ⟨T,id,pa,slot,hty,h1,h2,?_⟩
 have hA:=ha cpos pins s1 σ H1 _ I1 q1
 rw [hs] at hA ⊢
 refine Calls.callWith_builtin (by show (false || (backTo cpos (starEach es X.env)).any (·.1))=false;rw [hplain] <;> rfl) (Calls.evalArgs_plain ?_)
 exact thn hA fun us s2 ⟨vs,H2,I2,r2,q2⟩=>hm pins s2 σ H2 x vs v us Q I2 r1 r2 q2
end
end L2
namespace L2
open PySem PySem.Spec PyProof.Rows
def MtM (X:Cx) (id:String) (r:V->List V->Hp->VK->Prop):Prop :=
 ∀ (pins:List (Addr × Obj)) (s:Shared) (σ:St) (H:Hp) (x:V) (xs:List V) (v:Value) (us:List Value) (Q:VK),Inv X pins σ H s->RelV x v->Vals xs us->r x xs H Q →
  wpAny (model X.prog X.w) X.A (call (.builtin id) (v::us)) (EP X pins σ Q) X.xe s
theorem Vals.one:∀ {x:V} {us:List Value},Vals [x] us->∃ u,us=[u]/\RelV x u
 | _,_,.cons r .nil=>⟨_,rfl,r⟩
section
variable {X : Cx} {pins : List (Addr × Obj)} {σ : St} {H : Hp} {s : Shared} {l b : Addr} {xs ys zs : List V}
theorem Inv.lset {its its':List Value} {n:Nat} {f:Array Value->Array Value} {t':Nat} (I:Inv X pins σ H s) (hH:H l=some (.lst xs))
  (e:s.heap.get? l=some { cls:=.type "list",data:=.seq its.toArray n }) (hf:f its.toArray=its'.toArray) (hv:Vals ys its') (hz:ys.length<=sizeLine) :
  Inv X pins σ (upd H l (.lst ys)) { s with heap:=s.heap.update l (Obj.mapSeq f),toks:=t' }:=by
 have q:=PySem.IsL.update e f
 rw [hf] at q
 refine I.write (x:=l) (e:=l) (by rw [hH];exact trivial) (.inl rfl) (fun b' u hb hu=>(Heap.get?_update_other s.heap (Obj.mapSeq f) (Ne.symm hb)).trans hu) ⟨_,q⟩ ?_
 exact ⟨hz,its',_,hv,q⟩
theorem Inv.lnew {its:List Value} {t':Nat} (I:Inv X pins σ H s) (hv:Vals ys its) (hz:ys.length<=sizeLine) :
  Inv X pins σ (upd H s.heap.objs.size (.lst ys)) { s with heap:=s.heap.push { cls:=.type "list",data:=.seq its.toArray },toks:=t' } :=
 I.laid (fun _ _ q=>Heap.get?_push_of_some _ q) (Nat.le_refl _) ⟨hz,its,0,hv,Heap.get?_push_size _ rfl⟩
theorem Inv.fresh (I:Inv X pins σ H s):H s.heap.objs.size=none:=I.hok.fresh (Nat.le_refl _)
theorem Inv.lstM (I:Inv X pins σ H s) (hH:H l=some (.lst xs)):xs.length<=sizeLine/\∃ (its:List Value) (n:Nat),Vals xs its/\xs.length=its.length/\s.heap.get? l=some { cls:=.type "list",data:=.seq its.toArray n }:=by
 obtain ⟨z,its,n,r,e⟩:=I.hok l _ hH
 exact ⟨z,its,n,r,r.length,e⟩
end
section
variable {X : Cx}
def zv8:V->List V->Hp->VK->Prop:=fun x vs H Q=>∃ l xs y,x=.ref l/\vs=[y]/\H l=some (.lst xs)/\xs.length < sizeLine/\Q .non (upd H l (.lst (xs++[y])))
theorem zmq:MtM X "list.append" zv8:=by
 intro pins s σ H x vs v us Q I rx rv h
 obtain ⟨l,xs,y,rfl,rfl,hH,hz,q⟩:=h
 cases rx
 obtain ⟨u,rfl,ru⟩:=rv.one
 obtain ⟨z,its,n,r,hl,e⟩:=I.lstM hH
 refine call_meets F.slot_list_append ⟨_,e,rfl⟩ F.entry_list_append (F.args_list_append_2 _ _) (PySem.list_append l its.toArray n u (by rw [List.size_toArray];omega)) ⟨e,?_⟩
 refine ⟨.non,_,I.lset (its':=its++[u]) hH e (by simp) (r.append (.cons ru .nil)) ?_,rfl,q⟩
 rw [List.length_append,List.length_singleton]
 omega
def rExtend:V->List V->Hp->VK->Prop:=fun x vs H Q=>∃ l b xs zs,x=.ref l/\vs=[.ref b]/\H l=some (.lst xs)/\H b=some (.lst zs)/\xs.length + zs.length<=sizeLine/\Q .non (upd H l (.lst (xs++zs)))
def rPop:V->List V->Hp->VK->Prop:=fun x vs H Q=>∃ l xs y,x=.ref l/\vs=[]/\H l=some (.lst xs)/\xs[xs.length - 1]?=some y/\Q y (upd H l (.lst xs.dropLast))
def rPopAt:V->List V->Hp->VK->Prop:=fun x vs H Q=>∃ l xs i k y,x=.ref l/\vs=[.int i]/\H l=some (.lst xs)/\-(2 ^ 63)<=i/\i < 2 ^ 63/\seqIndex? i xs.length=some k/\xs[k]?=some y/\Q y (upd H l (.lst (xs.eraseIdx k)))
def rReverse:V->List V->Hp->VK->Prop:=fun x vs H Q=>∃ l xs,x=.ref l/\vs=[]/\H l=some (.lst xs)/\Q .non (upd H l (.lst xs.reverse))
def zyz:V->List V->Hp->VK->Prop:=fun x vs H Q=>∃ l xs,x=.ref l/\vs=[]/\H l=some (.lst xs)/\Q .non (upd H l (.lst []))
def rCat:R2:=fun x y H Q=>∃ l b xs zs,x=.ref l/\y=.ref b/\H l=some (.lst xs)/\H b=some (.lst zs)/\xs.length + zs.length<=sizeLine/\∀ p,H p=none->Q (.ref p) (upd H p (.lst (xs++zs)))
def rRep:R2:=fun x y H Q=>∃ l k xs,x=.ref l/\y=.int k/\H l=some (.lst xs)/\-(2 ^ 63)<=k/\k < 2 ^ 63/\xs.length * k.toNat<=sizeLine ∧
 ∀ p,H p=none->Q (.ref p) (upd H p (.lst (List.replicate k.toNat xs).flatten))
end
section
variable {prog : Program} {w : World} {A : Around} {E : Value → Shared → Prop} {s : Shared}
end
section
variable {X : Cx}
end
end L2
namespace L2
open PySem PySem.Spec PyProof.Rows
section
variable {κ : Type} [DecidableEq κ]
def valV (kvs:List (κ × V)) (k:κ):Option V:=(kvs.find? fun kv=>decide (kv.1=k)).map (·.2)
def putK (kvs:List (κ × V)) (k:κ) (v:V):List (κ × V) :=
 if (kvs.any fun kv=>decide (kv.1=k))=true then kvs.map (fun kv=>if kv.1=k then (kv.1,v) else kv) else kvs++[(k,v)]
def zxj (kvs:List (κ × V)) (k:κ):List (κ × V):=kvs.filter fun kv=>decide (kv.1≠k)
theorem zhy {p:κ × V} {r:List (κ × V)} {k:κ} (e:p.1=k):valV (p::r) k=some p.2:=by simp [valV,List.find?_cons,e]
theorem zf0 {p:κ × V} {r:List (κ × V)} {k:κ} (e:¬ p.1=k):valV (p::r) k=valV r k:=by simp [valV,List.find?_cons,e]
theorem zjj (k:κ):∀ kvs:List (κ × V),(kvs.any fun kv=>decide (kv.1=k))=(valV kvs k).isSome
 | []=>rfl
 | p::r=>by
  rw [List.any_cons]
  by_cases e:p.1=k
  ·simp only [zhy e,decide_eq_true e,Bool.true_or,Option.isSome_some]
  ·rw [zf0 e,decide_eq_false e,Bool.false_or];exact zjj k r
theorem zho (kvs:List (κ × V)) (k:κ) (v:V):(putK kvs k v).length<=kvs.length + 1:=by
 unfold putK
 split
 ·rw [List.length_map];omega
 ·rw [List.length_append,List.length_cons,List.length_nil];omega
theorem RelO.isSome_eq {o:Option V} {u:Option Value} (r:RelO o u):o.isSome=u.isSome:=by
 cases o with
 | none=>cases u with
  | none=>rfl
  | some _=>exact (show False from r).elim
 | some _=>cases u with
  | none=>exact (show False from r).elim
  | some _=>rfl
theorem KV.val {kvs:List (κ × V)} {vs:List (κ × Value)} (r:KV kvs vs) (k:κ):RelO (valV kvs k) (valueAt vs k):=by
 unfold KV at r
 induction r with
 | nil=>exact True.intro
 | @cons p q ps qs h t ih =>
  obtain ⟨h1,h2⟩:=h
  by_cases e:p.1=k
  ·have e':q.1=k:=h1.symm.trans e
   have b:valueAt (q::qs) k=some q.2:=by simp [valueAt,List.find?_cons,e']
   rw [zhy e,b];exact h2
  ·have e':¬ q.1=k:=fun z=>e (h1.trans z)
   have b:valueAt (q::qs) k=valueAt qs k:=by simp [valueAt,List.find?_cons,e']
   rw [zf0 e,b];exact ih
theorem KV.any {kvs:List (κ × V)} {vs:List (κ × Value)} (r:KV kvs vs) (k:κ):(kvs.any fun kv=>decide (kv.1=k))=vs.any fun kv=>decide (kv.1=k):=by
 unfold KV at r
 induction r with
 | nil=>rfl
 | cons h t ih=>rw [List.any_cons,List.any_cons,ih,h.1]
theorem KV.repl {kvs:List (κ × V)} {vs:List (κ × Value)} (r:KV kvs vs) (k:κ) {y:V} {u:Value} (ry:RelV y u) :
  KV (kvs.map fun kv=>if kv.1=k then (kv.1,y) else kv) (vs.map fun kv=>if kv.1=k then (kv.1,u) else kv):=by
 unfold KV at r ⊢
 induction r with
 | nil=>exact .nil
 | @cons p q ps qs h t ih =>
  rw [List.map_cons,List.map_cons]
  refine .cons ?_ ih
  obtain ⟨h1,h2⟩:=h
  by_cases e:p.1=k
  ·rw [if_pos e,if_pos (h1.symm.trans e)];exact ⟨h1,ry⟩
  ·rw [if_neg e,if_neg (fun z=>e (h1.trans z))];exact ⟨h1,h2⟩
theorem KV.put {kvs:List (κ × V)} {vs:List (κ × Value)} (r:KV kvs vs) (k:κ) {y:V} {u:Value} (ry:RelV y u):KV (putK kvs k y) (stored vs k u):=by
 unfold putK stored
 rw [r.any k]
 by_cases e:(vs.any fun kv=>decide (kv.1=k))=true
 ·rw [if_pos e,if_pos e];exact r.repl k ry
 ·rw [if_neg e,if_neg e];exact Paired.snoc r ⟨rfl,ry⟩
theorem KV.length {kvs:List (κ × V)} {vs:List (κ × Value)} (r:KV kvs vs):kvs.length=vs.length:=Paired.length r
end
theorem znq {P:Program} {w:World} {k:Key} {u:Value} (r:RelV (kV k) u):(za2 P w).is k u=true:=by
 cases k with
 | inl i=>obtain ⟨t,e⟩:=(show ∃ t,u=Value.int i t from r);subst e;exact znl P w i t
 | inr x=>obtain ⟨t,e⟩:=(show ∃ t,u=Value.str x t from r);subst e;exact zf9 P w x t
theorem zmv {P:Program} {w:World}:∀ {ks:List Key} {us:List Value},Vals (ks.map kV) us->ItemsAre (za2 P w) ks us
 | [],_,r=>by rw [List.map_nil] at r;cases r;exact .nil
 | k::ks,_,r=>by
  rw [List.map_cons] at r
  cases r with
  | cons h t=>exact .cons (znq h) (zmv t)
abbrev KT (H:Hp):List (List Key × V)->List (List Key × Addr × Value)->Prop:=Paired fun p q=>p.1=q.1/\H q.2.1=some (.tup (p.1.map kV))/\RelV p.2 q.2.2
theorem KT.val {H:Hp} {kvs:List (List Key × V)} {xs:List (List Key × Addr × Value)} (r:KT H kvs xs) (k:List Key):RelO (valV kvs k) ((atKey xs k).map (·.2)):=by
 induction r with
 | nil=>exact True.intro
 | @cons p q ps qs h t ih =>
  obtain ⟨h1,_,h2⟩:=h
  by_cases e:p.1=k
  ·have e':q.1=k:=h1.symm.trans e
   have b:atKey (q::qs) k=some q.2:=by simp [atKey,List.find?_cons,e']
   rw [zhy e,b];exact h2
  ·have e':¬ q.1=k:=fun z=>e (h1.trans z)
   have b:atKey (q::qs) k=atKey qs k:=by simp [atKey,List.find?_cons,e']
   rw [zf0 e,b];exact ih
theorem KT.repl {H:Hp} {kvs:List (List Key × V)} {xs:List (List Key × Addr × Value)} (r:KT H kvs xs) (k:List Key) {y:V} {u:Value} (ry:RelV y u) :
  KT H (kvs.map fun kv=>if kv.1=k then (kv.1,y) else kv) (xs.map (putAt k u)):=by
 induction r with
 | nil=>exact .nil
 | @cons p q ps qs h t ih =>
  rw [List.map_cons,List.map_cons]
  refine .cons ?_ ih
  obtain ⟨h1,h2,h3⟩:=h
  unfold putAt
  by_cases e:p.1=k
  ·rw [if_pos e,if_pos (h1.symm.trans e)];exact ⟨h1,h2,ry⟩
  ·rw [if_neg e,if_neg (fun z=>e (h1.trans z))];exact ⟨h1,h2,h3⟩
theorem KT.put {H:Hp} {kvs:List (List Key × V)} {xs:List (List Key × Addr × Value)} (r:KT H kvs xs) (k:List Key) {b:Addr} {y:V} {u:Value} (hb:H b=some (.tup (k.map kV))) (ry:RelV y u) :
  KT H (putK kvs k y) (storedH xs k b u):=by
 have e:(kvs.any fun kv=>decide (kv.1=k))=(atKey xs k).isSome:=by
  rw [zjj,(r.val k).isSome_eq,Option.isSome_map]
 unfold putK storedH
 rw [e]
 by_cases q:(atKey xs k).isSome=true
 ·rw [if_pos q,if_pos q];exact r.repl k ry
 ·rw [if_neg q,if_neg q];exact Paired.snoc r ⟨rfl,hb,ry⟩
theorem KT.keeps {H H':Hp} {kvs:List (List Key × V)} {xs:List (List Key × Addr × Value)} (r:KT H kvs xs) (ht:∀ b ys,H b=some (.tup ys)->H' b=some (.tup ys)):KT H' kvs xs :=
 Paired.mapP r fun _ _ z=>⟨z.1,ht _ _ z.2.1,z.2.2⟩
section
variable {P : Program} {w : World} {H : Hp} {h : Heap} {a : Addr}
theorem zyy {u:HO} (ok:HOk P w H h) (e:Rd H a u):ze6 P w H h a u:=e.ok ok
theorem dk_rd {kvs:List (Key × V)} (ok:HOk P w H h) (e:Rd H a (.dK kvs)):kvs.length<=sizeLine/\(a == sysModules)=false/\∃ vs,KV kvs vs/\h.DictOf (za2 P w) a vs :=
 show ze6 P w H h a (.dK kvs) from zyy ok e
theorem dk_of {kvs:List (Key × V)} (ok:HOk P w H h) (e:H a=some (.dK kvs)):kvs.length<=sizeLine/\(a == sysModules)=false/\∃ vs,KV kvs vs/\h.DictOf (za2 P w) a vs:=dk_rd ok (.inl e)
theorem key_of {ks:List Key} (ok:HOk P w H h) (e:H a=some (.tup (ks.map kV))):(tupleKind (za2 P w)).is h ks a:=by
 obtain ⟨_,its,r,o,h1,h2,⟨n,h3⟩,_⟩:=(show ze6 P w H h a (.tup (ks.map kV)) from ok a _ e)
 exact ⟨o,its.toArray,n,h1,h2,h3,by simpa using zmv r⟩
theorem dt_rd {kvs:List (List Key × V)} (ok:HOk P w H h) (e:Rd H a (.dT kvs)):kvs.length<=sizeLine/\(a == sysModules)=false ∧
  ∃ xs,KT H kvs xs/\h.DictOfH (tupleKind (za2 P w)) a xs:=by
 obtain ⟨z,y,xs,r,o,es,ep,h1,h2,h3,h4,h5⟩:=(show ze6 P w H h a (.dT kvs) from zyy ok e)
 refine ⟨z,y,xs,r,o,es,ep,h1,h2,h3,h4,fun x hx=>?_,h5⟩
 have all:∀ {l:List (List Key × V)} {m:List (List Key × Addr × Value)},KT H l m->∀ x∈m,(tupleKind (za2 P w)).is h x.1 x.2.1:=by
  intro l m q
  induction q with
  | nil=>intro x hx;exact nomatch hx
  | @cons p q ps qs hq t ih =>
   intro x hx
   rcases List.mem_cons.mp hx with e | hx
   ·subst e
    exact key_of ok (by rw [← hq.1];exact hq.2.1)
   ·exact ih x hx
 exact all r x hx
theorem dt_of {kvs:List (List Key × V)} (ok:HOk P w H h) (e:H a=some (.dT kvs)):kvs.length<=sizeLine/\(a == sysModules)=false ∧
  ∃ xs,KT H kvs xs/\h.DictOfH (tupleKind (za2 P w)) a xs:=dt_rd ok (.inl e)
end
def DGet (H:Hp) (a:Addr) (y:V) (r:Option V):Prop :=
 (∃ kvs k,Rd H a (.dK kvs)/\y=kV k/\r=valV kvs k)\/∃ kvs k b,Rd H a (.dT kvs)/\y=.ref b/\H b=some (.tup (k.map kV))/\r=valV kvs k
def DPut (H:Hp) (a:Addr) (y v:V) (H':Hp):Prop :=
 (∃ kvs k,H a=some (.dK kvs)/\y=kV k/\kvs.length < sizeLine/\H'=upd H a (.dK (putK kvs k v))) ∨
 ∃ kvs k b,H a=some (.dT kvs)/\y=.ref b/\H b=some (.tup (k.map kV))/\kvs.length < sizeLine/\H'=upd H a (.dT (putK kvs k v))
theorem DPut.k {H:Hp} {a:Addr} {kvs:List (Key × V)} {k:Key} {v:V} (e:H a=some (.dK kvs)) (hl:kvs.length < sizeLine):DPut H a (kV k) v (upd H a (.dK (putK kvs k v))):=.inl ⟨kvs,k,e,rfl,hl,rfl⟩
section
variable {X : Cx} {pins : List (Addr × Obj)} {σ : St} {H : Hp} {s : Shared} {a : Addr} {y v : V} {u r : Value} {o : Option V} {A : Around} {E : Value → Shared → Prop}
theorem Inv.big (I:Inv X pins σ H s):sysModules < s.heap.objs.size:=by
 have h:mainGlobals < s.heap.objs.size:=(I.mod.glob.keeps I.bk).lt
 exact Nat.lt_trans (by decide) h
theorem zny {h':Heap} {t':Nat} {ob:HO} (I:Inv X pins σ H s) (mu:Mut (H a)) (hs:Heap.SameBut a s.heap h') (he:∃ q,h'.get? a=some q) (new:ze6 X.prog X.w (upd H a ob) h' a ob) :
  Inv X pins σ (upd H a ob) { s with heap:=h',toks:=t' } :=
 I.write (x:=a) (e:=a) mu (.inl rfl) (fun b q hb z=>(hs.2 b hb).trans z) he new
theorem zvj {P:Program} {w:World} {H':Hp} {h':Heap} {kvs:List (Key × V)} {vs:List (Key × Value)} (z:kvs.length<=sizeLine) (hd:(a == sysModules)=false) (rel:KV kvs vs) (dd:h'.DictOf (za2 P w) a vs) :
  ze6 P w H' h' a (.dK kvs):=⟨z,hd,vs,rel,dd⟩
theorem zsk {H':Hp} {Q:Unit->Shared->Prop} (hu:A.units + 1 < cLine) (I:Inv X pins σ H s) (g:DPut H a y v H') (ry:RelV y u) (rv:RelV v r) (h:∀ s',Inv X pins σ H' s'->Q () s') :
  wpAny (model X.prog X.w) A (setItem (.ref a) u r) Q E s:=by
 rcases g with ⟨kvs,k,e,ey,l,eH⟩ | ⟨kvs,k,b,e,ey,eb,l,eH⟩
 ·subst ey eH
  obtain ⟨z,hd,vs,rel,dd⟩:=dk_of I.hok e
  have hz:vs.length<=sizeLine:=by rw [← rel.length];exact z
  have hl:(putK kvs k v).length<=sizeLine:=by have:=zho kvs k v;omega
  refine wpAny_setItem_pairs (hsz:=hz) (znq ry) dd fun h' dd' hs=>h _ ?_
  have he:∃ q,h'.get? a=some q:=let ⟨q,_,_,hq,_⟩:=dd';⟨q,hq⟩
  exact zny I (by rw [e];exact True.intro) hs he (zvj hl hd (rel.put k rv) dd')
 ·subst ey eH
  cases (show u=Value.ref b from ry)
  obtain ⟨z,hd,xs,rel,dd⟩:=dt_of I.hok e
  have hz:xs.length<=sizeLine:=by rw [← Paired.length rel];exact z
  have hl:(putK kvs k v).length<=sizeLine:=by have:=zho kvs k v;omega
  refine wpAny_setItem_heap (hsz:=hz) (tupleKind_room_in1 hu) (key_of I.hok eb) dd fun h' dd' hs=>h _ ?_
  obtain ⟨q,es,ep,hq,h2,h3,h4,_,h5⟩:=dd'
  refine zny I (by rw [e];exact True.intro) hs ⟨q,hq⟩ ⟨hl,hd,_,(rel.put k eb rv).keeps fun c ys ec=>?_,q,es,ep,hq,h2,h3,h4,h5⟩
  rw [za4 (ne_of ec e (fun z=>nomatch z))]
  exact ec
end
section
variable {X : Cx} {pins : List (Addr × Obj)} {σ : St} {H : Hp} {s : Shared} {a : Addr} {kvs : List (Key × V)} {k : Key} {u : Value} {A : Around} {E : Value → Shared → Prop}
end
def NoSl (i:Expr):Prop:=∀ ov iv,subscripted i false ov iv=operate [ov,iv] (getItem ov iv)
def tDGet (td ty:TE):TE:=fun σ H Q=>td σ H fun x H1=>ty σ H1 fun y H2=>∃ a v,x=.ref a/\DGet H2 a y (some v)/\Q v H2
def tDIn (ty td:TE):TE:=fun σ H Q=>ty σ H fun y H1=>td σ H1 fun x H2=>∃ a o,x=.ref a/\DGet H2 a y o/\Q (.bl o.isSome) H2
def tDNotIn (ty td:TE):TE:=fun σ H Q=>ty σ H fun y H1=>td σ H1 fun x H2=>∃ a o,x=.ref a/\DGet H2 a y o/\Q (.bl (!o.isSome)) H2
def sDPut (td ty tv:TE):TS:=fun D σ H=>tv σ H fun v H1=>td σ H1 fun x H2=>ty σ H2 fun y H3=>∃ a H4,x=.ref a/\DPut H3 a y v H4/\D.nx σ H4
def sDAug (td ty tv:TE) (rd:V->V->Hp->VK->Prop):TS:=fun D σ H=>td σ H fun x H1=>ty σ H1 fun y H2=>∃ a v,x=.ref a/\DGet H2 a y (some v) ∧
 tv σ H2 fun y2 H3=>rd v y2 H3 fun z H4=>∃ H5,DPut H4 a y z H5/\D.nx σ H5
def sDDel (td ty:TE):TS:=fun D σ H=>td σ H fun x H1=>ty σ H1 fun y H2=>∃ a kvs k,x=.ref a/\H2 a=some (.dK kvs)/\y=kV k/\(valV kvs k).isSome=true/\D.nx σ (upd H2 a (.dK (zxj kvs k)))
section
variable {X : Cx} {o i e value : Expr} {pos pos' tpos : Pos} {td ty tv : TE}
theorem zwi (hu:X.A.units + 1 < cLine) (ho:PE X o td) (hi:PE X i ty) (hv:PE X value tv) (hs:swapsWith value (some (.Subscript o i pos')) pos.line X.env=pure false) :
  PS X (.Assign [.Subscript o i pos'] value pos) (sDPut td ty tv):=by
 intro pins s σ H D I h
 refine wpAny_Assign_Subscript (thn (hv pins s σ H _ I h) fun r s1 ⟨v,H1,I1,rv,q1⟩=>thn (ho pins s1 σ H1 _ I1 q1) fun u s2 ⟨x,H2,I2,rx,q2⟩=>thn (hi pins s2 σ H2 _ I2 q2) fun iv s3 ⟨y,H3,I3,ry,a,H4,ex,g,q3⟩=>?_) hs
 subst ex
 obtain rfl:u=Value.ref a:=rx
 exact zsk hu I3 g ry rv fun s4 I4=>⟨σ,H4,I4,q3⟩
end
theorem zo5 {P:Program} {w:World} {H:Hp} (h:Heap) (hb:sysModules < h.objs.size):ze6 P w H (h.push { cls:=.type "dict",data:=.dict #[] }) h.objs.size (.dK []) :=
 ⟨Nat.zero_le _,beq_eq_false_iff_ne.mpr (Ne.symm (Nat.ne_of_lt hb)),[],.nil,Heap.DictOf.new h⟩
def zyp:TE:=fun _ H Q=>∀ p,H p=none->Q (.ref p) (upd H p (.dK []))
def tDNewT:TE:=fun _ H Q=>∀ p,H p=none->Q (.ref p) (upd H p (.dT []))
section
variable {X : Cx} {pos : Pos}
theorem ztv:PE X (.Dict [] [] pos) zyp:=fun pins s σ H Q I h =>
 wpAny_Dict_empty ⟨.ref s.heap.objs.size,_,I.laid (a:=s.heap.objs.size) (o:=.dK []) (t':=s.toks) (fun _ _ q=>Heap.get?_push_of_some _ q) (Nat.le_refl _) (zo5 s.heap I.big),rfl,h _ (I.hok.fresh (Nat.le_refl _))⟩
end
def zn7:List (TE × TE)->St->Hp->(List (V × V)->Hp->Prop)->Prop
 | [],_,H,Q=>Q [] H
 | (tk,tv)::r,σ,H,Q=>tk σ H fun x H1=>tv σ H1 fun y H2=>zn7 r σ H2 fun ps H3=>Q ((x,y)::ps) H3
abbrev VV:List (V × V)->List (Value × Value)->Prop:=Paired fun p q=>RelV p.1 q.1/\RelV p.2 q.2
def PPs (X:Cx) (pos:Pos) (keys:List (Option Expr)) (values:List Expr) (trs:List (TE × TE)):Prop :=
 ∀ (pins:List (Addr × Obj)) (s:Shared) (σ:St) (H:Hp) (Q:List (V × V)->Hp->Prop),Inv X pins σ H s->zn7 trs σ H Q →
  wpAny (model X.prog X.w) X.A (evalPairs (pairTrees keys values X.env pos)) (fun vs s'=>∃ ps H',Inv X pins σ H' s'/\VV ps vs/\Q ps H') X.xe s
theorem zwk {X:Cx} {pos:Pos}:PPs X pos [] [] []:=fun pins s σ H Q I h=>pairTrees_nil_walk ⟨[],H,I,.nil,h⟩
theorem zts {X:Cx} {pos:Pos} {k v:Expr} {ks:List (Option Expr)} {vs:List Expr} {tk tv:TE} {trs:List (TE × TE)} (hk:PE X k tk) (hv:PE X v tv) (hr:PPs X pos ks vs trs) :
  PPs X pos (some k::ks) (v::vs) ((tk,tv)::trs):=fun pins s σ H Q I h =>
 pairTrees_cons_walk (thn (hk pins s σ H _ I h) fun u s1 ⟨x,H1,I1,rx,q1⟩=>thn (hv pins s1 σ H1 _ I1 q1) fun w2 s2 ⟨y,H2,I2,ry,q2⟩ =>
  thn (hr pins s2 σ H2 _ I2 q2) fun ws s3 ⟨ps,H3,I3,rel,q3⟩=>⟨(x,y)::ps,H3,I3,.cons ⟨rx,ry⟩ rel,q3⟩)
def zfw (kvs more:List (Key × V)):List (Key × V):=more.foldl (fun acc kv=>putK acc kv.1 kv.2) kvs
theorem KV.merge:∀ {more:List (Key × V)} {rs:List (Key × Value)} {kvs:List (Key × V)} {vs:List (Key × Value)},KV more rs->KV kvs vs->KV (zfw kvs more) (merged vs rs):=by
 intro more rs kvs vs r
 unfold KV at r
 induction r generalizing kvs vs with
 | nil=>intro q;exact q
 | @cons p q ps qs h t ih =>
  intro r0
  have e:KV (putK kvs p.1 p.2) (stored vs q.1 q.2):=by
   have:=r0.put p.1 h.2
   rw [← h.1];exact this
  exact ih e
theorem zh7:∀ (more kvs:List (Key × V)),(zfw kvs more).length<=kvs.length + more.length
 | [],kvs=>by show kvs.length<=kvs.length + 0;omega
 | p::r,kvs=>by
  have h1:=zh7 r (putK kvs p.1 p.2)
  have h2:=zho kvs p.1 p.2
  show (zfw (putK kvs p.1 p.2) r).length<=_
  rw [List.length_cons];omega
theorem zlb {P:Program} {w:World}:∀ {kvs:List (Key × V)} {ws:List (Value × Value)},VV (kvs.map fun kv=>(kV kv.1,kv.2)) ws->∃ rs,Carries (za2 P w) ws rs/\KV kvs rs
 | [],_,r=>by rw [List.map_nil] at r;cases r;exact ⟨[],True.intro,.nil⟩
 | p::kvs,_,r=>by
  rw [List.map_cons] at r
  cases r with
  | @cons a b as bs h t =>
   obtain ⟨rs,c,q⟩:=zlb (P:=P) (w:=w) t
   obtain ⟨b1,b2⟩:=b
   exact ⟨(p.1,b2)::rs,⟨znq h.1,rfl,c⟩,.cons ⟨rfl,h.2⟩ q⟩
def tDisp (trs:List (TE × TE)):TE:=fun σ H Q=>∀ p,H p=none->zn7 trs σ (upd H p (.dK [])) fun ps H2=>H2 p=some (.dK [])/\∃ kvs:List (Key × V),ps=kvs.map (fun kv=>(kV kv.1,kv.2))/\kvs.length<=15/\Q (.ref p) (upd H2 p (.dK (zfw [] kvs)))
theorem zwp {X:Cx} {pos:Pos} {keys:List (Option Expr)} {values:List Expr} {trs:List (TE × TE)} (h:PPs X pos keys values trs) (hall:keys.all (·.isSome)=true) (hl:keys.length=values.length) (h0:keys≠[])
  (h15:keys.length<=15):PE X (.Dict keys values pos) (tDisp trs):=by
 intro pins s σ H Q I q
 have hn:=I.hok.fresh (Nat.le_refl s.heap.objs.size)
 have I1:=I.laid (a:=s.heap.objs.size) (o:=.dK []) (h':=s.heap.push { cls:=.type "dict",data:=.dict #[] }) (t':=s.toks) (fun _ _ q=>Heap.get?_push_of_some _ q) (Nat.le_refl _) (zo5 s.heap I.big)
 refine wpAny_Dict_walk (knd:=za2 X.prog X.w) hall hl h0 h15 (thn (h pins _ σ _ _ I1 (q _ hn)) fun ws s2 ⟨ps,H2,I2,rel,e,kvs,ep,lk,q2⟩=>?_)
 subst ep
 obtain ⟨rs,c,rk⟩:=zlb (P:=X.prog) (w:=X.w) rel
 obtain ⟨z,hd,vs0,r0,dd⟩:=dk_of I2.hok e
 cases r0
 refine ⟨rs,c,dd,fun h' dd' hs=>⟨.ref s.heap.objs.size,_,?_,rfl,q2⟩⟩
 have hz:(zfw [] kvs).length<=sizeLine:=by
  have h1:=zh7 kvs []
  rw [List.length_nil] at h1
  rw [sizeLine_eq];omega
 have he:∃ q,h'.get? s.heap.objs.size=some q:=let ⟨q,_,_,hq,_⟩:=dd';⟨q,hq⟩
 exact zny I2 (by rw [e];exact True.intro) hs he (zvj hz hd (rk.merge .nil) dd')
structure M1 (X:Cx) (o:Expr) (m:Str) (apos:Pos) (e:Expr) (cpos:Pos):Prop where
 base:attributeBase o m X.env (eval o X.env)=eval o X.env
 few:((backTo cpos (starEach [e] X.env)).all (fun x=>!x.1) && (backToKw cpos (keywordEach [] X.env)).all (fun x=>x.1.isSome)
  && decide (([e]:List Expr).length + ([]:List Keyword).length + (if ([]:List Keyword).isEmpty then 0 else 1) < 30))=true
 line:(apos.endLine == cpos.line)=true
 trees:backTo cpos (starEach [e] X.env)=[(false,eval e X.env)]
structure M2 (X:Cx) (o:Expr) (m:Str) (apos:Pos) (e f:Expr) (cpos:Pos):Prop where
 base:attributeBase o m X.env (eval o X.env)=eval o X.env
 few:((backTo cpos (starEach [e,f] X.env)).all (fun x=>!x.1) && (backToKw cpos (keywordEach [] X.env)).all (fun x=>x.1.isSome)
  && decide (([e,f]:List Expr).length + ([]:List Keyword).length + (if ([]:List Keyword).isEmpty then 0 else 1) < 30))=true
 line:(apos.endLine == cpos.line)=true
 trees:backTo cpos (starEach [e,f] X.env)=[(false,eval e X.env),(false,eval f X.env)]
def IsD (H:Hp) (a:Addr):Prop:=(∃ kvs,Rd H a (.dK kvs))\/∃ kvs,Rd H a (.dT kvs)
section
variable {X : Cx} {pins : List (Addr × Obj)} {σ : St} {H : Hp} {s : Shared} {a : Addr} {y d : V} {u r : Value} {o : Option V} {A : Around} {E : Value → Shared → Prop}
end
def tDGet1 (td ty:TE):TE:=fun σ H Q=>td σ H fun x H1=>∃ a,x=.ref a/\IsD H1 a/\ty σ H1 fun y H2=>∃ o,DGet H2 a y o/\Q (o.getD .non) H2
def tDGet2 (td ty tx:TE):TE:=fun σ H Q=>td σ H fun x H1=>∃ a,x=.ref a/\IsD H1 a/\ty σ H1 fun y H2=>tx σ H2 fun z H3=>∃ o,DGet H3 a y o/\Q (o.getD z) H3
def tDPop1 (td ty:TE):TE:=fun σ H Q=>td σ H fun x H1=>∃ a,x=.ref a/\IsD H1 a/\ty σ H1 fun y H2=>∃ kvs k v,H2 a=some (.dK kvs)/\y=kV k/\valV kvs k=some v/\Q v (upd H2 a (.dK (zxj kvs k)))
def tDPop2 (td ty tx:TE):TE:=fun σ H Q=>td σ H fun x H1=>∃ a,x=.ref a/\IsD H1 a/\ty σ H1 fun y H2=>tx σ H2 fun z H3=>∃ kvs k,H3 a=some (.dK kvs)/\y=kV k ∧
 (∀ v,valV kvs k=some v->Q v (upd H3 a (.dK (zxj kvs k))))/\(valV kvs k=none->Q z H3)
section
variable {X : Cx} {o e f : Expr} {apos cpos : Pos} {td ty tx : TE}
end
section
variable {X : Cx} {pins : List (Addr × Obj)} {σ : St} {H : Hp} {s : Shared} {a : Addr} {kvs : List (Key × V)} {A : Around} {E : Value → Shared → Prop}
end
section
variable {X : Cx} {pins : List (Addr × Obj)} {σ : St} {H : Hp} {s : Shared} {a : Addr} {y : V} {u : Value} {A : Around} {E : Value → Shared → Prop}
end
end L2
namespace Att
open PySem PySem.W PySem.Calls PyProof.Rows
theorem zj6 {P:Params} {h:Heap}:∀ (ns:List Int) (vs:List Value),WellAll P h vs (ns.map WData.int)->IntsAre vs ns:=by
 intro ns
 induction ns with
 | nil =>
  intro vs w
  rw [List.map_nil] at w
  cases w
  exact .nil
 | cons n ns ih =>
  intro vs w
  rw [List.map_cons] at w
  cases w with
  | cons a b =>
   cases a
   exact .cons _ _ (ih _ b)
theorem zqr {l:OpenLaw} {n:Nat} (hn:l.most=some n) {P:Params} {h:Heap} {args:List WData} {vals:List Value}
  (hpre:l.row.toRowW.claim.pre args=true) (hwl:WellAll P h vals args) :
  ∃ a vs ns,vals=[Value.ref a]/\args=[WData.list (ns.map WData.int)]/\h.get? a=some { cls:=.type "list",data:=.seq vs.toArray }/\IntsAre vs ns/\ns.length<=n:=by
 have hsh:WShape.hasAll [] args [.list .int]=true:=(pre_splitW hpre).1
 have hc:l.pre.holds [] { args:=args }=true:=(pre_splitW hpre).2
 obtain ⟨d,r,rfl,h1,h2⟩:=hasAllW_cons hsh
 obtain rfl:=hasAllW_nil h2
 obtain ⟨xs,rfl,h3⟩:=hasW_list h1
 obtain ⟨ns,rfl⟩:=items_int h3
 have hlen:ns.length<=n:=by
  unfold OpenLaw.pre at hc
  have h4:(WTm.not (.lt (.lit (.int (n:Int))) (.len (.arg 0)))).holds [] { args:=[.list (ns.map .int)] }=true:=by
   have h4:=(holds_andW hc).1
   rw [hn] at h4
   exact h4
  have h5:=condW_of h4 (w_not (w_lt w_lit (w_len_list (w_arg rfl))))
  rw [List.length_map] at h5
  refine Nat.le_of_not_lt fun q=>?_
  have q':(n:Int) < ((ns.length:Nat):Int):=by omega
  first
   | (rw [decide_eq_true q'] at h5;exact absurd h5 (by decide))
   | (simp at h5;omega)
 cases hwl with
 | cons w1 w2 =>
  cases w2
  cases w1 with
  | list ho hall=>exact ⟨_,_,ns,rfl,rfl,ho,zj6 ns _ hall,hlen⟩
theorem zqv (l:OpenLaw) (args:List WData):l.row.toRowW.claim.post args (.bool true) args=true :=
 postW_of (r:=l.row.toRowW) (X:=(true == true))
  (show WShape.has [] (.bool true) .bool=true by first | rfl | decide | simp [WShape.has,WShape.arms,WShape.armsAll])
  (show (WTm.eq .res (.lit (.bool true))).value [] { args:=args,res:=some (.bool true),after:=args }=some (.bool (true == true)) from w_eq_bool (w_res rfl) w_lit) rfl
theorem attach_call {l:OpenLaw} {n:Nat} {q:Program} {loose:List Str} {XP:(Str->Option Value)->Heap->Prop} {YP:World->Heap->Prop} {d:DefRec}
  (hn:l.most=some n) (hdf:d.params.defaults=[])
  (call:∀ (w:World) (s₀ s₁:Shared) (mg mb:Str->Option Value) (fa:Addr) (o:Obj) (pm cd doc:Value) (a:Addr) (vs:List Value) (ns:List Int),
   Ground q loose [] XP w s₀ mg mb s₁.heap->YP w s₁.heap →
   s₁.heap.get? fa=some o->o.data=.func (docDef d.name d.params d.body d.scope pm cd doc)->s₁.heap.CodeRec cd d.name->mg d.name=some (.ref fa) →
   s₁.heap.get? a=some { cls:=.type "list",data:=.seq vs.toArray }->IntsAre vs ns->ns.length<=n->s₁.gens=#[] →
   codeAny (model l.prog w) callerA (.call (.ref fa) ⟨[.ref a],[]⟩) (fun r s'=>r=.ok (.ret (.bool true))/\OldK s₁.heap s'.heap/\s'.os=s₁.os/\AllBare s'.gens) s₁) :
  WalkO q loose XP YP l.row.toRowW d [] (fun f vs=>PySem.call f vs):=by
 intro w s₀ s₁ mg mb G Y fa o pm cd doc dV kV ho hd hcd hD hmg hg args vals as hpre hlay hrd hwl hlo
 obtain rfl:dV=.none:=Dflts.none hD hdf
 obtain rfl:kV=.none:=Dflts.noKw hD
 obtain ⟨a,vs,ns,rfl,rfl,hobj,hints,hlen⟩:=zqr hn hpre hwl
 refine enter_call (codeAny_mono (call w s₀ s₁ mg mb fa o pm cd doc a vs ns G Y ho (fd_plain hd) hcd hmg hobj hints hlen hg) fun r s' hq=>?_)
 obtain ⟨rfl,h2,h3,h4⟩:=hq
 exact ⟨.inl ⟨.bool true,.bool true,[],rfl,fun _=>rfl,.bool true,zqv l _,fun _=>⟨List.Pairwise.nil,fun _ hm=>(nomatch hm)⟩⟩,h2,h3,h4⟩
section
variable {prog : Program} {w : World} {A : Around} {E : Value → Shared → Prop} {s : Shared} {K : Frag}
def noObjs (h:Heap):Heap:={ h with objs:=#[] }
def ledger (h:Heap) (L d:Addr):List (Addr × Obj):=(List.range h.objs.size).filterMap fun a=>if a=L\/a=d then none else (h.get? a).map fun o=>(a,o)
end
end Att
namespace L2
open PySem PySem.Spec PyProof.Rows
theorem zl9:∀ {vs:List Value} {ns:List Int},IntsAre vs ns->Vals (ns.map V.int) vs
 | _,_,.nil=>.nil
 | _,_,.cons n t h=>.cons ⟨t,rfl⟩ (zl9 h)
def Only (H:Hp):Prop:=∀ b,H b=none\/∃ o xs,H b=some (.frz o (.lst xs))
end L2
namespace L2
open PySem PySem.Spec PyProof.Rows
abbrev KOf {K:PySem.W.Frag} {h:Heap} (_:K.In h):PySem.W.Frag:=K
end L2
namespace L2
open PySem PySem.Spec PyProof.Rows
def inClass (s:Stmt) (j:Nat):Stmt:=match s with
 | .ClassDef _ _ _ body _ _ _ _ _ _ _=>body.getD j (.Pass ⟨0,0,0,0⟩)
 | _=>.Pass ⟨0,0,0,0⟩
def zas (s:Stmt):Arguments:=match s with
 | .FunctionDef _ a _ _ _ _ _ _ _ _=>a
 | _=>{ posonlyargs:=[],args:=[],vararg:=none,kwonlyargs:=[],kw_defaults:=[],kwarg:=none,defaults:=[] }
def zaq (s:Stmt):List Stmt:=match s with
 | .FunctionDef _ _ b _ _ _ _ _ _ _=>b
 | _=>[]
def zae (s:Stmt):Scope:=match s with
 | .FunctionDef _ _ _ _ _ _ sc _ _ _=>sc
 | _=>{ kind:=.function,names:=[],isGenerator:=false,isCoroutine:=false }
abbrev CX0:CXT:=fun _ _ _ _ _ _=>False
abbrev E0:XK:=fun _ _ _=>False
theorem pass0 {X:Cx}:Passes CX0 X E0:=fun _ _ _ _ _ _ _ h=>h.elim
structure Fun (K:PySem.W.Frag) (x qual:Str) (st:Stmt) (f:Addr) (fd:FuncData):Prop where
 ex:∃ (oc:Value) (od:Option Addr) (kV doc pm:Value) (an:Option Addr) (cdv ct:Value) (osl:Array (Option Value)),
  fd=PySem.W.fnOf x qual (zas st) (zaq st) (zae st) .none kV doc pm an cdv ct/\K.lookup f=some ⟨oc,od,.func fd,osl⟩/\PySem.W.codeIn K cdv qual=true
 kp:PySem.W.keepIn K (.ref f)=true
section
variable {P : Program} {w : World} {K : PySem.W.Frag} {mg : Str → Option Value} {base : Heap}
theorem Fun.ok {x qual:Str} {st:Stmt} {f:Addr} {fd:FuncData} {N ps:List Str} {k:Nat} {sp:Sp} (F:Fun K x qual st f fd) (S:FnScope N ps (zae st)) (len:∀ vs H Q E,sp vs H Q E->vs.length=ps.length)
  (hbody:∀ (cdv:Value) (A:Around) (outer:List Env) (s:Shared) (H:Hp) (vs:List V) (Q:VK) (E:XK),Room k (A.deeper (envOfC qual (zae st) s.heap.objs.size f cdv))->sp vs H Q E →
   ∃ t,PSs (cxOf CX0 P w K mg base N qual (zae st) f cdv A outer s H E).nox (zaq st) t/\t { nx:=fun _ H'=>Q .non H',rt:=Q } (start N vs) H):FnOk P w K mg base CX0 (k + 1) f fd ps sp:=by
 obtain ⟨oc,od,kV,doc,pm,an,cdv,ct,osl,rfl,lk,hcd⟩:=F.ex
 refine fn_of lk hcd S len fun A outer s H vs Q E hr hsp=>?_
 obtain ⟨t,h,q⟩:=hbody cdv A outer s H vs Q E hr hsp
 exact ⟨t,h.nox,q⟩
theorem Fun.binds {x qual:Str} {st:Stmt} {f:Addr} {fd:FuncData} {ps:List Str} (F:Fun K x qual st f fd)
  (h:∀ (kV doc pm:Value) (an:Option Addr) (cdv ct:Value) (us:List Value),us.length=ps.length->bindArgs (PySem.W.fnOf x qual (zas st) (zaq st) (zae st) .none kV doc pm an cdv ct) ⟨us,[]⟩=pure (ps.zip us)):Binds K fd ps []:=by
 obtain ⟨oc,od,kV,doc,pm,an,cdv,ct,osl,rfl,lk,hcd⟩:=F.ex
 exact .all (h kV doc pm an cdv ct)
theorem za8 {x qual:Str} {st:Stmt} {f:Addr} {oc:Value} {od an:Option Addr} {osl:Array (Option Value)} {kV doc pm cdv ct:Value} (l:K.lookup f=some ⟨oc,od,.func (PySem.W.fnOf x qual (zas st) (zaq st) (zae st) .none kV doc pm an cdv ct),osl⟩)
  (c:PySem.W.codeIn K cdv qual=true) (k:PySem.W.keepIn K (.ref f)=true):Fun K x qual st f (PySem.W.fnOf x qual (zas st) (zaq st) (zae st) .none kV doc pm an cdv ct):=⟨⟨oc,od,kV,doc,pm,an,cdv,ct,osl,rfl,l,c⟩,k⟩
end
section
variable {X : Cx}
end
theorem iteF {A B:Prop} (h:B):if false=true then A else B:=by
 rw [if_neg Bool.false_ne_true]
 exact h
theorem iteT {A B:Prop} (h:A):if true=true then A else B:=by
 rw [if_pos rfl]
 exact h
def Same (H H':Hp):Prop:=∀ b o,H b=some o->H' b=some o
theorem Same.refl (H:Hp):Same H H:=fun _ _ h=>h
theorem Same.trans {H H1 H2:Hp} (a:Same H H1) (b:Same H1 H2):Same H H2:=fun c o h=>b c o (a c o h)
theorem Same.free {H H':Hp} (e:Same H H') {l:Addr} (h:H' l=Option.none):H l=Option.none:=by
 cases q:H l with
 | none=>rfl
 | some o =>
  rw [e l o q] at h
  cases h
section
variable {κ : Type} [DecidableEq κ]
end
end L2
end
section
namespace PU
theorem zt8 (s:PySem.Str) (l:List PySem.Str):PySem.Txt.join s l=PySem.Str.join s l:=PySem.StrLaws.glued_eq_join s l
end PU
end
section
namespace PU
open PySem L2
inductive PV where
 | non | bl (b:Bool) | int (i:Int) | str (x:Str)
 | tup (ps:List PV) | lst (ps:List PV)
 | dct (ks:List Key) (ps:List PV) | dtt (ks:List (List Key)) (ps:List PV)
structure PX where
 cls:Str
 args:List PV
inductive R (α:Type) where
 | ok (a:α) | er (x:PX) | no
namespace R
protected def bind {α β:Type}:R α->(α->R β)->R β
 | ok a,f=>f a
 | er x,_=>er x
 | no,_=>no
instance:Monad R where
 pure:=R.ok
 bind:=R.bind
@[simp] theorem ok_bind {α β:Type} (a:α) (f:α->R β):(R.ok a >>= f)=f a:=rfl
@[simp] theorem er_bind {α β:Type} (x:PX) (f:α->R β):((R.er x:R α) >>= f)=R.er x:=rfl
@[simp] theorem no_bind {α β:Type} (f:α->R β):((R.no:R α) >>= f)=R.no:=rfl
@[simp] theorem pure_eq {α:Type} (a:α):(pure a:R α)=R.ok a:=rfl
def ofO {α:Type}:Option α->R α
 | some a=>ok a
 | none=>no
@[simp] theorem ofO_some {α:Type} (a:α):ofO (some a)=R.ok a:=rfl
@[simp] theorem ofO_none {α:Type}:ofO (none:Option α)=R.no:=rfl
theorem bind_assoc {α β γ:Type} (r:R α) (f:α->R β) (g:β->R γ):((r >>= f) >>= g)=(r >>= fun a=>f a >>= g):=by cases r <;> rfl
end R
inductive Sl where
 | no | val (p:PV) | own (p:PV)
abbrev PSt:=List Sl
def getV (i:Nat) (ρ:PSt):R PV:=match ρ[i]? with
 | some (.val p)=>.ok p
 | _=>.no
def getO (i:Nat) (ρ:PSt):R PV:=match ρ[i]? with
 | some (.val p)=>.ok p
 | some (.own p)=>.ok p
 | _=>.no
def kI (i:Int):PSt->R PV:=fun _=>.ok (.int i)
def kB (b:Bool):PSt->R PV:=fun _=>.ok (.bl b)
def kN:PSt->R PV:=fun _=>.ok .non
def kS (x:Str):PSt->R PV:=fun _=>.ok (.str x)
def kP (p:PV):PSt->R PV:=fun _=>.ok p
def nilA:PSt->R (List PV):=fun _=>.ok []
def zac (f:PSt->R PV) (fs:PSt->R (List PV)):PSt->R (List PV):=fun ρ=>f ρ >>= fun p=>fs ρ >>= fun ps=>.ok (p::ps)
def zhf (ps:List PV):R (List PV):=if ps.length<=16777216 then .ok ps else .no
def tupF (fs:PSt->R (List PV)):PSt->R PV:=fun ρ=>fs ρ >>= fun ps=>zhf ps >>= fun ps=>.ok (.tup ps)
def lstF (fs:PSt->R (List PV)):PSt->R PV:=fun ρ=>fs ρ >>= fun ps=>zhf ps >>= fun ps=>.ok (.lst ps)
def bin2 (fa fb:PSt->R PV) (g:PV->PV->Option PV):PSt->R PV:=fun ρ=>fa ρ >>= fun p=>fb ρ >>= fun q=>R.ofO (g p q)
def chain2 (fa fb fc:PSt->R PV) (g g':PV->PV->Option PV):PSt->R PV:=fun ρ=>fa ρ >>= fun p=>fb ρ >>= fun q=>R.ofO (g p q) >>= fun z=>match z with
 | .bl true=>fc ρ >>= fun r=>R.ofO (g' q r)
 | .bl false=>.ok (.bl false)
 | _=>.no
def truB:PV->Option Bool
 | .non=>some false
 | .bl b=>some b
 | .int i=>some (i != 0)
 | .str y=>if y.length<=16777216 then some ((y.length:Int) != 0) else none
 | .tup ps=>some (!ps.isEmpty)
 | .lst ps=>some (!ps.isEmpty)
 | .dct ks _=>some (!ks.isEmpty)
 | .dtt _ _=>none
def truF (f:PSt->R PV):PSt->R Bool:=fun ρ=>f ρ >>= fun p=>R.ofO (truB p)
def gAdd:PV->PV->Option PV
 | .int i,.int j=>some (.int (i + j))
 | .str x,.str y=>if x.length + y.length<=16777216 then some (.str (x++y)) else none
 | .lst ps,.lst qs=>if ps.length + qs.length<=16777216 then some (.lst (ps++qs)) else none
 | .tup ps,.tup qs=>if ps.length + qs.length<=16777216 then some (.tup (ps++qs)) else none
 | _,_=>none
def gSub:PV->PV->Option PV
 | .int i,.int j=>some (.int (i - j))
 | _,_=>none
def gMul:PV->PV->Option PV
 | .int i,.int j=>if i.natAbs < 18446744073709551616\/j.natAbs < 18446744073709551616 then some (.int (i * j)) else none
 | _,_=>none
def gDiv:PV->PV->Option PV
 | .int i,.int j=>if 0 < j/\j < 1073741824 then some (.int (i / j)) else none
 | _,_=>none
def gMod:PV->PV->Option PV
 | .int i,.int j=>if 0 < j then some (.int (i % j)) else none
 | _,_=>none
inductive Fl where
 | next (ρ:PSt) | brk (ρ:PSt) | cont (ρ:PSt) | ret (p:PV)
def seqF (g g':PSt->R Fl):PSt->R Fl:=fun ρ=>g ρ >>= fun fl=>match fl with
 | .next ρ'=>g' ρ'
 | .brk ρ'=>.ok (.brk ρ')
 | .cont ρ'=>.ok (.cont ρ')
 | .ret p=>.ok (.ret p)
def zb9:PSt->R Fl:=fun ρ=>.ok (.next ρ)
def exprF (f:PSt->R PV):PSt->R Fl:=fun ρ=>f ρ >>= fun _=>.ok (.next ρ)
def retF (f:PSt->R PV):PSt->R Fl:=fun ρ=>f ρ >>= fun p=>.ok (.ret p)
def ifF (t:PSt->R Bool) (g g':PSt->R Fl):PSt->R Fl:=fun ρ=>t ρ >>= fun k=>if k=true then g ρ else g' ρ
def setF (i:Nat) (f:PSt->R PV):PSt->R Fl:=fun ρ=>f ρ >>= fun p=>.ok (.next (ρ.set i (.val p)))
def ownF (i:Nat) (f:PSt->R PV):PSt->R Fl:=fun ρ=>f ρ >>= fun p=>.ok (.next (ρ.set i (.own p)))
def brkF:PSt->R Fl:=fun ρ=>.ok (.brk ρ)
def contF:PSt->R Fl:=fun ρ=>.ok (.cont ρ)
def noF:PSt->R Fl:=fun _=>.no
def frzF (i:Nat) (ρ:PSt):PSt:=match ρ[i]? with
 | some (.own p)=>ρ.set i (.val p)
 | _=>ρ
def frzS (i:Nat) (g:PSt->R Fl):PSt->R Fl:=fun ρ=>g (frzF i ρ)
abbrev Tgt:=PV->PSt->Option PSt
abbrev Tgts:=List PV->PSt->Option PSt
def zao (i:Nat):Tgt:=fun p ρ=>some (ρ.set i (.val p))
def nilT:Tgts:=fun ps ρ=>match ps with
 | []=>some ρ
 | _::_=>none
def zau (h:Tgt) (h':Tgts):Tgts:=fun ps ρ=>match ps with
 | p::r=>(h p ρ).bind fun ρ1=>h' r ρ1
 | []=>none
def tupT (n:Nat) (h:Tgts):Tgt:=fun p ρ=>match p with
 | .tup ps=>if ps.length=n then h ps ρ else none
 | _=>none
def forF (h:PV->PSt->Option PSt) (g:PSt->R Fl):List PV->PSt->R Fl
 | [],ρ=>.ok (.next ρ)
 | p::ps,ρ=>R.ofO (h p ρ) >>= fun ρ1=>g ρ1 >>= fun fl=>match fl with
  | .next ρ2=>forF h g ps ρ2
  | .cont ρ2=>forF h g ps ρ2
  | .brk ρ2=>.ok (.next ρ2)
  | .ret q=>.ok (.ret q)
def forS (fi:PSt->R (List PV)) (h:Tgt) (g:PSt->R Fl):PSt->R Fl:=fun ρ=>fi ρ >>= fun ps=>forF h g ps ρ
def zaw (fs:PSt->R (List PV)) (F:List PV->Option PV):PSt->R PV:=fun ρ=>fs ρ >>= fun ps=>R.ofO (F ps)
def start (n:Nat) (ps:List PV):PSt:=ps.map Sl.val++List.replicate (n - ps.length) .no
def runF (m n:Nat) (g:PSt->R Fl) (ps:List PV):Option PV:=if ps.length=m then (match g (start n ps) with
 | .ok (.ret p)=>some p
 | .ok (.next _)=>some .non
 | _=>none) else none
def roS:Option Sl->Sl
 | some (.val p)=>.val p
 | _=>.no
def ze3 (nt:Nat) (idx:List Nat) (ρ:PSt):PSt:=List.replicate nt .no++idx.map fun i=>roS ρ[i]?
def zeh (h:Tgt) (t:PSt->R Bool) (fe:PSt->R PV) (ρ:PSt):List PV->R (List PV)
 | []=>.ok []
 | p::ps=>R.ofO (h p ρ) >>= fun ρ1=>t ρ1 >>= fun b=>if b=true then fe ρ1 >>= fun q=>zeh h t fe ρ ps >>= fun qs=>.ok (q::qs) else zeh h t fe ρ ps
def noEr {α:Type}:R α->R α
 | .ok a=>.ok a
 | _=>.no
def zih (fi:PSt->R (List PV)) (h:Tgt) (t:PSt->R Bool) (fe:PSt->R PV) (nt:Nat) (idx:List Nat):PSt->R PV :=
 fun ρ=>fi ρ >>= fun ps=>noEr (zeh h t fe (ze3 nt idx ρ) ps) >>= fun qs=>zhf qs >>= fun qs=>.ok (.lst qs)
def yesB:PSt->R Bool:=fun _=>.ok true
mutual
def peqO:PV->PV->Option Bool
 | .non,q=>match q with
  | .non=>some true | .bl _=>some false | .int _=>some false | .str _=>some false | .tup _=>some false | .lst _=>some false | _=>none
 | .bl a,q=>match q with
  | .bl b=>some (a == b) | .int b=>some ((if a then 1 else 0) == b) | .non=>some false | .str _=>some false | .tup _=>some false | .lst _=>some false | _=>none
 | .int a,q=>match q with
  | .int b=>some (a == b) | .bl b=>some (a == (if b then 1 else 0)) | .non=>some false | .str _=>some false | .tup _=>some false | .lst _=>some false | _=>none
 | .str a,q=>match q with
  | .str b=>some (a == b) | .non=>some false | .bl _=>some false | .int _=>some false | .tup _=>some false | .lst _=>some false | _=>none
 | .tup ps,q=>match q with
  | .tup qs=>zd9 ps qs | .non=>some false | .bl _=>some false | .int _=>some false | .str _=>some false | .lst _=>some false | _=>none
 | .lst ps,q=>match q with
  | .lst qs=>zd9 ps qs | .non=>some false | .bl _=>some false | .int _=>some false | .str _=>some false | .tup _=>some false | _=>none
 | _,_=>none
def zd9:List PV->List PV->Option Bool
 | [],[]=>some true
 | [],_::_=>some false
 | _::_,[]=>some false
 | p::ps,q::qs=>(peqO p q).bind fun a=>(zd9 ps qs).bind fun b=>some (a && b)
end
mutual
def pdep:PV->Nat
 | .tup ps=>pdeps ps + 1
 | .lst ps=>pdeps ps + 1
 | .dct _ ps=>pdeps ps + 1
 | .dtt _ ps=>pdeps ps + 1
 | _=>0
def pdeps:List PV->Nat
 | []=>0
 | p::ps=>max (pdep p) (pdeps ps)
end
def zhn (ps qs:List PV) (j:Nat):Bool:=match ps[j]?,qs[j]? with
 | some p,some q=>(peqO p q).getD false
 | _,_=>false
def isSc:PV->Bool
 | .non=>true | .bl _=>true | .int _=>true | .str _=>true
 | _=>false
def scV:PV->V
 | .bl b=>.bl b | .int i=>.int i | .str x=>.str x
 | _=>.non
def zca:List Key->List PV->Key->Option PV
 | k::ks,p::ps,j=>if k=j then some p else zca ks ps j
 | _,_,_=>none
def zh9 (e:PV->PV->Option Bool):List Key->List PV->List Key->List PV->Option Bool
 | k::ks,p::ps,ls,qs=>match zca ls qs k with
  | none=>some false
  | some q=>(e p q).bind fun a=>(zh9 e ks ps ls qs).bind fun b=>some (a && b)
 | [],[],_,_=>some true
 | _,_,_,_=>none
def peqN:Nat->PV->PV->Option Bool
 | n + 1,.dct ks ps,.dct ls qs=>if ks.length=ls.length then zh9 (peqN n) ks ps ls qs else some false
 | _,p,q=>peqO p q
def gEq:PV->PV->Option PV
 | .dct ks ps,.dct ls qs=>if pdeps ps<=60 then (peqN 3 (.dct ks ps) (.dct ls qs)).map .bl else none
 | .tup ps,.tup qs=>if pdeps ps<=60 then (zd9 ps qs).map .bl else none
 | .lst ps,.lst qs=>if pdeps ps<=60 then (zd9 ps qs).map .bl else none
 | p,q=>if isSc p=true/\isSc q=true/\scal (scV p) (scV q)=true then some (.bl (decide (scV p=scV q))) else none
def gNe:PV->PV->Option PV
 | .tup ps,.tup qs=>if pdeps ps<=60 then (zd9 ps qs).map fun b=>.bl (!b) else none
 | .lst ps,.lst qs=>if pdeps ps<=60 then (zd9 ps qs).map fun b=>.bl (!b) else none
 | p,q=>if isSc p=true/\isSc q=true/\scal (scV p) (scV q)=true then some (.bl (!decide (scV p=scV q))) else none
def gLt:PV->PV->Option PV
 | .int i,.int j=>some (.bl (decide (i < j)))
 | .str x,.str y=>some (.bl (decide (x.cps.toList < y.cps.toList)))
 | _,_=>none
def gLe:PV->PV->Option PV
 | .int i,.int j=>some (.bl (decide (i<=j)))
 | .str x,.str y=>some (.bl (!decide (y.cps.toList < x.cps.toList)))
 | _,_=>none
def gGt:PV->PV->Option PV
 | .int i,.int j=>some (.bl (decide (j < i)))
 | _,_=>none
def gGe:PV->PV->Option PV
 | .int i,.int j=>some (.bl (decide (j<=i)))
 | _,_=>none
def zw9:PV->Bool
 | .non=>true
 | _=>false
def gIsN:PV->PV->Option PV
 | p,.non=>some (.bl (zw9 p))
 | _,_=>none
def gNotN:PV->PV->Option PV
 | p,.non=>some (.bl (!zw9 p))
 | _,_=>none
def zf1:PV->Option Key
 | .int i=>some (.inl i)
 | .str x=>some (.inr x)
 | _=>none
def gCat:PV->PV->Option PV
 | .lst ps,.lst qs=>if ps.length + qs.length<=16777216 then some (.lst (ps++qs)) else none
 | _,_=>none
def gIx:PV->PV->Option PV
 | .lst ps,.int i=>atI ps i
 | .tup ps,.int i=>atI ps i
 | .str z,.int i=>if z.length<=16777216 then (atI z.cps.toList i).map fun c=>.str ⟨#[c]⟩ else none
 | .dct ks ps,k=>(zf1 k).bind fun k=>zca ks ps k
 | _,_=>none
def inS (x y:Str):Bool:=!(Builtin.Str.occurrences y x 0 y.length 1).isEmpty
def gIn:PV->PV->Option PV
 | .str x,.str y=>some (.bl (inS x y))
 | p,.lst qs=>if isSc p=true/\qs.all isSc=true then some (.bl (inV (scV p) (qs.map scV))) else none
 | p,.tup qs=>if isSc p=true/\qs.all isSc=true then some (.bl (inV (scV p) (qs.map scV))) else none
 | p,.dct ks _=>(zf1 p).map fun k=>.bl (ks.any fun j=>decide (j=k))
 | _,_=>none
def zhg (p q:PV):Option PV:=(gIn p q).bind fun z=>match z with
 | .bl b=>some (.bl (!b))
 | _=>none
def andB (t u:PSt->R Bool):PSt->R Bool:=fun ρ=>t ρ >>= fun c=>if c=true then u ρ else .ok false
def orB (t u:PSt->R Bool):PSt->R Bool:=fun ρ=>t ρ >>= fun c=>if c=true then .ok true else u ρ
def notB (t:PSt->R Bool):PSt->R Bool:=fun ρ=>t ρ >>= fun c=>.ok (!c)
def andV (fa fb:PSt->R PV):PSt->R PV:=fun ρ=>fa ρ >>= fun p=>match p with
 | .bl true=>fb ρ
 | .bl false=>.ok (.bl false)
 | _=>.no
def orV (fa fb:PSt->R PV):PSt->R PV:=fun ρ=>fa ρ >>= fun p=>match p with
 | .bl true=>.ok (.bl true)
 | .bl false=>fb ρ
 | _=>.no
def notV (fa:PSt->R PV):PSt->R PV:=fun ρ=>fa ρ >>= fun p=>match p with
 | .bl b=>.ok (.bl (!b))
 | _=>.no
def ifV (t:PSt->R Bool) (fa fb:PSt->R PV):PSt->R PV:=fun ρ=>t ρ >>= fun c=>if c=true then fa ρ else fb ρ
def un1 (f:PSt->R PV) (g:PV->Option PV):PSt->R PV:=fun ρ=>f ρ >>= fun p=>R.ofO (g p)
def gLen:PV->Option PV
 | .lst ps=>some (.int ps.length)
 | .tup ps=>some (.int ps.length)
 | .str x=>if x.length<=16777216 then some (.int x.length) else none
 | .dct ks _=>some (.int ks.length)
 | _=>none
def gInt:PV->Option PV
 | .int i=>some (.int i)
 | .bl b=>some (.int (if b then 1 else 0))
 | _=>none
def zk7:PV->Option PV
 | .lst ps=>some (.tup ps)
 | .tup ps=>some (.tup ps)
 | _=>none
def gList:PV->Option PV
 | .lst ps=>some (.lst ps)
 | .tup ps=>some (.lst ps)
 | _=>none
def gOrd:PV->Option PV
 | .str x=>if x.length=1 then some (.int (x.cps.getD 0 0:Nat)) else none
 | _=>none
def keyP:Key->PV
 | .inl i=>.int i
 | .inr x=>.str x
def zgo (x:Str):List PV:=x.cps.toList.map fun c=>.str ⟨#[c]⟩
def zfi:PV->Option (List PV)
 | .lst ps=>some ps
 | .tup ps=>some ps
 | .dct ks _=>some (ks.map keyP)
 | .str x=>some (zgo x)
 | _=>none
def itF (f:PSt->R PV):PSt->R (List PV):=fun ρ=>f ρ >>= fun p=>R.ofO (zfi p)
def zcj (lo:Int) (n:Nat):List PV:=(List.range n).map fun i=>.int (lo + (i:Nat))
def rng1 (f:PSt->R PV):PSt->R (List PV):=fun ρ=>f ρ >>= fun p=>match p with
 | .int j=>if j.natAbs < 1000000000 then .ok (zcj 0 j.toNat) else .no
 | _=>.no
def rng2 (f f2:PSt->R PV):PSt->R (List PV):=fun ρ=>f ρ >>= fun p=>f2 ρ >>= fun q=>match p,q with
 | .int i,.int j=>if i.natAbs < 1000000000/\j.natAbs < 1000000000 then .ok (zcj i (j - i).toNat) else .no
 | _,_=>.no
def appF (i:Nat) (f:PSt->R PV):PSt->R Fl:=fun ρ=>match ρ[i]? with
 | some (.own (.lst ps))=>f ρ >>= fun p=>if ps.length < 16777216 then .ok (.next (ρ.set i (.own (.lst (ps++[p]))))) else .no
 | _=>.no
def numP (ps:List PV):List (List PV):=(List.range ps.length).zipWith (fun (i:Nat) p=>[.int (i:Int),p]) ps
def znu:PV->Option (List PV)
 | .lst ps=>some ((numP ps).map .tup)
 | .str x=>some ((numP (zgo x)).map .tup)
 | _=>none
def zsd (f:PSt->R PV):PSt->R (List PV):=fun ρ=>f ρ >>= fun p=>R.ofO (znu p)
def pairsP (ks:List Key) (ps:List PV):List (List PV):=ks.zipWith (fun k p=>[keyP k,p]) ps
def itemsP:PV->Option (List PV)
 | .dct ks ps=>if ks.length=ps.length then some ((pairsP ks ps).map .tup) else none
 | _=>none
def itemsF (f:PSt->R PV):PSt->R (List PV):=fun ρ=>f ρ >>= fun p=>R.ofO (itemsP p)
def tyN:PV->String
 | .non=>"NoneType" | .bl _=>"bool" | .int _=>"int" | .str _=>"str" | .tup _=>"tuple" | .lst _=>"list" | .dct _ _=>"dict" | .dtt _ _=>"dict"
def isiB (t c:String):Bool:=t == c || (t == "bool" && c == "int")
def gIsi (c:String) (p:PV):Option PV:=some (.bl (isiB (tyN p) c))
def gStr:PV->Option PV
 | .int i=>if i.natAbs.log2 < 1920 then some (.str (toString i)) else none
 | .str x=>some (.str x)
 | _=>none
def gNeg:PV->Option PV
 | .int i=>some (.int (-i))
 | _=>none
def zw8:PV->Bool
 | .str _=>true
 | _=>false
def meth1 (fo fe:PSt->R PV) (g:PV->PV->Option PV):PSt->R PV:=fun ρ=>fo ρ >>= fun p=>if zw8 p=true then fe ρ >>= fun q=>R.ofO (g p q) else .no
def zg2:List PV->Option (List Str)
 | []=>some []
 | .str x::r=>(zg2 r).map (x::·)
 | _::_=>none
def insS (x:Str):List Str->List Str
 | []=>[x]
 | y::r=>if x=y then y::r else if x.cps.toList < y.cps.toList then x::y::r else y::insS x r
def sortS (l:List Str):List Str:=l.foldr insS []
def gSortSet:PV->Option PV
 | .lst ps=>(zg2 ps).bind fun ys=>if ys.length < 64 then some (.lst ((sortS ys).map .str)) else none
 | _=>none
def zry:PV->PV->Option PV
 | .str x,.lst ps=>(zg2 ps).bind fun ys=>if (ys.map (·.length)).sum + ys.length * x.length<=16777216 then some (.str (Txt.join x ys)) else none
 | .str x,.tup ps=>(zg2 ps).bind fun ys=>if (ys.map (·.length)).sum + ys.length * x.length<=16777216 then some (.str (Txt.join x ys)) else none
 | _,_=>none
def cutP {α:Type} (xs:List α) (lo hi:Option Int):List α:=(xs.drop (HT.sIx xs.length 0 lo)).take (HT.sIx xs.length xs.length hi - HT.sIx xs.length 0 lo)
def gSl:PV->Option Int->Option Int->Option PV
 | .lst ps,lo,hi=>some (.lst (cutP ps lo hi))
 | .tup ps,lo,hi=>if HT.sIx ps.length 0 lo=0/\HT.sIx ps.length ps.length hi=ps.length then none else some (.tup (cutP ps lo hi))
 | _,_,_=>none
def zcv:PSt->R (Option Int):=fun _=>.ok none
def zeb (f:PSt->R PV):PSt->R (Option Int):=fun ρ=>f ρ >>= fun p=>match p with
 | .int i=>.ok (some i)
 | _=>.no
def zfq (f:PSt->R PV) (l h:PSt->R (Option Int)):PSt->R PV:=fun ρ=>f ρ >>= fun p=>l ρ >>= fun lo=>h ρ >>= fun hi=>R.ofO (gSl p lo hi)
def unpF (f:PSt->R PV) (h:Tgt):PSt->R Fl:=fun ρ=>f ρ >>= fun p=>R.ofO (h p ρ) >>= fun ρ'=>.ok (.next ρ')
def zji (ks:List Key) (ps:List PV) (k:Key) (p:PV):List PV:=ks.zipWith (fun j q=>if j=k then p else q) ps
def putP (ks:List Key) (ps:List PV) (k:Key) (p:PV):PV:=if (ks.any fun j=>decide (j=k))=true then .dct ks (zji ks ps k p) else .dct (ks++[k]) (ps++[p])
def putF (i:Nat) (fk fv:PSt->R PV):PSt->R Fl:=fun ρ=>match ρ[i]? with
 | some (.own (.dct ks ps))=>fv ρ >>= fun p=>fk ρ >>= fun kp=>R.ofO (zf1 kp) >>= fun k=>if ks.length < 16777216 then .ok (.next (ρ.set i (.own (putP ks ps k p)))) else .no
 | _=>.no
def newD:PSt->R PV:=fun _=>.ok (.dct [] [])
def nilD:PSt->R (List (Key × PV)):=fun _=>.ok []
def zp3 (fk fv:PSt->R PV) (f:PSt->R (List (Key × PV))):PSt->R (List (Key × PV)):=fun ρ=>fk ρ >>= fun kp=>R.ofO (zf1 kp) >>= fun k=>fv ρ >>= fun p=>f ρ >>= fun r=>.ok ((k,p)::r)
def zhd (kps:List (Key × PV)):PV:=kps.foldl (fun d kp=>match d with
 | .dct ks ps=>putP ks ps kp.1 kp.2
 | d=>d) (.dct [] [])
def zul (f:PSt->R (List (Key × PV))):PSt->R PV:=fun ρ=>f ρ >>= fun kps=>if kps.length<=15 then .ok (zhd kps) else .no
end PU
end
section
namespace PU
open PySem PySem.Spec PyProof.Rows L2
def zix:Expr->Bool
 | .Starred ..=>false
 | _=>true
theorem zfp {e:Expr} {es:List Expr} {env:Env} (h:zix e=true):starEach (e::es) env=(false,eval e env)::starEach es env:=by
 cases e <;> first | rfl | cases h
theorem zcm {e:Expr} {env:Env} (h:zix e=true):starEach [e] env=[(false,eval e env)]:=zfp h
theorem zn9 {e e2:Expr} {env:Env} (h:zix e=true) (h2:zix e2=true):starEach [e,e2] env=[(false,eval e env),(false,eval e2 env)]:=(zfp h).trans (congrArg _ (zcm h2))
theorem zoa {pos:Pos} {es:List Expr} {env:Env} (h:es.all zix=true):(backTo pos (starEach es env)).any (·.1)=false:=by
 have:∀ es:List Expr,es.all zix=true->(starEach es env).any (·.1)=false:=by
  intro es
  induction es with
  | nil=>intro _;rfl
  | cons e es ih =>
   intro h
   simp only [List.all_cons,Bool.and_eq_true] at h
   rw [zfp h.1,List.any_cons,ih h.2]
   rfl
 have h2:=this es h
 have h3:(backTo pos (starEach es env)).map (·.1)=(starEach es env).map (·.1):=by
  unfold backTo
  simp [List.map_map,Function.comp_def]
 have:(backTo pos (starEach es env)).any (·.1)=((backTo pos (starEach es env)).map (·.1)).any id:=by rw [List.any_map];rfl
 rw [this,h3,List.any_map]
 exact h2
class TW where
 w:World
variable [TW]
def KList (K:PySem.W.Frag) (a:Addr) (xs:List V):Prop :=
 ∃ (its:List Value) (n:Nat),K.lookup a=some { cls:=.type "list",data:=.seq its.toArray n }/\xs.length<=sizeLine/\Vals xs its
def KDict (K:PySem.W.Frag) (a:Addr) (kvs:List (Key × V)):Prop :=
 kvs.length<=sizeLine/\(a == sysModules)=false/\∃ (o:Obj) (es:Array DictEntry) (ep:Nat),K.lookup a=some o/\o.ExactDict/\o.data=.dict es ep ∧
  ∀ P:Program,∃ vs,KV kvs vs/\PySem.KeysOf (za2 P TW.w) es/\Pairs (za2 P TW.w) es.toList vs/\(vs.map (·.1)).Nodup
theorem KDict.at {K:PySem.W.Frag} {a:Addr} {kvs:List (Key × V)} (h:KDict K a kvs) (P:Program) (w:World) (hw:w=TW.w) (hp:Heap) (hk:K.In hp):∃ vs,KV kvs vs/\hp.DictOf (za2 P w) a vs:=by
 subst hw
 obtain ⟨_,_,o,es,ep,e,x,d,r⟩:=h
 obtain ⟨vs,r1,r2⟩:=r P
 exact ⟨vs,r1,o,es,ep,hk _ _ e,x,d,r2⟩
def SqO (K:PySem.W.Frag) (H:Hp) (a:Addr) (xs:List V):Prop:=Rd H a (.lst xs)\/KList K a xs
theorem SqO.l {K:PySem.W.Frag} {H:Hp} {a:Addr} {xs:List V} (h:SqO K H a xs):SqL K H a xs:=by
 rcases h with h | ⟨its,n,e,z,r⟩
 ·exact .inl h
 ·exact .inr ⟨_,its.toArray,n,e,rfl,rfl,rfl,by rw [List.size_toArray,← r.length];exact z,by simpa using r⟩
theorem SqO.is {X:Cx} {pins:List (Addr × Obj)} {σ:L2.St} {H:Hp} {s:Shared} {a:Addr} {xs:List V} (I:Inv X pins σ H s) (h:SqO X.K H a xs) :
  xs.length<=sizeLine/\∃ (its:List Value) (n:Nat),Vals xs its/\s.heap.get? a=some { cls:=.type "list",data:=.seq its.toArray n }:=by
 rcases h with h | ⟨its,n,e,z,r⟩
 ·obtain ⟨z,its,n,r,e⟩:=h.ok I.hok
  exact ⟨z,its,n,r,e⟩
 ·exact ⟨z,its,n,r,I.kIn _ _ e⟩
def SqF (K:PySem.W.Frag) (H:Hp) (a:Addr) (xs:List V):Prop:=(∃ o,H a=some (.frz o (.lst xs)))\/KList K a xs
def DkF (K:PySem.W.Frag) (H:Hp) (a:Addr) (kvs:List (Key × V)):Prop:=(∃ o,H a=some (.frz o (.dK kvs)))\/KDict K a kvs
def DkR (K:PySem.W.Frag) (H:Hp) (a:Addr) (kvs:List (Key × V)):Prop:=Rd H a (.dK kvs)\/KDict K a kvs
theorem SqF.l {K:PySem.W.Frag} {H:Hp} {a:Addr} {xs:List V} (h:SqF K H a xs):SqO K H a xs:=by
 rcases h with h | h
 ·exact .inl (.inr h)
 ·exact .inr h
theorem DkF.r {K:PySem.W.Frag} {H:Hp} {a:Addr} {kvs:List (Key × V)} (h:DkF K H a kvs):DkR K H a kvs:=by
 rcases h with h | h
 ·exact .inl (.inr h)
 ·exact .inr h
mutual
def Rep (K:PySem.W.Frag) (H:Hp):PV->V->Prop
 | .non,v=>v=.non
 | .bl b,v=>v=.bl b
 | .int i,v=>v=.int i
 | .str x,v=>v=.str x
 | .tup ps,v=>∃ a xs,v=.ref a/\SqT K H a xs/\Reps K H ps xs
 | .lst ps,v=>∃ a xs,v=.ref a/\SqF K H a xs/\Reps K H ps xs
 | .dct ks ps,v=>∃ a kvs,v=.ref a/\DkF K H a kvs/\kvs.map (·.1)=ks/\Reps K H ps (kvs.map (·.2))
 | .dtt ks ps,v=>∃ a o kvs,v=.ref a/\H a=some (.frz o (.dT kvs))/\kvs.map (·.1)=ks/\Reps K H ps (kvs.map (·.2))
def Reps (K:PySem.W.Frag) (H:Hp):List PV->List V->Prop
 | [],xs=>xs=[]
 | p::ps,xs=>∃ x r,xs=x::r/\Rep K H p x/\Reps K H ps r
end
def RepO (K:PySem.W.Frag) (H:Hp):PV->V->Prop
 | .lst ps,v=>∃ a xs,v=.ref a/\SqO K H a xs/\Reps K H ps xs
 | .dct ks ps,v=>∃ a kvs,v=.ref a/\DkR K H a kvs/\kvs.map (·.1)=ks/\Reps K H ps (kvs.map (·.2))
 | .dtt ks ps,v=>∃ a kvs,v=.ref a/\Rd H a (.dT kvs)/\kvs.map (·.1)=ks/\Reps K H ps (kvs.map (·.2))
 | p,v=>Rep K H p v
def zfm (K:PySem.W.Frag) (H:Hp) (a:Addr):PV->Prop
 | .lst ps=>∃ xs,H a=some (.lst xs)/\Reps K H ps xs
 | .dct ks ps=>∃ kvs,H a=some (.dK kvs)/\kvs.map (·.1)=ks/\Reps K H ps (kvs.map (·.2))
 | .dtt ks ps=>∃ kvs,H a=some (.dT kvs)/\kvs.map (·.1)=ks/\Reps K H ps (kvs.map (·.2))
 | _=>False
def isFz:HO->Bool
 | .frz _ _=>true
 | .tup _=>true
 | _=>false
def Kp (H H':Hp):Prop:=∀ b u,H b=some u->isFz u=true->H' b=some u
theorem Same.kp {H H':Hp} (h:Same H H'):Kp H H':=fun b u e _=>h b u e
theorem Kp.refl (H:Hp):Kp H H:=fun _ _ e _=>e
theorem Kp.trans {H H1 H2:Hp} (h:Kp H H1) (k:Kp H1 H2):Kp H H2:=fun b u e f=>k b u (h b u e f) f
theorem Kp.upd {H:Hp} {a:Addr} {u o:HO} (h:H a=some u) (f:isFz u=false):Kp H (upd H a o):=fun b w e g=>by
 have:b≠a:=fun z=>by
  subst z
  rw [h] at e
  cases e
  rw [f] at g
  cases g
 rw [za4 this]
 exact e
theorem Kp.sqT {K:PySem.W.Frag} {H H':Hp} (k:Kp H H') {a:Addr} {xs:List V} (h:SqT K H a xs):SqT K H' a xs:=by
 rcases h with (h | ⟨o,h⟩) | h
 ·exact .inl (.inl (k _ _ h rfl))
 ·exact .inl (.inr ⟨o,k _ _ h rfl⟩)
 ·exact .inr h
theorem Kp.sqF {K:PySem.W.Frag} {H H':Hp} (k:Kp H H') {a:Addr} {xs:List V} (h:SqF K H a xs):SqF K H' a xs:=by
 rcases h with ⟨o,h⟩ | h
 ·exact .inl ⟨o,k _ _ h rfl⟩
 ·exact .inr h
theorem Kp.dkF {K:PySem.W.Frag} {H H':Hp} (k:Kp H H') {a:Addr} {kvs:List (Key × V)} (h:DkF K H a kvs):DkF K H' a kvs:=by
 rcases h with ⟨o,h⟩ | h
 ·exact .inl ⟨o,k _ _ h rfl⟩
 ·exact .inr h
mutual
theorem Rep.kp {K:PySem.W.Frag} {H H':Hp} (k:Kp H H'):∀ (p:PV) {v:V},Rep K H p v->Rep K H' p v
 | .non,_,h=>h
 | .bl _,_,h=>h
 | .int _,_,h=>h
 | .str _,_,h=>h
 | .tup ps,_,⟨a,xs,e,h,r⟩=>⟨a,xs,e,k.sqT h,Reps.kp k ps r⟩
 | .lst ps,_,⟨a,xs,e,h,r⟩=>⟨a,xs,e,k.sqF h,Reps.kp k ps r⟩
 | .dct ks ps,_,⟨a,kvs,e,h,ek,r⟩=>⟨a,kvs,e,k.dkF h,ek,Reps.kp k ps r⟩
 | .dtt ks ps,_,⟨a,o,kvs,e,h,ek,r⟩=>⟨a,o,kvs,e,k _ _ h rfl,ek,Reps.kp k ps r⟩
theorem Reps.kp {K:PySem.W.Frag} {H H':Hp} (k:Kp H H'):∀ (ps:List PV) {xs:List V},Reps K H ps xs->Reps K H' ps xs
 | [],_,h=>h
 | p::ps,_,⟨x,r,e,h,t⟩=>⟨x,r,e,Rep.kp k p h,Reps.kp k ps t⟩
end
section
variable {K : PySem.W.Frag} {H H' : Hp} {p : PV} {ps qs : List PV} {v : V} {xs ys : List V} {a : Addr}
theorem Rep.same (h:Rep K H p v) (s:Same H H'):Rep K H' p v:=Rep.kp (Same.kp s) p h
theorem Reps.same (h:Reps K H ps xs) (s:Same H H'):Reps K H' ps xs:=Reps.kp (Same.kp s) ps h
theorem RepO.same (h:RepO K H p v) (s:Same H H'):RepO K H' p v:=by
 cases p with
 | lst ps =>
  obtain ⟨a,xs,e,q,r⟩:=h
  refine ⟨a,xs,e,?_,r.same s⟩
  rcases q with (q | ⟨o,q⟩) | q
  ·exact .inl (.inl (s _ _ q))
  ·exact .inl (.inr ⟨o,s _ _ q⟩)
  ·exact .inr q
 | dct ks ps =>
  obtain ⟨a,kvs,e,q,ek,r⟩:=h
  refine ⟨a,kvs,e,?_,ek,r.same s⟩
  rcases q with (q | ⟨o,q⟩) | q
  ·exact .inl (.inl (s _ _ q))
  ·exact .inl (.inr ⟨o,s _ _ q⟩)
  ·exact .inr q
 | dtt ks ps =>
  obtain ⟨a,kvs,e,q,ek,r⟩:=h
  refine ⟨a,kvs,e,?_,ek,r.same s⟩
  rcases q with q | ⟨o,q⟩
  ·exact .inl (s _ _ q)
  ·exact .inr ⟨o,s _ _ q⟩
 | _=>exact Rep.same h s
theorem zfm.same (h:zfm K H a p) (s:Same H H'):zfm K H' a p:=by
 cases p with
 | lst ps =>
  obtain ⟨xs,q,r⟩:=h
  exact ⟨xs,s _ _ q,r.same s⟩
 | dct ks ps =>
  obtain ⟨kvs,q,ek,r⟩:=h
  exact ⟨kvs,s _ _ q,ek,r.same s⟩
 | dtt ks ps =>
  obtain ⟨kvs,q,ek,r⟩:=h
  exact ⟨kvs,s _ _ q,ek,r.same s⟩
 | _=>exact h
theorem Rep.o (h:Rep K H p v):RepO K H p v:=by
 cases p with
 | lst ps =>
  obtain ⟨a,xs,e,q,r⟩:=h
  exact ⟨a,xs,e,q.l,r⟩
 | dct ks ps =>
  obtain ⟨a,kvs,e,q,ek,r⟩:=h
  exact ⟨a,kvs,e,q.r,ek,r⟩
 | dtt ks ps =>
  obtain ⟨a,o,kvs,e,q,ek,r⟩:=h
  exact ⟨a,kvs,e,.inr ⟨o,q⟩,ek,r⟩
 | _=>exact h
theorem zfm.o (h:zfm K H a p):RepO K H p (.ref a):=by
 cases p with
 | lst ps =>
  obtain ⟨xs,q,r⟩:=h
  exact ⟨a,xs,rfl,.inl (.inl q),r⟩
 | dct ks ps =>
  obtain ⟨kvs,q,ek,r⟩:=h
  exact ⟨a,kvs,rfl,.inl (.inl q),ek,r⟩
 | dtt ks ps =>
  obtain ⟨kvs,q,ek,r⟩:=h
  exact ⟨a,kvs,rfl,.inl q,ek,r⟩
 | _=>exact False.elim h
theorem Reps.length:∀ {ps:List PV} {xs:List V},Reps K H ps xs->ps.length=xs.length
 | [],_,h=>by cases h;rfl
 | p::ps,_,⟨x,r,e,_,t⟩=>by subst e;simp [Reps.length t]
theorem Reps.nil:Reps K H [] []:=rfl
theorem Reps.cons (h:Rep K H p v) (t:Reps K H ps xs):Reps K H (p::ps) (v::xs):=⟨v,xs,rfl,h,t⟩
theorem Reps.append:∀ {ps qs:List PV} {xs ys:List V},Reps K H ps xs->Reps K H qs ys->Reps K H (ps++qs) (xs++ys)
 | [],_,_,_,h,k=>by cases h;exact k
 | p::ps,_,_,_,⟨x,r,e,h,t⟩,k=>by subst e;exact ⟨x,_,rfl,h,Reps.append t k⟩
theorem Reps.get:∀ {ps:List PV} {xs:List V} {i:Nat} {p:PV},Reps K H ps xs->ps[i]?=some p->∃ x,xs[i]?=some x/\Rep K H p x
 | [],_,_,_,_,e=>by simp at e
 | p::ps,_,0,_,⟨x,r,e,h,t⟩,q=>by
  subst e
  simp at q
  subst q
  exact ⟨x,rfl,h⟩
 | p::ps,_,i + 1,q,⟨x,r,e,h,t⟩,z=>by
  subst e
  obtain ⟨y,h1,h2⟩:=Reps.get (i:=i) (p:=q) t (by simpa using z)
  exact ⟨y,by simpa using h1,h2⟩
theorem Reps.take:∀ {ps:List PV} {xs:List V} (n:Nat),Reps K H ps xs->Reps K H (ps.take n) (xs.take n)
 | _,_,0,_=>by simp;rfl
 | [],_,n + 1,h=>by cases h;rfl
 | p::ps,_,n + 1,⟨x,r,e,h,t⟩=>by subst e;exact ⟨x,_,rfl,h,Reps.take n t⟩
theorem Reps.drop:∀ {ps:List PV} {xs:List V} (n:Nat),Reps K H ps xs->Reps K H (ps.drop n) (xs.drop n)
 | _,_,0,h=>by simpa using h
 | [],_,n + 1,h=>by cases h;rfl
 | p::ps,_,n + 1,⟨x,r,e,h,t⟩=>by subst e;simpa using Reps.drop n t
theorem Reps.set:∀ {ps:List PV} {xs:List V} (n:Nat) {p:PV} {v:V},Reps K H ps xs->Rep K H p v->Reps K H (ps.set n p) (xs.set n v)
 | [],_,_,_,_,h,_=>by cases h;rfl
 | q::ps,_,0,_,_,⟨x,r,e,h,t⟩,k=>by subst e;exact ⟨_,_,rfl,k,t⟩
 | q::ps,_,n + 1,_,_,⟨x,r,e,h,t⟩,k=>by subst e;exact ⟨x,_,rfl,h,Reps.set n t k⟩
end
theorem _root_.L2.Inv.reH {X:Cx} {pins:List (Addr × Obj)} {σ:L2.St} {H H':Hp} {s:Shared} (I:Inv X pins σ H s) {a:Addr} {u u':HO} (hu:H a=some u) (h':H'=upd H a u')
  (nf:isFz u=false) (nt:∀ ps,u≠.tbl ps) (no:∀ x,u≠.own x) (hok:ze6 X.prog X.w H' s.heap a u'):Inv X pins σ H' s:=by
 subst h'
 have keepT:∀ b xs,H b=some (.tup xs)->(upd H a u') b=some (.tup xs):=fun b xs e=>Kp.upd hu nf b _ e rfl
 have keepO:∀ b x,H b=some (.own x)->(upd H a u') b=some (.own x):=fun b x e=>by
  have:b≠a:=fun z=>by
   subst z
   rw [hu] at e
   cases e
   exact no x rfl
  rw [za4 this]
  exact e
 have hn:∀ b,H b=none->(upd H a u') b=none:=fun b e=>by
  have:b≠a:=fun z=>by
   subst z
   rw [hu] at e
   cases e
  rw [za4 this]
  exact e
 refine ⟨I.ok,I.os,I.bare,⟨I.base.keep,I.base.slot,fun b o e n x=>hn b (I.base.free b o e n x),I.base.there,fun b xs e=>keepT b xs (I.base.tups b xs e),
  fun b o w e=>Kp.upd hu nf b _ (I.base.frzs b o w e) rfl,fun b ps e=>?_⟩,I.loc,I.cell,hn _ I.free,fun x c e=>hn c (I.freeC x c e),fun p hp=>?_,fun b o e=>?_,I.len⟩
 ·obtain ⟨more,q⟩:=I.base.tbls b ps e
  have:b≠a:=fun z=>by
   subst z
   rw [hu] at q
   cases q
   exact nt _ rfl
  exact ⟨more,by rw [za4 this];exact q⟩
 ·obtain ⟨h1,h2,h3⟩:=I.pin p hp
  exact ⟨h1,hn _ h2,h3⟩
 ·by_cases hb:b=a
  ·subst hb
   rw [za0] at e
   cases e
   exact hok
  ·rw [za4 hb] at e
   exact (I.hok b o e).stay (fun c v _ r=>r) (fun c r=>keepO c b r) keepT
theorem _root_.L2.Inv.frz {X:Cx} {pins:List (Addr × Obj)} {σ:L2.St} {H:Hp} {s:Shared} {a:Addr} {p:PV} (I:Inv X pins σ H s) (n:zfm X.K H a p) :
  ∃ H',Inv X pins σ H' s/\Rep X.K H' p (.ref a)/\∀ b,b≠a->H' b=H b:=by
 cases p with
 | lst ps =>
  obtain ⟨xs,q,r⟩:=n
  obtain ⟨z,its,m,rv,e⟩:=I.hok a _ q
  refine ⟨upd H a (.frz _ (.lst xs)),I.reH q rfl rfl (by intro _ h;cases h) (by intro _ h;cases h) ⟨e,z,its,m,rv,e⟩,⟨a,xs,rfl,.inl ⟨_,za0⟩,r.kp (Kp.upd q rfl)⟩,fun b hb=>za4 hb⟩
 | dct ks ps =>
  obtain ⟨kvs,q,ek,r⟩:=n
  obtain ⟨z,hs,vs,rv,o,es,ep,e,rest⟩:=I.hok a _ q
  refine ⟨upd H a (.frz o (.dK kvs)),I.reH q rfl rfl (by intro _ h;cases h) (by intro _ h;cases h) ⟨e,z,hs,vs,rv,o,es,ep,e,rest⟩,⟨a,kvs,rfl,.inl ⟨_,za0⟩,ek,r.kp (Kp.upd q rfl)⟩,fun b hb=>za4 hb⟩
 | dtt ks ps =>
  obtain ⟨kvs,q,ek,r⟩:=n
  obtain ⟨z,hs,ys,rv,o,es,ep,e,rest⟩:=I.hok a _ q
  refine ⟨upd H a (.frz o (.dT kvs)),I.reH q rfl rfl (by intro _ h;cases h) (by intro _ h;cases h) ⟨e,z,hs,ys,?_,o,es,ep,e,rest⟩,⟨a,o,kvs,rfl,za0,ek,r.kp (Kp.upd q rfl)⟩,fun b hb=>za4 hb⟩
  exact Paired.mapP rv fun p1 q1 ⟨h1,h2,h3⟩=>⟨h1,Kp.upd q rfl _ _ h2 rfl,h3⟩
 | _=>exact False.elim n
end PU
end
section
namespace PU
open PySem PySem.Spec PyProof.Rows L2
variable [TW]
structure Cn where
 X:Cx
 Ac:PX->Hp->Prop
def SlOk (K:PySem.W.Frag) (H:Hp) (x:Option (Option V)):Sl->Prop
 | .no=>True
 | .val p=>∃ v,x=some (some v)/\Rep K H p v
 | .own p=>∃ a,x=some (some (.ref a))/\zfm K H a p
def View (K:PySem.W.Frag) (H:Hp) (σ:L2.St) (ρ:PSt):Prop:=∀ (i:Nat) (l:Sl),ρ[i]?=some l->SlOk K H σ[i]? l
theorem SlOk.same {K:PySem.W.Frag} {H H':Hp} {x:Option (Option V)} {l:Sl} (h:SlOk K H x l) (s:Same H H'):SlOk K H' x l:=by
 cases l with
 | no=>exact trivial
 | val p=>obtain ⟨v,e,r⟩:=h;exact ⟨v,e,r.same s⟩
 | own p=>obtain ⟨a,e,r⟩:=h;exact ⟨a,e,r.same s⟩
theorem View.same {K:PySem.W.Frag} {H H':Hp} {σ:L2.St} {ρ:PSt} (h:View K H σ ρ) (s:Same H H'):View K H' σ ρ:=fun i l e=>(h i l e).same s
def RQ (C:Cn) (H:Hp) {α:Type} (r:R α) (k:α->Prop):Prop :=
 match r with
 | .ok a=>k a
 | .er x=>∀ H',Same H H'->C.Ac x H'
 | .no=>False
section
variable {C : Cn} {H H' : Hp} {α β : Type} {r : R α} {k k' : α → Prop}
theorem RQ.imp (h:RQ C H r k) (f:∀ a,r=.ok a->k a->k' a):RQ C H r k':=by
 cases r with
 | ok a=>exact f a rfl h
 | er x=>exact h
 | no=>exact h
theorem RQ.same (h:RQ C H r k) (s:Same H H'):RQ C H' r k:=by
 cases r with
 | ok a=>exact h
 | er x=>exact fun H2 s2=>h H2 (s.trans s2)
 | no=>exact h
theorem RQ.bind {f:α->R β} {m:β->Prop} (h:RQ C H (r >>= f) m):RQ C H r fun a=>RQ C H (f a) m:=by
 cases r <;> exact h
theorem RQ.ofO {o:Option α} (h:RQ C H (R.ofO o) k):∃ a,o=some a/\k a:=by
 cases o with
 | none=>exact False.elim h
 | some a=>exact ⟨a,rfl,h⟩
end
def tV (C:Cn) (f:PSt->R PV):TE:=fun σ H Q=>∃ ρ,View C.X.K H σ ρ/\RQ C H (f ρ) fun p=>∀ v H',Same H H'->Rep C.X.K H' p v->Q v H'
def tO (C:Cn) (f:PSt->R PV):TE:=fun σ H Q=>∃ ρ,View C.X.K H σ ρ/\RQ C H (f ρ) fun p=>∀ v H',Same H H'->RepO C.X.K H' p v->Q v H'
def tN (C:Cn) (f:PSt->R PV):TE:=fun σ H Q=>∃ ρ,View C.X.K H σ ρ/\RQ C H (f ρ) fun p=>∀ a H',Same H H'->H a=none->zfm C.X.K H' a p->Q (.ref a) H'
def tAs (C:Cn) (f:PSt->R (List PV)):TA:=fun σ H Q=>∃ ρ,View C.X.K H σ ρ/\RQ C H (f ρ) fun ps=>∀ vs H',Same H H'->Reps C.X.K H' ps vs->Q vs H'
def tBl (C:Cn) (f:PSt->R Bool):TT:=fun σ H Q=>∃ ρ,View C.X.K H σ ρ/\RQ C H (f ρ) fun b=>∀ H',Same H H'->Q b H'
def EV (C:Cn) (e:Expr) (f:PSt->R PV):Prop:=PE C.X e (tV C f)
def EO (C:Cn) (e:Expr) (f:PSt->R PV):Prop:=PE C.X e (tO C f)
def EN (C:Cn) (e:Expr) (f:PSt->R PV):Prop:=PE C.X e (tN C f)
def EA (C:Cn) (es:List Expr) (f:PSt->R (List PV)):Prop:=PA C.X es (tAs C f)
def ET (C:Cn) (e:Expr) (f:PSt->R Bool):Prop:=PT C.X e (tBl C f)
def EW (C:Cn) (e:Expr) (f:PSt->R Bool):Prop:=PW C.X e (tBl C f)
section
variable {C : Cn} {e a b c : Expr} {es : List Expr} {f fa fb fc : PSt → R PV} {fs : PSt → R (List PV)} {pos : Pos}
theorem EV.o (h:EV C e f):EO C e f:=fun pins s σ H Q I ⟨ρ,vw,q⟩=>h pins s σ H Q I ⟨ρ,vw,q.imp fun _ _ k v H' sm r=>k v H' sm r.o⟩
theorem EN.o (h:EN C e f):EO C e f:=fun pins s σ H Q I ⟨ρ,vw,q⟩=>h pins s σ H Q I ⟨ρ,vw,q.imp fun _ _ k a H' sm _ r=>k (.ref a) H' sm r.o⟩
theorem EN.v (h:EN C e f):EV C e f:=by
 intro pins s σ H Q I ⟨ρ,vw,q⟩
 cases hf:f ρ with
 | ok p =>
  rw [hf] at q
  refine thn (h pins s σ H (fun v H'=>∃ a,v=.ref a/\Same H H'/\H a=none/\zfm C.X.K H' a p) I ⟨ρ,vw,by rw [hf];exact fun a H' sm n w=>⟨a,rfl,sm,n,w⟩⟩) fun u s' ⟨v,H',I',rv,a,ev,sm,na,w⟩=>?_
  obtain ⟨H2,I2,rp,oth⟩:=I'.frz w
  subst ev
  refine ⟨.ref a,H2,I2,rv,q _ H2 (fun b o eb=>?_) rp⟩
  rw [oth b (zbi eb na)]
  exact sm b o eb
 | er x =>
  rw [hf] at q
  exact h pins s σ H Q I ⟨ρ,vw,by rw [hf];exact q⟩
 | no =>
  rw [hf] at q
  exact False.elim q
theorem ev_var (i:Nat) {x:Str} (hN:C.X.N[i]?=some x) (hv:Vis C.X.env.scope x) (hd:(x == ("__debug__":Str))=false:=by decide) (hcd:(x == ("__classdict__":Str))=false:=by decide):EV C (.Name x pos) (getV i):=by
 intro pins s σ H Q I ⟨ρ,vw,q⟩
 unfold getV at q
 split at q
 ·rename_i p e
  obtain ⟨v,ev,r⟩:=vw i _ e
  exact zj2 hN hv hd hcd pins s σ H Q I ⟨v,ev,q v H (Same.refl H) r⟩
 ·exact False.elim q
theorem eo_var (i:Nat) {x:Str} (hN:C.X.N[i]?=some x) (hv:Vis C.X.env.scope x) (hd:(x == ("__debug__":Str))=false:=by decide) (hcd:(x == ("__classdict__":Str))=false:=by decide):EO C (.Name x pos) (getO i):=by
 intro pins s σ H Q I ⟨ρ,vw,q⟩
 unfold getO at q
 split at q
 ·rename_i p e
  obtain ⟨v,ev,r⟩:=vw i _ e
  exact zj2 hN hv hd hcd pins s σ H Q I ⟨v,ev,q v H (Same.refl H) r.o⟩
 ·rename_i p e
  obtain ⟨v,ev,r⟩:=vw i _ e
  exact zj2 hN hv hd hcd pins s σ H Q I ⟨_,ev,q _ H (Same.refl H) r.o⟩
 ·exact False.elim q
theorem zab {i j}:EV C (.Constant (.int i) j pos) (kI i):=fun pins s σ H Q I ⟨_,_,q⟩=>zza pins s σ H Q I (q _ H (Same.refl H) rfl)
theorem zuj {i j}:EV C (.Constant (.bool i) j pos) (kB i):=fun pins s σ H Q I ⟨_,_,q⟩=>pe_bl pins s σ H Q I (q _ H (Same.refl H) rfl)
theorem zla {j}:EV C (.Constant .none j pos) kN:=fun pins s σ H Q I ⟨_,_,q⟩=>zy8 pins s σ H Q I (q _ H (Same.refl H) rfl)
theorem zai {x j}:EV C (.Constant (.str x) j pos) (kS x):=fun pins s σ H Q I ⟨_,_,q⟩=>zy7 pins s σ H Q I (q _ H (Same.refl H) rfl)
theorem zxd {x:Str} {v:V} {u:Value} {p:PV} (hg:Gl C.X x) (hm:C.X.mg x=some u) (r:RelV v u) (rp:∀ H,Rep C.X.K H p v) (hd:(x == ("__debug__":Str))=false:=by decide):EV C (.Name x pos) (kP p) :=
 fun pins s σ H Q I ⟨_,_,q⟩=>zwo hg hm r hd pins s σ H Q I (q _ H (Same.refl H) (rp H))
theorem zag:EA C [] nilA:=fun pos pins s σ H Q I ⟨_,_,q⟩=>zhc pos pins s σ H Q I (q [] H (Same.refl H) Reps.nil)
theorem zaa (ha:EV C e f) (hr:EA C es fs) (hs:starEach (e::es) C.X.env=(false,eval e C.X.env)::starEach es C.X.env:=by exact zfp rfl):EA C (e::es) (zac f fs):=by
 intro pos pins s σ H Q I ⟨ρ,vw,q⟩
 refine zde ha hr hs pos pins s σ H Q I ⟨ρ,vw,q.bind.imp fun p _ k v H1 s1 r1=>⟨ρ,vw.same s1,(k.bind.same s1).imp fun ps _ k2 vs H2 s2 r2=>?_⟩⟩
 exact k2 (v::vs) H2 (s1.trans s2) (Reps.cons (r1.same s2) r2)
def tA1 (C:Cn) (f:PSt->R PV):TA:=fun σ H Q=>∃ ρ,View C.X.K H σ ρ/\RQ C H (f ρ) fun p=>∀ v H',Same H H'->RepO C.X.K H' p v->Q [v] H'
theorem zo3 (ha:EO C e f) (hs:starEach [e] C.X.env=[(false,eval e C.X.env)]:=by exact zcm rfl):PA C.X [e] (tA1 C f):=by
 intro pos pins s σ H Q I ⟨ρ,vw,q⟩
 exact zde ha zhc hs pos pins s σ H Q I ⟨ρ,vw,q⟩
theorem Same.new {H:Hp} {a:Addr} {o:HO} (h:H a=none):Same H (upd H a o):=fun b u e=>by
 rw [za4 (zbi e h)]
 exact e
theorem zj8 {C:Cn} {H:Hp} {ps:List PV} {β:Type} {g:List PV->R β} {k:β->Prop} (h:RQ C H (zhf ps >>= g) k):ps.length<=sizeLine/\RQ C H (g ps) k:=by
 unfold zhf at h
 by_cases hz:ps.length<=16777216
 ·rw [if_pos hz] at h
  exact ⟨by rw [sizeLine_eq];exact hz,h⟩
 ·rw [if_neg hz] at h
  exact False.elim h
theorem za9 {k} (h:EA C es fs):EV C (.Tuple es k pos) (tupF fs):=by
 intro pins s σ H Q I ⟨ρ,vw,q⟩
 refine zy6 h pins s σ H Q I ⟨ρ,vw,q.bind.imp fun ps _ k vs H1 s1 r1=>?_⟩
 obtain ⟨z,k⟩:=zj8 k
 refine ⟨by rw [← r1.length];exact z,fun p hp=>?_⟩
 exact k _ _ (s1.trans (Same.new hp)) ⟨p,vs,rfl,.inl (.inl za0),r1.same (Same.new hp)⟩
theorem zdk (h:EA C es fs):EN C (.List es pos) (lstF fs):=by
 intro pins s σ H Q I ⟨ρ,vw,q⟩
 refine zy9 h pins s σ H Q I ⟨ρ,vw,q.bind.imp fun ps _ k vs H1 s1 r1=>?_⟩
 obtain ⟨z,k⟩:=zj8 k
 refine ⟨by rw [← r1.length];exact z,fun p hp=>?_⟩
 exact k p _ (s1.trans (Same.new hp)) (s1.free hp) ⟨vs,za0,r1.same (Same.new hp)⟩
def rP (K:PySem.W.Frag) (g:PV->PV->Option PV):R2:=fun v u H Q=>∃ p q z,RepO K H p v/\RepO K H q u/\g p q=some z/\∀ w H',Same H H'->Rep K H' z w->Q w H'
theorem t2 {σ:L2.St} {H:Hp} {Q:VK} {ρ:PSt} {g:PV->PV->Option PV} {r:R2} (vw:View C.X.K H σ ρ) (q:RQ C H (bin2 fa fb g ρ) fun p=>∀ v H',Same H H'->Rep C.X.K H' p v->Q v H')
  (hr:∀ v u H' Q',rP C.X.K g v u H' Q'->r v u H' Q'):tOp r (tO C fa) (tO C fb) σ H Q:=by
 refine ⟨ρ,vw,q.bind.imp fun p _ k v H1 s1 r1=>⟨ρ,vw.same s1,(k.bind.same s1).imp fun p2 _ k2 u H2 s2 r2=>?_⟩⟩
 obtain ⟨z,ez,k3⟩:=k2.ofO
 exact hr _ _ _ _ ⟨p,p2,z,r1.same s2,r2,ez,fun w H3 s3 r3=>k3 w H3 ((s1.trans s2).trans s3) r3⟩
theorem zal {op:Operator} {g:PV->PV->Option PV} (ho:OpR C.X (binaryOp op) (rP C.X.K g)) (ha:EO C a fa) (hb:EO C b fb):EV C (.BinOp a op b pos) (bin2 fa fb g):=by
 intro pins s σ H Q I ⟨ρ,vw,q⟩
 exact pe_op ho ha hb pins s σ H Q I (t2 vw q fun _ _ _ _ h=>h)
theorem zsa {op:CmpOp} {g:PV->PV->Option PV} (ho:OpR C.X (compareOp op) (rP C.X.K g)) (ha:EO C a fa) (hb:EO C b fb) (hm:behindInMarks op b=false):EV C (.Compare a [op] [b] pos) (bin2 fa fb g):=by
 intro pins s σ H Q I ⟨ρ,vw,q⟩
 exact zwq ho ha hb hm pins s σ H Q I (t2 vw q fun _ _ _ _ h=>h)
theorem zah {g:PV->PV->Option PV} (ho:IxR C.X (rP C.X.K g)) (ha:EO C a fa) (hb:EO C b fb) (hs:zsx b):EV C (.Subscript a b pos) (bin2 fa fb g):=by
 intro pins s σ H Q I ⟨ρ,vw,q⟩
 exact pe_ix ho ha hb hs pins s σ H Q I (t2 vw q fun _ _ _ _ h=>h)
end
end PU
end
section
namespace PU
open PySem PySem.Spec PyProof.Rows L2
variable [TW]
section
variable {X : Cx} {pins : List (Addr × Obj)} {σ : L2.St} {H : Hp} {s : Shared}
theorem DkR.at {a:Addr} {kvs:List (Key × V)} (hw:X.w=TW.w) (I:Inv X pins σ H s) (h:DkR X.K H a kvs) :
  kvs.length<=sizeLine/\(a == sysModules)=false/\∃ vs,KV kvs vs/\s.heap.DictOf (za2 X.prog X.w) a vs:=by
 rcases h with h | h
 ·exact dk_rd I.hok h
 ·exact ⟨h.1,h.2.1,h.at _ _ hw _ I.kIn⟩
theorem zwx {ys:List V} {its:List Value} {ps:List PV} (I:Inv X pins σ H s) (hv:Vals ys its) (hz:ys.length<=sizeLine) (hr:Reps X.K H ps ys) (t':Nat) :
  ∃ H',Inv X pins σ H' { s with heap:=s.heap.push { cls:=.type "list",data:=.seq its.toArray },toks:=t' }/\Same H H'/\Rep X.K H' (.lst ps) (.ref s.heap.objs.size):=by
 have I1:=I.lnew (t':=t') hv hz
 have nf:H s.heap.objs.size=none:=I.fresh
 obtain ⟨H',I2,rp,oth⟩:=L2.Inv.frz (a:=s.heap.objs.size) (p:=.lst ps) I1 ⟨ys,za0,hr.same (Same.new nf)⟩
 refine ⟨H',I2,fun b o e=>?_,rp⟩
 have hb:=zbi e nf
 rw [oth b hb,za4 hb]
 exact e
theorem RepO.lst_inv {K:PySem.W.Frag} {H:Hp} {ps:List PV} {v:V} (h:RepO K H (.lst ps) v):∃ a xs,v=.ref a/\SqO K H a xs/\Reps K H ps xs:=h
theorem RepO.tup_inv {K:PySem.W.Frag} {H:Hp} {ps:List PV} {v:V} (h:RepO K H (.tup ps) v):∃ a xs,v=.ref a/\SqT K H a xs/\Reps K H ps xs:=h
end
theorem zun {prog:Program} {w:World} {A:Around} {E:Value->Shared->Prop} {s:Shared} {t b:Addr} {vs ws:List Value} {Q:Value->Shared->Prop} (ht:IsTup s.heap t vs.toArray) (hb:IsTup s.heap b ws.toArray)
  (h0:vs=[]->Q (.ref b) s) (h1:ws=[]->Q (.ref t) s) (h2:Q (.ref s.heap.objs.size) { s with heap:=s.heap.push { cls:=.type "tuple",data:=.seq (vs++ws).toArray } })
  (hsz:vs.length + ws.length<=sizeLine):wpAny (model prog w) A (binaryOp .Add (.ref t) (.ref b)) Q E s:=by
 obtain ⟨⟨cls,dd,data,sl⟩,ho,hc,n,hd⟩:=id ht
 obtain ⟨⟨cls2,dd2,data2,sl2⟩,ho2,hc2,n2,hd2⟩:=id hb
 simp only at hc hd hc2 hd2
 subst hc hd hc2 hd2
 have e:vs.toArray++ws.toArray=(vs++ws).toArray:=by simp
 by_cases hv:vs=[]
 ·exact concat_meets ⟨_,ho,rfl⟩ ⟨_,ho2,rfl⟩ noFill_tuple_add seq_tuple_add PySem.F.slot_tuple_add PySem.F.entry_tuple_add (PySem.F.args_tuple_add_2 _ _)
   (tuple_addW0 t b vs.toArray ws.toArray n n2 dd dd2 sl sl2 (by simp [hv])) ⟨ho,ho2,h0 hv⟩
 ·by_cases hw:ws=[]
  ·exact concat_meets ⟨_,ho,rfl⟩ ⟨_,ho2,rfl⟩ noFill_tuple_add seq_tuple_add PySem.F.slot_tuple_add PySem.F.entry_tuple_add (PySem.F.args_tuple_add_2 _ _)
    (tuple_addW1 t b vs.toArray ws.toArray n n2 dd dd2 sl sl2 (by simpa using hv) (by simp [hw])) ⟨ho,ho2,h1 hw⟩
  ·refine concat_meets ⟨_,ho,rfl⟩ ⟨_,ho2,rfl⟩ noFill_tuple_add seq_tuple_add PySem.F.slot_tuple_add PySem.F.entry_tuple_add (PySem.F.args_tuple_add_2 _ _)
    (tuple_addW2 t b vs.toArray ws.toArray n n2 dd dd2 sl sl2 (by simpa using hv) (by simpa using hw) (by rw [List.size_toArray,List.size_toArray];exact hsz)) ⟨ho,ho2,?_⟩
   rw [e]
   exact h2
section
variable {X : Cx}
theorem zmh {f:Value->Value->Sem Value} {g:PV->PV->Option PV} {r:R2} (h:OpR X f r)
  (hg:∀ (p q z:PV),g p q=some z->∃ i j,p=.int i/\q=.int j/\∃ w:V,(∀ K H,Rep K H z w)/\∀ H Q,Q w H->r (.int i) (.int j) H Q):OpR X f (rP X.K g):=by
 intro pins s σ H x y v u Q I rx ry ⟨p,q,z,hp,hq,e,k⟩
 obtain ⟨i,j,rfl,rfl,w,hw,hr⟩:=hg p q z e
 cases (show x=.int i from hp)
 cases (show y=.int j from hq)
 exact h pins s σ H _ _ v u Q I rx ry (hr H Q (k w H (Same.refl H) (hw _ _)))
theorem opSub:OpR X (binaryOp .Sub) (rP X.K gSub):=zmh op_sub fun p q z e=>by
 unfold gSub at e
 split at e
 ·rename_i i j
  cases e
  exact ⟨i,j,rfl,rfl,_,fun _ _=>rfl,fun H Q q=>⟨i,j,rfl,rfl,q⟩⟩
 ·cases e
theorem zmo:OpR X (binaryOp .Mult) (rP X.K gMul):=zmh op_mul fun p q z e=>by
 unfold gMul at e
 split at e
 ·rename_i i j
  split at e
  ·rename_i hc
   cases e
   exact ⟨i,j,rfl,rfl,_,fun _ _=>rfl,fun H Q q=>⟨i,j,rfl,rfl,hc.imp (fun h=>⟨by omega,by omega⟩) (fun h=>⟨by omega,by omega⟩),q⟩⟩
  ·cases e
 ·cases e
theorem zj3:OpR X (binaryOp .FloorDiv) (rP X.K gDiv):=zmh zws fun p q z e=>by
 unfold gDiv at e
 split at e
 ·rename_i i j
  split at e
  ·rename_i hc
   cases e
   exact ⟨i,j,rfl,rfl,_,fun _ _=>rfl,fun H Q q=>⟨i,j,rfl,rfl,hc,q⟩⟩
  ·cases e
 ·cases e
theorem zck:OpR X (binaryOp .Mod) (rP X.K gMod):=zmh op_mod fun p q z e=>by
 unfold gMod at e
 split at e
 ·rename_i i j
  split at e
  ·rename_i hc
   cases e
   exact ⟨i,j,rfl,rfl,_,fun _ _=>rfl,fun H Q q=>⟨i,j,rfl,rfl,hc,q⟩⟩
  ·cases e
 ·cases e
theorem zcd:OpR X (binaryOp .Add) (rP X.K gAdd):=by
 intro pins s σ H x y v u Q I rx ry ⟨p,q,z,hp,hq,e,k⟩
 have hs:=sizeLine_eq
 unfold gAdd at e
 split at e
 ·rename_i i j
  cases e
  cases (show x=.int i from hp)
  cases (show y=.int j from hq)
  exact op_add pins s σ H _ _ v u Q I rx ry ⟨i,j,rfl,rfl,k _ H (Same.refl H) rfl⟩
 ·rename_i i j
  split at e
  ·rename_i hc
   cases e
   cases (show x=.str i from hp)
   cases (show y=.str j from hq)
   exact zpt pins s σ H _ _ v u Q I rx ry ⟨i,j,rfl,rfl,by omega,k _ H (Same.refl H) rfl⟩
  ·cases e
 ·rename_i ps qs
  split at e
  ·rename_i hc
   cases e
   obtain ⟨a,xs,rfl,hx,r1⟩:=hp
   obtain ⟨b,ys,rfl,hy,r2⟩:=hq
   cases rx
   cases ry
   obtain ⟨hz,its,n,rv,e1⟩:=hx.is I
   obtain ⟨hz2,its2,n2,rv2,e2⟩:=hy.is I
   have l1:=r1.length
   have l2:=r2.length
   have l3:=rv.length
   have l4:=rv2.length
   have ea:its.toArray++its2.toArray=(its++its2).toArray:=by simp
   refine PySem.P.add_list e1 e2 ?_ (by simp only [List.size_toArray];omega)
   rw [ea]
   obtain ⟨H',I',sm,rp⟩:=zwx I (rv.append rv2) (by rw [List.length_append];omega) (r1.append r2) s.toks
   exact ⟨.ref _,H',I',rfl,k _ H' sm rp⟩
  ·cases e
 ·rename_i ps qs
  split at e
  ·rename_i hc
   cases e
   obtain ⟨a,xs,rfl,hx,r1⟩:=RepO.tup_inv hp
   obtain ⟨b,ys,rfl,hy,r2⟩:=RepO.tup_inv hq
   cases rx
   cases ry
   obtain ⟨its,rv,pl,hz⟩:=I.tuple hx
   obtain ⟨its2,rv2,pl2,hz2⟩:=I.tuple hy
   have l1:=r1.length
   have l2:=r2.length
   have l3:=rv.length
   have l4:=rv2.length
   refine zun pl pl2 (fun z=>?_) (fun z=>?_) ?_ (by omega)
   ·subst z
    have:ps=[]:=List.eq_nil_of_length_eq_zero (by rw [l1,l3];rfl)
    subst this
    exact ⟨.ref b,H,I,rfl,k _ H (Same.refl H) hq⟩
   ·subst z
    have:qs=[]:=List.eq_nil_of_length_eq_zero (by rw [l2,l4];rfl)
    subst this
    rw [List.append_nil] at k
    exact ⟨.ref a,H,I,rfl,k _ H (Same.refl H) hp⟩
   ·have nf:H s.heap.objs.size=none:=I.fresh
    refine ⟨.ref s.heap.objs.size,_,I.laid (t':=s.toks) (o:=.tup (xs++ys)) (fun b ob q=>Heap.get?_push_of_some _ q) (Nat.le_refl _) ?_,rfl,k _ _ (Same.new nf) ⟨_,xs++ys,rfl,.inl (.inl za0),(r1.append r2).same (Same.new nf)⟩⟩
    exact ⟨by rw [List.length_append];omega,_,rv.append rv2,IsTp.new _ _⟩
  ·cases e
 ·cases e
end
end PU
end
section
namespace PU
open PySem PySem.Spec PyProof.Rows L2
variable [TW]
structure StOk (K:PySem.W.Frag) (B:Hp × Hp) (H:Hp) (σ:L2.St) (ρ:PSt):Prop where
 len:ρ.length=σ.length
 same:Same B.1 H
 kp:Kp B.2 H
 vw:View K H σ ρ
 fresh:∀ (i:Nat) (p:PV) (a:Addr),ρ[i]?=some (.own p)->σ[i]?=some (some (.ref a))->B.1 a=none
 apart:∀ (i j:Nat) (p q:PV) (a:Addr),ρ[i]?=some (.own p)->ρ[j]?=some (.own q)->σ[i]?=some (some (.ref a))->σ[j]?=some (some (.ref a))->i=j
section
variable {K : PySem.W.Frag} {B : Hp × Hp} {H H' : Hp} {σ : L2.St} {ρ : PSt} {i : Nat} {p q : PV} {v : V} {a : Addr}
theorem StOk.grow (S:StOk K B H σ ρ) (s:Same H H'):StOk K B H' σ ρ:=⟨S.len,S.same.trans s,S.kp.trans (Same.kp s),S.vw.same s,S.fresh,S.apart⟩
theorem zdl {α:Type} {l:List α} {i j:Nat} {x y:α} (h:(l.set i x)[j]?=some y):(j=i/\y=x/\i < l.length)\/(j≠i/\l[j]?=some y):=by
 rw [List.getElem?_set] at h
 by_cases e:i=j
 ·subst e
  rw [if_pos rfl] at h
  split at h
  ·rename_i hl
   cases h
   exact .inl ⟨rfl,rfl,hl⟩
  ·cases h
 ·rw [if_neg e] at h
  exact .inr ⟨fun z=>e z.symm,h⟩
theorem zbs {α:Type} {l:List α} {i j:Nat} {x:α} (h:j≠i):(l.set i x)[j]?=l[j]?:=by
 rw [List.getElem?_set,if_neg fun z=>h z.symm]
theorem zeu {α:Type} {l:List α} {i:Nat} {x:α} (h:i < l.length):(l.set i x)[i]?=some x:=by
 rw [List.getElem?_set,if_pos rfl,if_pos h]
theorem StOk.setV (S:StOk K B H σ ρ) (r:Rep K H p v):StOk K B H (σ.set i (some v)) (ρ.set i (.val p)):=by
 refine ⟨by simp [S.len],S.same,S.kp,fun j l e=>?_,fun j q b e f=>?_,fun j k q q' b e1 e2 f1 f2=>?_⟩
 ·rcases zdl e with ⟨rfl,rfl,hl⟩ | ⟨hj,e⟩
  ·exact ⟨v,zeu (by rw [← S.len];exact hl),r⟩
  ·rw [zbs hj]
   exact S.vw j l e
 ·rcases zdl e with ⟨_,z,_⟩ | ⟨hj,e⟩
  ·cases z
  ·rw [zbs hj] at f
   exact S.fresh j q b e f
 ·rcases zdl e1 with ⟨_,z,_⟩ | ⟨hj,e1⟩
  ·cases z
  ·rcases zdl e2 with ⟨_,z,_⟩ | ⟨hk,e2⟩
   ·cases z
   ·rw [zbs hj] at f1
    rw [zbs hk] at f2
    exact S.apart j k q q' b e1 e2 f1 f2
theorem StOk.setN (S:StOk K B H σ ρ) (s:Same H H') (n:H a=none) (r:zfm K H' a p):StOk K B H' (σ.set i (some (.ref a))) (ρ.set i (.own p)):=by
 have other:∀ (j:Nat) (q:PV),ρ[j]?=some (.own q)->σ[j]?≠some (some (.ref a)):=fun j q e f=>by
  obtain ⟨b,e2,w⟩:=S.vw j _ e
  rw [f] at e2
  cases e2
  cases q with
  | lst ps=>obtain ⟨_,w,_⟩:=w;rw [n] at w;cases w
  | dct ks ps=>obtain ⟨_,w,_⟩:=w;rw [n] at w;cases w
  | dtt ks ps=>obtain ⟨_,w,_⟩:=w;rw [n] at w;cases w
  | _=>exact w
 refine ⟨by simp [S.len],S.same.trans s,S.kp.trans (Same.kp s),fun j l e=>?_,fun j q b e f=>?_,fun j k q q' b e1 e2 f1 f2=>?_⟩
 ·rcases zdl e with ⟨rfl,rfl,hl⟩ | ⟨hj,e⟩
  ·exact ⟨a,zeu (by rw [← S.len];exact hl),r⟩
  ·rw [zbs hj]
   exact (S.vw j l e).same s
 ·rcases zdl e with ⟨rfl,_,hl⟩ | ⟨hj,e⟩
  ·rw [zeu (by rw [← S.len];exact hl)] at f
   cases f
   exact S.same.free n
  ·rw [zbs hj] at f
   exact S.fresh j q b e f
 ·rcases zdl e1 with ⟨h1,_,hl⟩ | ⟨hj,d1⟩
  ·rcases zdl e2 with ⟨h2,_,_⟩ | ⟨hk,d2⟩
   ·rw [h1,h2]
   ·subst h1
    rw [zeu (by rw [← S.len];exact hl)] at f1
    cases f1
    rw [zbs hk] at f2
    exact absurd f2 (other k q' d2)
  ·rcases zdl e2 with ⟨h2,_,hl⟩ | ⟨hk,d2⟩
   ·subst h2
    rw [zeu (by rw [← S.len];exact hl)] at f2
    cases f2
    rw [zbs hj] at f1
    exact absurd f1 (other j q d1)
   ·rw [zbs hj] at f1
    rw [zbs hk] at f2
    exact S.apart j k q q' b d1 d2 f1 f2
theorem zfm.obj (h:zfm K H a p):∃ u,H a=some u/\isFz u=false:=by
 cases p with
 | lst ps=>obtain ⟨_,w,_⟩:=h;exact ⟨_,w,rfl⟩
 | dct ks ps=>obtain ⟨_,w,_⟩:=h;exact ⟨_,w,rfl⟩
 | dtt ks ps=>obtain ⟨_,w,_⟩:=h;exact ⟨_,w,rfl⟩
 | _=>exact False.elim h
theorem zfm.kp (k:Kp H H') (e:H' a=H a) (h:zfm K H a p):zfm K H' a p:=by
 cases p with
 | lst ps=>obtain ⟨xs,w,r⟩:=h;exact ⟨xs,by rw [e];exact w,r.kp k⟩
 | dct ks ps=>obtain ⟨xs,w,z,r⟩:=h;exact ⟨xs,by rw [e];exact w,z,r.kp k⟩
 | dtt ks ps=>obtain ⟨xs,w,z,r⟩:=h;exact ⟨xs,by rw [e];exact w,z,r.kp k⟩
 | _=>exact h
theorem StOk.turn {l':Sl} (S:StOk K B H σ ρ) (e:ρ[i]?=some (.own p)) (f:σ[i]?=some (some (.ref a))) (oth:∀ b,b≠a->H' b=H b) (hl:SlOk K H' (some (some (.ref a))) l'):StOk K B H' σ (ρ.set i l'):=by
 obtain ⟨b,f2,w⟩:=S.vw i _ e
 rw [f] at f2
 cases f2
 obtain ⟨u,hu,nf⟩:=w.obj
 have fa:=S.fresh i p a e f
 have k:Kp H H':=fun b u' eb fb=>by
  have:b≠a:=fun z=>by
   subst z
   rw [hu] at eb
   cases eb
   rw [nf] at fb
   cases fb
  rw [oth b this]
  exact eb
 have ne:∀ (j:Nat) (q:PV) (b:Addr),j≠i->ρ[j]?=some (.own q)->σ[j]?=some (some (.ref b))->b≠a:=fun j q b hj e2 f2 z=>by
  subst z
  exact hj (S.apart j i q p b e2 e f2 f)
 refine ⟨by simp [S.len],fun b o eb=>?_,S.kp.trans k,fun j l ej=>?_,fun j q b ej fj=>?_,fun j m q q' b e1 e2 f1 f2=>?_⟩
 ·rw [oth b (zbi eb fa)]
  exact S.same b o eb
 ·rcases zdl ej with ⟨rfl,rfl,hl2⟩ | ⟨hj,ej⟩
  ·rw [f]
   exact hl
  ·have:=S.vw j l ej
   cases l with
   | no=>exact trivial
   | val q=>obtain ⟨v,e1,r⟩:=this;exact ⟨v,e1,r.kp k⟩
   | own q =>
    obtain ⟨b,e1,r⟩:=this
    exact ⟨b,e1,r.kp k (oth b (ne j q b hj ej e1))⟩
 ·rcases zdl ej with ⟨rfl,_,_⟩ | ⟨hj,ej⟩
  ·rw [f] at fj
   cases fj
   exact fa
  ·exact S.fresh j q b ej fj
 ·have fix:∀ (j:Nat) (q:PV),(ρ.set i l')[j]?=some (.own q)->∃ q',ρ[j]?=some (.own q'):=fun j q ej=>by
   rcases zdl ej with ⟨rfl,_,_⟩ | ⟨hj,ej⟩
   ·exact ⟨p,e⟩
   ·exact ⟨q,ej⟩
  obtain ⟨q1,g1⟩:=fix j q e1
  obtain ⟨q2,g2⟩:=fix m q' e2
  exact S.apart j m q1 q2 b g1 g2 f1 f2
theorem StOk.rebase {B':Hp} (S:StOk K B H σ ρ) (k:Kp B' H):StOk K (B.1,B') H σ ρ:=⟨S.len,S.same,k,S.vw,S.fresh,S.apart⟩
end
def RS (C:Cn) (B:Hp × Hp) (D:Ends):R Fl->Prop
 | .ok (.next ρ)=>∀ σ H,StOk C.X.K B H σ ρ->D.nx σ H
 | .ok (.brk ρ)=>∀ σ H,StOk C.X.K B H σ ρ->D.bk σ H
 | .ok (.cont ρ)=>∀ σ H,StOk C.X.K B H σ ρ->D.ct σ H
 | .ok (.ret p)=>∀ v H,Same B.1 H->Rep C.X.K H p v->D.rt v H
 | .er x=>∀ H,Same B.1 H->C.Ac x H
 | .no=>False
def tS (C:Cn) (g:PSt->R Fl):TS:=fun D σ H=>∃ ρ B,StOk C.X.K B H σ ρ/\RS C B D (g ρ)
def SV (C:Cn) (st:Stmt) (g:PSt->R Fl):Prop:=PS C.X st (tS C g)
def SVs (C:Cn) (st:List Stmt) (g:PSt->R Fl):Prop:=PSs C.X st (tS C g)
section
variable {C : Cn} {B : Hp × Hp} {D : Ends} {H : Hp} {α : Type}
theorem RS.bind {r:R α} {g:α->R Fl} (h:RS C B D (r >>= g)) (s:Same B.1 H):RQ C H r fun a=>RS C B D (g a):=by
 cases r with
 | ok a=>exact h
 | er x=>exact fun H' s'=>h H' (s.trans s')
 | no=>exact h
theorem RS.ofO {o:Option α} {g:α->R Fl} (h:RS C B D (R.ofO o >>= g)):∃ a,o=some a/\RS C B D (g a):=by
 cases o with
 | none=>exact False.elim h
 | some a=>exact ⟨a,rfl,h⟩
end
section
variable {C : Cn} {st : Stmt} {sts a b body : List Stmt} {e tg iter c : Expr} {f fk : PSt → R PV} {g g' : PSt → R Fl} {pos : Pos} {t : PSt → R Bool}
theorem zaz:SVs C [] zb9:=fun pins s σ H D I ⟨ρ,B,S,h⟩=>zwg pins s σ H D I (h σ H S)
theorem zad (h1:SV C st g) (h2:SVs C sts g'):SVs C (st::sts) (seqF g g'):=by
 intro pins s σ H D I ⟨ρ,B,S,h⟩
 refine zog h1 h2 pins s σ H D I ⟨ρ,B,S,?_⟩
 unfold seqF at h
 cases hg:g ρ with
 | ok fl =>
  rw [hg] at h
  cases fl with
  | next ρ'=>exact fun σ' H' S'=>⟨ρ',B,S',h⟩
  | brk ρ'=>exact h
  | cont ρ'=>exact h
  | ret p=>exact h
 | er x=>rw [hg] at h;exact h
 | no=>rw [hg] at h;exact h
theorem zaf (h1:SV C st g):SVs C [st] g:=by
 intro pins s σ H D I ⟨ρ,B,S,h⟩
 exact znf h1 pins s σ H D I ⟨ρ,B,S,h⟩
theorem zar (he:EV C e f):SV C (.Return (some e) pos) (retF f):=by
 intro pins s σ H D I ⟨ρ,B,S,h⟩
 exact zqu he pins s σ H D I ⟨ρ,S.vw,(h.bind S.same).imp fun p _ k v H' s' r=>k v H' (S.same.trans s') r⟩
theorem zce (hc:ET C c t) (ha:SVs C a g) (hb:SVs C b g'):SV C (.If c a b pos) (ifF t g g'):=by
 intro pins s σ H D I ⟨ρ,B,S,h⟩
 refine ps_if hc ha hb pins s σ H D I ⟨ρ,S.vw,(h.bind S.same).imp fun k _ q H' s'=>?_⟩
 cases k with
 | true=>exact iteT ⟨ρ,B,S.grow s',q⟩
 | false=>exact iteF ⟨ρ,B,S.grow s',q⟩
theorem zap (i:Nat) {x:Str} {pos':Pos} (hN:C.X.N.Nodup) (hi:C.X.N[i]?=some x) (hx:Loc C.X.env.scope x) (he:EV C e f) (hs:swapsWith e (some (.Name x pos')) pos.line C.X.env=pure false:=by rfl)
  (hf:C.X.fn x=true\/C.X.env.scope.names.lookup x=some .local:=by first | exact .inl rfl | exact .inr rfl | assumption) :
  SV C (.Assign [.Name x pos'] e pos) (setF i f):=by
 intro pins s σ H D I ⟨ρ,B,S,h⟩
 exact zu5 hN hi hx he hs hf pins s σ H D I ⟨ρ,S.vw,(h.bind S.same).imp fun p _ k v H' s' r=>k _ H' ((S.grow s').setV r)⟩
theorem ze7 (i:Nat) {x:Str} {pos':Pos} (hN:C.X.N.Nodup) (hi:C.X.N[i]?=some x) (hx:Loc C.X.env.scope x) (he:EN C e f) (hs:swapsWith e (some (.Name x pos')) pos.line C.X.env=pure false:=by rfl)
  (hf:C.X.fn x=true\/C.X.env.scope.names.lookup x=some .local:=by first | exact .inl rfl | exact .inr rfl | assumption) :
  SV C (.Assign [.Name x pos'] e pos) (ownF i f):=by
 intro pins s σ H D I ⟨ρ,B,S,h⟩
 exact zu5 hN hi hx he hs hf pins s σ H D I ⟨ρ,S.vw,(h.bind S.same).imp fun p _ k a H' s' n r=>k _ H' (S.setN s' n r)⟩
theorem frz_st {pins:List (Addr × Obj)} {s:Shared} {σ:L2.St} {H:Hp} {B:Hp × Hp} {ρ:PSt} (i:Nat) (I:Inv C.X pins σ H s) (S:StOk C.X.K B H σ ρ):∃ H',Inv C.X pins σ H' s/\StOk C.X.K B H' σ (frzF i ρ):=by
 unfold frzF
 split
 ·rename_i p e
  obtain ⟨a,f,w⟩:=S.vw i _ e
  obtain ⟨H',I',rp,oth⟩:=L2.Inv.frz I w
  exact ⟨H',I',S.turn e f oth ⟨_,rfl,rp⟩⟩
 ·exact ⟨H,I,S⟩
theorem SV.frz (i:Nat) (h:SV C st g):SV C st (frzS i g):=by
 intro pins s σ H D I ⟨ρ,B,S,q⟩
 obtain ⟨H',I',S'⟩:=frz_st i I S
 exact h pins s σ H' D I' ⟨_,B,S',q⟩
def tTg (C:Cn) (h:PV->PSt->Option PSt):TG:=fun v σ H Q=>∃ ρ B p ρ',StOk C.X.K B H σ ρ/\Rep C.X.K H p v/\h p ρ=some ρ'/\∀ σ',StOk C.X.K B H σ' ρ'->Q σ' H
def TGt (C:Cn) (tg:Expr) (h:PV->PSt->Option PSt):Prop:=PG C.X tg (tTg C h)
def tTgs (C:Cn) (h:List PV->PSt->Option PSt):TGs:=fun vs σ H Q=>∃ ρ B ps ρ',StOk C.X.K B H σ ρ/\Reps C.X.K H ps vs/\h ps ρ=some ρ'/\∀ σ',StOk C.X.K B H σ' ρ'->Q σ' H
def TGts (C:Cn) (ts:List Expr) (h:List PV->PSt->Option PSt):Prop:=PGs C.X ts (tTgs C h)
theorem zat (i:Nat) {x:Str} (hN:C.X.N.Nodup) (hi:C.X.N[i]?=some x) (hx:Loc C.X.env.scope x) (hf:C.X.fn x=true\/C.X.env.scope.names.lookup x=some .local:=by first | exact .inl rfl | exact .inr rfl | assumption) :
  TGt C (.Name x pos) (zao i):=by
 intro pins s σ H v u Q I r ⟨ρ,B,p,ρ',S,rp,e,k⟩
 cases e
 exact zng hN hi hx hf pins s σ H v u Q I r (k _ (S.setV rp))
theorem zew:TGts C [] nilT:=by
 intro pins s σ H vs us Q I r ⟨ρ,B,ps,ρ',S,rp,e,k⟩
 cases ps with
 | nil=>cases e;cases rp;exact zqy pins s σ H _ us Q I r ⟨rfl,k _ S⟩
 | cons _ _=>cases e
theorem za1 {es:List Expr} {h:PV->PSt->Option PSt} {h':List PV->PSt->Option PSt} (h1:TGt C e h) (h2:TGts C es h') (hs:(assignEach (e::es) C.X.env).map (·.2)=assign e C.X.env::(assignEach es C.X.env).map (·.2):=by rfl):TGts C (e::es) (zau h h'):=by
 intro pins s σ H vs us Q I r ⟨ρ,B,ps,ρ',S,rp,ee,k⟩
 cases ps with
 | nil=>cases ee
 | cons p qs =>
  obtain ⟨x,xs,rfl,rp1,rp2⟩:=rp
  have ee:(h p ρ).bind (fun ρ1=>h' qs ρ1)=some ρ':=ee
  obtain ⟨ρ1,e1,e2⟩:=Option.bind_eq_some_iff.mp ee
  exact zoh h1 h2 hs pins s σ H _ us Q I r ⟨x,xs,rfl,ρ,B,p,ρ1,S,rp1,e1,fun σ1 S1=>⟨ρ1,B,qs,ρ',S1,rp2,e2,k⟩⟩
end
end PU
end
section
namespace PU
open PySem PySem.Spec PyProof.Rows L2
variable [TW]
section
variable {C : Cn} {st : Stmt} {sts a b body : List Stmt} {e tg iter c : Expr} {f fk : PSt → R PV} {g g' : PSt → R Fl} {pos : Pos} {t : PSt → R Bool}
theorem zgn {es:List Expr} {k n:Nat} {h:List PV->PSt->Option PSt} (hc:C.X.calm=true) (hh:TGts C es h)
  (hn:(assignEach es C.X.env).length=n:=by rfl) (hst:(assignEach es C.X.env).findIdx? (·.1)=none:=by rfl):TGt C (.Tuple es k pos) (tupT n h):=by
 intro pins s σ H v u Q I r ⟨ρ,B,p,ρ',S,rp,e,k⟩
 cases p with
 | tup ps =>
  have e:(if ps.length=n then h ps ρ else none)=some ρ':=e
  by_cases hl:ps.length=n
  ·rw [if_pos hl] at e
   obtain ⟨a,xs,rfl,hq,r1⟩:=rp
   exact zu6 hc hh hn hst pins s σ H _ u Q I r ⟨a,xs,rfl,hq,by rw [← r1.length];exact hl,ρ,B,ps,ρ',S,r1,e,k⟩
  ·rw [if_neg hl] at e
   cases e
 | _=>cases e
def ItP (K:PySem.W.Frag) (J:It) (H₁:Hp) (ps:List PV):Prop :=
 ∀ (i:Nat) (H:Hp),Kp H₁ H->(i=ps.length->J.stop i H)/\∀ p,ps[i]?=some p->J.go i H/\∀ x H',J.yld i H x H'->Same H H'/\Rep K H' p x
def tI (C:Cn) (f:PSt->R (List PV)):TI:=fun σ H Q=>∃ ρ,View C.X.K H σ ρ/\RQ C H (f ρ) fun ps=>∀ J H',Same H H'->ItP C.X.K J H' ps->Q J H'
def EI (C:Cn) (tg iter:Expr) (f:PSt->R (List PV)):Prop:=PI C.X tg iter (tI C f)
theorem zo4 {α:Type} {l:List α} {i:Nat} {x:α} (h:l[i]?=some x):l.drop i=x::l.drop (i + 1):=by
 obtain ⟨hl,e⟩:=List.getElem?_eq_some_iff.mp h
 rw [List.drop_eq_getElem_cons hl,e]
theorem zcf {fi:PSt->R (List PV)} {h:PV->PSt->Option PSt} (hp:PassesOwn (model C.X.prog C.X.w) C.X.A C.X.env C.X.xe) (hc:C.X.calm=true) (hi:EI C tg iter fi) (hg:TGt C tg h) (hb:SVs C body g)
  (hs:∀ x,foldedSetIterable iter C.X.env x=pure x:=by intro _;rfl):SV C (.For tg iter body [] pos) (forS fi h g):=by
 intro pins s σ H D I ⟨ρ,B,S,q⟩
 refine zy3 hp hc hi hg hb hs pins s σ H D I ⟨ρ,S.vw,(q.bind S.same).imp fun ps _ k J H1 s1 it=>?_⟩
 refine ⟨fun i m σ' H'=>∃ ρ',m=ps.length - i/\i<=ps.length/\StOk C.X.K (B.1,H1) H' σ' ρ'/\RS C B D (forF h g (ps.drop i) ρ'),⟨ps.length,ρ,rfl,Nat.zero_le _,(S.grow s1).rebase (Kp.refl H1),by simpa using k⟩,?_⟩
 rintro i m σ' H' ⟨ρ',rfl,hi',S',q'⟩
 have back:∀ {σ2:L2.St} {H2:Hp} {ρ2:PSt},StOk C.X.K (B.1,H1) H2 σ2 ρ2->StOk C.X.K B H2 σ2 ρ2:=fun {σ2 H2 ρ2} S2=>⟨S2.len,S2.same,(S.kp.trans (Same.kp s1)).trans S2.kp,S2.vw,S2.fresh,S2.apart⟩
 obtain ⟨stp,stepp⟩:=it i H' S'.kp
 by_cases hlt:i < ps.length
 ·have ei:ps[i]?=some ps[i]:=by simp [hlt]
  obtain ⟨go,yl⟩:=stepp _ ei
  rw [zo4 ei] at q'
  obtain ⟨ρ1,e1,q1⟩:=RS.ofO q'
  refine .inr ⟨go,fun σ2 H2=>∃ ρ2,StOk C.X.K (B.1,H1) H2 σ2 ρ2/\RS C B D (forF h g (ps.drop (i + 1)) ρ2),fun σ2 H2 ⟨ρ2,S2,r2⟩=>⟨ps.length - (i + 1),by omega,ρ2,rfl,hlt,S2,r2⟩,fun x H2 y=>?_⟩
  obtain ⟨s2,rp⟩:=yl x H2 y
  refine ⟨ρ',(B.1,H1),ps[i],ρ1,S'.grow s2,rp,e1,fun σ3 S3=>⟨ρ1,(B.1,H1),S3,?_⟩⟩
  cases hgr:g ρ1 with
  | ok fl =>
   rw [hgr] at q1
   cases fl with
   | next ρ2=>exact fun σ4 H4 S4=>⟨ρ2,S4,q1⟩
   | cont ρ2=>exact fun σ4 H4 S4=>⟨ρ2,S4,q1⟩
   | brk ρ2=>exact fun σ4 H4 S4=>q1 σ4 H4 (back S4)
   | ret p=>exact q1
  | er x=>rw [hgr] at q1;exact q1
  | no=>rw [hgr] at q1;exact q1
 ·have e:i=ps.length:=by omega
  subst e
  rw [List.drop_length] at q'
  exact .inl ⟨stp rfl,q' σ' H' (back S')⟩
end
end PU
end
section
namespace PU
open PySem PySem.Spec PyProof.Rows L2
variable [TW]
def spP (K:PySem.W.Frag) (n:Nat) (F:List PV->Option PV):Sp:=fun vs H Q _=>vs.length=n/\∃ ps p,Reps K H ps vs/\F ps=some p/\∀ v H',Same H H'->Rep K H' p v->Q v H'
structure PF (P:Program) (w:World) (K:PySem.W.Frag) (mg:Str->Option Value) (base:Heap) (k:Nat) (x:Str) (F:List PV->Option PV):Prop where
 ex:∃ (f:Addr) (fd:FuncData) (ps:List Str),FnOk P w K mg base CX0 k f fd ps (spP K ps.length F)/\mg x=some (.ref f)/\PySem.W.keepIn K (.ref f)=true/\Binds K fd ps []/\∀ qs p,F qs=some p->qs.length=ps.length
section
variable {C : Cn} {e : Expr} {es : List Expr} {fs : PSt → R (List PV)} {x : Str} {k : Nat} {F : List PV → Option PV} {p pos : Pos}
theorem zak (G:PF C.X.prog C.X.w C.X.K C.X.mg C.X.base k x F) (hr:Room k C.X.A) (hg:Gl C.X x) (ha:EA C (e::es) fs)
  (hdb:(x == ("__debug__":Str))=false:=by decide) (he:starEach (e::es) C.X.env=(false,eval e C.X.env)::starEach es C.X.env:=by exact zfp rfl) (hpl:(backTo pos (starEach es C.X.env)).any (·.1)=false:=by exact zoa rfl) :
  EV C (.Call (.Name x p) (e::es) [] pos) (zaw fs F):=by
 obtain ⟨f,fd,ps,a,b,c,d,l⟩:=G.ex
 intro pins s σ H Q I ⟨ρ,vw,q⟩
 refine zq0 (dvs:=[]) (ds:=[]) (E:=E0) a hr hg b c d .nil pass0 ha hdb he hpl pins s σ H Q I ⟨ρ,vw,q.bind.imp fun qs _ k vs H1 s1 r1=>?_⟩
 obtain ⟨z,ez,k⟩:=k.ofO
 rw [List.append_nil]
 exact ⟨by rw [← r1.length];exact l qs z ez,qs,z,r1,ez,fun v H' s' r'=>k v H' (s1.trans s') r'⟩
end
section
variable {P : Program} {w : World} {K : PySem.W.Frag} {mg : Str → Option Value} {base : Heap}
abbrev cnOf (P:Program) (w:World) (K:PySem.W.Frag) (mg:Str->Option Value) (base:Heap) (N:List Str) (qual:Str) (sc:Scope) (f:Addr) (cdv:Value) (A:Around) (outer:List Env) (s:Shared) (H:Hp) (E:XK):Cn :=
 ⟨(cxOf CX0 P w K mg base N qual sc f cdv A outer s H E).nox,fun _ _=>False⟩
theorem zu7 {ps:List PV} {n i:Nat} {p:PV} (e:(start n ps)[i]?=some (.own p)):False:=by
 unfold start at e
 by_cases hi:i < ps.length
 ·rw [List.getElem?_append_left (by simpa using hi),List.getElem?_map] at e
  cases h:ps[i]? with
  | none=>rw [h] at e;cases e
  | some p=>rw [h] at e;cases e
 ·rw [List.getElem?_append_right (by simpa using hi),List.getElem?_replicate] at e
  split at e <;> cases e
theorem zjl {K:PySem.W.Frag} {H:Hp} {N:List Str} {ps:List PV} {vs:List V} (r:Reps K H ps vs):StOk K (H,H) H (L2.start N vs) (start N.length ps):=by
 have hl:=r.length
 refine ⟨by simp [start,L2.start,hl],Same.refl H,Kp.refl H,fun i l e=>?_,fun i p a e f=>?_,fun i j p q a e1 e2 f1 f2=>?_⟩
 ·unfold start at e
  by_cases hi:i < ps.length
  ·rw [List.getElem?_append_left (by simpa using hi),List.getElem?_map] at e
   cases h:ps[i]? with
   | none=>rw [h] at e;cases e
   | some p =>
    rw [h] at e
    cases e
    obtain ⟨v,ev,rp⟩:=r.get h
    refine ⟨v,?_,rp⟩
    unfold L2.start
    rw [List.getElem?_append_left (by rw [List.length_map,← hl];exact hi),List.getElem?_map,ev]
    rfl
  ·rw [List.getElem?_append_right (by simpa using hi),List.getElem?_replicate] at e
   split at e
   ·cases e
    exact trivial
   ·cases e
 all_goals exfalso
 ·exact zu7 e
 ·exact zu7 e1
theorem zcq {x qual:Str} {st:Stmt} {f:Addr} {fd:FuncData} {N ps:List Str} {k:Nat} {g:PSt->R Fl} (F:Fun K x qual st f fd) (S:FnScope N ps (zae st)) (hm:mg x=some (.ref f)) (hb:Binds K fd ps [])
  (hbody:∀ (cdv:Value) (A:Around) (outer:List Env) (s:Shared) (H:Hp) (E:XK),Room k (A.deeper (envOfC qual (zae st) s.heap.objs.size f cdv))->SVs (cnOf P w K mg base N qual (zae st) f cdv A outer s H E) (zaq st) g) :
  PF P w K mg base (k + 1) x (runF ps.length N.length g):=by
 refine ⟨f,fd,ps,F.ok S (fun vs H Q E h=>h.1) (fun cdv A outer s H vs Q E hr h=>?_),hm,F.kp,hb,fun qs p h=>?_⟩
 ·obtain ⟨hl,qs,p,r,e,k⟩:=h
  refine ⟨_,hbody cdv A outer s H E hr,start N.length qs,(H,H),zjl r,?_⟩
  unfold runF at e
  rw [if_pos (by rw [r.length];exact hl)] at e
  cases hg:g (start N.length qs) with
  | ok fl =>
   rw [hg] at e
   cases fl with
   | next ρ=>cases e;exact fun σ H' S'=>k .non H' S'.same rfl
   | ret q=>cases e;exact fun v H' s' r'=>k v H' s' r'
   | brk ρ=>cases e
   | cont ρ=>cases e
  | er x=>rw [hg] at e;cases e
  | no=>rw [hg] at e;cases e
 ·unfold runF at h
  split at h
  ·rename_i hl;exact hl
  ·cases h
end
end PU
end
section
namespace PU
open PySem PySem.Spec PyProof.Rows L2
variable [TW]
def zgk (X:Cx) (N':List Str) (scope:Scope) (cl:List (Str × Addr)) (L:Addr) (s₂:Shared) (H₂:Hp) (fp:List Addr):Cx where
 prog:=X.prog
 w:=X.w
 K:=X.K
 mg:=X.mg
 base:=X.base
 A:=X.A
 N:=N'
 s₀:=s₂
 H₀:=H₂
 env:=compEnvC scope cl L X.env
 outer:=X.stack
 stack:=X.stack
 ex:=fp
 fn:=fun _=>false
 calm:=true
 pn:=[]
 xe:=fun _ _=>False
abbrev zii (C:Cn) (N':List Str) (scope:Scope) (cl:List (Str × Addr)) (L:Addr) (s₂:Shared) (H₂:Hp) (fp:List Addr):Cn:=⟨zgk C.X N' scope cl L s₂ H₂ fp,fun _ _=>False⟩
def tTc (C:Cn) (h:Tgt):TG:=fun v σ H Q=>∃ ρ p ρ',ρ.length=σ.length/\View C.X.K H σ ρ/\Rep C.X.K H p v/\h p ρ=some ρ'/\∀ σ',ρ'.length=σ'.length->View C.X.K H σ' ρ'->Q σ' H
def TCt (C:Cn) (tg:Expr) (h:Tgt):Prop:=PG C.X tg (tTc C h)
def tTcs (C:Cn) (h:Tgts):TGs:=fun vs σ H Q=>∃ ρ ps ρ',ρ.length=σ.length/\View C.X.K H σ ρ/\Reps C.X.K H ps vs/\h ps ρ=some ρ'/\∀ σ',ρ'.length=σ'.length->View C.X.K H σ' ρ'->Q σ' H
def TCts (C:Cn) (ts:List Expr) (h:Tgts):Prop:=PGs C.X ts (tTcs C h)
theorem View.setV {K:PySem.W.Frag} {H:Hp} {σ:L2.St} {ρ:PSt} {i:Nat} {p:PV} {v:V} (vw:View K H σ ρ) (hl:ρ.length=σ.length) (r:Rep K H p v):View K H (σ.set i (some v)) (ρ.set i (.val p)):=fun j l e=>by
 rcases zdl e with ⟨rfl,rfl,hl2⟩ | ⟨hj,e⟩
 ·exact ⟨v,zeu (by rw [← hl];exact hl2),r⟩
 ·rw [zbs hj]
  exact vw j l e
section
variable {C : Cn} {e : Expr} {pos : Pos}
theorem zhj (i:Nat) {x:Str} (hN:C.X.N.Nodup) (hi:C.X.N[i]?=some x) (hx:Loc C.X.env.scope x) (hf:C.X.fn x=true\/C.X.env.scope.names.lookup x=some .local:=by first | exact .inl rfl | exact .inr rfl | assumption) :
  TCt C (.Name x pos) (zao i):=by
 intro pins s σ H v u Q I r ⟨ρ,p,ρ',hl,vw,rp,e,k⟩
 cases e
 exact zng hN hi hx hf pins s σ H v u Q I r (k _ (by simp [hl]) (vw.setV hl rp))
theorem zql:TCts C [] nilT:=by
 intro pins s σ H vs us Q I r ⟨ρ,ps,ρ',hl,vw,rp,e,k⟩
 cases ps with
 | nil=>cases e;cases rp;exact zqy pins s σ H _ us Q I r ⟨rfl,k _ hl vw⟩
 | cons _ _=>cases e
theorem zjk {es:List Expr} {h:Tgt} {h':Tgts} (h1:TCt C e h) (h2:TCts C es h') (hs:(assignEach (e::es) C.X.env).map (·.2)=assign e C.X.env::(assignEach es C.X.env).map (·.2):=by rfl):TCts C (e::es) (zau h h'):=by
 intro pins s σ H vs us Q I r ⟨ρ,ps,ρ',hl,vw,rp,ee,k⟩
 cases ps with
 | nil=>cases ee
 | cons p qs =>
  obtain ⟨x,xs,rfl,rp1,rp2⟩:=rp
  have ee:(h p ρ).bind (fun ρ1=>h' qs ρ1)=some ρ':=ee
  obtain ⟨ρ1,e1,e2⟩:=Option.bind_eq_some_iff.mp ee
  exact zoh h1 h2 hs pins s σ H _ us Q I r ⟨x,xs,rfl,ρ,p,ρ1,hl,vw,rp1,e1,fun σ1 hl1 vw1=>⟨ρ1,qs,ρ',hl1,vw1,rp2,e2,k⟩⟩
theorem zuz {es:List Expr} {k n:Nat} {h:Tgts} (hc:C.X.calm=true) (hh:TCts C es h)
  (hn:(assignEach es C.X.env).length=n:=by rfl) (hst:(assignEach es C.X.env).findIdx? (·.1)=none:=by rfl):TCt C (.Tuple es k pos) (tupT n h):=by
 intro pins s σ H v u Q I r ⟨ρ,p,ρ',hl,vw,rp,e,k⟩
 cases p with
 | tup ps =>
  have e:(if ps.length=n then h ps ρ else none)=some ρ':=e
  by_cases hl2:ps.length=n
  ·rw [if_pos hl2] at e
   obtain ⟨a,xs,rfl,hq,r1⟩:=rp
   exact zu6 hc hh hn hst pins s σ H _ u Q I r ⟨a,xs,rfl,hq,by rw [← r1.length];exact hl2,ρ,ps,ρ',hl,vw,r1,e,k⟩
  ·rw [if_neg hl2] at e
   cases e
 | _=>cases e
end
def LowT (n:Nat) (h:Tgt):Prop:=∀ p ρ ρ1,h p ρ=some ρ1->ρ1.length=ρ.length/\∀ i,n<=i->ρ1[i]?=ρ[i]?
def zuu (n:Nat) (h:Tgts):Prop:=∀ p ρ ρ1,h p ρ=some ρ1->ρ1.length=ρ.length/\∀ i,n<=i->ρ1[i]?=ρ[i]?
theorem zga {n i:Nat} (h:i < n):LowT n (zao i):=fun p ρ ρ1 e=>by
 cases e
 exact ⟨by simp,fun j hj=>zbs (by omega)⟩
theorem zrb {n:Nat}:zuu n nilT:=fun ps ρ ρ1 e=>by
 cases ps with
 | nil=>cases e;exact ⟨rfl,fun _ _=>rfl⟩
 | cons _ _=>cases e
theorem zjo {n:Nat} {h:Tgt} {h':Tgts} (a:LowT n h) (b:zuu n h'):zuu n (zau h h'):=fun ps ρ ρ2 e=>by
 cases ps with
 | nil=>cases e
 | cons p qs =>
  have e:(h p ρ).bind (fun ρ1=>h' qs ρ1)=some ρ2:=e
  obtain ⟨ρ1,e1,e2⟩:=Option.bind_eq_some_iff.mp e
  obtain ⟨l1,g1⟩:=a p ρ ρ1 e1
  obtain ⟨l2,g2⟩:=b qs ρ1 ρ2 e2
  exact ⟨l2.trans l1,fun i hi=>(g2 i hi).trans (g1 i hi)⟩
theorem zra {n m:Nat} {h:Tgts} (a:zuu n h):LowT n (tupT m h):=fun p ρ ρ1 e=>by
 cases p with
 | tup ps =>
  have e:(if ps.length=m then h ps ρ else none)=some ρ1:=e
  split at e
  ·exact a ps ρ ρ1 e
  ·cases e
 | _=>cases e
def ETs (C:Cn) (ifs:List Expr) (t:PSt->R Bool):Prop:=(ifs=[]/\t=yesB)\/∃ c,ifs=[c]/\ET C c t
theorem znt {C:Cn}:ETs C [] yesB:=.inl ⟨rfl,rfl⟩
theorem zsb {C:Cn} {c:Expr} {t:PSt->R Bool} (h:ET C c t):ETs C [c] t:=.inr ⟨c,rfl,h⟩
def clOf (cells:List (Str × Addr)):List (Str × NameKind)->List (Str × Addr)->List (Str × Addr)
 | [],acc=>acc
 | (n,k)::r,acc=>if (k == .free)=true then (match cells.lookup n with
  | some c=>clOf cells r ((n,c)::acc)
  | none=>clOf cells r acc) else clOf cells r acc
theorem zg1 {scope:Scope} {env:Env} (h:∀ y∈scope.names,y.2=.free->∃ c,env.cells.lookup y.1=some c):closureFor scope env=pure (clOf env.cells scope.names []):=by
 have gen:∀ (l:List (Str × NameKind)) (acc:List (Str × Addr)),(∀ y∈l,y.2=.free->∃ c,env.cells.lookup y.1=some c) →
   (forIn l acc fun x r=>(match x with | (name,kind)=>if (kind == NameKind.free)=true then do let a<- cellOf env name;pure (ForInStep.yield ((name,a)::r)) else pure (ForInStep.yield r):Sem (ForInStep (List (Str × Addr)))))=pure (clOf env.cells l acc):=by
  intro l
  induction l with
  | nil=>intro acc _;rfl
  | cons y r ih =>
   intro acc hy
   obtain ⟨n,k⟩:=y
   rw [List.forIn_cons]
   have hr:=fun z hz=>hy z (List.mem_cons_of_mem _ hz)
   by_cases hk:(k == NameKind.free)=true
   ·obtain ⟨c,hc⟩:=hy (n,k) List.mem_cons_self (by simpa using hk)
    have hc:env.cells.lookup n=some c:=hc
    have e1:cellOf env n=pure c:=by unfold cellOf;rw [hc]
    simp only [hk,if_true,e1,clOf,hc]
    exact ih _ hr
   ·simp only [hk,if_false,clOf]
    exact ih _ hr
 have:=gen scope.names [] h
 have e:closureFor scope env=((forIn scope.names ([]:List (Str × Addr)) fun x r=>(match x with | (name,kind)=>if (kind == NameKind.free)=true then do let a<- cellOf env name;pure (ForInStep.yield ((name,a)::r)) else pure (ForInStep.yield r):Sem (ForInStep (List (Str × Addr))))) >>= fun cs=>pure cs):=rfl
 rw [e,this]
 rfl
theorem zdy {cells:List (Str × Addr)} {x:Str} {c:Addr}:∀ {l:List (Str × NameKind)} {acc:List (Str × Addr)},(clOf cells l acc).lookup x=some c->cells.lookup x=some c\/acc.lookup x=some c
 | [],acc,h=>.inr h
 | (n,k)::r,acc,h=>by
  unfold clOf at h
  split at h
  ·split at h
   ·rename_i d hd
    rcases zdy h with z | z
    ·exact .inl z
    ·rw [List.lookup_cons] at z
     by_cases e:(x == n)=true
     ·rw [e] at z
      cases z
      rw [eq_of_beq e]
      exact .inl hd
     ·simp only [Bool.not_eq_true] at e
      rw [e] at z
      exact .inr z
   ·exact zdy h
  ·exact zdy h
theorem zij {cells:List (Str × Addr)} {x:Str}:∀ {l:List (Str × NameKind)} {acc:List (Str × Addr)},(acc.lookup x).isSome=true->((clOf cells l acc).lookup x).isSome=true
 | [],acc,h=>h
 | (n,k)::r,acc,h=>by
  unfold clOf
  split
  ·split
   ·refine zij ?_
    rw [List.lookup_cons]
    split
    ·rfl
    ·exact h
   ·exact zij h
  ·exact zij h
theorem zo9 {cells:List (Str × Addr)} {x:Str} {c:Addr} (hc:cells.lookup x=some c):∀ {l:List (Str × NameKind)} {acc:List (Str × Addr)},(x,NameKind.free)∈l->(clOf cells l acc).lookup x=some c:=by
 have fin:∀ {l:List (Str × NameKind)} {acc:List (Str × Addr)},(∀ d,acc.lookup x=some d->d=c)->((clOf cells l acc).lookup x).isSome=true->(clOf cells l acc).lookup x=some c:=fun {l acc} ha h=>by
  obtain ⟨d,hd⟩:=Option.isSome_iff_exists.mp h
  rcases zdy hd with z | z
  ·rw [hc] at z;cases z;exact hd
  ·rw [hd,ha d z]
 intro l
 induction l with
 | nil=>intro acc h;cases h
 | cons y r ih =>
  intro acc h
  obtain ⟨n,k⟩:=y
  have rest:∀ acc,(x,NameKind.free)∈r->(clOf cells r acc).lookup x=some c:=fun acc hr=>ih hr
  rcases List.mem_cons.mp h with z | z
  ·cases z
   unfold clOf
   rw [if_pos (show (NameKind.free == NameKind.free)=true from rfl),hc]
   show (clOf cells r ((x,c)::acc)).lookup x=some c
   have hs:(((x,c)::acc).lookup x)=some c:=by rw [List.lookup_cons,beq_self_eq_true]
   exact fin (fun d hd=>by rw [hs] at hd;cases hd;rfl) (zij (by rw [hs];rfl))
  ·unfold clOf
   split
   ·split
    ·exact rest _ z
    ·exact rest _ z
   ·exact rest _ z
theorem zhe {env:Env} {x:Str}:∀ {names:List (Str × NameKind)},names.lookup x=some .free →
  (names.map fun (n,k)=>if (k == NameKind.free && env.scope.kind == .function && env.kindOf n == some .cell) then (n,NameKind.cell) else (n,k)).lookup x=some .cell ∨
  (names.map fun (n,k)=>if (k == NameKind.free && env.scope.kind == .function && env.kindOf n == some .cell) then (n,NameKind.cell) else (n,k)).lookup x=some .free
 | [],h=>by simp at h
 | (n,k)::r,h=>by
  have ih:=@zhe env x r
  cases hx:x == n with
  | true =>
   simp only [List.lookup_cons,hx] at h
   cases h
   by_cases hc:(NameKind.free == NameKind.free && env.scope.kind == .function && env.kindOf n == some .cell)=true
   ·left
    simp only [List.map_cons,hc,if_true,List.lookup_cons,hx]
   ·right
    simp only [Bool.not_eq_true] at hc
    simp only [List.map_cons,hc,Bool.false_eq_true,if_false,List.lookup_cons,hx]
  | false =>
   simp only [List.lookup_cons,hx] at h
   by_cases hc:(k == NameKind.free && env.scope.kind == .function && env.kindOf n == some .cell)=true
   ·simp only [List.map_cons,hc,if_true,List.lookup_cons,hx]
    exact ih h
   ·simp only [Bool.not_eq_true] at hc
    simp only [List.map_cons,hc,List.lookup_cons,Bool.false_eq_true,if_false,hx]
    exact ih h
theorem zm3 {prog:Program} {w:World} {A:Around} {R:Result->Shared->Prop} {s:Shared} {elt target iter:Expr} {ifs:List Expr} {scope:Scope} {pos:Pos} {it acc:Value} {env:Env} (I:Nat->Shared->Prop)
  (turn:∀ n s,I n s->wpAny (model prog w) A (pyNext it) (fun r s₁=>match r with
   | none=>R (.ok .next) s₁
   | some v=>wpAny (model prog w) A (letOwnedTupleGo target it v) (fun _ s₁=>wpAny (model prog w) A (assign target env v) (fun _ s₂ =>
     wpAny (model prog w) A (forIn ifs true fun c r=>if r=true then do let ok<- isTrue c env (eval c env);pure (ForInStep.yield ok) else pure (ForInStep.yield r)) (fun ok s₃ =>
      if ok=true then wpAny (model prog w) A (eval elt env) (fun x s₄ =>
       wpAny (model prog w) A (call (.builtin "list.append") [acc,x]) (fun _ s₅=>∃ m,m < n/\I m s₅) (fun _ _=>False) s₄) (fun _ _=>False) s₃
      else ∃ m,m < n/\I m s₃) (fun _ _=>False) s₂) (fun _ _=>False) s₁) (fun _ _=>False) s₁) (fun _ _=>False) s)
  (n:Nat) (h:I n s) :
  codeAny (model prog w) A (.compLoop (.ListComp elt [⟨target,iter,ifs,0⟩] scope pos) 0 it acc env) R s:=by
 refine codeAny_loop rfl I (fun n s hI=>?_) n h
 show wpAny _ A ((compTurn (.ListComp elt [⟨target,iter,ifs,0⟩] scope pos) 0 it acc env).onRaise (fun x=>do noteFrame x env;theTreesLotGoes x)) _ _ s
 refine wpAny_noted ?_
 rw [compTurn_list]
 refine wpAny_bind (wpAny_standAt (wpAny_bind (wpAny_mono (turn n s hI) (fun r s₁ h₁=>?_) fun _ _ h'=>h'.elim)))
 cases r with
 | none=>exact wpAny_pure h₁
 | some v =>
  refine wpAny_bind (wpAny_mono h₁ (fun _ s₁ h₁=>?_) fun _ _ h'=>h'.elim)
  refine wpAny_bind (wpAny_mono h₁ (fun _ s₂ h₂=>wpAny_bind (wpAny_mono h₂ (fun ok s₃ h₃=>?_) fun _ _ h'=>h'.elim)) fun _ _ h'=>h'.elim)
  cases ok with
  | false=>exact wpAny_pure ⟨rfl,h₃⟩
  | true =>
   exact wpAny_bind (wpAny_bind (wpAny_mono h₃ (fun x s₄ h₄=>wpAny_bind (wpAny_mono h₄ (fun _ s₅ h₅=>wpAny_pure (wpAny_pure ⟨rfl,h₅⟩)) fun _ _ h'=>h'.elim)) fun _ _ h'=>h'.elim))
end PU
end
section
namespace PU
open PySem PySem.Spec PyProof.Rows L2
variable [TW]
structure CompOk (NX:List Str) (scX:Scope) (scope:Scope) (N':List Str) (nt:Nat) (idx:List Nat):Prop where
 kind:scope.kind=.function
 cell:∀ y∈scope.names,y.2≠.cell
 names:∀ y∈scope.names,y.2=.local->scope.names.lookup y.1=some .local
 free:∀ y∈scope.names,y.2=.free->scX.names.lookup y.1=some .cell\/scX.names.lookup y.1=some .free
 len:N'.length=nt + idx.length
 ix:(idx.zip (N'.drop nt)).all (fun p=>decide (NX[p.1]?=some p.2) && decide (scope.names.lookup p.2=some .free))=true
theorem CompOk.at {NX:List Str} {scX:Scope} {scope:Scope} {N':List Str} {nt:Nat} {idx:List Nat} (O:CompOk NX scX scope N' nt idx) {k:Nat} {x:Str} (h:N'[nt + k]?=some x) :
  ∃ i,idx[k]?=some i/\NX[i]?=some x/\scope.names.lookup x=some .free:=by
 have hk:k < idx.length:=by
  have:=(List.getElem?_eq_some_iff.mp h).1
  have:=O.len
  omega
 have e1:idx[k]?=some idx[k]:=by simp [hk]
 have e2:(N'.drop nt)[k]?=some x:=by rw [List.getElem?_drop];exact h
 have e3:(idx.zip (N'.drop nt))[k]?=some (idx[k],x):=by
  rw [List.getElem?_zip_eq_some]
  exact ⟨e1,e2⟩
 have:=List.all_eq_true.mp O.ix _ (List.mem_of_getElem? e3)
 simp only [Bool.and_eq_true,decide_eq_true_eq] at this
 exact ⟨_,e1,this.1,this.2⟩
section
variable {C : Cn} {elt tg iter : Expr} {ifs : List Expr} {scope : Scope} {pos : Pos} {N' : List Str} {nt : Nat} {idx : List Nat} {h : Tgt} {t : PSt → R Bool} {fe : PSt → R PV}
theorem zp4 {pins:List (Addr × Obj)} {σ:L2.St} {H₂:Hp} {s₂:Shared} {J:It} {fp:List Addr} {it:Addr} {tn:Nat->Heap->Prop} {ρ:PSt} (O:CompOk C.X.N C.X.env.scope scope N' nt idx) (hc:C.X.calm=true)
  (I:Inv C.X pins σ H₂ s₂) (T:Turn C.X.prog C.X.w C.X.K tg J fp it tn) (st:tn 0 s₂.heap) (hf:∀ b∈fp,FpOk C.X pins H₂ b) (vw:View C.X.K H₂ σ ρ)
  {L D:Addr} {h₁:Heap} {tk:Nat} (hD:D=s₂.heap.objs.size) (hL:s₂.heap.objs.size<=L) (hDL:D≠L) (ns:h₁.Ns L (fun _=>none)) (keep:∀ b o,s₂.heap.get? b=some o->h₁.get? b=some o)
  (acc:h₁.get? D=some { cls:=.type "list",data:=.seq ([]:List Value).toArray }) :
  ∃ σ',Inv (zgk C.X N' scope (clOf C.X.env.cells scope.names []) L s₂ H₂ fp) [] σ' (upd H₂ D (.lst [])) { s₂ with heap:=h₁,toks:=tk }/\View C.X.K (upd H₂ D (.lst [])) σ' (ze3 nt idx ρ)/\(ze3 nt idx ρ).length=σ'.length ∧
   ∀ b∈fp,b < s₂.heap.objs.size:=by
 have fl:∀ b∈fp,b < s₂.heap.objs.size:=fun b hb=>by
  obtain ⟨o,e,_⟩:=T.obj 0 _ st b hb
  exact Heap.lt_size e
 have nD:H₂ D=none:=by rw [hD];exact I.fresh
 have frC:∀ y∈scope.names,y.2=.free->∃ c,C.X.env.cells.lookup y.1=some c:=fun y hy hk=>I.ok.has y.1 (O.free y hy hk)
 have clS:∀ x c,(clOf C.X.env.cells scope.names []).lookup x=some c->C.X.env.cells.lookup x=some c:=fun x c e=>by
  rcases zdy e with z | z
  ·exact z
  ·cases z
 have cne:∀ x c,(clOf C.X.env.cells scope.names []).lookup x=some c->c < s₂.heap.objs.size:=fun x c e=>by
  obtain ⟨v,q⟩:=I.cell x c (clS x c e)
  exact q.lt
 refine ⟨List.replicate nt none++idx.map (fun i=>(σ[i]?).getD none),⟨⟨I.ok.mod,O.kind,I.ok.glob,I.ok.blt,hL,fun x y c e1 e2=>I.ok.inj x y c (clS x c e1) (clS y c e2),fun x hx=>?_,(fun x c z=>absurd (show false=true from z) Bool.false_ne_true),fun _=>I.ok.hd hc,I.ok.frames,.inl rfl,
  fun b hb=>⟨Nat.ne_of_lt (Nat.lt_of_lt_of_le (fl b hb) hL),fun x c e=>(hf b hb).2.2.2.2.1 x c (clS x c e)⟩,I.bs,Nat.le_trans I.ok.bsz I.sz,fun b o e hb=>?_,fun b hb z=>?_,I.stack,I.stkFree⟩,
  rfl,I.bare,Un.laid keep (Nat.le_of_eq hD.symm) nD,⟨_,ns,fun i x v hN hσ hv=>?_⟩,fun x c e=>?_,?_,fun x c e=>?_,fun p hp=>absurd (show p∈([]:List (Addr × Obj)) from hp) (by simp),?_,?_⟩,?_,?_,fl⟩
 ·-- has
  have hx:(relabel scope C.X.env).names.lookup x=some .cell\/(relabel scope C.X.env).names.lookup x=some .free:=hx
  have:scope.names.lookup x=some .free:=by
   have gen:∀ (l:List (Str × NameKind)),(∀ y∈l,y.2≠.cell)->((l.map fun (n,k)=>if (k == NameKind.free && C.X.env.scope.kind == .function && C.X.env.kindOf n == some .cell) then (n,NameKind.cell) else (n,k)).lookup x=some .cell ∨
     (l.map fun (n,k)=>if (k == NameKind.free && C.X.env.scope.kind == .function && C.X.env.kindOf n == some .cell) then (n,NameKind.cell) else (n,k)).lookup x=some .free)->l.lookup x=some .free:=by
    intro l
    induction l with
    | nil=>intro _ z;simp at z
    | cons y r ih =>
     intro hy z
     obtain ⟨n,k⟩:=y
     have hk:k≠.cell:=hy (n,k) List.mem_cons_self
     have ih:=ih fun y' hy'=>hy y' (List.mem_cons_of_mem _ hy')
     rw [List.lookup_cons]
     by_cases hc':(k == NameKind.free && C.X.env.scope.kind == .function && C.X.env.kindOf n == some .cell)=true
     ·simp only [List.map_cons,hc',if_true,List.lookup_cons] at z
      cases hx':x == n with
      | true =>
       have:k=.free:=by
        simp only [Bool.and_eq_true] at hc'
        exact eq_of_beq hc'.1.1
       rw [this]
      | false =>
       rw [hx'] at z
       exact ih z
     ·simp only [Bool.not_eq_true] at hc'
      simp only [List.map_cons,hc',Bool.false_eq_true,if_false,List.lookup_cons] at z
      cases hx':x == n with
      | true =>
       rw [hx'] at z
       rcases z with z | z
       ·cases z;exact absurd rfl hk
       ·cases z;rfl
      | false =>
       rw [hx'] at z
       exact ih z
   exact gen scope.names O.cell hx
  obtain ⟨c,e⟩:=frC (x,.free) (PySem.mem_of_lookup this) rfl
  exact ⟨c,zo9 e (PySem.mem_of_lookup this)⟩
 ·-- noex
  obtain ⟨e1,e2⟩:=I.bs b o e
  obtain ⟨g1,g2,g3,g4,_⟩:=hf b hb
  rcases g4 with z | z
  ·exact I.ok.noex b o e z
  ·exact absurd (Heap.lt_size (I.ok.bs b o e).1) (Nat.not_lt.mpr z)
 ·-- exfs
  obtain ⟨g1,g2,g3,_⟩:=hf b hb
  exact (List.mem_cons.mp (I.stkSub b z)).elim g2 g3
 ·-- loc
  by_cases hi:i < nt
  ·rw [List.getElem?_append_left (by simpa using hi),List.getElem?_replicate,if_pos hi] at hσ
   cases hσ
  ·obtain ⟨k,rfl⟩:∃ k,i=nt + k:=⟨i - nt,by omega⟩
   have hN:N'[nt + k]?=some x:=hN
   obtain ⟨j,ej,ex,el⟩:=O.at hN
   rw [List.getElem?_append_right (by simp),List.length_replicate,Nat.add_sub_cancel_left,List.getElem?_map,ej] at hσ
   have hσ:some ((σ[j]?).getD none)=some (some v):=hσ
   have hσ:σ[j]?=some (some v):=by
    cases q:σ[j]? with
    | none=>rw [q] at hσ;cases hσ
    | some z=>rw [q] at hσ;cases hσ;rfl
   obtain ⟨m,hn,hl⟩:=I.loc
   have hfr:=O.free (x,.free) (PySem.mem_of_lookup el) rfl
   obtain ⟨u,ru,lk⟩:=hl j x v ex hσ (by rcases hfr with z | z;exact .inr (.inl z);exact .inr (.inr z))
   refine ⟨u,ru,.inr ?_⟩
   rcases lk with ⟨z,_⟩ | ⟨_,c,ec,hcell⟩
   ·exfalso
    have z:C.X.env.scope.names.lookup x=some .local:=z
    rcases hfr with q | q <;> (rw [show C.X.env.scope.names.lookup x=_ from q] at z;cases z)
   ·refine ⟨zhe (env:=C.X.env) el,c,zo9 ec (PySem.mem_of_lookup el),?_⟩
    obtain ⟨o,ho,hd⟩:=hcell
    exact ⟨o,keep c o ho,hd⟩
 ·obtain ⟨v,o,ho,hd⟩:=I.cell x c (clS x c e)
  exact ⟨v,o,keep c o ho,hd⟩
 ·-- free
  show upd H₂ D _ L=none
  rw [za4 (Ne.symm hDL)]
  exact I.hok.fresh hL
 ·show upd H₂ D _ c=none
  rw [za4 (by rw [hD];exact Nat.ne_of_lt (cne x c e))]
  exact I.freeC x c (clS x c e)
 ·exact I.hok.laid keep (Nat.le_of_eq hD.symm) ⟨by simp,[],0,.nil,acc⟩
 ·show _=N'.length
  rw [O.len]
  simp
 ·intro i l e
  unfold ze3 at e
  by_cases hi:i < nt
  ·rw [List.getElem?_append_left (by simpa using hi),List.getElem?_replicate,if_pos hi] at e
   cases e
   exact trivial
  ·obtain ⟨k,rfl⟩:∃ k,i=nt + k:=⟨i - nt,by omega⟩
   rw [List.getElem?_append_right (by simp),List.length_replicate,Nat.add_sub_cancel_left,List.getElem?_map] at e ⊢
   cases ej:idx[k]? with
   | none=>rw [ej] at e;cases e
   | some j =>
    rw [ej] at e
    have e:some (roS ρ[j]?)=some l:=e
    cases e
    cases q:ρ[j]? with
    | none=>exact trivial
    | some l' =>
     have:=(vw j l' q).same (Same.new (o:=.lst []) nD)
     cases l' with
     | no=>exact trivial
     | val p =>
      obtain ⟨v,ev,r⟩:=this
      exact ⟨v,by show some ((σ[j]?).getD none)=_;rw [ev];rfl,r⟩
     | own p=>exact trivial
 ·simp [ze3]
theorem zp5 {ρ:PSt} {p:PV} {ps rest:List PV} (e:zeh h t fe ρ (p::ps)=.ok rest):∃ ρ1 b,h p ρ=some ρ1/\t ρ1=.ok b ∧
  ((b=true/\∃ q r,fe ρ1=.ok q/\zeh h t fe ρ ps=.ok r/\rest=q::r)\/(b=false/\zeh h t fe ρ ps=.ok rest)):=by
 unfold zeh at e
 cases h1:h p ρ with
 | none=>rw [h1] at e;cases e
 | some ρ1 =>
  rw [h1] at e
  simp only [R.ofO_some,R.ok_bind] at e
  cases h2:t ρ1 with
  | ok b =>
   rw [h2] at e
   simp only [R.ok_bind] at e
   refine ⟨ρ1,b,rfl,h2,?_⟩
   cases b with
   | true =>
    rw [if_pos rfl] at e
    cases h3:fe ρ1 with
    | ok q =>
     rw [h3] at e
     simp only [R.ok_bind] at e
     cases h4:zeh h t fe ρ ps with
     | ok r =>
      rw [h4] at e
      cases e
      exact .inl ⟨rfl,q,r,rfl,rfl,rfl⟩
     | er x=>rw [h4] at e;cases e
     | no=>rw [h4] at e;cases e
    | er x=>rw [h3] at e;cases e
    | no=>rw [h3] at e;cases e
   | false =>
    rw [if_neg Bool.false_ne_true] at e
    exact .inr ⟨rfl,e⟩
  | er x=>rw [h2] at e;cases e
  | no=>rw [h2] at e;cases e
theorem View.weak {K:PySem.W.Frag} {H:Hp} {σ:L2.St} {ρ ρ1:PSt} {n:Nat} (vw:View K H σ ρ1) (low:∀ i,n<=i->ρ1[i]?=ρ[i]?) (no:∀ i l,i < n->ρ[i]?=some l->l=.no):View K H σ ρ:=fun i l e=>by
 by_cases hi:i < n
 ·rw [no i l hi e];exact trivial
 ·exact vw i l (by rw [low i (by omega)];exact e)
theorem zso {idx:List Nat} {nt:Nat} {ρ:PSt} {i:Nat} {l:Sl} (hi:i < nt) (e:(ze3 nt idx ρ)[i]?=some l):l=.no:=by
 unfold ze3 at e
 rw [List.getElem?_append_left (by simpa using hi),List.getElem?_replicate,if_pos hi] at e
 cases e
 rfl
theorem zsn {idx:List Nat} {nt:Nat} {ρ:PSt} {i:Nat} {p:PV} (e:(ze3 nt idx ρ)[i]?=some (.own p)):False:=by
 unfold ze3 at e
 by_cases hi:i < nt
 ·rw [List.getElem?_append_left (by simpa using hi),List.getElem?_replicate,if_pos hi] at e
  cases e
 ·rw [List.getElem?_append_right (by simpa using hi),List.getElem?_map] at e
  cases q:idx[i - (List.replicate nt Sl.no).length]? with
  | none=>rw [q] at e;cases e
  | some j =>
   rw [q] at e
   have e:some (roS ρ[j]?)=some (Sl.own p):=e
   unfold roS at e
   split at e <;> cases e
theorem View.noOwn {K:PySem.W.Frag} {H H':Hp} {σ:L2.St} {ρ:PSt} (vw:View K H σ ρ) (no:∀ (i:Nat) (p:PV),ρ[i]?≠some (Sl.own p)) (k:Kp H H'):View K H' σ ρ:=fun i l e=>by
 have:=vw i l e
 cases l with
 | no=>exact trivial
 | val p=>obtain ⟨v,ev,r⟩:=this;exact ⟨v,ev,r.kp k⟩
 | own p=>exact absurd e (no i p)
theorem zm1 {pins:List (Addr × Obj)} {σ:L2.St} {H₂:Hp} {s₂:Shared} {J:It} {fp:List Addr} {it:Addr} {tn:Nat->Heap->Prop} {ρ:PSt} {ps qs:List PV} {RR:Value->Addr->Result->Shared->Prop} {E:Value->Shared->Prop}
  (O:CompOk C.X.N C.X.env.scope scope N' nt idx) (hc:C.X.calm=true)
  (hg:∀ cl L s H fp,TCt (zii C N' scope cl L s H fp) tg h) (hlow:LowT nt h) (ht:∀ cl L s H fp,ETs (zii C N' scope cl L s H fp) ifs t) (he:∀ cl L s H fp,EV (zii C N' scope cl L s H fp) elt fe)
  (I:Inv C.X pins σ H₂ s₂) (T:Turn C.X.prog C.X.w C.X.K tg J fp it tn) (st:tn 0 s₂.heap) (hf:∀ b∈fp,FpOk C.X pins H₂ b) (vw:View C.X.K H₂ σ ρ) (ip:ItP C.X.K J H₂ ps)
  (hq:zeh h t fe (ze3 nt idx ρ) ps=.ok qs) (hz:qs.length<=sizeLine)
  (hRR:∀ D L σ' H' s' xs,Inv (zgk C.X N' scope (clOf C.X.env.cells scope.names []) L s₂ H₂ fp) [] σ' H' s'->Same H₂ H'->H₂ D=none->H' D=some (.lst xs)->Reps C.X.K H' qs xs->s₂.heap.objs.size<=L->RR (.ref D) L (.ok .next) s') :
  wpAny (model C.X.prog C.X.w) C.X.A (newList []) (fun acc s₃=>wpAny (model C.X.prog C.X.w) C.X.A (newFunctionEnv scope C.X.env.globals (clOf C.X.env.cells scope.names []) [] C.X.env.qual none .none (some C.X.env)) (fun cenv s₄ =>
   codeAny (model C.X.prog C.X.w) C.X.A (.compStart (.ListComp elt [⟨tg,iter,ifs,0⟩] scope pos) 0 (.ref it) acc { cenv with scope:=relabel scope C.X.env }) (RR acc cenv.locals) s₄) E s₃) E s₂:=by
 refine wpAny_newObj_type (wpAny_newFunctionEnv O.cell (by intro y hy;simp at hy) (fun h₁ hns₁ hsb₁=>?_) O.kind)
 dsimp only at hns₁ hsb₁ ⊢
 generalize hG:s₂.heap.push { cls:=.type "list",dict:=none,data:=.seq ([]:List Value).toArray }=G at hns₁ hsb₁ ⊢
 have hC:G.objs.size=s₂.heap.objs.size + 1:=by rw [← hG,Heap.size_push]
 have hDL:s₂.heap.objs.size≠G.objs.size:=by rw [hC];exact Nat.ne_of_lt (Nat.lt_succ_self _)
 have keep:∀ b o,s₂.heap.get? b=some o->h₁.get? b=some o:=fun b o e =>
  hsb₁.extBut b o (by rw [hC];exact Nat.ne_of_lt (Nat.lt_succ_of_lt (Heap.lt_size e))) (Heap.get?_push_of_some _ (hG ▸ Heap.get?_push_of_some _ e))
 have acc:h₁.get? s₂.heap.objs.size=some { cls:=.type "list",data:=.seq ([]:List Value).toArray }:=hsb₁.extBut _ _ hDL (Heap.get?_push_of_some _ (hG ▸ Heap.get?_push_size _ rfl))
 have nD:H₂ s₂.heap.objs.size=none:=I.fresh
 have hGe:s₂.heap.objs.size<=G.objs.size:=by rw [hC];exact Nat.le_succ _
 obtain ⟨σ0,I0,vw0,hl0,fl⟩:=zp4 O hc I T st hf vw (L:=G.objs.size) (tk:=s₂.toks + ([]:List (Str × Value)).length) rfl hGe hDL (by simpa using hns₁) keep acc
 have fpk:∀ {H':Hp} {pins':List (Addr × Obj)},(∀ b∈fp,H' b=none)->(∀ p∈pins',p.1 ∉ fp)->∀ b∈fp,FpOk (zgk C.X N' scope (clOf C.X.env.cells scope.names []) G.objs.size s₂ H₂ fp) pins' H' b:=fun {H' pins'} hn hp b hb=>by
  obtain ⟨g1,g2,g3,g4,g5,g6⟩:=hf b hb
  refine ⟨hn b hb,Nat.ne_of_lt (Nat.lt_of_lt_of_le (fl b hb) hGe),fun z=>?_,.inl hb,fun x c e=>?_,fun p hp' z=>?_⟩
  ·exact (List.mem_cons.mp (I.stkSub b z)).elim g2 g3
  ·rcases zdy e with z | z
   ·exact g5 x c z
   ·cases z
  ·subst z
   exact hp p ((show p∈([]:List (Addr × Obj))++pins' from hp')) hb
 have loop:codeAny (model C.X.prog C.X.w) C.X.A (.compLoop (.ListComp elt [⟨tg,iter,ifs,0⟩] scope pos) 0 (.ref it) (.ref s₂.heap.objs.size) (compEnvC scope (clOf C.X.env.cells scope.names []) G.objs.size C.X.env))
   (RR (.ref s₂.heap.objs.size) G.objs.size) { s₂ with heap:=h₁,toks:=s₂.toks + ([]:List (Str × Value)).length }:=by
  refine zm3 (fun n s=>∃ i σ' H' xs dn rest,n=ps.length - i/\i<=ps.length/\Inv (zgk C.X N' scope (clOf C.X.env.cells scope.names []) G.objs.size s₂ H₂ fp) [] σ' H' s/\tn i s.heap/\(∀ b∈fp,H' b=none)/\Same H₂ H' ∧
   H' s₂.heap.objs.size=some (.lst xs)/\Reps C.X.K H' dn xs/\View C.X.K H' σ' (ze3 nt idx ρ)/\(ze3 nt idx ρ).length=σ'.length/\zeh h t fe (ze3 nt idx ρ) (ps.drop i)=.ok rest/\dn++rest=qs) ?_ ps.length
   ⟨0,σ0,_,[],[],qs,rfl,Nat.zero_le _,I0,T.keep _ _ _ st fun b _ o e=>keep b o e,fun b hb=>?_,Same.new nD,za0,Reps.nil,vw0,hl0,by simpa using hq,rfl⟩
  ·rintro n s ⟨i,σ',H',xs,dn,rest,rfl,hi,I',st',fr',sm',hD',rp',vw',hl',e',ea⟩
   obtain ⟨stp,stepp⟩:=ip i H' (Same.kp sm')
   by_cases hlt:i < ps.length
   ·have ei:ps[i]?=some ps[i]:=by simp [hlt]
    obtain ⟨go,yl⟩:=stepp _ ei
    rw [zo4 ei] at e'
    obtain ⟨ρ1,b,e1,e2,e3⟩:=zp5 e'
    obtain ⟨l1,low1⟩:=hlow _ _ _ e1
    refine thn (T.item (zgk C.X N' scope (clOf C.X.env.cells scope.names []) G.objs.size s₂ H₂ fp) rfl rfl rfl rfl i [] s σ' H' _ I' (fpk fr' (by simp)) st' go) fun r s1 ⟨u,hr,h4⟩=>?_
    subst hr
    refine thn h4 fun _ s2 ⟨x,H3,I3,r3,y3,st3,fr3⟩=>?_
    obtain ⟨sm3,rp3⟩:=yl x H3 y3
    have I3':=I3.pinned (fpk fr3 (by simp)) (T.obj _ _ st3)
    refine thn (hg _ _ _ _ _ _ s2 σ' H3 x u (fun σ4 H4=>H4=H3/\ρ1.length=σ4.length/\View C.X.K H4 σ4 ρ1) I3' r3 ⟨_,_,ρ1,hl',vw'.same sm3,rp3,e1,fun σ4 hl4 vw4=>⟨rfl,hl4,vw4⟩⟩) fun _ s4 ⟨σ4,H4,I4,q4⟩=>?_
    obtain ⟨rfl,hl4,vw4⟩:=q4
    have tests:wpAny (model C.X.prog C.X.w) C.X.A (forIn ifs true fun c r=>if r=true then do let ok<- isTrue c (compEnvC scope (clOf C.X.env.cells scope.names []) G.objs.size C.X.env) (eval c (compEnvC scope (clOf C.X.env.cells scope.names []) G.objs.size C.X.env));pure (ForInStep.yield ok) else pure (ForInStep.yield r))
      (TP (zgk C.X N' scope (clOf C.X.env.cells scope.names []) G.objs.size s₂ H₂ fp) ([]++zky fp s2.heap) σ4 (fun b' H5=>b'=b/\Same H4 H5)) (fun _ _=>False) s4:=by
     rcases ht (clOf C.X.env.cells scope.names []) G.objs.size s₂ H₂ fp with ⟨ez,et⟩ | ⟨c,ez,et⟩
     ·subst ez
      subst et
      cases e2
      exact wpAny_tests_nil ⟨H4,I4,rfl,Same.refl _⟩
     ·subst ez
      exact wpAny_tests_one (et _ s4 σ4 H4 _ I4 ⟨ρ1,vw4,by rw [e2];exact fun H' s'=>⟨rfl,s'⟩⟩)
    refine thn tests fun b' s5 ⟨H5,I5,eb,sm5⟩=>?_
    subst eb
    have fin:∀ {H7:Hp} {s7:Shared},Inv (zgk C.X N' scope (clOf C.X.env.cells scope.names []) G.objs.size s₂ H₂ fp) ([]++zky fp s2.heap) σ4 H7 s7->Inv (zgk C.X N' scope (clOf C.X.env.cells scope.names []) G.objs.size s₂ H₂ fp) [] σ4 H7 s7/\tn (i + 1) s7.heap/\∀ b∈fp,H7 b=none:=fun {H7 s7} I7=>by
     refine ⟨I7.unpinned,T.keep _ _ _ st3 fun b hb o e=>(I7.pin (b,o) (List.mem_append_right _ (List.mem_append_right _ (zg8 hb e)))).1,fun b hb=>?_⟩
     obtain ⟨o,e,_⟩:=T.obj _ _ st3 b hb
     exact (I7.pin (b,o) (List.mem_append_right _ (List.mem_append_right _ (zg8 hb e)))).2.1
    have sm25:Same H₂ H5:=(sm'.trans sm3).trans sm5
    have smd:Same H' H5:=sm3.trans sm5
    have vw5:View C.X.K H5 σ4 (ze3 nt idx ρ):=View.weak (vw4.same sm5) low1 fun i l hi e=>zso hi e
    have hl5:(ze3 nt idx ρ).length=σ4.length:=by rw [← l1];exact hl4
    rcases e3 with ⟨rfl,q,r,e4,e5,rfl⟩ | ⟨rfl,e4⟩
    ·rw [if_pos rfl]
     refine thn (he _ _ _ _ _ _ s5 σ4 H5 (fun v H6=>Same H5 H6/\Rep C.X.K H6 q v) I5 ⟨ρ1,vw4.same sm5,by rw [e4];exact fun v H' s' r=>⟨s',r⟩⟩) fun u6 s6 ⟨v,H6,I6,r6,sm6,rp6⟩=>?_
     have hD6:H6 s₂.heap.objs.size=some (.lst xs):=sm6 _ _ (smd _ _ hD')
     have hx:xs.length < sizeLine:=by
      have a1:=rp'.length
      have a2:qs.length=dn.length + (r.length + 1):=by rw [← ea];simp
      omega
     refine thn (zmq (X:=zgk C.X N' scope (clOf C.X.env.cells scope.names []) G.objs.size s₂ H₂ fp) _ s6 σ4 H6 (.ref s₂.heap.objs.size) [v] (.ref s₂.heap.objs.size) [u6] (fun _ H7=>H7=upd H6 s₂.heap.objs.size (.lst (xs++[v]))) I6 rfl (.cons r6 .nil) ⟨_,xs,v,rfl,rfl,hD6,hx,rfl⟩) fun _ s7 ⟨_,H7,I7,_,e7⟩=>?_
     subst e7
     obtain ⟨J7,st7,fr7⟩:=fin I7
     have kp7:Kp H6 (upd H6 s₂.heap.objs.size (.lst (xs++[v]))):=Kp.upd hD6 rfl
     refine ⟨ps.length - (i + 1),by omega,i + 1,σ4,_,xs++[v],dn++[q],r,rfl,hlt,J7,st7,fr7,fun b o e=>?_,za0,?_,?_,hl5,e5,by rw [← ea];simp⟩
     ·rw [za4 (zbi e nD)]
      exact sm6 _ _ (sm25 b o e)
     ·exact Reps.append (Reps.kp kp7 _ ((rp'.same smd).same sm6)) (Reps.cons (Rep.kp kp7 _ rp6) Reps.nil)
     ·exact (vw5.same sm6).noOwn (fun i p e=>zsn e) kp7
    ·rw [if_neg Bool.false_ne_true]
     obtain ⟨J7,st7,fr7⟩:=fin I5
     exact ⟨ps.length - (i + 1),by omega,i + 1,σ4,H5,xs,dn,rest,rfl,hlt,J7,st7,fr7,sm25,smd _ _ hD',rp'.same smd,vw5,hl5,e4,ea⟩
   ·have e:i=ps.length:=by omega
    subst e
    rw [List.drop_length] at e'
    cases e'
    rw [List.append_nil] at ea
    subst ea
    refine thn (T.done (zgk C.X N' scope (clOf C.X.env.cells scope.names []) G.objs.size s₂ H₂ fp) rfl rfl rfl rfl ps.length [] s σ' H' _ I' (fpk fr' (by simp)) st' (stp rfl)) fun r s1 ⟨hr,I1⟩=>?_
    subst hr
    exact hRR _ _ σ' H' s1 xs I1 sm' nD hD' rp' hGe
  ·show upd H₂ _ _ b=none
   rw [za4 (Nat.ne_of_lt (fl b hb))]
   exact (hf b hb).1
 exact codeAny_compStart_list loop (T.self _ 0 _ _ _ (T.keep _ _ _ st fun b _ o e=>keep b o e) loop)
end
end PU
end
section
namespace PU
open PySem PySem.Spec PyProof.Rows L2
variable [TW]
section
variable {C : Cn} {elt tg iter : Expr} {ifs : List Expr} {scope : Scope} {pos : Pos} {N' : List Str} {nt : Nat} {idx : List Nat} {fi : PSt → R (List PV)} {h : Tgt} {t : PSt → R Bool} {fe : PSt → R PV}
theorem zm2 {pins:List (Addr × Obj)} {σ σ':L2.St} {H₂ H':Hp} {s₂ s':Shared} {fp:List Addr} {cl:List (Str × Addr)} {L:Addr} (I:Inv C.X pins σ H₂ s₂) (hf:∀ b∈fp,FpOk C.X pins H₂ b)
  (I':Inv (zgk C.X N' scope cl L s₂ H₂ fp) [] σ' H' s'):Inv C.X pins σ H' s' :=
 I.call' (ch:=fp) I'.os I'.base I'.hok I'.bare fun b hb=>by
  obtain ⟨g1,g2,g3,g4,g5,g6⟩:=hf b hb
  exact ⟨g4,g2,g5,g6⟩
theorem zwv {α:Type} {H:Hp} {r:R α} {k:α->Prop} (q:RQ C H (noEr r) k):∃ a,r=.ok a/\k a:=by
 cases r with
 | ok a=>exact ⟨a,rfl,q⟩
 | er x=>exact False.elim q
 | no=>exact False.elim q
theorem zm0 {pins:List (Addr × Obj)} {σ:L2.St} {H:Hp} {s:Shared} {L:Addr} {h':Heap} (I:Inv C.X pins σ H s) (hn:H L=none) (hL:L≠C.X.env.locals) (h1:C.X.s₀.heap.objs.size<=L) (h2:∀ x c,C.X.env.cells.lookup x=some c->c≠L)
  (h3:∀ p∈C.X.pn++pins,p.1≠L) (sb:Heap.SameBut L s.heap h'):Inv C.X pins σ H { s with heap:=h' } :=
 I.turned (t':=s.toks) (fun b o hb e=>(sb.2 b hb).trans e) hn hL (.inr h1) h2 h3
theorem znv (O:CompOk C.X.N C.X.env.scope scope N' nt idx) (hc:C.X.calm=true) (hi:EI C tg iter fi)
  (hg:∀ cl L s H fp,TCt (zii C N' scope cl L s H fp) tg h) (hlow:LowT nt h) (ht:∀ cl L s H fp,ETs (zii C N' scope cl L s H fp) ifs t) (he:∀ cl L s H fp,EV (zii C N' scope cl L s H fp) elt fe)
  (hs:∀ x,foldedSetIterable iter C.X.env x=pure x:=by intro _;rfl):EN C (.ListComp elt [⟨tg,iter,ifs,0⟩] scope pos) (zih fi h t fe nt idx):=by
 intro pins s σ H Q I ⟨ρ,vw,q⟩
 rw [eval_ListComp]
 refine wpAny_comprehension_free (use:=none) rfl hs (zg1 fun y hy hk=>I.ok.has y.1 (O.free y hy hk)) O.kind O.names ?_
 refine thn (hi pins s σ H (fun J H'=>∃ ps qs,Same H H'/\ItP C.X.K J H' ps/\zeh h t fe (ze3 nt idx ρ) ps=.ok qs/\qs.length<=sizeLine/\∀ a H'',Same H H''->H a=none->zfm C.X.K H'' a (.lst qs)->Q (.ref a) H'') I
  ⟨ρ,vw,q.bind.imp fun ps _ k J H' s' ip=>?_⟩) fun v s1 h1=>thn h1 fun itv s2 h2=>?_
 ·obtain ⟨qs,e1,k⟩:=zwv k.bind
  obtain ⟨z,k⟩:=zj8 k
  exact ⟨ps,qs,s',ip,e1,z,k⟩
 ·obtain ⟨it,fp,tn,J,H2,e,I2,T,st2,f2,ps,qs,sm,ip,e1,hz,k⟩:=h2
  subst e
  refine zm1 O hc hg hlow ht he I2 T st2 f2 (vw.same sm) ip e1 hz fun D L σ' H' s' xs I' sm' nD hD rp hL=>?_
  obtain ⟨m,hn,_⟩:=id I'.loc
  have IB:=zm2 I2 f2 I'
  refine ⟨m,hn,fun h' sb=>⟨.ref D,H',zm0 IB I'.free ?_ (Nat.le_trans I2.sz hL) ?_ ?_ sb,rfl,k D H' (sm.trans sm') (sm.free nD) ⟨xs,hD,rp⟩⟩⟩
  ·exact Nat.ne_of_gt (Nat.lt_of_lt_of_le I2.lt hL)
  ·intro x c ec z
   obtain ⟨v,qc⟩:=I2.cell x c ec
   have z:c=L:=z
   exact Nat.lt_irrefl _ (Nat.lt_of_lt_of_le (z ▸ qc.lt) hL)
  ·intro p hp z
   have z:p.1=L:=z
   exact Nat.lt_irrefl _ (Nat.lt_of_lt_of_le (z ▸ Heap.lt_size (I2.pin p hp).1) hL)
theorem RS.bind' {C:Cn} {B:Hp × Hp} {D:Ends} {H:Hp} {fi:PSt->R (List PV)} {h:Tgt} {t:PSt->R Bool} {fe:PSt->R PV} {nt:Nat} {idx:List Nat} {ρ:PSt} {g:PV->Sl} {i:Nat}
  (q:RS C B D (zih fi h t fe nt idx ρ >>= fun p=>.ok (.next (ρ.set i (g p))))) (s:Same B.1 H) :
  RQ C H (fi ρ) fun ps=>∃ qs,zeh h t fe (ze3 nt idx ρ) ps=.ok qs/\qs.length<=sizeLine/\∀ σ' H'',StOk C.X.K B H'' σ' (ρ.set i (g (.lst qs)))->D.nx σ' H'':=by
 unfold zih at q
 rw [R.bind_assoc] at q
 refine (q.bind s).imp fun ps _ k=>?_
 rw [R.bind_assoc] at k
 cases hc:zeh h t fe (ze3 nt idx ρ) ps with
 | ok qs =>
  rw [hc] at k
  have k:RS C B D ((zhf qs >>= fun qs=>R.ok (.lst qs)) >>= fun p=>.ok (.next (ρ.set i (g p)))):=k
  unfold zhf at k
  by_cases hz:qs.length<=16777216
  ·rw [if_pos hz] at k
   exact ⟨qs,rfl,by rw [sizeLine_eq];exact hz,k⟩
  ·rw [if_neg hz] at k
   exact False.elim k
 | er x=>rw [hc] at k;exact False.elim k
 | no=>rw [hc] at k;exact False.elim k
theorem zqm (own:Bool) (i:Nat) {x:Str} {px:Pos} {spos:Pos} (hN:C.X.N.Nodup) (hi':C.X.N[i]?=some x) (hx:Loc C.X.env.scope x) (O:CompOk C.X.N C.X.env.scope scope N' nt idx) (hc:C.X.calm=true) (hi:EI C tg iter fi)
  (hg:∀ cl L s H fp,TCt (zii C N' scope cl L s H fp) tg h) (hlow:LowT nt h) (ht:∀ cl L s H fp,ETs (zii C N' scope cl L s H fp) ifs t) (he:∀ cl L s H fp,EV (zii C N' scope cl L s H fp) elt fe)
  (hsw:swapsWith (.ListComp elt [⟨tg,iter,ifs,0⟩] scope pos) (some (.Name x px)) spos.line C.X.env=pure true:=by rfl)
  (hs:∀ x,foldedSetIterable iter C.X.env x=pure x:=by intro _;rfl)
  (hf:C.X.fn x=true\/C.X.env.scope.names.lookup x=some .local:=by first | exact .inl rfl | exact .inr rfl | assumption) :
  SV C (.Assign [.Name x px] (.ListComp elt [⟨tg,iter,ifs,0⟩] scope pos) spos) ((if own=true then ownF else setF) i (zih fi h t fe nt idx)):=by
 intro pins s σ H D I ⟨ρ,B,S,q⟩
 rw [exec_Assign_Name_used _ _ _ _ hsw]
 refine wpAny_bind (wpAny_standAt (wpAny_bind ?_))
 show wpAny _ C.X.A (do let _<- comprehension (.ListComp elt [⟨tg,iter,ifs,0⟩] scope pos) scope C.X.env _ (newList []) false (eval iter C.X.env) (some (assign (.Name x px) C.X.env))) _ _ s
 refine wpAny_bind (wpAny_mono (wpAny_comprehension_free (use:=some (assign (.Name x px) C.X.env)) (Q:=fun _ s'=>SP C.X pins D .next s') rfl hs (zg1 fun y hy hk=>I.ok.has y.1 (O.free y hy hk)) O.kind O.names ?_)
  (fun _ s' hq=>wpAny_pure (wpAny_pure hq)) fun _ _ e=>e)
 have q':RS C B D (zih fi h t fe nt idx ρ >>= fun p=>.ok (.next (ρ.set i (if own=true then .own p else .val p)))):=by
  cases own with
  | true=>exact q
  | false=>exact q
 refine thn (hi pins s σ H (fun J H'=>∃ ps qs,Same H H'/\ItP C.X.K J H' ps/\zeh h t fe (ze3 nt idx ρ) ps=.ok qs/\qs.length<=sizeLine/\∀ σ' H'',StOk C.X.K B H'' σ' (ρ.set i (if own=true then .own (.lst qs) else .val (.lst qs)))->D.nx σ' H'') I
  ⟨ρ,S.vw,(RS.bind' q' S.same).imp fun ps _ k J H' s' ip=>?_⟩) fun v s1 h1=>thn h1 fun itv s2 h2=>?_
 ·obtain ⟨qs,e1,z,k⟩:=k
  exact ⟨ps,qs,s',ip,e1,z,k⟩
 ·obtain ⟨it,fp,tn,J,H2,e,I2,T,st2,f2,ps,qs,sm,ip,e1,hz,k⟩:=h2
  subst e
  refine zm1 O hc hg hlow ht he I2 T st2 f2 (S.vw.same sm) ip e1 hz fun Da L σ' H' s' xs I' sm' nD hD rp hL=>?_
  obtain ⟨m,⟨o,es,ep,ho,hrest⟩,_⟩:=id I'.loc
  have IB:=zm2 I2 f2 I'
  have nL:L≠C.X.env.locals:=Nat.ne_of_gt (Nat.lt_of_lt_of_le I2.lt hL)
  have nC:∀ x c,C.X.env.cells.lookup x=some c->c≠L:=fun x c ec z=>by
   obtain ⟨v,qc⟩:=I2.cell x c ec
   have z:c=L:=z
   exact Nat.lt_irrefl _ (Nat.lt_of_lt_of_le (z ▸ qc.lt) hL)
  have nP:∀ p∈C.X.pn++pins,p.1≠L:=fun p hp z=>by
   have z:p.1=L:=z
   exact Nat.lt_irrefl _ (Nat.lt_of_lt_of_le (z ▸ Heap.lt_size (I2.pin p hp).1) hL)
  have IP:Inv C.X (pins++[(L,o)]) σ H' s':=IB.pins_of fun p hp=>by
   rcases List.mem_append.mp hp with z | z
   ·exact IB.pin p (List.mem_append_right _ z)
   ·have:p=(L,o):=by simpa using z
    subst this
    exact ⟨ho,I'.free,nL,I2.nofs hL,fun v z=>by rw [hrest.1] at z;cases z⟩
  have S2:=S.grow (sm.trans sm')
  have fin:∀ {H3:Hp} {v:V},Inv C.X (pins++[(L,o)]) σ H3 s'->v=.ref Da->(∀ σ3,σ3=σ.set i (some v)->D.nx σ3 H3) →
    wpAny (model C.X.prog C.X.w) C.X.A (assign (.Name x px) C.X.env (.ref Da)) (fun _ s''=>∃ m,s''.heap.Ns L m/\∀ h',Heap.SameBut L s''.heap h'->SP C.X pins D .next { s'' with heap:=h' }) C.X.xe s':=fun {H3 v} I3 ev k3=>by
   refine thn (zng hN hi' hx hf (pins++[(L,o)]) s' σ H3 v (.ref Da) (fun σ4 H4=>σ4=σ.set i (some v)/\H4=H3) I3 (by subst ev;rfl) ⟨rfl,rfl⟩) fun _ s4 ⟨σ4,H4,I4,e4,e5⟩=>?_
   have hp:=I4.pin (L,o) (by simp)
   have IU:Inv C.X pins σ4 H4 s4:=I4.unpinned
   refine ⟨m,⟨o,es,ep,hp.1,hrest⟩,fun h' sb=>⟨σ4,H4,zm0 IU hp.2.1 nL (Nat.le_trans I2.sz hL) nC nP sb,?_⟩⟩
   subst e5
   exact k3 σ4 e4
  cases own with
  | true =>
   exact fin IP rfl fun σ3 e3=>by
    subst e3
    exact k _ _ (S.setN (sm.trans sm') (sm.free nD) ⟨xs,hD,rp⟩)
  | false =>
   obtain ⟨H3,I3,rp3,oth⟩:=L2.Inv.frz (a:=Da) (p:=.lst qs) IP ⟨xs,hD,rp⟩
   refine fin I3 rfl fun σ3 e3=>?_
   subst e3
   refine k _ _ ((S.grow fun b ob eb=>?_).setV rp3)
   have hb:=zbi eb (sm.free nD)
   rw [oth b hb]
   exact (sm.trans sm') b ob eb
end
end PU
end
section
namespace PU
open PySem PySem.Spec PyProof.Rows L2 PySem.SeqAt
variable [TW]
section
variable {X : Cx} {pins : List (Addr × Obj)} {σ : L2.St} {H : Hp} {s : Shared}
theorem zjb {a:Addr} {xs ys:List V} (I:Inv X pins σ H s) (h1:SqT X.K H a xs) (h2:SqO X.K H a ys):False:=by
 obtain ⟨its,_,⟨o,e,c,_⟩,_⟩:=I.tuple h1
 obtain ⟨_,its2,n,_,e2⟩:=h2.is I
 rw [e] at e2
 cases e2
 have c:Value.type "list"=Value.type "tuple":=c
 exact absurd c (by decide)
theorem zv0 {a:Addr} {xs ys:List V} (I:Inv X pins σ H s) (h1:SqO X.K H a xs) (h2:SqO X.K H a ys):xs=ys:=I.list_inj h1.l h2.l
mutual
theorem zh3 (I:Inv X pins σ H s):∀ (p q:PV) (v:V) (b:Bool),RepO X.K H p v->RepO X.K H q v->peqO p q=some b->b=true
 | .non,q,v,b,h1,h2,e=>by
  cases (show v=.non from h1)
  cases q with
  | non=>simpa [peqO] using e.symm
  | bl j=>cases (show V.non=.bl j from h2)
  | int j=>cases (show V.non=.int j from h2)
  | str j=>cases (show V.non=.str j from h2)
  | tup qs=>obtain ⟨a,xs,z,_⟩:=RepO.tup_inv h2;cases z
  | lst qs=>obtain ⟨a,xs,z,_⟩:=RepO.lst_inv h2;cases z
  | _=>simp [peqO] at e
 | .bl i,q,v,b,h1,h2,e=>by
  cases (show v=.bl i from h1)
  cases q with
  | bl j=>cases (show V.bl i=.bl j from h2);simpa [peqO] using e.symm
  | non=>cases (show V.bl i=.non from h2)
  | int j=>cases (show V.bl i=.int j from h2)
  | str j=>cases (show V.bl i=.str j from h2)
  | tup qs=>obtain ⟨a,xs,z,_⟩:=RepO.tup_inv h2;cases z
  | lst qs=>obtain ⟨a,xs,z,_⟩:=RepO.lst_inv h2;cases z
  | _=>simp [peqO] at e
 | .int i,q,v,b,h1,h2,e=>by
  cases (show v=.int i from h1)
  cases q with
  | int j=>cases (show V.int i=.int j from h2);simpa [peqO] using e.symm
  | bl j=>cases (show V.int i=.bl j from h2)
  | non=>cases (show V.int i=.non from h2)
  | str j=>cases (show V.int i=.str j from h2)
  | tup qs=>obtain ⟨a,xs,z,_⟩:=RepO.tup_inv h2;cases z
  | lst qs=>obtain ⟨a,xs,z,_⟩:=RepO.lst_inv h2;cases z
  | _=>simp [peqO] at e
 | .str i,q,v,b,h1,h2,e=>by
  cases (show v=.str i from h1)
  cases q with
  | str j=>cases (show V.str i=.str j from h2);simpa [peqO] using e.symm
  | bl j=>cases (show V.str i=.bl j from h2)
  | non=>cases (show V.str i=.non from h2)
  | int j=>cases (show V.str i=.int j from h2)
  | tup qs=>obtain ⟨a,xs,z,_⟩:=RepO.tup_inv h2;cases z
  | lst qs=>obtain ⟨a,xs,z,_⟩:=RepO.lst_inv h2;cases z
  | _=>simp [peqO] at e
 | .tup ps,q,v,b,h1,h2,e=>by
  obtain ⟨a,xs,rfl,g1,r1⟩:=RepO.tup_inv h1
  cases q with
  | tup qs =>
   obtain ⟨a2,ys,z,g2,r2⟩:=RepO.tup_inv h2
   cases z
   cases I.tuple_inj g1 g2
   exact zj1 I ps qs xs b r1 r2 (by simpa [peqO] using e)
  | lst qs =>
   obtain ⟨a2,ys,z,g2,r2⟩:=RepO.lst_inv h2
   cases z
   exact (zjb I g1 g2).elim
  | non=>cases (show V.ref a=.non from h2)
  | bl j=>cases (show V.ref a=.bl j from h2)
  | int j=>cases (show V.ref a=.int j from h2)
  | str j=>cases (show V.ref a=.str j from h2)
  | _=>simp [peqO] at e
 | .lst ps,q,v,b,h1,h2,e=>by
  obtain ⟨a,xs,rfl,g1,r1⟩:=RepO.lst_inv h1
  cases q with
  | lst qs =>
   obtain ⟨a2,ys,z,g2,r2⟩:=RepO.lst_inv h2
   cases z
   cases zv0 I g1 g2
   exact zj1 I ps qs xs b r1 r2 (by simpa [peqO] using e)
  | tup qs =>
   obtain ⟨a2,ys,z,g2,r2⟩:=RepO.tup_inv h2
   cases z
   exact (zjb I g2 g1).elim
  | non=>cases (show V.ref a=.non from h2)
  | bl j=>cases (show V.ref a=.bl j from h2)
  | int j=>cases (show V.ref a=.int j from h2)
  | str j=>cases (show V.ref a=.str j from h2)
  | _=>simp [peqO] at e
 | .dct _ _,_,_,_,_,_,e=>by simp [peqO] at e
 | .dtt _ _,_,_,_,_,_,e=>by simp [peqO] at e
theorem zj1 (I:Inv X pins σ H s):∀ (ps qs:List PV) (xs:List V) (b:Bool),Reps X.K H ps xs->Reps X.K H qs xs->zd9 ps qs=some b->b=true
 | [],qs,xs,b,r1,r2,e=>by
  cases r1
  cases qs with
  | nil=>simpa [zd9] using e.symm
  | cons q qs=>obtain ⟨x,r,z,_⟩:=r2;cases z
 | p::ps,qs,xs,b,r1,r2,e=>by
  obtain ⟨x,r,rfl,h1,t1⟩:=r1
  cases qs with
  | nil=>cases (show x::r=[] from r2)
  | cons q qs =>
   obtain ⟨x2,r2',z,h2,t2⟩:=r2
   cases z
   simp only [zd9] at e
   obtain ⟨b1,e1,e⟩:=Option.bind_eq_some_iff.mp e
   obtain ⟨b2,e2,e⟩:=Option.bind_eq_some_iff.mp e
   cases e
   rw [zh3 I p q x b1 h1.o h2.o e1,zj1 I ps qs r b2 t1 t2 e2]
   rfl
end
theorem zk0 {p q:PV} {ps qs:List PV} {j:Nat}:zhn (p::ps) (q::qs) (j + 1)=zhn ps qs j:=by simp [zhn]
theorem zjn:∀ (ps qs:List PV) (b:Bool),zd9 ps qs=some b->((List.range (min ps.length qs.length)).all (zhn ps qs) && ps.length == qs.length)=b
 | [],[],b,e=>by simp [zd9] at e;simp [e]
 | [],_::_,b,e=>by simp [zd9] at e;simp [e]
 | _::_,[],b,e=>by simp [zd9] at e;simp [e]
 | p::ps,q::qs,b,e=>by
  simp only [zd9] at e
  obtain ⟨b1,e1,e⟩:=Option.bind_eq_some_iff.mp e
  obtain ⟨b2,e2,e⟩:=Option.bind_eq_some_iff.mp e
  cases e
  have ih:=zjn ps qs b2 e2
  have hm:min (p::ps).length (q::qs).length=min ps.length qs.length + 1:=by simp only [List.length_cons];omega
  rw [hm,List.range_succ_eq_map,List.all_cons,List.all_map]
  have h0:zhn (p::ps) (q::qs) 0=b1:=by simp [zhn,e1]
  have hs:(zhn (p::ps) (q::qs) ∘ Nat.succ)=zhn ps qs:=by funext j;exact zk0
  rw [h0,hs,← ih,List.length_cons,List.length_cons]
  simp [Bool.and_assoc]
theorem zlr:∀ {ps:List PV} {j:Nat} {p:PV},ps[j]?=some p->pdep p<=pdeps ps
 | [],_,_,h=>by simp at h
 | p::ps,0,_,h=>by simp at h;subst h;simp only [pdeps];omega
 | p::ps,j + 1,q,h=>by
  have:=zlr (ps:=ps) (j:=j) (p:=q) (by simpa using h)
  simp only [pdeps]
  omega
mutual
theorem zsc (I:Inv X pins σ H s):∀ (p q:PV) (A:Around) (v u:V) (v' u':Value) (b:Bool),RepO X.K H p v->RepO X.K H q u->RelV v v'->RelV u u'->peqO p q=some b->A.units + pdep p < cLine->EqAt A s v' u' b
 | .non,q,A,v,u,v',u',b,h1,h2,e1,e2,e,hu=>by
  cases (show v=.non from h1)
  cases e1
  have hu:=Nat.lt_of_le_of_lt (Nat.le_add_right _ _) hu
  cases q with
  | non=>cases (show u=.non from h2);cases e2;simp [peqO] at e;subst e;exact EqAt.same _
  | bl j=>cases (show u=.bl j from h2);cases e2;simp [peqO] at e;subst e;exact EqAt.none_bool j
  | int j=>cases (show u=.int j from h2);obtain ⟨t,rfl⟩:=e2;simp [peqO] at e;subst e;exact EqAt.none_int j t
  | str j=>cases (show u=.str j from h2);obtain ⟨t,rfl⟩:=e2;simp [peqO] at e;subst e;exact EqAt.none_str j t
  | tup qs=>obtain ⟨a,xs,rfl,g,_⟩:=RepO.tup_inv h2;cases e2;obtain ⟨its,_,pl,_⟩:=I.tuple g;simp [peqO] at e;subst e;exact EqAt.none_tuple pl hu
  | lst qs=>obtain ⟨a,xs,rfl,g,_⟩:=RepO.lst_inv h2;cases e2;obtain ⟨its,_,pl,_⟩:=I.list g.l;simp [peqO] at e;subst e;exact EqAt.none_list pl.isList hu
  | _=>simp [peqO] at e
 | .bl i,q,A,v,u,v',u',b,h1,h2,e1,e2,e,hu=>by
  cases (show v=.bl i from h1)
  cases e1
  have hu:=Nat.lt_of_le_of_lt (Nat.le_add_right _ _) hu
  cases q with
  | non=>cases (show u=.non from h2);cases e2;simp [peqO] at e;subst e;exact EqAt.bool_none i
  | bl j=>cases (show u=.bl j from h2);cases e2;simp only [peqO,Option.some.injEq] at e;subst e;exact EqAt.bool_bool i j
  | int j=>cases (show u=.int j from h2);obtain ⟨t,rfl⟩:=e2;simp only [peqO,Option.some.injEq] at e;subst e;exact EqAt.bool_int i j t
  | str j=>cases (show u=.str j from h2);obtain ⟨t,rfl⟩:=e2;simp [peqO] at e;subst e;exact EqAt.bool_str i j t
  | tup qs=>obtain ⟨a,xs,rfl,g,_⟩:=RepO.tup_inv h2;cases e2;obtain ⟨its,_,pl,_⟩:=I.tuple g;simp [peqO] at e;subst e;exact EqAt.bool_tuple i pl hu
  | lst qs=>obtain ⟨a,xs,rfl,g,_⟩:=RepO.lst_inv h2;cases e2;obtain ⟨its,_,pl,_⟩:=I.list g.l;simp [peqO] at e;subst e;exact EqAt.bool_list i pl.isList hu
  | _=>simp [peqO] at e
 | .int i,q,A,v,u,v',u',b,h1,h2,e1,e2,e,hu=>by
  cases (show v=.int i from h1)
  obtain ⟨t',rfl⟩:=e1
  have hu:=Nat.lt_of_le_of_lt (Nat.le_add_right _ _) hu
  cases q with
  | non=>cases (show u=.non from h2);cases e2;simp [peqO] at e;subst e;exact EqAt.int_none i t'
  | bl j=>cases (show u=.bl j from h2);cases e2;simp only [peqO,Option.some.injEq] at e;subst e;exact EqAt.int_bool i t' j
  | int j=>cases (show u=.int j from h2);obtain ⟨t,rfl⟩:=e2;simp only [peqO,Option.some.injEq] at e;subst e;exact EqAt.int_int i t' j t
  | str j=>cases (show u=.str j from h2);obtain ⟨t,rfl⟩:=e2;simp [peqO] at e;subst e;exact EqAt.int_str i t' j t
  | tup qs=>obtain ⟨a,xs,rfl,g,_⟩:=RepO.tup_inv h2;cases e2;obtain ⟨its,_,pl,_⟩:=I.tuple g;simp [peqO] at e;subst e;exact EqAt.int_tuple i t' pl hu
  | lst qs=>obtain ⟨a,xs,rfl,g,_⟩:=RepO.lst_inv h2;cases e2;obtain ⟨its,_,pl,_⟩:=I.list g.l;simp [peqO] at e;subst e;exact EqAt.int_list i t' pl.isList hu
  | _=>simp [peqO] at e
 | .str i,q,A,v,u,v',u',b,h1,h2,e1,e2,e,hu=>by
  cases (show v=.str i from h1)
  obtain ⟨t',rfl⟩:=e1
  have hu:=Nat.lt_of_le_of_lt (Nat.le_add_right _ _) hu
  cases q with
  | non=>cases (show u=.non from h2);cases e2;simp [peqO] at e;subst e;exact EqAt.str_none i t'
  | bl j=>cases (show u=.bl j from h2);cases e2;simp [peqO] at e;subst e;exact EqAt.str_bool i t' j
  | int j=>cases (show u=.int j from h2);obtain ⟨t,rfl⟩:=e2;simp [peqO] at e;subst e;exact EqAt.str_int i t' j t
  | str j=>cases (show u=.str j from h2);obtain ⟨t,rfl⟩:=e2;simp only [peqO,Option.some.injEq] at e;subst e;exact EqAt.str_str i t' j t
  | tup qs=>obtain ⟨a,xs,rfl,g,_⟩:=RepO.tup_inv h2;cases e2;obtain ⟨its,_,pl,_⟩:=I.tuple g;simp [peqO] at e;subst e;exact EqAt.str_tuple i t' pl hu
  | lst qs=>obtain ⟨a,xs,rfl,g,_⟩:=RepO.lst_inv h2;cases e2;obtain ⟨its,_,pl,_⟩:=I.list g.l;simp [peqO] at e;subst e;exact EqAt.str_list i t' pl.isList hu
  | _=>simp [peqO] at e
 | .tup ps,q,A,v,u,v',u',b,h1,h2,e1,e2,e,hu=>by
  obtain ⟨a,xs,rfl,g1,r1⟩:=RepO.tup_inv h1
  cases e1
  obtain ⟨its,rv,pl,_⟩:=I.tuple g1
  simp only [pdep] at hu
  have hu0:A.units < cLine:=by omega
  cases q with
  | non=>cases (show u=.non from h2);cases e2;simp [peqO] at e;subst e;exact EqAt.tuple_none pl hu0
  | bl j=>cases (show u=.bl j from h2);cases e2;simp [peqO] at e;subst e;exact EqAt.tuple_bool j pl hu0
  | int j=>cases (show u=.int j from h2);obtain ⟨t,rfl⟩:=e2;simp [peqO] at e;subst e;exact EqAt.tuple_int j t pl hu0
  | str j=>cases (show u=.str j from h2);obtain ⟨t,rfl⟩:=e2;simp [peqO] at e;subst e;exact EqAt.tuple_str j t pl hu0
  | lst qs=>obtain ⟨a2,ys,rfl,g,_⟩:=RepO.lst_inv h2;cases e2;obtain ⟨its2,_,pl2,_⟩:=I.list g.l;simp [peqO] at e;subst e;exact EqAt.tuple_list pl pl2.isList hu0
  | tup qs =>
   by_cases hv:V.ref a=u
   ·subst hv
    rw [zh3 I _ _ _ b h1 h2 e]
    cases e2
    exact EqAt.same _
   ·obtain ⟨a2,ys,rfl,g2,r2⟩:=RepO.tup_inv h2
    cases e2
    obtain ⟨its2,rv2,pl2,_⟩:=I.tuple g2
    have l1:=r1.length
    have l2:=r2.length
    have l3:=rv.length
    have l4:=rv2.length
    have e':zd9 ps qs=some b:=by simpa [peqO] using e
    rw [← zjn ps qs b e',show ps.length=its.toArray.size by simp;omega,show qs.length=its2.toArray.size by simp;omega]
    refine EqAt.of_refs (fun z=>hv (by rw [z])) (RcAt.tuples pl pl2 hu0 fun j j1 j2=>?_)
    have:=zkf I ps qs A.in1 xs ys its its2 b r1 r2 rv rv2 e' (by show A.units + 1 + _ < _;omega) j (by simpa using j1) (by simpa using j2)
    simpa using this
  | _=>simp [peqO] at e
 | .lst ps,q,A,v,u,v',u',b,h1,h2,e1,e2,e,hu=>by
  obtain ⟨a,xs,rfl,g1,r1⟩:=RepO.lst_inv h1
  cases e1
  obtain ⟨its,rv,pl,_⟩:=I.list g1.l
  simp only [pdep] at hu
  have hu0:A.units < cLine:=by omega
  cases q with
  | non=>cases (show u=.non from h2);cases e2;simp [peqO] at e;subst e;exact EqAt.list_none pl.isList hu0
  | bl j=>cases (show u=.bl j from h2);cases e2;simp [peqO] at e;subst e;exact EqAt.list_bool j pl.isList hu0
  | int j=>cases (show u=.int j from h2);obtain ⟨t,rfl⟩:=e2;simp [peqO] at e;subst e;exact EqAt.list_int j t pl.isList hu0
  | str j=>cases (show u=.str j from h2);obtain ⟨t,rfl⟩:=e2;simp [peqO] at e;subst e;exact EqAt.list_str j t pl.isList hu0
  | tup qs=>obtain ⟨a2,ys,rfl,g,_⟩:=RepO.tup_inv h2;cases e2;obtain ⟨its2,_,pl2,_⟩:=I.tuple g;simp [peqO] at e;subst e;exact EqAt.list_tuple pl.isList pl2 hu0
  | lst qs =>
   by_cases hv:V.ref a=u
   ·subst hv
    rw [zh3 I _ _ _ b h1 h2 e]
    cases e2
    exact EqAt.same _
   ·obtain ⟨a2,ys,rfl,g2,r2⟩:=RepO.lst_inv h2
    cases e2
    obtain ⟨its2,rv2,pl2,_⟩:=I.list g2.l
    have l1:=r1.length
    have l2:=r2.length
    have l3:=rv.length
    have l4:=rv2.length
    have e':zd9 ps qs=some b:=by simpa [peqO] using e
    have hp:=zjn ps qs b e'
    refine EqAt.of_refs (fun z=>hv (by rw [z])) ?_
    by_cases hl:ps.length=qs.length
    ·have hb:(List.range its.toArray.size).all (zhn ps qs)=b:=by
      rw [← hp,hl,Nat.min_self,beq_self_eq_true,Bool.and_true,show its.toArray.size=qs.length by simp;omega]
     rw [← hb]
     refine RcAt.lists pl.isList pl2.isList (by simp;omega) hu0 fun j j1 j2=>?_
     have:=zkf I ps qs A.in1 xs ys its its2 b r1 r2 rv rv2 e' (by show A.units + 1 + _ < _;omega) j (by simpa using j1) (by simpa using j2)
     simpa using this
    ·have hb:b=false:=by
      rw [← hp,beq_eq_false_iff_ne.mpr hl,Bool.and_false]
     rw [hb]
     exact RcAt.lists_lengths pl.isList pl2.isList (by simp;omega) hu0
  | _=>simp [peqO] at e
 | .dct _ _,_,_,_,_,_,_,_,_,_,_,_,e,_=>by simp [peqO] at e
 | .dtt _ _,_,_,_,_,_,_,_,_,_,_,_,e,_=>by simp [peqO] at e
theorem zkf (I:Inv X pins σ H s):∀ (ps qs:List PV) (A:Around) (xs ys:List V) (vs ws:List Value) (b:Bool),Reps X.K H ps xs->Reps X.K H qs ys->Vals xs vs->Vals ys ws->zd9 ps qs=some b->A.units + pdeps ps < cLine →
  ∀ j (h1:j < vs.length) (h2:j < ws.length),EqAt A s vs[j] ws[j] (zhn ps qs j)
 | [],qs,A,xs,ys,vs,ws,b,r1,r2,rv,rw',e,hu,j,h1,h2=>by
  cases r1
  cases rv
  exact absurd h1 (Nat.not_lt_zero _)
 | p::ps,[],A,xs,ys,vs,ws,b,r1,r2,rv,rw',e,hu,j,h1,h2=>by
  cases r2
  cases rw'
  exact absurd h2 (Nat.not_lt_zero _)
 | p::ps,q::qs,A,xs,ys,vs,ws,b,r1,r2,rv,rw',e,hu,j,h1,h2=>by
  obtain ⟨x,r,rfl,p1,t1⟩:=r1
  obtain ⟨y,r',rfl,p2,t2⟩:=r2
  cases rv with
  | cons a1 c1 =>
   cases rw' with
   | cons a2 c2 =>
    simp only [zd9] at e
    obtain ⟨b1,e1,e⟩:=Option.bind_eq_some_iff.mp e
    obtain ⟨b2,e2,e⟩:=Option.bind_eq_some_iff.mp e
    simp only [pdeps] at hu
    cases j with
    | zero =>
     have:zhn (p::ps) (q::qs) 0=b1:=by simp [zhn,e1]
     rw [this]
     exact zsc I p q A x y _ _ b1 p1.o p2.o a1 a2 e1 (by omega)
    | succ j =>
     rw [zk0]
     exact zkf I ps qs A r r' _ _ b2 t1 t2 c1 c2 e2 (by omega) j (Nat.lt_of_succ_lt_succ h1) (Nat.lt_of_succ_lt_succ h2)
end
end
end PU
end
section
namespace PU
open PySem PySem.Spec PyProof.Rows L2 PySem.SeqAt PySem.Calls PyProof.V
variable [TW]
def EqW (P:Program) (w:World) (A:Around) (s:Shared) (y x:Value) (b:Bool):Prop:=∀ (E:Value->Shared->Prop) (Q:Bool->Shared->Prop),Q b s->wpAny (model P w) A (eqBool y x) Q E s
theorem EqW.of {P:Program} {w:World} {A:Around} {s:Shared} {y x:Value} {b:Bool} (h:EqAt A s y x b):EqW P w A s y x b:=fun E Q q=>h P w E Q q
section
variable {P : Program} {w : World} {κ : Type} [DecidableEq κ] {kd : KeyKind P w κ} {A : Around} {E : Value → Shared → Prop} {s : Shared}
inductive HitW (P:Program) (w:World) (A:Around) (s:Shared) (other:List (κ × Value)):List (κ × Value)->Bool->Prop
 | done:HitW P w A s other [] true
 | lacks {k:κ} {v:Value} {t:List (κ × Value)}:valueAt other k=none->HitW P w A s other ((k,v)::t) false
 | meets {k:κ} {v y:Value} {t:List (κ × Value)} {e b:Bool}:valueAt other k=some y->EqW P w A s v y e->HitW P w A s other t b->HitW P w A s other ((k,v)::t) (e && b)
theorem HitW.split {other:List (κ × Value)} {k:κ} {v:Value} {t:List (κ × Value)} {b:Bool} (h:HitW P w A s other ((k,v)::t) b) :
  (valueAt other k=none/\b=false)\/∃ y e c,valueAt other k=some y/\EqW P w A s v y e/\HitW P w A s other t c/\b=(e && c):=by
 cases h with
 | lacks n=>exact .inl ⟨n,rfl⟩
 | meets y1 y2 y3=>exact .inr ⟨_,_,_,y1,y2,y3,rfl⟩
theorem zpn {nm:String} {d1 d2:Addr} {l1 l2:List (κ × Value)} {r:Bool} {Q:Bool->Shared->Prop} (n1:(d1 == sysModules)=false) (n2:(d2 == sysModules)=false) (D1:s.heap.DictOf kd d1 l1) (D2:s.heap.DictOf kd d2 l2)
  (hh:l1.length=l2.length->HitW P w A s l2 l1 r) (q:Q (l1.length == l2.length && r) s):wpAny (model P w) A (Builtin.Dict.samePairs nm d1 d2) Q E s:=by
 obtain ⟨o1,es1,c1,get1,_,dat1,ks1,prs1,_⟩:=D1
 obtain ⟨o2,es2,c2,get2,_,dat2,ks2,prs2,_⟩:=D2
 have len1:l1.length=es1.size:=by rw [← prs1.length];exact Array.length_toList
 have len2:l2.length=es2.size:=by rw [← prs2.length];exact Array.length_toList
 have seek:∀ k,findBy kd.is es2 k=valueAt l2 k:=fun k=>by
  rw [← prs2.find k]
  clear len2 prs2 ks2 dat2 get2
  cases es2
  simp [findBy]
 rw [len1,len2] at q
 unfold Builtin.Dict.samePairs Builtin.Dict.showsAll
 rw [if_neg (by rw [n1];exact Bool.false_ne_true),if_neg (by rw [n2];exact Bool.false_ne_true)]
 refine wpAny_bind (wpAny_pure (wpAny_bind (wpAny_pure (wpAny_bind (wpAny_dictEntries get1 dat1 ?_)))))
 dsimp only
 refine wpAny_bind (wpAny_dictEntries get2 dat2 ?_)
 by_cases sz:es1.size=es2.size
 case neg =>
  rw [if_pos (by simpa using sz)]
  have no:(es1.size == es2.size)=false:=by simpa using sz
  rw [no,Bool.false_and] at q
  exact wpAny_bind (wpAny_rule (wpAny_pure q))
 case pos =>
  have q':Q r s:=by simpa [sz] using q
  have hh':=hh (by rw [len1,len2];exact sz)
  rw [if_neg (by rw [sz];simp)]
  refine wpAny_bind (wpAny_dictEpoch get1 dat1 (wpAny_bind ?_))
  rw [Std.Legacy.Range.forIn_eq_forIn_range']
  simp only [Std.Legacy.Range.size,Nat.sub_zero,Nat.add_sub_cancel,Nat.div_one]
  refine wpAny_forIn_list _ (fun todo z s'=>s'=s/\z=(none,())/\∃ j,todo=List.range' j (es1.size - j)/\j<=es1.size/\HitW P w A s l2 (l1.drop j) r) _ ?_ ?_ _ _ ⟨rfl,rfl,0,by simp,Nat.zero_le _,hh'⟩
  ·rintro x todo z s' ⟨rfl,rfl,j,et,hj,rest⟩
   have lt:j < es1.size:=by
    rcases Nat.lt_or_ge j es1.size with g | g
    ·exact g
    ·rw [Nat.sub_eq_zero_of_le g] at et;simp at et
   have e1:es1.size - j=(es1.size - (j + 1)) + 1:=by omega
   rw [e1,List.range'_succ] at et
   injection et with ex et
   subst ex
   refine wpAny_bind (wpAny_dictEntries get1 dat1 ?_)
   rw [Array.getElem?_eq_getElem lt]
   have lt':x < l1.length:=by rw [len1];exact lt
   obtain ⟨k,v,ekv⟩:∃ k v,l1[x]=(k,v):=⟨_,_,rfl⟩
   have cut:l1.drop x=(k,v)::l1.drop (x + 1):=by rw [← ekv];exact List.drop_eq_getElem_cons lt'
   obtain ⟨isk,isv⟩:=prs1.get? (i:=x) (e:=es1[x]) (k:=k) (v:=v) (by rw [Array.getElem?_toList];exact Array.getElem?_eq_getElem lt) (by rw [List.getElem?_eq_getElem lt',ekv])
   obtain ⟨k',isk',hs⟩:=ks1 es1[x] (Array.getElem_mem lt)
   have ek:k'=k:=kd.inj _ _ _ isk' isk
   rw [ek] at hs
   rw [cut] at rest
   show wpAny _ _ (holding [es1[x].key,es1[x].val] _ >>= _) _ _ _
   rw [hs]
   refine wpAny_bind (wpAny_holding (wpAny_bind (wpAny_dictFind_of isk get2 dat2 ks2 ?_)))
   cases at2:es2.findIdx? fun e=>kd.is k e.key with
   | none =>
    have nn:valueAt l2 k=none:=by rw [← seek k,findBy_of_findIdx?,at2]
    rcases rest.split with ⟨_,er⟩ | ⟨y,_,_,hy,_⟩
    ·rw [er] at q'
     refine wpAny_pure ?_
     show wpAny _ _ (if (!false)=true then _ else _) _ _ _
     rw [if_pos (by decide)]
     exact wpAny_pure (wpAny_pure q')
    ·rw [nn] at hy;cases hy
   | some m =>
    obtain ⟨mlt,_,_⟩:=Array.findIdx?_eq_some_iff_getElem.mp at2
    have vv:valueAt l2 k=some es2[m].val:=by
     rw [← seek k,findBy_of_findIdx?,at2]
     simp [Array.getElem?_eq_getElem mlt]
    refine wpAny_bind (wpAny_dictEntries get2 dat2 ?_)
    rw [Array.getElem?_eq_getElem mlt]
    rcases rest.split with ⟨nn,_⟩ | ⟨y,e,c,hy,he,ht,er⟩
    ·rw [vv] at nn;cases nn
    ·have ey:es2[m].val=y:=Option.some.inj (vv.symm.trans hy)
     rw [← ey,← isv] at he
     refine wpAny_holding (he _ _ ?_)
     cases e with
     | false =>
      rw [er,Bool.false_and] at q'
      show wpAny _ _ (if (!false)=true then _ else _) _ _ _
      rw [if_pos (by decide)]
      exact wpAny_pure (wpAny_pure q')
     | true =>
      rw [Bool.true_and] at er
      rw [← er] at ht
      show wpAny _ _ (if (!true)=true then _ else _) _ _ _
      rw [if_neg (by decide)]
      refine wpAny_bind (wpAny_dictEpoch get1 dat1 ?_)
      rw [if_neg (by simp)]
      exact wpAny_pure ⟨rfl,rfl,x + 1,et,lt,ht⟩
  ·rintro z s' ⟨rfl,rfl,j,et,hj,rest⟩
   have ej:j=es1.size:=by
    rcases Nat.lt_or_ge j es1.size with g | g
    ·have e1:es1.size - j=(es1.size - (j + 1)) + 1:=by omega
     rw [e1,List.range'_succ] at et
     cases et
    ·exact Nat.le_antisymm hj g
   refine wpAny_pure ?_
   rw [ej,← len1,List.drop_length] at rest
   cases rest
   exact q'
theorem zjt {d1 d2:Addr} {l1 l2:List (κ × Value)} {r:Bool} {Q:Value->Shared->Prop} (n1:(d1 == sysModules)=false) (n2:(d2 == sysModules)=false) (D1:s.heap.DictOf kd d1 l1) (D2:s.heap.DictOf kd d2 l2) (hu:A.units < cLine)
  (hh:l1.length=l2.length->HitW P w A.in1 s l2 l1 r) (q:Q (.bool (l1.length == l2.length && r)) s):wpAny (model P w) A (richCompare .Eq (.ref d1) (.ref d2)) Q E s:=by
 refine wpAny_richCompare_same_room (op:=.Eq) D1.typeIs D2.typeIs PySem.F.slot_dict_eq (wpAny_call_entry PySem.F.slot_dict_eq D1.typeIs PySem.F.entry_dict_eq ?_ (PySem.F.args_dict_eq_2 _ _)) hu
 show wpAny _ _ (Builtin.Dict.dictSlotArgs "__eq__" ⟨[.ref d1,.ref d2],[]⟩ >>= _) _ _ s
 unfold Builtin.Dict.dictSlotArgs
 refine wpAny_bind (wpAny_bind (wpAny_notOrdered_dict D1.typeIs ?_))
 show wpAny _ _ (pure (Value.ref d1,Value.ref d2)) _ _ s
 refine wpAny_pure (wpAny_bind (wpAny_isInstance (T:="dict") D2.typeIs PySem.F.sub_dict_dict ?_))
 simp only [Bool.not_true,Bool.false_eq_true,if_false]
 refine wpAny_bind (wpAny_pure (wpAny_bind (wpAny_pure (wpAny_bind (zpn n1 n2 D1 D2 hh (wpAny_pure ⟨_,rfl,(fun z=>nomatch z),?_⟩))))))
 simpa using q
end
section
variable {X : Cx} {pins : List (Addr × Obj)} {σ : L2.St} {H : Hp} {s : Shared}
theorem zkr {kvs:List (Key × V)} {vs:List (Key × Value)} (r:KV kvs vs) (k:Key):(valV kvs k=none/\valueAt vs k=none)\/∃ v u,valV kvs k=some v/\valueAt vs k=some u/\RelV v u:=by
 induction r with
 | nil=>exact .inl ⟨rfl,rfl⟩
 | @cons p q ps qs h t ih =>
  obtain ⟨h1,h2⟩:=h
  by_cases e:p.1=k
  ·refine .inr ⟨p.2,q.2,zhy e,?_,h2⟩
   simp [valueAt,List.find?_cons,← h1,e]
  ·rw [zf0 e]
   have e2:valueAt (q::qs) k=valueAt qs k:=by simp [valueAt,List.find?_cons,← h1,e]
   rw [e2]
   exact ih
theorem zk3 {k:Key}:∀ {ks:List Key} {ps:List PV} {kvs:List (Key × V)},kvs.map (·.1)=ks->ps.length=kvs.length->zca ks ps k=none->valV kvs k=none
 | [],_,kvs,e,_,_=>by
  have:kvs=[]:=by simpa using e
  subst this
  rfl
 | j::ks,[],kvs,e,hl,_=>by
  have:kvs.length=0:=by simpa using hl.symm
  have:kvs=[]:=List.eq_nil_of_length_eq_zero this
  subst this
  cases e
 | j::ks,p::ps,kv::kvs,e,hl,h=>by
  have e1:kv.1=j:=by simpa using congrArg List.head? e
  have e2:kvs.map (·.1)=ks:=by simpa using congrArg List.tail e
  have h:(if j=k then some p else zca ks ps k)=none:=h
  split at h
  ·cases h
  ·rename_i hn
   rw [zf0 (by rw [e1];exact hn)]
   exact zk3 e2 (by simpa using hl) h
 | j::ks,p::ps,[],e,_,_=>by cases e
theorem zh6 {K:PySem.W.Frag} {H:Hp} {k:Key}:∀ {ks:List Key} {ps:List PV} {kvs:List (Key × V)} {p:PV},kvs.map (·.1)=ks->Reps K H ps (kvs.map (·.2))->zca ks ps k=some p->∃ v,valV kvs k=some v/\Rep K H p v
 | _,_,[],_,h1,h2,e=>by
  subst h1
  simp only [List.map_nil,zca] at e
  cases e
 | _,[],kv::kvs,_,h1,h2,e=>by
  cases h2
 | _,q::ps,kv::kvs,p,h1,h2,e=>by
  subst h1
  obtain ⟨x,r,ex,hx,ht⟩:=h2
  simp only [List.map_cons,List.cons.injEq] at ex
  obtain ⟨rfl,rfl⟩:=ex
  simp only [List.map_cons,zca] at e
  by_cases hk:kv.1=k
  ·rw [if_pos hk] at e
   cases e
   exact ⟨kv.2,zhy hk,hx⟩
  ·rw [if_neg hk] at e
   rw [zf0 hk]
   exact zh6 rfl ht e
theorem zl0 (A:Around) (eqf:PV->PV->Option Bool) (I:Inv X pins σ H s) {ls:List Key} {qs:List PV} {kvs2:List (Key × V)} {vs2:List (Key × Value)} (e2:kvs2.map (·.1)=ls) (r2:Reps X.K H qs (kvs2.map (·.2))) (kv2:KV kvs2 vs2) :
  ∀ (ks:List Key) (ps:List PV) (kvs1:List (Key × V)) (vs1:List (Key × Value)) (b:Bool),kvs1.map (·.1)=ks->Reps X.K H ps (kvs1.map (·.2))->KV kvs1 vs1->zh9 eqf ks ps ls qs=some b →
   (∀ p∈ps,∀ (q:PV) (v u:V) (v' u':Value) (c:Bool),RepO X.K H p v->RepO X.K H q u->RelV v v'->RelV u u'->eqf p q=some c->EqW X.prog X.w A s v' u' c)->HitW X.prog X.w A s vs2 vs1 b
 | [],[],kvs1,vs1,b,e1,r1,kv1,h,_=>by
  have:kvs1=[]:=by simpa using e1
  subst this
  cases kv1
  have h:some true=some b:=h
  cases h
  exact .done
 | k::ks,p::ps,kvs1,vs1,b,e1,r1,kv1,h,he=>by
  cases kvs1 with
  | nil=>cases e1
  | cons kv kvs =>
   have ek:kv.1=k:=by simpa using congrArg List.head? e1
   have et:kvs.map (·.1)=ks:=by simpa using congrArg List.tail e1
   obtain ⟨x,r,ex,rp,rt⟩:=r1
   have exx:kv.2=x:=by simpa using congrArg List.head? ex
   have err:kvs.map (·.2)=r:=by simpa using congrArg List.tail ex
   cases kv1 with
   | @cons _ q _ qs' hd tl =>
    obtain ⟨k',u1⟩:=q
    obtain ⟨h1,h2⟩:=hd
    have h1:kv.1=k':=h1
    have h2:RelV kv.2 u1:=h2
    subst err
    rw [← h1,ek]
    unfold zh9 at h
    cases hl:zca ls qs k with
    | none =>
     rw [hl] at h
     have h:some false=some b:=h
     cases h
     have:=zk3 e2 (by rw [r2.length,List.length_map]) hl
     rcases zkr kv2 k with ⟨_,z⟩ | ⟨v,u,z,_⟩
     ·exact .lacks z
     ·rw [this] at z;cases z
    | some q2 =>
     rw [hl] at h
     have h:((eqf p q2).bind fun a=>(zh9 eqf ks ps ls qs).bind fun b=>some (a && b))=some b:=h
     obtain ⟨c1,g1,h⟩:=Option.bind_eq_some_iff.mp h
     obtain ⟨c2,g2,h⟩:=Option.bind_eq_some_iff.mp h
     cases h
     obtain ⟨v2,ev2,rp2⟩:=zh6 e2 r2 hl
     rcases zkr kv2 k with ⟨z,_⟩ | ⟨v,u,z,z2,z3⟩
     ·rw [ev2] at z;cases z
     ·rw [ev2] at z
      cases z
      exact .meets z2 (he p List.mem_cons_self q2 kv.2 v2 u1 u c1 (exx ▸ rp.o) rp2.o h2 z3 g1) (zl0 A eqf I e2 r2 kv2 ks ps kvs qs' c2 et rt tl g2 fun p' hp'=>he p' (List.mem_cons_of_mem _ hp'))
 | [],_::_,_,_,_,_,_,_,h,_=>by cases h
 | _::_,[],_,_,_,_,_,_,h,_=>by cases h
theorem zrc {k:Key} {r:PV}:∀ (ks:List Key) (ps:List PV),ks.length=ps.length->k ∉ ks->∀ (ls:List Key) (qs:List PV),zca (ks++k::ls) (ps++r::qs) k=some r
 | [],[],_,_,ls,qs=>by
  show (if k=k then some r else _)=_
  rw [if_pos rfl]
 | j::ks,p::ps,hl,hn,ls,qs=>by
  show (if j=k then some p else zca (ks++k::ls) (ps++r::qs) k)=_
  rw [if_neg (fun e=>hn (by rw [e];exact List.mem_cons_self))]
  exact zrc ks ps (by simpa using hl) (fun h=>hn (List.mem_cons_of_mem _ h)) ls qs
 | [],_::_,h,_,_,_=>by simp at h
 | _::_,[],h,_,_,_=>by simp at h
theorem zmj {P:Program} {w:World} {κ:Type} [DecidableEq κ] {kd:KeyKind P w κ}:∀ {es:List DictEntry} {l1 l2:List (κ × Value)},Pairs kd es l1->Pairs kd es l2->l1=l2
 | _,_,_,.nil,.nil=>rfl
 | _,_,_,.cons a b c,.cons a' b' c'=>by
  rw [zmj c c']
  have h1:=kd.inj _ _ _ a a'
  have h2:=b.symm.trans b'
  rw [Prod.ext h1 h2]
theorem zp1 {P:Program} {w:World} {κ:Type} [DecidableEq κ] {kd:KeyKind P w κ} {h:Heap} {a:Addr} {l1 l2:List (κ × Value)} (d1:h.DictOf kd a l1) (d2:h.DictOf kd a l2):l1=l2:=by
 obtain ⟨o1,es1,c1,get1,_,dat1,_,prs1,_⟩:=d1
 obtain ⟨o2,es2,c2,get2,_,dat2,_,prs2,_⟩:=d2
 rw [get1] at get2
 cases get2
 rw [dat1] at dat2
 cases dat2
 exact zmj prs1 prs2
theorem zvb:∀ {l1 l2:List (Key × V)} {vs:List (Key × Value)},KV l1 vs->KV l2 vs->l1=l2
 | _,_,_,.nil,.nil=>rfl
 | _,_,_,.cons a c,.cons a' c'=>by
  rw [zvb c c']
  rw [Prod.ext (a.1.trans a'.1.symm) (RelV.inj a.2 a'.2)]
theorem zrh:∀ {l:List (Key × V)} {vs:List (Key × Value)},KV l vs->l.map (·.1)=vs.map (·.1)
 | _,_,.nil=>rfl
 | _,_,.cons a c=>by rw [List.map_cons,List.map_cons,zrh c,a.1]
theorem zmw (eqf:PV->PV->Option Bool) (he:∀ (p q:PV) (v:V) (c:Bool),Rep X.K H p v->Rep X.K H q v->eqf p q=some c->c=true):∀ (kvs kvs0:List (Key × V)) (qs0 qs ps:List PV) (b:Bool),
  ((kvs0++kvs).map (·.1)).Nodup->Reps X.K H qs0 (kvs0.map (·.2))->Reps X.K H qs (kvs.map (·.2))->Reps X.K H ps (kvs.map (·.2))->zh9 eqf (kvs.map (·.1)) ps ((kvs0++kvs).map (·.1)) (qs0++qs)=some b->b=true
 | [],kvs0,qs0,qs,ps,b,nd,r0,rq,rp,h=>by
  have:ps=[]:=List.eq_nil_of_length_eq_zero (by rw [rp.length];rfl)
  subst this
  have h:some true=some b:=h
  cases h
  rfl
 | kv::kvs,kvs0,qs0,[],ps,b,nd,r0,rq,rp,h=>by
  have:=rq.length
  simp at this
 | kv::kvs,kvs0,qs0,q::qs,[],b,nd,r0,rq,rp,h=>by
  have:=rp.length
  simp at this
 | kv::kvs,kvs0,qs0,q::qs,p::ps,b,nd,r0,rq,rp,h=>by
  obtain ⟨x,r,ex,rp1,rpt⟩:=rp
  obtain ⟨y,r',ey,rq1,rqt⟩:=rq
  have exx:kv.2=x:=by simpa using congrArg List.head? ex
  have err:kvs.map (·.2)=r:=by simpa using congrArg List.tail ex
  have eyy:kv.2=y:=by simpa using congrArg List.head? ey
  have err':kvs.map (·.2)=r':=by simpa using congrArg List.tail ey
  subst exx eyy err
  rw [← err'] at rqt
  have nk:kv.1 ∉ kvs0.map (·.1):=fun z=>by
   rw [List.map_append,List.nodup_append] at nd
   exact nd.2.2 _ z _ (by simp) rfl
  have lk:zca ((kvs0++kv::kvs).map (·.1)) (qs0++q::qs) kv.1=some q:=by
   rw [List.map_append,List.map_cons]
   exact zrc _ _ (by rw [List.length_map,r0.length,List.length_map]) nk _ _
  rw [List.map_cons] at h
  unfold zh9 at h
  rw [lk] at h
  have h:((eqf p q).bind fun a=>(zh9 eqf (kvs.map (·.1)) ps ((kvs0++kv::kvs).map (·.1)) (qs0++q::qs)).bind fun b=>some (a && b))=some b:=h
  obtain ⟨c1,g1,h⟩:=Option.bind_eq_some_iff.mp h
  obtain ⟨c2,g2,h⟩:=Option.bind_eq_some_iff.mp h
  cases h
  rw [he p q kv.2 c1 rp1 rq1 g1]
  have:=zmw eqf he kvs (kvs0++[kv]) (qs0++[q]) qs ps c2 (by simpa using nd) (by rw [List.map_append];exact r0.append (Reps.cons rq1 Reps.nil)) rqt rpt (by simpa using g2)
  rw [this]
  rfl
theorem zqz (hw:X.w=TW.w) (I:Inv X pins σ H s):∀ (n:Nat) (p q:PV) (v:V) (b:Bool),RepO X.K H p v->RepO X.K H q v->peqN n p q=some b->b=true:=by
 intro n
 induction n with
 | zero =>
  intro p q v b h1 h2 e
  have e:peqO p q=some b:=by cases p <;> exact e
  exact zh3 I p q v b h1 h2 e
 | succ n ih =>
  intro p q v b h1 h2 e
  by_cases hd:∃ ks ps ls qs,p=.dct ks ps/\q=.dct ls qs
  ·obtain ⟨ks,ps,ls,qs,rfl,rfl⟩:=hd
   have e:(if ks.length=ls.length then zh9 (peqN n) ks ps ls qs else some false)=some b:=e
   obtain ⟨a1,kvs1,rfl,d1,k1,r1⟩:=h1
   obtain ⟨a2,kvs2,ea,d2,k2,r2⟩:=h2
   cases ea
   obtain ⟨_,n1,vs1,kv1,D1⟩:=DkR.at hw I d1
   obtain ⟨_,n2,vs2,kv2,D2⟩:=DkR.at hw I d2
   have:=zp1 D1 D2
   subst this
   have:=zvb kv1 kv2
   subst this
   subst k1
   subst k2
   rw [if_pos rfl] at e
   obtain ⟨_,_,_,_,_,_,_,_,nd⟩:=D1
   exact zmw (peqN n) (fun p q v c g1 g2 g=>ih p q v c g1.o g2.o g) kvs1 [] [] qs ps b (by rw [List.nil_append,zrh kv1];exact nd) Reps.nil r2 r1 (by simpa using e)
  ·have e:peqO p q=some b:=by
    rw [← e]
    cases p with
    | dct ks ps =>
     cases q with
     | dct ls qs=>exact absurd ⟨ks,ps,ls,qs,rfl,rfl⟩ hd
     | _=>rfl
    | _=>rfl
   exact zh3 I p q v b h1 h2 e
theorem zxf (hw:X.w=TW.w) (I:Inv X pins σ H s):∀ (n:Nat) (p q:PV) (A:Around) (v u:V) (v' u':Value) (b:Bool),RepO X.K H p v->RepO X.K H q u->RelV v v'->RelV u u'->peqN n p q=some b->A.units + pdep p < cLine->EqW X.prog X.w A s v' u' b:=by
 intro n
 induction n with
 | zero =>
  intro p q A v u v' u' b h1 h2 e1 e2 e hu
  have e:peqO p q=some b:=by cases p <;> exact e
  exact .of (zsc I p q A v u v' u' b h1 h2 e1 e2 e hu)
 | succ n ih =>
  intro p q A v u v' u' b h1 h2 e1 e2 e hu
  by_cases hd:∃ ks ps ls qs,p=.dct ks ps/\q=.dct ls qs
  ·obtain ⟨ks,ps,ls,qs,rfl,rfl⟩:=hd
   have e0:=e
   have h10:=h1
   have h20:=h2
   have e:(if ks.length=ls.length then zh9 (peqN n) ks ps ls qs else some false)=some b:=e
   obtain ⟨a1,kvs1,rfl,d1,k1,r1⟩:=h1
   obtain ⟨a2,kvs2,rfl,d2,k2,r2⟩:=h2
   cases e1
   cases e2
   obtain ⟨_,n1,vs1,kv1,D1⟩:=DkR.at hw I d1
   obtain ⟨_,n2,vs2,kv2,D2⟩:=DkR.at hw I d2
   have l1:vs1.length=ks.length:=by rw [← k1,List.length_map];exact (Paired.length kv1).symm
   have l2:vs2.length=ls.length:=by rw [← k2,List.length_map];exact (Paired.length kv2).symm
   simp only [pdep] at hu
   have hu0:A.units < cLine:=by omega
   have dep:∀ p∈ps,pdep p<=pdeps ps:=fun p hp=>by
    obtain ⟨j,hj⟩:=List.mem_iff_getElem?.mp hp
    exact zlr hj
   by_cases same:a1=a2
   ·subst same
    rw [zqz hw I (n + 1) _ _ _ b h10 h20 e0]
    exact .of (EqAt.same _)
   ·intro E Q hq
    unfold eqBool
    refine wpAny_holding (wpAny_ite_split (fun hab=>absurd (by have:=eq_of_beq hab;injection this) same) fun _=>wpAny_bind ?_)
    by_cases hl:ks.length=ls.length
    ·rw [if_pos hl] at e
     refine zjt (r:=b) n1 n2 D1 D2 hu0 (fun _=>zl0 A.in1 (peqN n) I k2 r2 kv2 ks ps kvs1 vs1 b k1 r1 kv1 e fun p hp q v u v' u' c g1 g2 g3 g4 g5=>ih p q A.in1 v u v' u' c g1 g2 g3 g4 g5 ?_) (wpAny_truthy_bool ?_)
     ·have:=dep p hp
      show A.units + 1 + _ < _
      omega
     ·have:(vs1.length == vs2.length)=true:=by rw [l1,l2,hl];simp
      rw [this,Bool.true_and]
      exact hq
    ·rw [if_neg hl] at e
     cases e
     refine zjt (r:=false) n1 n2 D1 D2 hu0 (fun z=>absurd (by rw [← l1,← l2];exact z) hl) (wpAny_truthy_bool ?_)
     rw [Bool.and_false]
     exact hq
  ·have e:peqO p q=some b:=by
    rw [← e]
    cases p with
    | dct ks ps =>
     cases q with
     | dct ls qs=>exact absurd ⟨ks,ps,ls,qs,rfl,rfl⟩ hd
     | _=>rfl
    | _=>rfl
   exact .of (zsc I p q A v u v' u' b h1 h2 e1 e2 e hu)
end
end PU
end
section
namespace PU
open PySem PySem.Spec PyProof.Rows L2 PySem.SeqAt
variable [TW]
theorem zcs {K:PySem.W.Frag} {H:Hp} {p:PV} {v:V} (h:isSc p=true) (r:RepO K H p v):v=scV p:=by
 cases p with
 | non=>exact r
 | bl b=>exact r
 | int i=>exact r
 | str x=>exact r
 | _=>cases h
section
variable {X : Cx}
theorem zob {pins:List (Addr × Obj)} {σ:L2.St} {H:Hp} {s:Shared} {ps qs:List PV} {v u:V} {v' u':Value} {b:Bool} (hu:X.A.units + 64 < cLine) (I:Inv X pins σ H s) (e:zd9 ps qs=some b) (hd:pdeps ps<=60) :
  (RepO X.K H (.tup ps) v->RepO X.K H (.tup qs) u->RelV v v'->RelV u u'->RcAt X.A s v' u' b/\RcNeAt X.A s v' u' (!b)) ∧
  (RepO X.K H (.lst ps) v->RepO X.K H (.lst qs) u->RelV v v'->RelV u u'->RcAt X.A s v' u' b/\RcNeAt X.A s v' u' (!b)):=by
 have hu0:X.A.units < cLine:=by omega
 have hp:=zjn ps qs b e
 constructor
 ·intro h1 h2 e1 e2
  obtain ⟨a,xs,rfl,g1,r1⟩:=RepO.tup_inv h1
  obtain ⟨a2,ys,rfl,g2,r2⟩:=RepO.tup_inv h2
  cases e1
  cases e2
  obtain ⟨its,rv,pl,_⟩:=I.tuple g1
  obtain ⟨its2,rv2,pl2,_⟩:=I.tuple g2
  have l1:=r1.length
  have l2:=r2.length
  have l3:=rv.length
  have l4:=rv2.length
  have each:∀ j (j1:j < its.toArray.size) (j2:j < its2.toArray.size),EqAt X.A.in1 s its.toArray[j] its2.toArray[j] (zhn ps qs j):=fun j j1 j2=>by
   have:=zkf I ps qs X.A.in1 xs ys its its2 b r1 r2 rv rv2 e (by show X.A.units + 1 + _ < _;omega) j (by simpa using j1) (by simpa using j2)
   simpa using this
  rw [← hp,show ps.length=its.toArray.size by simp;omega,show qs.length=its2.toArray.size by simp;omega]
  exact ⟨RcAt.tuples pl pl2 hu0 each,RcNeAt.tuples pl pl2 hu0 each⟩
 ·intro h1 h2 e1 e2
  obtain ⟨a,xs,rfl,g1,r1⟩:=RepO.lst_inv h1
  obtain ⟨a2,ys,rfl,g2,r2⟩:=RepO.lst_inv h2
  cases e1
  cases e2
  obtain ⟨its,rv,pl,_⟩:=I.list g1.l
  obtain ⟨its2,rv2,pl2,_⟩:=I.list g2.l
  have l1:=r1.length
  have l2:=r2.length
  have l3:=rv.length
  have l4:=rv2.length
  have each:∀ j (j1:j < its.toArray.size) (j2:j < its2.toArray.size),EqAt X.A.in1 s its.toArray[j] its2.toArray[j] (zhn ps qs j):=fun j j1 j2=>by
   have:=zkf I ps qs X.A.in1 xs ys its its2 b r1 r2 rv rv2 e (by show X.A.units + 1 + _ < _;omega) j (by simpa using j1) (by simpa using j2)
   simpa using this
  by_cases hl:ps.length=qs.length
  ·have hb:(List.range its.toArray.size).all (zhn ps qs)=b:=by
    rw [← hp,hl,Nat.min_self,beq_self_eq_true,Bool.and_true,show its.toArray.size=qs.length by simp;omega]
   rw [← hb]
   exact ⟨RcAt.lists pl.isList pl2.isList (by simp;omega) hu0 each,RcNeAt.lists pl.isList pl2.isList (by simp;omega) hu0 each⟩
  ·have hb:b=false:=by
    rw [← hp,beq_eq_false_iff_ne.mpr hl,Bool.and_false]
   rw [hb]
   exact ⟨RcAt.lists_lengths pl.isList pl2.isList (by simp;omega) hu0,RcNeAt.lists_lengths pl.isList pl2.isList (by simp;omega) hu0⟩
theorem opEq (hu:X.A.units + 64 < cLine) (hw:X.w=TW.w:=by rfl):OpR X (compareOp .Eq) (rP X.K gEq):=by
 intro pins s σ H x y v u Q I rx ry ⟨p,q,z,hp,hq,e,k⟩
 unfold gEq at e
 split at e
 ·rename_i ks ps ls qs
  split at e
  ·rename_i hd
   obtain ⟨b,eb,ez⟩:=Option.map_eq_some_iff.mp e
   subst ez
   have eb:(if ks.length=ls.length then zh9 (peqN 2) ks ps ls qs else some false)=some b:=eb
   obtain ⟨a1,kvs1,rfl,d1,k1,r1⟩:=hp
   obtain ⟨a2,kvs2,rfl,d2,k2,r2⟩:=hq
   cases rx
   cases ry
   obtain ⟨_,n1,vs1,kv1,D1⟩:=DkR.at hw I d1
   obtain ⟨_,n2,vs2,kv2,D2⟩:=DkR.at hw I d2
   have l1:vs1.length=ks.length:=by rw [← k1,List.length_map];exact (Paired.length kv1).symm
   have l2:vs2.length=ls.length:=by rw [← k2,List.length_map];exact (Paired.length kv2).symm
   have fin:EP X pins σ Q (.bool b) s:=⟨.bl b,H,I,rfl,k _ H (Same.refl H) rfl⟩
   have hu0:X.A.units < cLine:=by omega
   by_cases hl:ks.length=ls.length
   ·rw [if_pos hl] at eb
    refine zjt (r:=b) n1 n2 D1 D2 hu0 (fun _=>zl0 X.A.in1 (peqN 2) I k2 r2 kv2 ks ps kvs1 vs1 b k1 r1 kv1 eb fun p hp q v u v' u' c g1 g2 g3 g4 g5=>zxf hw I 2 p q X.A.in1 v u v' u' c g1 g2 g3 g4 g5 ?_) ?_
    ·obtain ⟨j,hj⟩:=List.mem_iff_getElem?.mp hp
     have:=zlr hj
     show X.A.units + 1 + _ < _
     omega
    ·have:(vs1.length == vs2.length)=true:=by rw [l1,l2,hl];simp
     rw [this,Bool.true_and]
     exact fin
   ·rw [if_neg hl] at eb
    cases eb
    refine zjt (r:=false) n1 n2 D1 D2 hu0 (fun z=>absurd (by rw [← l1,← l2];exact z) hl) ?_
    rw [Bool.and_false]
    exact fin
  ·cases e
 ·split at e
  ·rename_i hd
   obtain ⟨b,eb,ez⟩:=Option.map_eq_some_iff.mp e
   subst ez
   exact ((zob hu I eb hd).1 hp hq rx ry).1 _ _ _ _ ⟨.bl b,H,I,rfl,k _ H (Same.refl H) rfl⟩
  ·cases e
 ·split at e
  ·rename_i hd
   obtain ⟨b,eb,ez⟩:=Option.map_eq_some_iff.mp e
   subst ez
   exact ((zob hu I eb hd).2 hp hq rx ry).1 _ _ _ _ ⟨.bl b,H,I,rfl,k _ H (Same.refl H) rfl⟩
  ·cases e
 ·split at e
  ·rename_i hc
   obtain ⟨h1,h2,h3⟩:=hc
   cases e
   rw [zcs h1 hp] at rx
   rw [zcs h2 hq] at ry
   exact op_eq pins s σ H _ _ v u Q I rx ry ⟨h3,k _ H (Same.refl H) rfl⟩
  ·cases e
theorem opNe (hu:X.A.units + 64 < cLine):OpR X (compareOp .NotEq) (rP X.K gNe):=by
 intro pins s σ H x y v u Q I rx ry ⟨p,q,z,hp,hq,e,k⟩
 unfold gNe at e
 split at e
 ·split at e
  ·rename_i hd
   obtain ⟨b,eb,ez⟩:=Option.map_eq_some_iff.mp e
   subst ez
   exact ((zob hu I eb hd).1 hp hq rx ry).2 _ _ _ _ ⟨.bl (!b),H,I,rfl,k _ H (Same.refl H) rfl⟩
  ·cases e
 ·split at e
  ·rename_i hd
   obtain ⟨b,eb,ez⟩:=Option.map_eq_some_iff.mp e
   subst ez
   exact ((zob hu I eb hd).2 hp hq rx ry).2 _ _ _ _ ⟨.bl (!b),H,I,rfl,k _ H (Same.refl H) rfl⟩
  ·cases e
 ·split at e
  ·rename_i hc
   obtain ⟨h1,h2,h3⟩:=hc
   cases e
   rw [zcs h1 hp] at rx
   rw [zcs h2 hq] at ry
   exact op_ne pins s σ H _ _ v u Q I rx ry ⟨h3,k _ H (Same.refl H) rfl⟩
  ·cases e
theorem opLt:OpR X (compareOp .Lt) (rP X.K gLt):=by
 intro pins s σ H x y v u Q I rx ry ⟨p,q,z,hp,hq,e,k⟩
 unfold gLt at e
 split at e
 ·rename_i i j
  cases e
  cases (show x=.int i from hp)
  cases (show y=.int j from hq)
  exact op_lt pins s σ H _ _ v u Q I rx ry ⟨i,j,rfl,rfl,k _ H (Same.refl H) rfl⟩
 ·rename_i i j
  cases e
  cases (show x=.str i from hp)
  cases (show y=.str j from hq)
  exact zq6 pins s σ H _ _ v u Q I rx ry ⟨i,j,rfl,rfl,k _ H (Same.refl H) rfl⟩
 ·cases e
theorem opGt:OpR X (compareOp .Gt) (rP X.K gGt):=zmh op_gt fun p q z e=>by
 unfold gGt at e
 split at e
 ·rename_i i j
  cases e
  exact ⟨i,j,rfl,rfl,_,fun _ _=>rfl,fun H Q q=>⟨i,j,rfl,rfl,q⟩⟩
 ·cases e
theorem opLe:OpR X (compareOp .LtE) (rP X.K gLe):=by
 intro pins s σ H x y v u Q I rx ry ⟨p,q,z,hp,hq,e,k⟩
 unfold gLe at e
 split at e
 ·rename_i i j
  cases e
  cases (show x=.int i from hp)
  cases (show y=.int j from hq)
  exact op_le pins s σ H _ _ v u Q I rx ry ⟨i,j,rfl,rfl,k _ H (Same.refl H) rfl⟩
 ·rename_i i j
  cases e
  cases (show x=.str i from hp)
  cases (show y=.str j from hq)
  obtain ⟨t,rfl⟩:=rx
  obtain ⟨t',rfl⟩:=ry
  exact PySem.P.le_str ⟨.bl _,H,I,rfl,k _ H (Same.refl H) rfl⟩
 ·cases e
theorem zv7 {K:PySem.W.Frag} {H:Hp} {p:PV} {v:V} (r:RepO K H p v):decide (v=.non)=zw9 p:=by
 cases p with
 | non=>cases (show v=.non from r);rfl
 | bl b=>cases (show v=.bl b from r);rfl
 | int b=>cases (show v=.int b from r);rfl
 | str b=>cases (show v=.str b from r);rfl
 | tup ps=>obtain ⟨a,xs,rfl,_⟩:=RepO.tup_inv r;rfl
 | lst ps=>obtain ⟨a,xs,rfl,_⟩:=RepO.lst_inv r;rfl
 | dct ks ps=>obtain ⟨a,kvs,rfl,_⟩:=r;rfl
 | dtt ks ps=>obtain ⟨a,kvs,rfl,_⟩:=r;rfl
theorem opIsN:OpR X (compareOp .Is) (rP X.K gIsN):=by
 intro pins s σ H x y v u Q I rx ry ⟨p,q,z,hp,hq,e,k⟩
 unfold gIsN at e
 split at e
 ·cases e
  cases (show y=.non from hq)
  refine op_isN pins s σ H _ _ v u Q I rx ry ⟨rfl,?_⟩
  rw [zv7 hp]
  exact k _ H (Same.refl H) rfl
 ·cases e
end
end PU
end
section
namespace PU
open PySem PySem.Spec PyProof.Rows L2 PySem.SeqAt
variable [TW]
theorem zfn {K:PySem.W.Frag} {H:Hp} {p:PV} {v:V} {k:Key} (e:zf1 p=some k) (r:RepO K H p v):v=kV k:=by
 cases p with
 | int i=>cases e;exact r
 | str i=>cases e;exact r
 | _=>cases e
theorem zod {K:PySem.W.Frag} {H:Hp} {ps:List PV} {xs:List V} {i:Int} {p:PV} (r:Reps K H ps xs) (e:atI ps i=some p):∃ v,atI xs i=some v/\Rep K H p v:=by
 unfold atI at e ⊢
 rw [← r.length]
 obtain ⟨j,ej,e2⟩:=Option.bind_eq_some_iff.mp e
 obtain ⟨v,ev,rp⟩:=r.get e2
 exact ⟨v,by rw [ej];exact ev,rp⟩
section
variable {X : Cx}
theorem ixP (hu:X.A.units + 64 < cLine) (hw:X.w=TW.w:=by rfl):IxR X (rP X.K gIx):=by
 intro value slice pins s σ H x y v u Q I rx ry ⟨p,q,z,hp,hq,e,k⟩ hs
 have h16:=sizeLine_eq
 unfold gIx at e
 split at e
 ·rename_i ps i
  obtain ⟨a,xs,rfl,g,r⟩:=RepO.lst_inv hp
  cases (show y=.int i from hq)
  obtain ⟨w,ew,rp⟩:=zod r e
  exact zw4 value slice pins s σ H _ _ v u Q I rx ry ⟨a,xs,i,w,rfl,rfl,g.l,ew,k w H (Same.refl H) rp⟩ hs
 ·rename_i ps i
  obtain ⟨a,xs,rfl,g,r⟩:=RepO.tup_inv hp
  cases (show y=.int i from hq)
  obtain ⟨w,ew,rp⟩:=zod r e
  exact ix_tup value slice pins s σ H _ _ v u Q I rx ry ⟨a,xs,i,w,rfl,rfl,g,ew,k w H (Same.refl H) rp⟩ hs
 ·rename_i t i
  split at e
  ·rename_i hl
   obtain ⟨c,ec,ez⟩:=Option.map_eq_some_iff.mp e
   subst ez
   cases (show x=.str t from hp)
   cases (show y=.int i from hq)
   exact ix_str value slice pins s σ H _ _ v u Q I rx ry ⟨t,i,c,rfl,rfl,by omega,ec,k _ H (Same.refl H) rfl⟩ hs
  ·cases e
 ·rename_i ks ps
  obtain ⟨kk,ek,e⟩:=Option.bind_eq_some_iff.mp e
  obtain ⟨a,kvs,rfl,g,e1,r⟩:=hp
  cases rx
  have hy:=zfn ek hq
  subst hy
  obtain ⟨w,ew,rp⟩:=zh6 e1 r e
  obtain ⟨zz,hd,vs,rel,dd⟩:=DkR.at hw I g
  obtain ⟨w',hw,rw'⟩:=RelO.some_of (v:=w) (o:=valueAt vs kk) (by rw [← ew];exact rel.val kk)
  exact tail_any dd.typeIs PySem.F.slot_dict_getitem.lookup (wpAny_getItem_of (znq ry) dd.mapOf hw ⟨w,H,I.tok _,rw',k w H (Same.refl H) rp⟩) hs
 ·cases e
theorem zkk {K:PySem.W.Frag} {H:Hp}:∀ {qs:List PV} {xs:List V},qs.all isSc=true->Reps K H qs xs->xs=qs.map scV/\xs.all zko=true
 | [],_,_,r=>by cases r;exact ⟨rfl,rfl⟩
 | q::qs,_,h,⟨x,t,e,h1,h2⟩=>by
  subst e
  simp only [List.all_cons,Bool.and_eq_true] at h
  obtain ⟨e1,e2⟩:=zkk h.2 h2
  have hx:=zcs h.1 h1.o
  refine ⟨by rw [List.map_cons,hx,e1],?_⟩
  rw [List.all_cons,e2,Bool.and_true,hx]
  cases q <;> first | rfl | cases h.1
theorem zlk {p:PV} (h:isSc p=true):zko (scV p)=true:=by
 cases p <;> first | rfl | cases h
theorem opIn (hu:X.A.units + 64 < cLine) (hw:X.w=TW.w:=by rfl):OpR X (compareOp .In) (rP X.K gIn):=by
 intro pins s σ H x y v u Q I rx ry ⟨p,q,z,hp,hq,e,k⟩
 unfold gIn at e
 split at e
 ·rename_i i j
  cases e
  cases (show x=.str i from hp)
  cases (show y=.str j from hq)
  exact zq7 pins s σ H _ _ v u Q I rx ry ⟨i,j,rfl,rfl,k _ H (Same.refl H) rfl⟩
 ·rename_i qs _
  split at e
  ·rename_i hc
   cases e
   obtain ⟨a,xs,rfl,g,r⟩:=RepO.lst_inv hq
   obtain ⟨e1,e2⟩:=zkk hc.2 r
   refine zmn pins s σ H _ _ v u Q I rx ry ⟨a,xs,rfl,.inl g.l,by rw [zcs hc.1 hp];exact zlk hc.1,e2,?_⟩
   rw [zcs hc.1 hp,e1]
   exact k _ H (Same.refl H) rfl
  ·cases e
 ·rename_i qs _
  split at e
  ·rename_i hc
   cases e
   obtain ⟨a,xs,rfl,g,r⟩:=RepO.tup_inv hq
   obtain ⟨e1,e2⟩:=zkk hc.2 r
   refine zmn pins s σ H _ _ v u Q I rx ry ⟨a,xs,rfl,.inr g,by rw [zcs hc.1 hp];exact zlk hc.1,e2,?_⟩
   rw [zcs hc.1 hp,e1]
   exact k _ H (Same.refl H) rfl
  ·cases e
 ·rename_i ks ps _
  obtain ⟨kk,ek,ez⟩:=Option.map_eq_some_iff.mp e
  subst ez
  obtain ⟨a,kvs,rfl,g,e1,r⟩:=hq
  cases ry
  have hx:=zfn ek hp
  subst hx
  obtain ⟨zz,hd,vs,rel,dd⟩:=DkR.at hw I g
  refine wpAny_in_of (znq rx) hd dd.mapOf ?_
  rw [← (rel.val kk).isSome_eq,← zjj]
  refine ⟨.bl _,H,I.tok _,rfl,k _ H (Same.refl H) ?_⟩
  subst e1
  rw [List.any_map]
  rfl
 ·cases e
theorem zwt (hu:X.A.units + 64 < cLine) (hw:X.w=TW.w:=by rfl):OpR X (compareOp .NotIn) (rP X.K zhg):=by
 intro pins s σ H x y v u Q I rx ry ⟨p,q,z,hp,hq,e,k⟩
 have e:=e
 obtain ⟨z0,e1,ez⟩:=Option.bind_eq_some_iff.mp e
 clear e
 have e:=e1
 clear e1
 unfold gIn at e
 split at e
 ·rename_i i j _
  cases e
  cases ez
  cases (show x=.str i from hp)
  cases (show y=.str j from hq)
  exact zmm pins s σ H _ _ v u Q I rx ry ⟨i,j,rfl,rfl,k _ H (Same.refl H) rfl⟩
 ·rename_i qs _
  split at e
  ·rename_i hc
   cases e
   cases ez
   obtain ⟨a,xs,rfl,g,r⟩:=RepO.lst_inv hq
   obtain ⟨e1,e2⟩:=zkk hc.2 r
   refine zje pins s σ H _ _ v u Q I rx ry ⟨a,xs,rfl,.inl g.l,by rw [zcs hc.1 hp];exact zlk hc.1,e2,?_⟩
   rw [zcs hc.1 hp,e1]
   exact k _ H (Same.refl H) rfl
  ·cases e
 ·rename_i qs _
  split at e
  ·rename_i hc
   cases e
   cases ez
   obtain ⟨a,xs,rfl,g,r⟩:=RepO.tup_inv hq
   obtain ⟨e1,e2⟩:=zkk hc.2 r
   refine zje pins s σ H _ _ v u Q I rx ry ⟨a,xs,rfl,.inr g,by rw [zcs hc.1 hp];exact zlk hc.1,e2,?_⟩
   rw [zcs hc.1 hp,e1]
   exact k _ H (Same.refl H) rfl
  ·cases e
 ·rename_i ks ps _
  obtain ⟨kk,ek,ez'⟩:=Option.map_eq_some_iff.mp e
  subst ez'
  cases ez
  obtain ⟨a,kvs,rfl,g,e1,r⟩:=hq
  cases ry
  have hx:=zfn ek hp
  subst hx
  obtain ⟨zz,hd,vs,rel,dd⟩:=DkR.at hw I g
  refine wpAny_notIn_of (znq rx) hd dd.mapOf ?_
  rw [← (rel.val kk).isSome_eq,← zjj]
  refine ⟨.bl _,H,I.tok _,rfl,k _ H (Same.refl H) ?_⟩
  subst e1
  rw [List.any_map]
  rfl
 ·cases e
theorem zvv (hw:X.w=TW.w):TruR X (fun v H Q=>∃ p b,RepO X.K H p v/\truB p=some b/\Q b H):=by
 intro pins s σ H x v Q I rx ⟨p,b,rp,e,q⟩
 have h16:=sizeLine_eq
 cases p with
 | non =>
  cases (show x=.non from rp)
  cases e
  exact zks pins s σ H _ v Q I rx ⟨_,rfl,q⟩
 | bl i =>
  cases (show x=.bl i from rp)
  cases e
  exact zks pins s σ H _ v Q I rx ⟨_,rfl,q⟩
 | int i =>
  cases (show x=.int i from rp)
  cases e
  exact zks pins s σ H _ v Q I rx ⟨_,rfl,q⟩
 | str i =>
  cases (show x=.str i from rp)
  simp only [truB] at e
  split at e
  ·cases e
   exact zks pins s σ H _ v Q I rx ⟨_,⟨by omega,rfl⟩,q⟩
  ·cases e
 | tup ps =>
  obtain ⟨a,xs,rfl,g,r⟩:=RepO.tup_inv rp
  cases e
  have:ps.isEmpty=xs.isEmpty:=by have:=r.length;cases ps <;> cases xs <;> simp_all
  exact zks pins s σ H _ v Q I rx ⟨_,.inr (.inl ⟨xs,g,by rw [this]⟩),q⟩
 | lst ps =>
  obtain ⟨a,xs,rfl,g,r⟩:=RepO.lst_inv rp
  cases e
  have:ps.isEmpty=xs.isEmpty:=by have:=r.length;cases ps <;> cases xs <;> simp_all
  exact zks pins s σ H _ v Q I rx ⟨_,.inl ⟨xs,g.l,by rw [this]⟩,q⟩
 | dct ks ps =>
  obtain ⟨a,kvs,rfl,g,e1,r⟩:=rp
  cases rx
  cases e
  obtain ⟨hz,hS,vs,rel,m⟩:=DkR.at hw I g
  have hlen:kvs.length=vs.length:=Paired.length rel
  refine wpAny_truthy_dict hS m (by omega) ⟨H,I.tok _,?_⟩
  rw [zk6 rel]
  subst e1
  have:(kvs.map (·.1)).isEmpty=kvs.isEmpty:=by cases kvs <;> rfl
  rw [this] at q
  exact q
 | dtt ks ps=>cases e
end
section
variable {C : Cn} {a b c e : Expr} {f fa fb fc : PSt → R PV} {t u : PSt → R Bool} {rest : List Expr} {pos : Pos}
theorem zuk (ha:EO C a f) (he:∀ whole,isTrue a C.X.env whole=(do let v<- whole;standAt a.pos;holding [v] (truthy v)):=by intro _;rfl) (hw:C.X.w=TW.w:=by rfl):ET C a (truF f):=by
 intro pins s σ H Q I ⟨ρ,vw,q⟩
 refine isTrue_plain (thn (ha pins s σ H (fun v H'=>∃ p b,RepO C.X.K H' p v/\truB p=some b/\Q b H') I ⟨ρ,vw,q.bind.imp fun p _ k v H' s' r=>?_⟩) fun v s1 ⟨x,H1,I1,r1,q1⟩=>zvv hw pins s1 σ H1 x v Q I1 r1 q1) (he _)
 obtain ⟨b,eb,k⟩:=k.ofO
 exact ⟨p,b,r,eb,k H' s'⟩
def isBl (g:PV->PV->Option PV):Prop:=∀ p q z,g p q=some z->∃ b,z=.bl b
theorem zay {op:CmpOp} {g:PV->PV->Option PV} (ho:OpR C.X (compareOp op) (rP C.X.K g)) (hg:isBl g) (ha:EO C a fa) (hb:EO C b fb) (hm:behindInMarks op b=false):ET C (.Compare a [op] [b] pos) (truF (bin2 fa fb g)):=by
 intro pins s σ H Q I ⟨ρ,vw,q⟩
 refine zwf ho ha hb hm pins s σ H Q I ?_
 refine t2 vw (g:=g) (q.bind.imp fun p e k v H' s' r=>?_) fun _ _ _ _ h=>h
 have:∃ b,p=.bl b:=by
  unfold bin2 at e
  cases h1:fa ρ with
  | ok x =>
   rw [h1] at e
   cases h2:fb ρ with
   | ok y =>
    rw [h2] at e
    cases h3:g x y with
    | some z =>
     simp only [R.ok_bind,h3,R.ofO_some] at e
     cases e
     exact hg x y _ h3
    | none=>simp only [R.ok_bind,h3,R.ofO_none] at e;cases e
   | er x=>rw [h2] at e;cases e
   | no=>rw [h2] at e;cases e
  | er x=>rw [h1] at e;cases e
  | no=>rw [h1] at e;cases e
 obtain ⟨b,rfl⟩:=this
 cases (show v=.bl b from r)
 exact ⟨b,rfl,k H' s'⟩
theorem EW.et (h:EW C e t):ET C e t:=PW.pt h
theorem zke (ha:ET C a t):EW C (.BoolOp .And [a] pos) t:=zwd ha
theorem zr8 (ha:ET C a t):EW C (.BoolOp .Or [a] pos) t:=zy0 ha
theorem zk9 (ha:ET C a t) (hb:EW C (.BoolOp .And (b::rest) pos) u):EW C (.BoolOp .And (a::b::rest) pos) (andB t u):=by
 intro wh pins s σ H Q I ⟨ρ,vw,q⟩
 refine zy1 ha hb wh pins s σ H Q I ⟨ρ,vw,q.bind.imp fun c _ k H' s'=>?_⟩
 cases c with
 | true=>exact iteT ⟨ρ,vw.same s',(k.same s').imp fun b _ k2 H2 s2=>k2 H2 (s'.trans s2)⟩
 | false=>exact iteF (k H' s')
theorem zuh (ha:ET C a t) (hb:EW C (.BoolOp .Or (b::rest) pos) u):EW C (.BoolOp .Or (a::b::rest) pos) (orB t u):=by
 intro wh pins s σ H Q I ⟨ρ,vw,q⟩
 refine pw_or ha hb wh pins s σ H Q I ⟨ρ,vw,q.bind.imp fun c _ k H' s'=>?_⟩
 cases c with
 | true=>exact iteT (k H' s')
 | false=>exact iteF ⟨ρ,vw.same s',(k.same s').imp fun b _ k2 H2 s2=>k2 H2 (s'.trans s2)⟩
theorem et_not (ha:ET C a t):ET C (.UnaryOp .Not a pos) (notB t):=by
 intro pins s σ H Q I ⟨ρ,vw,q⟩
 exact zy2 ha pins s σ H Q I ⟨ρ,vw,q.bind.imp fun c _ k H' s'=>k H' s'⟩
theorem ev_if (hc:ET C c t) (ha:EV C a fa) (hb:EV C b fb):EV C (.IfExp c a b pos) (ifV t fa fb):=by
 intro pins s σ H Q I ⟨ρ,vw,q⟩
 refine ztu hc ha hb pins s σ H Q I ⟨ρ,vw,q.bind.imp fun c _ k H' s'=>?_⟩
 cases c with
 | true=>exact iteT ⟨ρ,vw.same s',(RQ.same k s').imp fun z _ k2 v2 H2 s2 r2=>k2 v2 H2 (s'.trans s2) r2⟩
 | false=>exact iteF ⟨ρ,vw.same s',(RQ.same k s').imp fun z _ k2 v2 H2 s2 r2=>k2 v2 H2 (s'.trans s2) r2⟩
end
theorem zbb:isBl gEq:=fun p q z e=>by
 unfold gEq at e
 split at e
 ·split at e
  ·obtain ⟨b,_,ez⟩:=Option.map_eq_some_iff.mp e
   exact ⟨b,ez.symm⟩
  ·cases e
 ·split at e
  ·obtain ⟨b,_,ez⟩:=Option.map_eq_some_iff.mp e
   exact ⟨b,ez.symm⟩
  ·cases e
 ·split at e
  ·obtain ⟨b,_,ez⟩:=Option.map_eq_some_iff.mp e
   exact ⟨b,ez.symm⟩
  ·cases e
 ·split at e
  ·cases e
   exact ⟨_,rfl⟩
  ·cases e
theorem zgw:isBl gNe:=fun p q z e=>by
 unfold gNe at e
 split at e
 ·split at e
  ·obtain ⟨b,_,ez⟩:=Option.map_eq_some_iff.mp e;exact ⟨_,ez.symm⟩
  ·cases e
 ·split at e
  ·obtain ⟨b,_,ez⟩:=Option.map_eq_some_iff.mp e;exact ⟨_,ez.symm⟩
  ·cases e
 ·split at e
  ·cases e;exact ⟨_,rfl⟩
  ·cases e
theorem zly:isBl gLt:=fun p q z e=>by unfold gLt at e;split at e <;> cases e <;> exact ⟨_,rfl⟩
theorem zrq:isBl gLe:=fun p q z e=>by unfold gLe at e;split at e <;> cases e <;> exact ⟨_,rfl⟩
theorem zlz:isBl gGt:=fun p q z e=>by unfold gGt at e;split at e <;> cases e <;> exact ⟨_,rfl⟩
theorem zub:isBl gIsN:=fun p q z e=>by unfold gIsN at e;split at e <;> cases e <;> exact ⟨_,rfl⟩
theorem ziz:isBl gIn:=fun p q z e=>by
 unfold gIn at e
 split at e
 ·cases e;exact ⟨_,rfl⟩
 ·split at e <;> cases e;exact ⟨_,rfl⟩
 ·split at e <;> cases e;exact ⟨_,rfl⟩
 ·obtain ⟨b,_,ez⟩:=Option.map_eq_some_iff.mp e;exact ⟨_,ez.symm⟩
 ·cases e
theorem zpw:isBl zhg:=fun p q z e=>by
 obtain ⟨z0,e,ez⟩:=Option.bind_eq_some_iff.mp e
 cases z0 <;> cases ez
 exact ⟨_,rfl⟩
end PU
end
section
namespace PU
open PySem PySem.Spec PyProof.Rows L2 PySem.SeqAt
variable [TW]
def r1 (K:PySem.W.Frag) (g:PV->Option PV):List V->Hp->VK->Prop:=fun vs H Q=>∃ v p z,vs=[v]/\RepO K H p v/\g p=some z/\∀ w H',Same H H'->Rep K H' z w->Q w H'
def rn1 (K:PySem.W.Frag) (g:PV->Option PV):List V->Hp->VK->Prop:=fun vs H Q=>∃ v p z,vs=[v]/\RepO K H p v/\g p=some z/\∀ a H',Same H H'->H a=none->zfm K H' a z->Q (.ref a) H'
section
variable {C : Cn} {e : Expr} {f : PSt → R PV} {g : PV → Option PV} {x : Str} {p pos : Pos} {id T : String}
theorem t1 {σ:L2.St} {H:Hp} {Q:VK} {ρ:PSt} (vw:View C.X.K H σ ρ) (q:RQ C H (un1 f g ρ) fun p=>∀ v H',Same H H'->Rep C.X.K H' p v->Q v H'):tCB (r1 C.X.K g) (tA1 C f) σ H Q:=by
 refine ⟨ρ,vw,q.bind.imp fun p _ k v H1 s1 r1=>?_⟩
 obtain ⟨z,ez,k⟩:=k.ofO
 exact ⟨v,p,z,rfl,r1,ez,fun w H' s' r'=>k w H' (s1.trans s') r'⟩
theorem tn1 {σ:L2.St} {H:Hp} {Q:VK} {ρ:PSt} (vw:View C.X.K H σ ρ) (q:RQ C H (un1 f g ρ) fun p=>∀ a H',Same H H'->H a=none->zfm C.X.K H' a p->Q (.ref a) H'):tCB (rn1 C.X.K g) (tA1 C f) σ H Q:=by
 refine ⟨ρ,vw,q.bind.imp fun p _ k v H1 s1 r1=>?_⟩
 obtain ⟨z,ez,k⟩:=k.ofO
 exact ⟨v,p,z,rfl,r1,ez,fun a H' s' n' r'=>k a H' (s1.trans s') (s1.free n') r'⟩
theorem zig (hc:zhw C.X (.builtin id) (r1 C.X.K g)) (hg:Gl C.X x) (hm:C.X.mg x=none) (hv:bootBuiltins x=some (.builtin id)) (ha:EO C e f) (hn:x≠"__name__":=by decide) (hdb:(x == ("__debug__":Str))=false:=by decide)
  (hs:starEach [e] C.X.env=[(false,eval e C.X.env)]:=by exact zcm rfl):EV C (.Call (.Name x p) [e] [] pos) (un1 f g):=by
 intro pins s σ H Q I ⟨ρ,vw,q⟩
 exact zoj hc hg hm hv (zo3 ha hs) hn hdb hs (by rfl) pins s σ H Q I (t1 vw q)
theorem zui (hc:zhw C.X (.type T) (r1 C.X.K g)) (hg:Gl C.X x) (hm:C.X.mg x=none) (hv:bootBuiltins x=some (.type T)) (ha:EO C e f) (hn:x≠"__name__":=by decide) (hdb:(x == ("__debug__":Str))=false:=by decide)
  (hs:starEach [e] C.X.env=[(false,eval e C.X.env)]:=by exact zcm rfl):EV C (.Call (.Name x p) [e] [] pos) (un1 f g):=by
 intro pins s σ H Q I ⟨ρ,vw,q⟩
 exact zmi hc hg hm hv (zo3 ha hs) hn hdb hs (by rfl) pins s σ H Q I (t1 vw q)
theorem zxg (hc:zhw C.X (.type T) (rn1 C.X.K g)) (hg:Gl C.X x) (hm:C.X.mg x=none) (hv:bootBuiltins x=some (.type T)) (ha:EO C e f) (hn:x≠"__name__":=by decide) (hdb:(x == ("__debug__":Str))=false:=by decide)
  (hs:starEach [e] C.X.env=[(false,eval e C.X.env)]:=by exact zcm rfl):EN C (.Call (.Name x p) [e] [] pos) (un1 f g):=by
 intro pins s σ H Q I ⟨ρ,vw,q⟩
 exact zmi hc hg hm hv (zo3 ha hs) hn hdb hs (by rfl) pins s σ H Q I (tn1 vw q)
end
section
variable {X : Cx}
theorem cLen (hw:X.w=TW.w:=by rfl):zhw X (.builtin "len") (r1 X.K gLen):=by
 intro pins s σ H xs us Q I r ⟨v,p,z,e1,rp,ez,k⟩
 have h16:=sizeLine_eq
 subst e1
 cases p with
 | lst ps =>
  obtain ⟨a,xs,rfl,g,rr⟩:=RepO.lst_inv rp
  cases ez
  exact zl4 pins s σ H _ us Q I r ⟨_,_,rfl,.inl ⟨xs,g.l,rfl⟩,by rw [← rr.length];exact k _ H (Same.refl H) rfl⟩
 | tup ps =>
  obtain ⟨a,xs,rfl,g,rr⟩:=RepO.tup_inv rp
  cases ez
  exact zl4 pins s σ H _ us Q I r ⟨_,_,rfl,.inr ⟨xs,g,rfl⟩,by rw [← rr.length];exact k _ H (Same.refl H) rfl⟩
 | str x =>
  simp only [gLen] at ez
  split at ez
  ·cases ez
   cases (show v=.str x from rp)
   exact zl4 pins s σ H _ us Q I r ⟨_,_,rfl,⟨by omega,rfl⟩,k _ H (Same.refl H) rfl⟩
  ·cases ez
 | dct ks ps =>
  obtain ⟨a,kvs,rfl,g,e1,rr⟩:=rp
  cases ez
  obtain ⟨u,rfl,ru⟩:=vals1 r
  cases ru
  obtain ⟨hz,hS,vs,rel,m⟩:=DkR.at hw I g
  have hlen:kvs.length=vs.length:=Paired.length rel
  subst e1
  rw [List.length_map,hlen] at k
  exact call_len_dict hS m (by omega) ⟨.int vs.length,H,I.tok _,⟨_,rfl⟩,k _ H (Same.refl H) rfl⟩
 | _=>cases ez
theorem cInt:zhw X (.type "int") (r1 X.K gInt):=by
 intro pins s σ H xs us Q I r ⟨v,p,z,e1,rp,ez,k⟩
 subst e1
 cases p with
 | int i=>cases ez;cases (show v=.int i from rp);exact zm6 pins s σ H _ us Q I r (.inl ⟨i,rfl,k _ H (Same.refl H) rfl⟩)
 | bl i=>cases ez;cases (show v=.bl i from rp);exact zm6 pins s σ H _ us Q I r (.inr ⟨i,rfl,k _ H (Same.refl H) rfl⟩)
 | _=>cases ez
theorem zst:zhw X (.type "tuple") (r1 X.K zk7):=by
 intro pins s σ H xs us Q I r ⟨v,p,z,e1,rp,ez,k⟩
 subst e1
 cases p with
 | lst ps =>
  obtain ⟨a,xs,rfl,g,rr⟩:=RepO.lst_inv rp
  cases ez
  exact zik pins s σ H _ us Q I r ⟨a,xs,rfl,.inl ⟨g.l,fun l hl=>k _ _ (Same.new hl) ⟨l,xs,rfl,.inl (.inl za0),rr.same (Same.new hl)⟩⟩⟩
 | tup ps =>
  obtain ⟨a,xs,rfl,g,rr⟩:=RepO.tup_inv rp
  cases ez
  exact zik pins s σ H _ us Q I r ⟨a,xs,rfl,.inr ⟨g,k _ H (Same.refl H) ⟨a,xs,rfl,g,rr⟩⟩⟩
 | _=>cases ez
end
section
variable {C : Cn} {e tg : Expr} {f : PSt → R PV} {pos : Pos}
theorem zw6 {K:PySem.W.Frag} {H:Hp} {a:Addr} {xs:List V} {ps:List PV} (g:SqF K H a xs) (r:Reps K H ps xs):ItP K (Itl K a) H ps:=fun i H' k=>by
 have g':=(k.sqF g).l.l
 have r':=Reps.kp k ps r
 have hl:=r'.length
 refine ⟨fun h=>⟨xs,g',by omega⟩,fun p e=>?_⟩
 obtain ⟨x,ex,rp⟩:=r'.get e
 exact ⟨⟨xs,x,g',ex⟩,fun y H2 ⟨eh,hy⟩=>by
  subst eh
  have:=hy xs g'
  rw [ex] at this
  cases this
  exact ⟨Same.refl _,rp⟩⟩
theorem it_tup {K:PySem.W.Frag} {H:Hp} {a:Addr} {xs:List V} {ps:List PV} (g:SqT K H a xs) (r:Reps K H ps xs):ItP K (Itt K a) H ps:=fun i H' k=>by
 have g':=k.sqT g
 have r':=Reps.kp k ps r
 have hl:=r'.length
 refine ⟨fun h=>⟨xs,g',by omega⟩,fun p e=>?_⟩
 obtain ⟨x,ex,rp⟩:=r'.get e
 exact ⟨⟨xs,x,g',ex⟩,fun y H2 ⟨eh,hy⟩=>by
  subst eh
  have:=hy xs g'
  rw [ex] at this
  cases this
  exact ⟨Same.refl _,rp⟩⟩
theorem zox {K:PySem.W.Frag} {H:Hp} {lo:Int} {n:Nat}:ItP K (Itr lo n) H (zcj lo n):=fun i H' k=>by
 refine ⟨fun h=>?_,fun p e=>?_⟩
 ·have:n<=i:=by simp [zcj] at h;omega
  exact this
 ·unfold zcj at e
  rw [List.getElem?_map] at e
  have hi:i < n:=by
   by_cases hi:i < n
   ·exact hi
   ·rw [List.getElem?_eq_none (by simpa using hi)] at e
    cases e
  rw [List.getElem?_range hi] at e
  cases e
  exact ⟨hi,fun y H2 ⟨eh,hy⟩=>by subst eh hy;exact ⟨Same.refl _,rfl⟩⟩
theorem zfy {p:Pos} (hg:Gl C.X "range") (hm:C.X.mg "range"=none) (he:EV C e f) (hs:starEach [e] C.X.env=[(false,eval e C.X.env)]:=by exact zcm rfl):EI C tg (.Call (.Name "range" p) [e] [] pos) (rng1 f):=by
 intro pins s σ H Rk I ⟨ρ,vw,q⟩
 refine zqx hg hm (zde he zhc hs) hs pins s σ H Rk I ⟨ρ,vw,q.bind.imp fun p _ k v H1 s1 r1=>?_⟩
 cases p with
 | int j =>
  cases (show v=.int j from r1)
  by_cases hj:j.natAbs < 1000000000
  ·have k:RQ C H (if j.natAbs < 1000000000 then R.ok (zcj 0 j.toNat) else R.no) fun ps=>∀ J H',Same H H'->ItP C.X.K J H' ps->Rk J H':=k
   rw [if_pos hj] at k
   exact ⟨j,rfl,by omega,by omega,k _ H1 s1 zox⟩
  ·have k:RQ C H (if j.natAbs < 1000000000 then R.ok (zcj 0 j.toNat) else R.no) fun ps=>∀ J H',Same H H'->ItP C.X.K J H' ps->Rk J H':=k
   rw [if_neg hj] at k
   exact False.elim k
 | _=>exact False.elim k
end
section
variable {C : Cn} {e : Expr} {f : PSt → R PV} {pos apos cpos : Pos}
theorem zcw (i:Nat) {x:Str} {np:Pos} (hN:C.X.N[i]?=some x) (hv:Vis C.X.env.scope x) (he:EV C e f) (hs:starEach [e] C.X.env=[(false,eval e C.X.env)]:=by exact zcm rfl)
  (hb:attributeBase (.Name x np) "append" C.X.env (eval (.Name x np) C.X.env)=eval (.Name x np) C.X.env:=by rfl) (hline:(apos.endLine == cpos.line)=true:=by rfl)
  (hd:(x == ("__debug__":Str))=false:=by decide) (hcd:(x == ("__classdict__":Str))=false:=by decide):SV C (.Expr (.Call (.Attribute (.Name x np) "append" apos) [e] [] cpos) pos) (appF i f):=by
 intro pins s σ H D I ⟨ρ,B,S,q⟩
 unfold appF at q
 split at q
 ·rename_i ps e1
  obtain ⟨a,e2,xs,hx,rr⟩:=S.vw i _ e1
  refine zwh (pe_bm PySem.F.plainAttrs_list PySem.F.slot_list_append PySem.F.type_list_append zmq (zj2 hN hv hd hcd) (zde he zhc hs) hb (by rw [hs];rfl) hline hs (by rfl)) (by rfl) pins s σ H D I ?_
  refine ⟨_,e2,.inl ⟨rfl,xs,SqL.of hx⟩,ρ,S.vw,(RS.bind q S.same).imp fun p _ q' v H1 s1 r1=>?_⟩
  by_cases hl:ps.length < 16777216
  ·rw [if_pos hl] at q'
   refine ⟨a,xs,v,rfl,rfl,s1 _ _ hx,by rw [sizeLine_eq,← rr.length];exact hl,?_⟩
   refine q' σ _ ((S.grow s1).turn e1 e2 (fun b hb=>za4 hb) ?_)
   have kp:Kp H1 (upd H1 a (.lst (xs++[v]))):=Kp.upd (s1 _ _ hx) rfl
   exact ⟨a,rfl,xs++[v],za0,Reps.append (Reps.kp kp _ (rr.same s1)) (Reps.cons (Rep.kp kp _ r1) Reps.nil)⟩
  ·rw [if_neg hl] at q'
   exact False.elim q'
 ·exact False.elim q
end
end PU
end
section
namespace PU
open PySem PySem.Spec PyProof.Rows L2 PySem.SeqAt
variable [TW]
section
variable {C : Cn}
theorem ev_v (i:Nat) {x:Str} {pos:Pos} (hN:C.X.N[i]?=some x:=by rfl) (hv:Vis C.X.env.scope x:=by first | exact Or.inl rfl | exact Or.inr (Or.inl rfl) | exact Or.inr (Or.inr rfl))
  (hd:(x == ("__debug__":Str))=false:=by decide) (hcd:(x == ("__classdict__":Str))=false:=by decide):EV C (.Name x pos) (getV i):=ev_var i hN hv hd hcd
theorem eo_v (i:Nat) {x:Str} {pos:Pos} (hN:C.X.N[i]?=some x:=by rfl) (hv:Vis C.X.env.scope x:=by first | exact Or.inl rfl | exact Or.inr (Or.inl rfl) | exact Or.inr (Or.inr rfl))
  (hd:(x == ("__debug__":Str))=false:=by decide) (hcd:(x == ("__classdict__":Str))=false:=by decide):EO C (.Name x pos) (getO i):=eo_var i hN hv hd hcd
variable {a b c : Expr} {fa fb fc : PSt → R PV} {pos : Pos}
end
end PU
end
section
namespace PU
open PySem PySem.Spec PyProof.Rows L2 PySem.SeqAt
variable [TW]
section
variable {X : Cx} {pins : List (Addr × Obj)} {σ : L2.St} {H : Hp} {s : Shared}
theorem _root_.L2.Inv.turnedL {wr:List Addr} {h':Heap} {t':Nat} (I:L2.Inv X pins σ H s) (k:∀ b o,b ∉ wr->s.heap.get? b=some o->h'.get? b=some o) (hw:∀ b∈wr,FpOk X pins H b):L2.Inv X pins σ H { s with heap:=h',toks:=t' }:=by
 have nw:∀ b u,H b=some u->b ∉ wr:=fun b u e z=>by rw [(hw b z).1] at e;cases e
 refine I.step (g':=s.gens) (d':=s.drawn) (ch:=wr) (fun b hb=>?_) (fun b o _ _ hc e _=>k b o hc e) (fun b o _ _ hc e _=>⟨o.slots,k b o hc e⟩) (fun _ _ _ _ n=>n)
  (fun b o hc e=>⟨o,k b o hc e⟩) (fun _ _ e=>e) (fun _ _ _ e=>e) (fun b ps e=>⟨#[],by rw [e];simp⟩) (fun m hm=>?_) (fun b u e=>?_) I.bare
 ·obtain ⟨g1,g2,g3,g4,g5,g6⟩:=hw b hb
  exact ⟨g4,g2,g5,g6⟩
 ·obtain ⟨o,es,ep,ho,r⟩:=hm
  exact ⟨o,es,ep,k _ o (fun z=>(hw _ z).2.1 rfl) ho,r⟩
 ·refine (I.hok b u e).stay (fun c v hc q=>k c v ?_ q) (fun _ q=>q) fun _ _ q=>q
  rcases hc with z | z
  ·rw [z];exact nw b u e
  ·exact nw c _ z
theorem _root_.L2.Inv.tupled {wr:List Addr} {h':Heap} {t':Nat} {T:Addr} {vals:List Value} {xs:List V} (I:L2.Inv X pins σ H s) (k:∀ b o,b ∉ wr->s.heap.get? b=some o->h'.get? b=some o) (hw:∀ b∈wr,FpOk X pins H b) (hws:∀ b∈wr,b < s.heap.objs.size)
  (hT:s.heap.objs.size<=T) (ht:h'.IsTuple T vals.toArray) (rv:Vals xs vals) (hz:xs.length<=sizeLine) (hnr:¬ ∀ v∈vals,∃ b,v=Value.ref b):L2.Inv X pins σ (upd H T (.tup xs)) { s with heap:=h',toks:=t' }:=by
 have nw:∀ b u,H b=some u->b ∉ wr:=fun b u e z=>by rw [(hw b z).1] at e;cases e
 have nT:H T=none:=I.hok.fresh hT
 have neT:∀ b u,H b=some u->b≠T:=fun b u e=>zbi e nT
 have lo:∀ b o,s.heap.get? b=some o->b≠T:=fun b o e z=>by
  subst z
  exact absurd (Heap.lt_size e) (Nat.not_lt.mpr hT)
 have hlt:X.env.locals≠T:=fun z=>absurd I.lt (by rw [z];exact Nat.not_lt.mpr hT)
 refine I.step (g':=s.gens) (d':=s.drawn) (ch:=wr) (fun b hb=>?_) (fun b o _ _ hc e _=>k b o hc e) (fun b o _ _ hc e _=>⟨o.slots,k b o hc e⟩) (fun b o _ e n=>by rw [za4 (lo b o e)];exact n)
  (fun b o hc e=>⟨o,k b o hc e⟩) (fun b xs e=>by rw [za4 (neT _ _ e)];exact e) (fun b o u e=>by rw [za4 (neT _ _ e)];exact e) (fun b ps e=>⟨#[],by rw [za4 (neT _ _ e),e];simp⟩) (fun m hm=>?_) (fun b u e=>?_) I.bare
 ·obtain ⟨g1,g2,g3,g4,g5,g6⟩:=hw b hb
  exact ⟨g4,g2,g5,g6⟩
 ·obtain ⟨o,es,ep,ho,r⟩:=hm
  exact ⟨o,es,ep,k _ o (fun z=>(hw _ z).2.1 rfl) ho,r⟩
 ·by_cases hb:b=T
  ·subst hb
   rw [za0] at e
   cases e
   obtain ⟨o,e1,e2,e3⟩:=ht
   exact ⟨hz,vals,rv,o,e1,e2,e3,fun h=>absurd h hnr⟩
  ·rw [za4 hb] at e
   refine (I.hok b u e).stay (fun c v hc q=>k c v ?_ q) (fun c q=>by rw [za4 (neT _ _ q)];exact q) fun c ys q=>by rw [za4 (neT _ _ q)];exact q
   rcases hc with z | z
   ·rw [z];exact nw b u e
   ·exact nw c _ z
end
theorem zqi {P:Program} {w:World} {K:PySem.W.Frag} {elts:List Expr} {kk:Nat} {tp:Pos} {it:Addr} {fp wr:List Addr} {n:Nat} {own:Nat->Heap->Prop} {J:It}
  (W:∀ (X:Cx) (pins:List (Addr × Obj)) (σ:L2.St) (H:Hp) (s:Shared) (i:Nat),X.prog=P->X.w=w->X.K=K->X.calm=true->L2.Inv X pins σ H s->own i s.heap->J.go i H\/J.stop i H →
   ∃ (more:List Addr) (Pt:Nat->Array Value->Prop) (St:Nat->Heap->Prop) (Mid:Nat->Addr->Heap->Prop),WalksT P w X.A it more wr n Pt St Mid/\St i s.heap/\(∀ j h,St j h->own j h) ∧
    ∀ vals,Pt i vals->∃ xs,Vals xs vals.toList/\xs.length<=sizeLine/\(¬ ∀ v∈vals.toList,∃ b,v=Value.ref b)/\∀ T,H T=none->J.yld i H (.ref T) (upd H T (.tup xs)))
  (hI:it∈fp) (hwr:∀ b∈wr,b∈fp)
  (obj:∀ i h,own i h->∀ b∈fp,∃ o,h.get? b=some o/\∀ v,o.data≠.cell v) (keep:∀ i h h',own i h->(∀ b∈fp,∀ o,h.get? b=some o->h'.get? b=some o)->own i h')
  (hgo:∀ i H,J.go i H->i < n) (hstop:∀ i H,J.stop i H->i=n)
  (self:∀ (A:Around) (i:Nat) (s:Shared) (Q:Value->Shared->Prop) (E:Value->Shared->Prop),own i s.heap->Q (.ref it) s->wpAny (model P w) A (pyIter (.ref it)) Q E s) :
  Turn P w K (.Tuple elts kk tp) J fp it own where
 mem:=hI
 obj:=obj
 keep:=keep
 item:=by
  intro X hP hw hK hc i pins s σ H E I hf st hg
  obtain ⟨more,Pt,St,Mid,W',st',ofSt,hval⟩:=W X pins σ H s i hP hw hK hc I st (.inl hg)
  subst hP hw hK
  refine W'.item i s _ _ (hgo i H hg) st' fun T vals h' tk hPt hT hTup hMid hk=>?_
  obtain ⟨xs,rv,hz,hnr,hy⟩:=hval vals hPt
  have nT:H T=none:=I.hok.fresh hT
  have hfw:∀ b∈wr,FpOk X pins H b:=fun b hb=>hf b (hwr b hb)
  have hws:∀ b∈wr,b < s.heap.objs.size:=fun b hb=>by
   obtain ⟨o,e,_⟩:=obj i _ st b (hwr b hb)
   exact Heap.lt_size e
  have I1:L2.Inv X pins σ (upd H T (.tup xs)) { s with heap:=h',toks:=tk }:=I.tupled (vals:=vals.toList) hk hfw hws hT (by simpa using hTup) rv hz hnr
  refine ⟨_,rfl,W'.go elts kk tp i T _ _ _ hMid fun h'' st'' hk''=>?_⟩
  have fne:∀ b∈fp,upd H T (.tup xs) b=none:=fun b hb=>by
   obtain ⟨o,e,_⟩:=obj i _ st b hb
   rw [za4 (Nat.ne_of_lt (Nat.lt_of_lt_of_le (Heap.lt_size e) hT))]
   exact (hf b hb).1
  have I2:L2.Inv X pins σ (upd H T (.tup xs)) { s with heap:=h'',toks:=tk }:=L2.Inv.turnedL (s:={ s with heap:=h',toks:=tk }) (wr:=wr) (t':=tk) I1 hk'' fun b hb=>⟨fne b (hwr b hb),(hfw b hb).2⟩
  exact ⟨.ref T,_,I2,rfl,hy T nT,ofSt _ _ st'',fne⟩
 done:=by
  intro X hP hw hK hc i pins s σ H E I hf st hg
  obtain ⟨more,Pt,St,Mid,W',st',ofSt,hval⟩:=W X pins σ H s i hP hw hK hc I st (.inr hg)
  subst hP hw hK
  have e:=hstop i H hg
  subst e
  refine W'.done s _ _ st' fun h' tk hk=>⟨rfl,?_⟩
  exact I.turnedL hk fun b hb=>hf b (hwr b hb)
 self:=self
def zl6 (n:Nat) (Gd:Hp->Prop) (xs:List (List V)):It :=
 ⟨fun i H=>i < n/\Gd H,fun i H x H'=>∃ T ys,x=.ref T/\H T=none/\xs[i]?=some ys/\H'=upd H T (.tup ys),fun i H=>i=n/\Gd H⟩
theorem znr {K:PySem.W.Frag} {H₁:Hp} {n:Nat} {Gd:Hp->Prop} {xs:List (List V)} {pss:List (List PV)} (hn:pss.length=n) (hg:∀ H,Kp H₁ H->Gd H) (r:∀ (i:Nat) (ps:List PV) (ys:List V),pss[i]?=some ps->xs[i]?=some ys->Reps K H₁ ps ys) :
  ItP K (zl6 n Gd xs) H₁ (pss.map PV.tup):=fun i H k=>by
 refine ⟨fun h=>⟨by rw [h,List.length_map,hn],hg H k⟩,fun p e=>?_⟩
 rw [List.getElem?_map] at e
 cases hp:pss[i]? with
 | none=>rw [hp] at e;cases e
 | some ps =>
  rw [hp] at e
  cases e
  have hi:i < n:=by rw [← hn];exact (List.getElem?_eq_some_iff.mp hp).1
  refine ⟨⟨hi,hg H k⟩,fun x H' ⟨T,ys,ex,nT,ey,eH⟩=>?_⟩
  subst ex eH
  refine ⟨Same.new nT,T,ys,rfl,.inl (.inl za0),?_⟩
  exact (Reps.kp k ps (r i ps ys hp ey)).same (Same.new nT)
end PU
end
section
namespace PU
open PySem PySem.Spec PyProof.Rows L2 PySem.SeqAt
variable [TW]
theorem zkq:bootBuiltins "enumerate"=some (.type "enumerate"):=by decide +kernel
def zme (x:Str):List V:=x.cps.toList.map fun c=>.str ⟨#[c]⟩
theorem zpk {K:PySem.W.Frag} {H:Hp} (x:Str):Reps K H (zgo x) (zme x):=by
 unfold zgo zme
 induction x.cps.toList with
 | nil=>rfl
 | cons c r ih=>exact ⟨_,_,rfl,rfl,ih⟩
def numV (xs:List V):List (List V):=(List.range xs.length).zipWith (fun (i:Nat) x=>[.int (i:Int),x]) xs
theorem zni {α β:Type} (f:Nat->α->β) (l:List α) (i:Nat):((List.range l.length).zipWith f l)[i]?=l[i]?.map (f i):=by
 rw [List.getElem?_zipWith]
 by_cases hi:i < l.length
 ·rw [List.getElem?_range hi]
  simp [hi]
 ·rw [List.getElem?_eq_none (by simpa using hi)]
  simp [hi]
theorem zom {K:PySem.W.Frag} {H:Hp} {ps:List PV} {xs:List V} (r:Reps K H ps xs):∀ (i:Nat) (qs:List PV) (ys:List V),(numP ps)[i]?=some qs->(numV xs)[i]?=some ys->Reps K H qs ys:=fun i qs ys h1 h2=>by
 unfold numP at h1
 unfold numV at h2
 rw [zni] at h1 h2
 cases e:ps[i]? with
 | none=>rw [e] at h1;cases h1
 | some p =>
  rw [e] at h1
  obtain ⟨x,ex,rp⟩:=r.get e
  rw [ex] at h2
  cases h1
  cases h2
  exact ⟨_,_,rfl,rfl,_,_,rfl,rp,rfl⟩
theorem zon (ps:List PV):(numP ps).length=ps.length:=by simp [numP]
section
variable {P : Program} {w : World} {K : PySem.W.Frag} {elts : List Expr} {kk : Nat} {tp : Pos}
theorem zpj (a it e:Addr) (xs:List V) (hne:e≠it) (hae:a≠e) (hai:a≠it) :
  Turn P w K (.Tuple elts kk tp) (zl6 xs.length (fun H=>SqL K H a xs) (numV xs)) [e,it] e (fun i h=>(∃ old,IsEnum h e it i old)/\h.IsListIter it a i):=by
 refine zqi (wr:=[e,it]) (n:=xs.length) (fun X pins σ H s i hP hw hK hc I st hg=>?_) (by simp) (fun b hb=>hb) (fun i h st b hb=>?_) (fun i h h' st k=>?_) (fun i H h=>h.1) (fun i H h=>h.1) fun A i s Q E st h=>wpAny_pyIter_enum st.1.choose_spec h
 ·subst hP hw hK
  have hq:SqL X.K H a xs:=by rcases hg with h | h <;> exact h.2
  obtain ⟨its,rv,pl,hz⟩:=I.list hq
  have hl:=rv.length
  have W:=WalksT.enumerateD (A:=X.A) (Draws.list (prog:=X.prog) (w:=X.w) (A:=X.A.in1) (I.ok.hd hc) it a hai its.toArray) e hne (by simp [hne,Ne.symm hae]) (by simp)
  rw [show its.toArray.size=xs.length by simp [hl]] at W
  refine ⟨_,_,_,_,W,⟨st.1,st.2,pl.isList⟩,fun j h st=>⟨st.1,st.2.1⟩,fun vals hv=>?_⟩
  obtain ⟨t,x,hx,rfl⟩:=hv
  have hx:its[i]?=some x:=by simpa using hx
  have hi:i < xs.length:=by rw [hl];exact (List.getElem?_eq_some_iff.mp hx).1
  have e1:xs[i]?=some xs[i]:=by simp [hi]
  obtain ⟨u,eu,ru⟩:=rv.get e1
  rw [hx] at eu
  cases eu
  refine ⟨[.int i,xs[i]],.cons ⟨t,rfl⟩ (.cons ru .nil),by show 2<=sizeLine;decide,fun z=>(by obtain ⟨b,z⟩:=z _ List.mem_cons_self;cases z),fun T hT=>⟨T,_,rfl,hT,?_,rfl⟩⟩
  unfold numV
  rw [zni,e1]
  rfl
 ·obtain ⟨⟨old,he⟩,o,ho,hc,hd⟩:=st
  rcases List.mem_cons.mp hb with rfl | hb
  ·exact ⟨_,he,fun v z=>by cases (show Data.fields _=Data.cell v from z)⟩
  ·have:b=it:=by simpa using hb
   subst this
   exact ⟨o,ho,fun v z=>by rw [hd] at z;cases z⟩
 ·obtain ⟨⟨old,he⟩,hi⟩:=st
  exact ⟨⟨old,k e (by simp) _ he⟩,hi.at fun o x=>k it (by simp) o x⟩
theorem zsf {prog:Program} {w:World} {A:Around} (hh:A.handled=none) (it:Addr) (x:Str) (t:Tok) :
  Draws prog w A it [it] x.cps.size (fun i v=>∃ c u,x.cps[i]?=some c/\v=.str ⟨#[c]⟩ u) (fun i h=>h.IsStrIter it (strIterType x) x t i):=by
 unfold strIterType
 split
 ·exact Draws.strAscii hh it x t
 ·exact Draws.strWide hh it x t
theorem zpi (it e:Addr) (x:Str) (t:Tok) (hne:e≠it) :
  Turn P w K (.Tuple elts kk tp) (zl6 x.cps.size (fun _=>True) (numV (zme x))) [e,it] e (fun i h=>(∃ old,IsEnum h e it i old)/\h.IsStrIter it (strIterType x) x t i):=by
 refine zqi (wr:=[e,it]) (n:=x.cps.size) (fun X pins σ H s i hP hw hK hc I st hg=>?_) (by simp) (fun b hb=>hb) (fun i h st b hb=>?_) (fun i h h' st k=>?_) (fun i H h=>h.1) (fun i H h=>h.1) fun A i s Q E st h=>wpAny_pyIter_enum st.1.choose_spec h
 ·subst hP hw hK
  refine ⟨_,_,_,_,WalksT.enumerateD (A:=X.A) (zsf (A:=X.A.in1) (I.ok.hd hc) it x t) e hne (by simp [hne]) (by simp),⟨st.1,st.2⟩,fun j h st=>⟨st.1,st.2⟩,fun vals hv=>?_⟩
  obtain ⟨t',v,⟨c,u,hc',rfl⟩,rfl⟩:=hv
  have e1:(zme x)[i]?=some (.str ⟨#[c]⟩):=by
   unfold zme
   rw [List.getElem?_map]
   simp [hc']
  refine ⟨[.int i,.str ⟨#[c]⟩],.cons ⟨t',rfl⟩ (.cons ⟨u,rfl⟩ .nil),by show 2<=sizeLine;decide,fun z=>(by obtain ⟨b,z⟩:=z _ List.mem_cons_self;cases z),fun T hT=>⟨T,_,rfl,hT,?_,rfl⟩⟩
  unfold numV
  rw [zni,e1]
  rfl
 ·obtain ⟨⟨old,he⟩,o,ho,hc,hd⟩:=st
  rcases List.mem_cons.mp hb with rfl | hb
  ·exact ⟨_,he,fun v z=>by cases (show Data.fields _=Data.cell v from z)⟩
  ·have:b=it:=by simpa using hb
   subst this
   exact ⟨o,ho,fun v z=>by rw [hd] at z;cases z⟩
 ·obtain ⟨⟨old,he⟩,o,ho,r⟩:=st
  exact ⟨⟨old,k e (by simp) _ he⟩,o,k it (by simp) o ho,r⟩
end
theorem zse {C:Cn} {e:Expr} {elts:List Expr} {kk:Nat} {tp p pos:Pos} {f:PSt->R PV} (hg:Gl C.X "enumerate") (hm:C.X.mg "enumerate"=none) (he:EV C e f) (hs:starEach [e] C.X.env=[(false,eval e C.X.env)]:=by exact zcm rfl) :
  EI C (.Tuple elts kk tp) (.Call (.Name "enumerate" p) [e] [] pos) (zsd f):=by
 intro pins s σ H Rk I ⟨ρ,vw,q⟩
 refine Call_ (zjf I hg hm zkq (PyProof.Rows.callWith_type1 (thn ((zde he zhc hs) pos pins s σ H (fun vs H'=>∃ v p ps,vs=[v]/\Same H H'/\Rep C.X.K H' p v/\znu p=some ps/\∀ J H2,Same H' H2->ItP C.X.K J H2 ps->Rk J H2) I ⟨ρ,vw,q.bind.imp fun p _ k v H' s' r=>?_⟩)
  fun us s1 ⟨vs,H1,I1,r1,v,p,ps,ev,sm,rp,ep,k⟩=>?_) hs rfl))
 ·obtain ⟨ps,ep,k⟩:=k.ofO
  exact ⟨v,p,ps,rfl,s',r,ep,fun J H2 s2 it=>k J H2 (s'.trans s2) it⟩
 ·subst ev
  obtain ⟨u,rfl,ru⟩:=vals1 r1
  have hne:s1.heap.objs.size + 1≠s1.heap.objs.size:=Nat.succ_ne_self _
  have fp:∀ {h':Heap},(∀ b o,s1.heap.get? b=some o->h'.get? b=some o)->L2.Inv C.X pins σ H1 { s1 with heap:=h' }/\∀ b∈[s1.heap.objs.size + 1,s1.heap.objs.size],FpOk C.X pins H1 b:=fun {h'} hk=>by
   refine ⟨I1.kept (t':=s1.toks) hk,fun b hb=>?_⟩
   have hb:s1.heap.objs.size<=b:=by
    simp only [List.mem_cons,List.not_mem_nil,or_false] at hb
    rcases hb with rfl | rfl
    ·exact Nat.le_succ _
    ·exact Nat.le_refl _
   exact I1.fpOk hb (I1.hok.fresh hb)
  cases p with
  | lst qs =>
   cases ep
   obtain ⟨a,xs,rfl,g,rr⟩:=rp
   cases ru
   obtain ⟨its,rv,pl,hz⟩:=I1.list g.l.l
   have ha:a < s1.heap.objs.size:=by obtain ⟨o,n,ho,_⟩:=pl;exact Heap.lt_size ho
   refine call_enumerate_list pl.isList fun h' he' hi' hsz hk=>wpAny_pyIter_enum he' ?_
   obtain ⟨I2,hf⟩:=fp hk
   refine ⟨_,_,_,_,H1,rfl,I2,zpj a s1.heap.objs.size (s1.heap.objs.size + 1) xs hne (Nat.ne_of_lt (Nat.lt_succ_of_lt ha)) (Nat.ne_of_lt ha),⟨⟨_,he'⟩,hi'⟩,hf,k _ H1 (Same.refl H1) ?_⟩
   exact znr (by rw [zon,rr.length]) (fun H2 k2=>(k2.sqF g).l.l) (zom rr)
  | str x =>
   cases ep
   cases (show v=.str x from rp)
   obtain ⟨t,rfl⟩:=ru
   refine call_enumerate_str fun h' he' hi' hsz hk=>wpAny_pyIter_enum he' ?_
   obtain ⟨I2,hf⟩:=fp hk
   refine ⟨_,_,_,_,H1,rfl,I2,zpi s1.heap.objs.size (s1.heap.objs.size + 1) x t hne,⟨⟨_,he'⟩,hi'⟩,hf,k _ H1 (Same.refl H1) ?_⟩
   exact znr (by rw [zon];simp [zgo]) (fun H2 k2=>trivial) (zom (zpk x))
  | _=>cases ep
end PU
end
section
namespace PU
open PySem PySem.Spec PyProof.Rows L2 PySem.SeqAt
variable [TW]
def pairsV (kvs:List (Key × V)):List (List V):=kvs.map fun kv=>[kV kv.1,kv.2]
theorem zt7 {K:PySem.W.Frag} {H:Hp} (k:Key):Rep K H (keyP k) (kV k):=by
 cases k <;> rfl
section
variable {P : Program} {w : World} {K : PySem.W.Frag} {elts : List Expr} {kk : Nat} {tp : Pos}
theorem zps {kvs:List (Key × V)} {vs:List (Key × Value)} (rel:KV kvs vs):∀ {i:Nat} {a:Key × V} {b:Key × Value},kvs[i]?=some a->vs[i]?=some b->a.1=b.1/\RelV a.2 b.2:=by
  induction rel with
  | nil=>intro i a b h _;simp at h
  | cons h t ih =>
   intro i a b h1 h2
   cases i with
   | zero=>simp at h1 h2;subst h1 h2;exact h
   | succ i=>exact ih (by simpa using h1) (by simpa using h2)
def DObj (K:PySem.W.Frag) (H:Hp) (d:Addr) (o:Obj) (kvs:List (Key × V)):Prop:=H d=some (.frz o (.dK kvs))\/(K.lookup d=some o/\KDict K d kvs)
theorem DObj.at {X:Cx} {pins:List (Addr × Obj)} {σ:L2.St} {H:Hp} {s:Shared} {d:Addr} {o:Obj} {kvs:List (Key × V)} {es:Array DictEntry} {ep:Nat} (hw:X.w=TW.w) (I:L2.Inv X pins σ H s) (h:DObj X.K H d o kvs) (ho:o.data=.dict es ep) :
  ∃ vs,KV kvs vs/\s.heap.DictAt (za2 X.prog X.w) d vs ep/\s.heap.get? d=some o/\o.ExactDict:=by
 rcases h with hq | ⟨hk,_,_,o2,es2,ep2,e,x,d2,r⟩
 ·obtain ⟨e0,z,_,vs,rel,o',es',ep',e1,x1,d1,rest⟩:=I.hok d _ hq
  rw [e0] at e1
  cases e1
  rw [ho] at d1
  cases d1
  exact ⟨vs,rel,⟨o,es,e0,x1,ho,rest⟩,e0,x1⟩
 ·rw [hk] at e
  cases e
  rw [ho] at d2
  cases d2
  obtain ⟨vs,rel,rest⟩:=r X.prog
  rw [← hw] at rest
  exact ⟨vs,rel,⟨o,es,I.kIn _ _ hk,x,ho,rest⟩,I.kIn _ _ hk,x⟩
end
end PU
end
section
namespace PU
open PySem PySem.Spec PyProof.Rows L2 PySem.SeqAt
variable [TW]
section
variable {P : Program} {w : World} {K : PySem.W.Frag} {tg : Expr}
def zvp (K:PySem.W.Frag) (d:Addr) (o:Obj) (kvs:List (Key × V)):It :=
 ⟨fun i H=>i < kvs.length/\DObj K H d o kvs,fun i H x H'=>H'=H/\∃ kv,kvs[i]?=some kv/\x=kV kv.1,fun i H=>i=kvs.length/\DObj K H d o kvs⟩
theorem DObj.kp {H H':Hp} {d:Addr} {o:Obj} {kvs:List (Key × V)} (k:Kp H H') (h:DObj K H d o kvs):DObj K H' d o kvs:=by
 rcases h with h | h
 ·exact .inl (k _ _ h rfl)
 ·exact .inr h
theorem zw7 {H:Hp} {d:Addr} {o:Obj} {kvs:List (Key × V)} {ks:List Key} (g:DObj K H d o kvs) (e:kvs.map (·.1)=ks):ItP K (zvp K d o kvs) H (ks.map keyP):=fun i H' k=>by
 subst e
 refine ⟨fun h=>⟨by simpa using h,g.kp k⟩,fun p ep=>?_⟩
 rw [List.getElem?_map,List.getElem?_map] at ep
 cases hk:kvs[i]? with
 | none=>rw [hk] at ep;cases ep
 | some kv =>
  rw [hk] at ep
  cases ep
  refine ⟨⟨(List.getElem?_eq_some_iff.mp hk).1,g.kp k⟩,fun x H2 ⟨eh,kv',e1,e2⟩=>?_⟩
  rw [hk] at e1
  cases e1
  subst eh e2
  exact ⟨Same.refl _,zt7 kv.1⟩
theorem zqh (d it:Addr) (o:Obj) (es:Array DictEntry) (ep:Nat) (ho:o.data=.dict es ep) (kvs:List (Key × V)) (hw:w=TW.w):Turn P w K tg (zvp K d o kvs) [it] it (fun i h=>h.IsKeyIter it d i kvs.length ep) where
 mem:=by simp
 obj:=fun i h st b hb=>by
  have e:b=it:=by simpa using hb
  subst e
  obtain ⟨o,e,c,dd⟩:=st
  exact ⟨o,e,fun v z=>by rw [dd] at z;cases z⟩
 keep:=fun i h h' st k=>st.at fun o e=>k it (by simp) o e
 item:=by
  intro X hP hw hK hc i pins s σ H E I hf st hg
  subst hP hw hK
  obtain ⟨hi,hq⟩:=hg
  obtain ⟨vs,rel,dat,_,_⟩:=hq.at hw I ho
  have hl:kvs.length=vs.length:=Paired.length rel
  obtain ⟨f0,f1,f2,f3,f4,f5⟩:=hf it (by simp)
  have eg:vs[i]?=some vs[i]:=by simp [← hl,hi]
  have egk:kvs[i]?=some kvs[i]:=by simp [hi]
  obtain ⟨hk1,hk2⟩:kvs[i].1=vs[i].1/\RelV kvs[i].2 vs[i].2:=zps rel egk eg
  rw [hl] at st
  refine wpAny_pyNext_dict_item st dat (k:=vs[i].1) (v:=vs[i].2) eg fun key h' hkey st' sb=>?_
  have I1:Inv X pins σ H { s with heap:=h' }:=I.turned (t':=s.toks) (fun b o hb e=>(sb.2 b hb).trans e) f0 f1 f3 f4 f5
  obtain ⟨oi,e,c,dd⟩:=id st'
  have rk:RelV (kV kvs[i].1) key:=by
   rw [hk1]
   rcases zbq hkey with ⟨j,t,e1,e2⟩ | ⟨y,t,e1,e2⟩
   ·rw [e1,e2];exact ⟨t,rfl⟩
   ·rw [e1,e2];exact ⟨t,rfl⟩
  exact ⟨key,rfl,zpy (s:={ s with heap:=h' }) e c dd (by decide) ⟨kV kvs[i].1,H,I1,rk,⟨rfl,_,egk,rfl⟩,by rw [hl];exact st',fun b hb=>(hf b hb).1⟩⟩
 done:=by
  intro X hP hw hK hc i pins s σ H E I hf st hg
  subst hP hw hK
  obtain ⟨hi,hq⟩:=hg
  obtain ⟨vs,rel,dat,_,_⟩:=hq.at hw I ho
  have hl:kvs.length=vs.length:=Paired.length rel
  obtain ⟨f0,f1,f2,f3,f4,f5⟩:=hf it (by simp)
  rw [hl] at st
  exact wpAny_pyNext_dict_end (I.ok.hd hc) st dat (by simp [← hl,hi]) fun h' eb=>⟨rfl,I.turned (t':=s.toks) (fun b o hb e=>eb b o hb e) f0 f1 f3 f4 f5⟩
 self:=fun _ _ _ _ _ st h=>wpAny_pyIter_keyiter st h
def zsz (x:Str):It:=⟨fun i _=>i < x.cps.size,fun i H y H'=>H'=H/\∃ c,x.cps[i]?=some c/\y=.str ⟨#[c]⟩,fun i _=>i=x.cps.size⟩
theorem zt9 {H:Hp} {x:Str}:ItP K (zsz x) H (zgo x):=fun i H' k=>by
 refine ⟨fun h=>show i=x.cps.size by simpa [zgo] using h,fun p ep=>?_⟩
 unfold zgo at ep
 rw [List.getElem?_map] at ep
 cases hk:x.cps.toList[i]? with
 | none=>rw [hk] at ep;cases ep
 | some c =>
  rw [hk] at ep
  cases ep
  refine ⟨show i < x.cps.size by simpa using (List.getElem?_eq_some_iff.mp hk).1,fun y H2 ⟨eh,c',e1,e2⟩=>?_⟩
  have:c'=c:=by
   rw [Array.getElem?_toList] at hk
   rw [hk] at e1
   exact (Option.some.inj e1).symm
  subst this eh e2
  exact ⟨Same.refl _,rfl⟩
theorem zl7 {A:Around} (hh:A.handled=none) (it:Addr) (x:Str) (t:Tok):Walks P w A it [it] [it] x.cps.size (SignAt x) (fun i h=>h.IsStrIter it (strIterType x) x t i):=by
 unfold strIterType
 split
 ·exact Walks.strAscii hh it x t
 ·exact Walks.strWide hh it x t
theorem znd (x:Str):["enumerate","zip","dict_itemiterator","dict_reverseitemiterator","odict_iterator","itertools.zip_longest","itertools.pairwise"].contains (strIterType x)=false:=by
 unfold strIterType
 split <;> decide
theorem zpg (it:Addr) (x:Str) (t:Tok):Turn P w K tg (zsz x) [it] it (fun i h=>h.IsStrIter it (strIterType x) x t i) where
 mem:=by simp
 obj:=fun i h st b hb=>by
  have e:b=it:=by simpa using hb
  subst e
  obtain ⟨o,e,c,dd⟩:=st
  exact ⟨o,e,fun v z=>by rw [dd] at z;cases z⟩
 keep:=fun i h h' st k=>by
  obtain ⟨o,e,r⟩:=st
  exact ⟨o,k it (by simp) o e,r⟩
 item:=by
  intro X hP hw hK hc i pins s σ H E I hf st hg
  subst hP hw hK
  obtain ⟨f0,f1,f2,f3,f4,f5⟩:=hf it (by simp)
  have W:=zl7 (P:=X.prog) (w:=X.w) (I.ok.hd hc) it x t
  refine W.item i s _ _ hg st fun v h' tk hv st' kk=>?_
  obtain ⟨c,u,ec,rfl⟩:=hv
  have I1:Inv X pins σ H { s with heap:=h',toks:=tk }:=I.turned (fun b o hb e=>kk b o (by simpa using hb) e) f0 f1 f3 f4 f5
  obtain ⟨oi,e,cc,dd⟩:=id st'
  exact ⟨_,rfl,zpy (s:={ s with heap:=h',toks:=tk }) e cc dd (znd x) ⟨.str ⟨#[c]⟩,H,I1,⟨u,rfl⟩,⟨rfl,c,ec,rfl⟩,st',fun b hb=>(hf b hb).1⟩⟩
 done:=by
  intro X hP hw hK hc i pins s σ H E I hf st hg
  subst hP hw hK
  obtain ⟨f0,f1,f2,f3,f4,f5⟩:=hf it (by simp)
  have W:=zl7 (P:=X.prog) (w:=X.w) (I.ok.hd hc) it x t
  have hg:i=x.cps.size:=hg
  subst hg
  refine W.done s _ _ st fun h' tk hk=>⟨rfl,I.turned (fun b o hb e=>hk b o (by simpa using hb) e) f0 f1 f3 f4 f5⟩
 self:=fun A i s Q E st h=>by
  unfold strIterType at st
  split at st
  ·exact wpAny_pyIter_striter_ascii st h
  ·exact wpAny_pyIter_striter_wide st h
end
section
variable {C : Cn} {e tg : Expr} {f : PSt → R PV}
theorem ze2 (he:EV C e f) (hw:C.X.w=TW.w:=by rfl):EI C tg e (itF f):=by
 intro pins s σ H R I ⟨ρ,vw,q⟩
 refine thn (he pins s σ H (fun v H'=>∃ p ps,Same H H'/\Rep C.X.K H' p v/\zfi p=some ps/\∀ J H2,Same H' H2->ItP C.X.K J H2 ps->R J H2) I ⟨ρ,vw,q.bind.imp fun p _ k v H' s' r=>?_⟩) fun v s1 ⟨x,H1,I1,r1,p,ps,sm,rp,ep,k⟩=>?_
 ·obtain ⟨ps,ep,k⟩:=k.ofO
  exact ⟨p,ps,s',r,ep,fun J H2 s2 it=>k J H2 (s'.trans s2) it⟩
 ·cases p with
  | lst qs =>
   cases ep
   obtain ⟨a,xs,rfl,g,rr⟩:=rp
   cases r1
   obtain ⟨its,rv,pl,hz⟩:=I1.list g.l.l
   refine wpAny_pyIter_list pl.isList ?_
   refine ⟨s1.heap.objs.size,[s1.heap.objs.size],_,_,H1,rfl,I1.kept (t':=s1.toks) fun b o e=>Heap.get?_push_of_some _ e,zqg a _,⟨_,Heap.get?_push_size _ rfl,rfl,rfl⟩,fun b hb=>?_,k _ H1 (Same.refl H1) (zw6 g rr)⟩
   have e:b=s1.heap.objs.size:=by simpa using hb
   subst e
   exact I1.fpOk (Nat.le_refl _) (I1.hok.fresh (Nat.le_refl _))
  | tup qs =>
   cases ep
   obtain ⟨a,xs,rfl,g,rr⟩:=rp
   cases r1
   obtain ⟨its,rv,pl,hz⟩:=I1.tuple g
   refine wpAny_pyIter_tuple (show s1.heap.IsTuple a its.toArray from pl) ?_
   refine ⟨s1.heap.objs.size,[s1.heap.objs.size],_,_,H1,rfl,I1.kept (t':=s1.toks) fun b o e=>Heap.get?_push_of_some _ e,zpf a _,⟨_,Heap.get?_push_size _ rfl,rfl,rfl⟩,fun b hb=>?_,k _ H1 (Same.refl H1) (it_tup g rr)⟩
   have e:b=s1.heap.objs.size:=by simpa using hb
   subst e
   exact I1.fpOk (Nat.le_refl _) (I1.hok.fresh (Nat.le_refl _))
  | dct ks qs =>
   cases ep
   obtain ⟨a,kvs,rfl,g,ek,rr⟩:=rp
   cases r1
   obtain ⟨o,es,ep,ho,hq,hs⟩:∃ o es ep,o.data=.dict es ep/\DObj C.X.K H1 a o kvs/\(a == sysModules)=false:=by
    rcases g with ⟨o,g⟩ | g
    ·obtain ⟨e0,z,hs,vs,rel,o',es',ep',e1,x1,d1,rest⟩:=I1.hok a _ g
     rw [e0] at e1
     cases e1
     exact ⟨o,es',ep',d1,.inl g,hs⟩
    ·obtain ⟨_,hs,o,es,ep,e,x,d,r⟩:=id g
     exact ⟨o,es,ep,d,.inr ⟨e,g⟩,hs⟩
   obtain ⟨vs,rel,dat,_,_⟩:=hq.at hw I1 ho
   have hl:kvs.length=vs.length:=Paired.length rel
   refine wpAny_pyIter_dict hs dat ?_
   refine ⟨s1.heap.objs.size,[s1.heap.objs.size],_,_,H1,rfl,I1.kept (t':=s1.toks) fun b o e=>Heap.get?_push_of_some _ e,zqh a _ o es ep ho kvs hw,⟨_,Heap.get?_push_size _ rfl,rfl,by rw [hl];rfl⟩,fun b hb=>?_,k _ H1 (Same.refl H1) (zw7 hq ek)⟩
   have e:b=s1.heap.objs.size:=by simpa using hb
   subst e
   exact I1.fpOk (Nat.le_refl _) (I1.hok.fresh (Nat.le_refl _))
  | str y =>
   cases ep
   cases (show x=.str y from rp)
   obtain ⟨t,rfl⟩:=r1
   refine wpAny_pyIter_strU ?_
   refine ⟨s1.heap.objs.size,[s1.heap.objs.size],_,_,H1,rfl,I1.kept (t':=s1.toks) fun b o e=>Heap.get?_push_of_some _ e,zpg _ y t,⟨_,Heap.get?_push_size _ rfl,rfl,rfl⟩,fun b hb=>?_,k _ H1 (Same.refl H1) zt9⟩
   have e:b=s1.heap.objs.size:=by simpa using hb
   subst e
   exact I1.fpOk (Nat.le_refl _) (I1.hok.fresh (Nat.le_refl _))
  | _=>cases ep
end
end PU
end
section
namespace PU
open PySem PySem.Spec PyProof.Rows L2 PySem.SeqAt
variable [TW]
def IsiC (K:PySem.W.Frag) (c:String):Prop:=∀ t∈["NoneType","bool","int","str","tuple","list","dict"],PySem.W.kitOne K (.type t) (.type c)=some (isiB t c)
theorem zua {K:PySem.W.Frag}:IsiC K "list":=by intro t ht;simp only [List.mem_cons,List.not_mem_nil,or_false] at ht;rcases ht with rfl | rfl | rfl | rfl | rfl | rfl | rfl <;> first | rfl | kernel_rfl
def rIsi (K:PySem.W.Frag) (c:String):List V->Hp->VK->Prop:=fun vs H Q=>∃ v p,vs=[v,.ty c]/\RepO K H p v/\Q (.bl (isiB (tyN p) c)) H
theorem cIsi {X:Cx} {c:String} (hw:X.w=TW.w) (h:IsiC X.K c):zhw X (.builtin "isinstance") (rIsi X.K c):=by
 intro pins s σ H xs us Q I r ⟨v,p,e1,rp,q⟩
 subst e1
 obtain ⟨u,u2,rfl,ru,ru2⟩:=vals2 r
 cases (show u2=Value.type c from ru2)
 have fin:∀ tk,EP X pins σ Q (.bool (isiB (tyN p) c)) { s with toks:=tk }:=fun tk=>⟨.bl _,H,I.tok _,rfl,q⟩
 have hk:=fun t ht=>h t ht
 cases p with
 | non=>cases (show v=.non from rp);cases ru;exact PySem.W.kia_one PySem.W.kitx_none I.kIn True.intro (hk _ (by simp [tyN])) (fun z=>nomatch z) fin
 | bl b=>cases (show v=.bl b from rp);cases ru;exact PySem.W.kia_one PySem.W.kitx_bool I.kIn True.intro (hk _ (by simp [tyN])) (fun z=>nomatch z) fin
 | int i=>cases (show v=.int i from rp);obtain ⟨t,rfl⟩:=ru;exact PySem.W.kia_one PySem.W.kitx_int I.kIn True.intro (hk _ (by simp [tyN])) (fun z=>nomatch z) fin
 | str i=>cases (show v=.str i from rp);obtain ⟨t,rfl⟩:=ru;exact PySem.W.kia_one PySem.W.kitx_str I.kIn True.intro (hk _ (by simp [tyN])) (fun z=>nomatch z) fin
 | tup ps =>
  obtain ⟨a,ys,rfl,g,_⟩:=RepO.tup_inv rp
  cases ru
  obtain ⟨its,_,⟨o,e,c',_⟩,_⟩:=I.tuple g
  exact PySem.W.kia_one PySem.W.kitx_tuple I.kIn ⟨o,e,c'⟩ (hk _ (by simp [tyN])) (fun z=>nomatch z) fin
 | lst ps =>
  obtain ⟨a,ys,rfl,g,_⟩:=RepO.lst_inv rp
  cases ru
  obtain ⟨_,its,n,_,e⟩:=g.is I
  exact PySem.W.kia_one PySem.W.kitx_list I.kIn ⟨_,e,rfl⟩ (hk _ (by simp [tyN])) (fun z=>nomatch z) fin
 | dct ks ps =>
  obtain ⟨a,kvs,rfl,g,_⟩:=rp
  cases ru
  obtain ⟨_,_,vs,_,o,es,ep,e,x,_⟩:=DkR.at hw I g
  exact PySem.W.kia_one PySem.W.kitx_dict I.kIn ⟨o,e,x.1⟩ (hk _ (by simp [tyN])) (fun z=>nomatch z) fin
 | dtt ks ps =>
  obtain ⟨a,kvs,rfl,g,_⟩:=rp
  cases ru
  obtain ⟨_,_,_,_,o,es,ep,e,x,_⟩:=dt_rd I.hok g
  exact PySem.W.kia_one PySem.W.kitx_dict I.kIn ⟨o,e,x.1⟩ (hk _ (by simp [tyN])) (fun z=>nomatch z) fin
theorem ev_isi {C:Cn} {e:Expr} {f:PSt->R PV} {c:Str} {cs:String} {p p2 pos:Pos} (h:IsiC C.X.K cs) (hg:Gl C.X "isinstance") (hm:C.X.mg "isinstance"=none) (hg2:Gl C.X c) (hm2:C.X.mg c=none) (hb2:bootBuiltins c=some (.type cs)) (ha:EO C e f)
  (hs:starEach [e,.Name c p2] C.X.env=[(false,eval e C.X.env),(false,eval (.Name c p2) C.X.env)]:=by exact zn9 rfl rfl) (hs2:starEach [.Name c p2] C.X.env=[(false,eval (.Name c p2) C.X.env)]:=by rfl)
  (hn:c≠"__name__":=by decide) (hd:(c == ("__debug__":Str))=false:=by decide) (hw:C.X.w=TW.w:=by rfl):EV C (.Call (.Name "isinstance" p) [e,.Name c p2] [] pos) (un1 f (gIsi cs)):=by
 intro pins s σ H Q I ⟨ρ,vw,q⟩
 have hpa:PA C.X [e,.Name c p2] (zvx (tO C f) (zvx (tC (.ty cs)) tNil)):=zde ha (zde (zwr hg2 hm2 hb2 rfl hn hd) zhc hs2) (by rw [hs,hs2])
 refine zoj (cIsi hw h) hg hm (by decide +kernel) hpa (by decide) (by decide) (by rw [hs,hs2]) (by rw [hs2];rfl) pins s σ H Q I ⟨ρ,vw,q.bind.imp fun p _ k v H1 s1 r1=>?_⟩
 exact ⟨v,p,rfl,r1,RQ.ofO k |>.elim fun z hz=>by obtain ⟨e,k⟩:=hz;cases e;exact k _ H1 s1 rfl⟩
theorem zvh {C:Cn} {e:Expr} {f:PSt->R PV} {pos:Pos} (h:EV C e f):EV C (.UnaryOp .USub e pos) (un1 f gNeg):=by
 intro pins s σ H Q I ⟨ρ,vw,q⟩
 refine pe_un zyk h pins s σ H Q I ⟨ρ,vw,q.bind.imp fun p _ k v H1 s1 r1=>?_⟩
 obtain ⟨z,ez,k⟩:=k.ofO
 cases p with
 | int i=>cases ez;cases (show v=.int i from r1);exact ⟨i,rfl,k _ H1 s1 rfl⟩
 | _=>cases ez
def rM1 (K:PySem.W.Frag) (g:PV->PV->Option PV):V->List V->Hp->VK->Prop:=fun v vs H Q=>∃ p q z u,vs=[u]/\RepO K H p v/\RepO K H q u/\g p q=some z/\∀ w H',Same H H'->Rep K H' z w->Q w H'
structure StrM (name:Str) (id:String):Prop where
 slot:Slot "str" name id
 ty:typeOf (.builtin id)=pure (.type "method_descriptor")
theorem ev_m1 {C:Cn} {o e:Expr} {fo fe:PSt->R PV} {g:PV->PV->Option PV} {name:Str} {id:String} {apos cpos:Pos} (S:StrM name id) (hm:MtR C.X id (rM1 C.X.K g)) (ho:EV C o fo) (he:EO C e fe)
  (hbase:attributeBase o name C.X.env (eval o C.X.env)=eval o C.X.env:=by rfl) (hline:(apos.endLine == cpos.line)=true:=by rfl) (hs:starEach [e] C.X.env=[(false,eval e C.X.env)]:=by exact zcm rfl) :
  EV C (.Call (.Attribute o name apos) [e] [] cpos) (meth1 fo fe g):=by
 intro pins s σ H Q I ⟨ρ,vw,q⟩
 refine pe_bm PySem.F.plainAttrs_str S.slot S.ty hm ho (zo3 he hs) hbase (by rw [hs];rfl) hline hs (by rfl) pins s σ H Q I ⟨ρ,vw,q.bind.imp fun p _ k v H1 s1 r1=>?_⟩
 cases p with
 | str x =>
  cases (show v=.str x from r1)
  have k:RQ C H (fe ρ >>= fun q=>R.ofO (g (.str x) q)) fun p=>∀ v H',Same H H'->Rep C.X.K H' p v->Q v H':=k
  refine ⟨rfl,ρ,vw.same s1,(k.bind.same s1).imp fun p2 _ k2 u H2 s2 r2=>?_⟩
  obtain ⟨z,ez,k3⟩:=k2.ofO
  exact ⟨.str x,p2,z,u,rfl,rfl,r2,ez,fun w H3 s3 r3=>k3 w H3 ((s1.trans s2).trans s3) r3⟩
 | _=>exact False.elim k
theorem zi6 {K:PySem.W.Frag} {H:Hp}:∀ {ps:List PV} {xs:List V} {us:List Value} {ys:List Str},zg2 ps=some ys->Reps K H ps xs->Vals xs us->StrsAre us ys
 | [],_,_,_,e,r,rv=>by cases e;cases r;cases rv;exact .nil
 | p::ps,_,_,_,e,⟨x,t,ex,h1,h2⟩,rv=>by
  subst ex
  cases p with
  | str y =>
   obtain ⟨r,er,ez⟩:=Option.map_eq_some_iff.mp (show (zg2 ps).map (y::·)=some _ from e)
   subst ez
   cases (show x=.str y from h1)
   cases rv with
   | cons a b =>
    obtain ⟨tt,rfl⟩:=a
    exact .cons y tt (zi6 er h2 b)
  | _=>cases e
theorem sJoin:StrM "join" "str.join":=⟨PySem.F.slot_str_join,PySem.F.type_str_join⟩
theorem mJoin {X:Cx}:MtR X "str.join" (rM1 X.K zry):=by
 intro pins s σ H x xs v us Q I rx rs ⟨p,q,z,u,e1,rp,rq,ez,k⟩
 subst e1
 obtain ⟨u',rfl,ru⟩:=vals1 rs
 unfold zry at ez
 split at ez
 ·rename_i y ps
  obtain ⟨ys,ey,ez⟩:=Option.bind_eq_some_iff.mp ez
  split at ez
  ·rename_i hl
   cases ez
   cases (show x=.str y from rp)
   obtain ⟨t,rfl⟩:=rx
   obtain ⟨a,zs,rfl,g,rr⟩:=RepO.lst_inv rq
   cases ru
   obtain ⟨_,its,n,rv,e⟩:=g.is I
   exact join_list (items:=its.toArray) ⟨_,e,rfl,_,rfl⟩ (zi6 ey rr (by simpa using rv)) hl fun t' k'=>⟨.str _,H,I.tok _,⟨_,rfl⟩,k _ H (Same.refl H) rfl⟩
  ·cases ez
 ·rename_i y ps
  obtain ⟨ys,ey,ez⟩:=Option.bind_eq_some_iff.mp ez
  split at ez
  ·rename_i hl
   cases ez
   cases (show x=.str y from rp)
   obtain ⟨t,rfl⟩:=rx
   obtain ⟨a,zs,rfl,g,rr⟩:=RepO.tup_inv rq
   cases ru
   obtain ⟨its,rv,pl,_⟩:=I.tuple g
   exact join_tuple (items:=its.toArray) pl (zi6 ey rr (by simpa using rv)) hl fun t' k'=>⟨.str _,H,I.tok _,⟨_,rfl⟩,k _ H (Same.refl H) rfl⟩
  ·cases ez
 ·cases ez
end PU
end
section
namespace PU
open PySem PySem.Spec PyProof.Rows L2 PySem.SeqAt
variable [TW]
def rSlP (K:PySem.W.Frag):V->Option Int->Option Int->Hp->VK->Prop:=fun v lo hi H Q=>∃ p z,RepO K H p v/\gSl p lo hi=some z/\∀ w H',Same H H'->Rep K H' z w->Q w H'
def OptI:=Option Int
def tOI (C:Cn) (f:PSt->R (Option Int)):TO:=fun σ H Q=>∃ ρ,View C.X.K H σ ρ/\RQ C H (f ρ) fun o=>∀ H',Same H H'->Q o H'
def EOI (C:Cn) (e:Option Expr) (f:PSt->R (Option Int)):Prop:=PO C.X e (tOI C f)
theorem zo6 {K:PySem.W.Frag} {H:Hp} {ps:List PV} {xs:List V} (r:Reps K H ps xs) (lo hi:Option Int):Reps K H (cutP ps lo hi) (cutV xs lo hi):=by
 unfold cutP cutV
 rw [r.length]
 exact (r.drop _).take _
section
variable {C : Cn} {e : Expr} {f : PSt → R PV} {lo hi : Option Expr} {l h : PSt → R (Option Int)} {pos p2 : Pos}
theorem zb3:EOI C none zcv:=fun pins s σ H Q I ⟨ρ,vw,q⟩=>zwm pins s σ H Q I (q H (Same.refl H))
theorem zbo (he:EV C e f):EOI C (some e) (zeb f):=by
 intro pins s σ H Q I ⟨ρ,vw,q⟩
 refine zwl he pins s σ H Q I ⟨ρ,vw,q.bind.imp fun p _ k v H1 s1 r1=>?_⟩
 cases p with
 | int i=>cases (show v=.int i from r1);exact ⟨i,rfl,k H1 s1⟩
 | _=>exact False.elim k
theorem slP {X:Cx}:SlR X (rSlP X.K):=by
 intro pins s σ H x v vl vu lo hi sl Q I rx hs pl pu ⟨p,z,rp,ez,k⟩
 cases p with
 | lst ps =>
  cases ez
  obtain ⟨a,xs,rfl,g,rr⟩:=RepO.lst_inv rp
  obtain ⟨T,id,h1,h2,h3⟩:=zv2 pins s σ H _ v vl vu lo hi sl (fun w H'=>∃ b,w=.ref b/\H b=none/\H'=upd H b (.lst (cutV xs lo hi))) I rx hs pl pu ⟨a,xs,rfl,g.l,fun b hb=>⟨b,rfl,hb,rfl⟩⟩
  refine ⟨T,id,h1,h2,thn h3 fun u s' ⟨w,H',I',rw',b,ew,nb,eH⟩=>?_⟩
  subst ew eH
  obtain ⟨H2,I2,rp2,oth⟩:=L2.Inv.frz (a:=b) (p:=.lst (cutP ps lo hi)) I' ⟨_,za0,(zo6 rr lo hi).same (Same.new nb)⟩
  refine ⟨.ref b,H2,I2,rw',k _ H2 (fun c o ec=>?_) rp2⟩
  have hc:=zbi ec nb
  rw [oth c hc,za4 hc]
  exact ec
 | tup ps =>
  simp only [gSl] at ez
  obtain ⟨a,xs,rfl,g,rr⟩:=RepO.tup_inv rp
  by_cases hw:HT.sIx ps.length 0 lo=0/\HT.sIx ps.length ps.length hi=ps.length
  ·rw [if_pos hw] at ez
   cases ez
  ·rw [if_neg hw] at ez
   cases ez
   exact zyr pins s σ H _ v vl vu lo hi sl Q I rx hs pl pu ⟨a,xs,rfl,g,by rw [← rr.length];exact hw,fun b hb=>k _ _ (Same.new hb) ⟨b,_,rfl,.inl (.inl za0),(zo6 rr lo hi).same (Same.new hb)⟩⟩
 | _=>cases ez
theorem zd2 (ha:EO C e f) (hl:EOI C lo l) (hh:EOI C hi h):EV C (.Subscript e (.Slice lo hi none p2) pos) (zfq f l h):=by
 intro pins s σ H Q I ⟨ρ,vw,q⟩
 refine zoi slP ha hl hh pins s σ H Q I ⟨ρ,vw,q.bind.imp fun p _ k v H1 s1 r1=>⟨ρ,vw.same s1,(k.bind.same s1).imp fun o1 _ k2 H2 s2=>⟨ρ,(vw.same s1).same s2,(k2.bind.same (s1.trans s2)).imp fun o2 _ k3 H3 s3=>?_⟩⟩⟩
 obtain ⟨z,ez,k4⟩:=k3.ofO
 exact ⟨p,z,(r1.same s2).same s3,ez,fun w H4 s4 r4=>k4 w H4 (((s1.trans s2).trans s3).trans s4) r4⟩
end
theorem zmc {C:Cn} {tg e:Expr} {f:PSt->R PV} {h:Tgt} {pos:Pos} (he:EV C e f) (hg:TGt C tg h) (hs:swapsWithSole [tg] e pos.line C.X.env=pure false:=by rfl) (hw:swappedStores [tg] e C.X.env=pure none:=by rfl)
  (h1:(assignEach [tg] C.X.env).map (·.2)=[assign tg C.X.env]:=by rfl):SV C (.Assign [tg] e pos) (unpF f h):=by
 intro pins s σ H D I ⟨ρ,B,S,q⟩
 refine zy4 he hg hs hw h1 pins s σ H D I ⟨ρ,S.vw,(q.bind S.same).imp fun p _ k v H1 s1 r1=>?_⟩
 obtain ⟨ρ',e1,k⟩:=RS.ofO k
 exact ⟨ρ,B,p,ρ',S.grow s1,r1,e1,fun σ' S'=>k σ' H1 S'⟩
theorem zmg {K:PySem.W.Frag} {H:Hp} {k:Key} {p:PV} {v:V} (rp:Rep K H p v):∀ {kvs:List (Key × V)} {ps:List PV},Reps K H ps (kvs.map (·.2))->Reps K H (zji (kvs.map (·.1)) ps k p) ((kvs.map fun kv=>if kv.1=k then (kv.1,v) else kv).map (·.2))
 | [],ps,r=>by
  cases ps with
  | nil=>rfl
  | cons q qs=>obtain ⟨x,t,e,_⟩:=r;cases e
 | kv::kvs,ps,r=>by
  cases ps with
  | nil=>cases r
  | cons q qs =>
   obtain ⟨x,t,e,h1,h2⟩:=r
   simp only [List.map_cons,List.cons.injEq] at e
   obtain ⟨rfl,rfl⟩:=e
   have ih:=zmg (k:=k) rp h2
   simp only [List.map_cons,zji,List.zipWith_cons_cons]
   by_cases hk:kv.1=k
   ·rw [if_pos hk,if_pos hk];exact ⟨_,_,rfl,rp,ih⟩
   ·rw [if_neg hk,if_neg hk];exact ⟨_,_,rfl,h1,ih⟩
theorem zof {K:PySem.W.Frag} {H:Hp} {kvs:List (Key × V)} {ps:List PV} {k:Key} {p:PV} {v:V} (rr:Reps K H ps (kvs.map (·.2))) (rp:Rep K H p v) :
  ∃ ks' ps',putP (kvs.map (·.1)) ps k p=.dct ks' ps'/\(putK kvs k v).map (·.1)=ks'/\Reps K H ps' ((putK kvs k v).map (·.2)):=by
 unfold putP
 have e:((kvs.map (·.1)).any fun j=>decide (j=k))=(kvs.any fun kv=>decide (kv.1=k)):=by rw [List.any_map];rfl
 rw [e]
 unfold putK
 split
 ·refine ⟨_,_,rfl,?_,zmg rp rr⟩
  rw [List.map_map]
  apply List.map_congr_left
  intro kv _
  simp only [Function.comp]
  split <;> rfl
 ·refine ⟨_,_,rfl,by simp,?_⟩
  rw [List.map_append]
  exact Reps.append rr ⟨_,_,rfl,rp,rfl⟩
theorem zlm {K:PySem.W.Frag} {H:Hp} {a:Addr} {kvs:List (Key × V)} {ps:List PV} {k:Key} {p:PV} {v:V} (rr:Reps K H ps (kvs.map (·.2))) (rp:Rep K H p v) (ha:H a=some (.dK (putK kvs k v))):zfm K H a (putP (kvs.map (·.1)) ps k p):=by
 obtain ⟨ks',ps',e,e1,e2⟩:=zof (k:=k) rr rp
 rw [e]
 exact ⟨_,ha,e1,e2⟩
theorem zfo {C:Cn} (i:Nat) {x:Str} {ke e:Expr} {fk fv:PSt->R PV} {np pos' pos:Pos} (hu:C.X.A.units + 64 < cLine) (hk:EV C ke fk) (hv:EV C e fv) (hN:C.X.N[i]?=some x:=by rfl) (hvis:Vis C.X.env.scope x:=by first | exact Or.inl rfl | exact Or.inr (Or.inl rfl))
  (hs:swapsWith e (some (.Subscript (.Name x np) ke pos')) pos.line C.X.env=pure false:=by rfl) (hd:(x == ("__debug__":Str))=false:=by decide) (hcd:(x == ("__classdict__":Str))=false:=by decide) :
  SV C (.Assign [.Subscript (.Name x np) ke pos'] e pos) (putF i fk fv):=by
 intro pins s σ H D I ⟨ρ,B,S,q⟩
 unfold putF at q
 split at q
 ·rename_i ks ps e1
  obtain ⟨a,e2,kvs,hx,ek,rr⟩:=S.vw i _ e1
  refine zwi (by omega) (zj2 hN hvis hd hcd) hk hv hs pins s σ H D I ⟨ρ,S.vw,(q.bind S.same).imp fun p _ q1 v H1 s1 r1=>⟨_,e2,ρ,S.vw.same s1,(q1.bind (S.same.trans s1)).imp fun kp _ q2 y H2 s2 r2=>?_⟩⟩
  obtain ⟨k,e3,q3⟩:=RS.ofO q2
  by_cases hl:ks.length < 16777216
  ·rw [if_pos hl] at q3
   have hy:=zfn e3 r2.o
   subst hy
   subst ek
   have hx2:H2 a=some (.dK kvs):=s2 _ _ (s1 _ _ hx)
   refine ⟨a,_,rfl,DPut.k hx2 (by rw [sizeLine_eq];simpa using hl),?_⟩
   have kp:Kp H2 (upd H2 a (.dK (putK kvs k v))):=Kp.upd hx2 rfl
   refine q3 σ _ (((S.grow s1).grow s2).turn e1 e2 (fun b hb=>za4 hb) ⟨a,rfl,?_⟩)
   exact zlm (Reps.kp kp _ ((rr.same s1).same s2)) (Rep.kp kp _ (r1.same s2)) za0
  ·rw [if_neg hl] at q3
   exact False.elim q3
 ·exact False.elim q
theorem zi4 {C:Cn} {pos:Pos}:EN C (.Dict [] [] pos) newD:=fun pins s σ H Q I ⟨ρ,vw,q⟩=>ztv pins s σ H Q I fun p hp=>q p _ (Same.new hp) hp ⟨[],za0,rfl,rfl⟩
def KReps (K:PySem.W.Frag) (H:Hp):List (Key × PV)->List (Key × V)->Prop
 | [],xs=>xs=[]
 | kp::r,xs=>∃ v t,xs=(kp.1,v)::t/\Rep K H kp.2 v/\KReps K H r t
theorem KReps.kp {K:PySem.W.Frag} {H H':Hp} (k:Kp H H'):∀ {kps:List (Key × PV)} {xs:List (Key × V)},KReps K H kps xs->KReps K H' kps xs
 | [],_,h=>h
 | kp::r,_,⟨v,t,e,h1,h2⟩=>⟨v,t,e,Rep.kp k _ h1,KReps.kp k h2⟩
def ED (C:Cn) (pos:Pos) (ks:List (Option Expr)) (vs:List Expr) (f:PSt->R (List (Key × PV))):Prop:=∃ trs,PPs C.X pos ks vs trs ∧
 ∀ σ H Q,(∃ ρ,View C.X.K H σ ρ/\RQ C H (f ρ) fun kps=>∀ kvs H',Same H H'->KReps C.X.K H' kps kvs->Q (kvs.map fun kv=>(kV kv.1,kv.2)) H')->zn7 trs σ H Q
theorem ed_nil {C:Cn} {pos:Pos}:ED C pos [] [] nilD:=⟨[],zwk,fun σ H Q ⟨ρ,vw,q⟩=>q [] H (Same.refl H) rfl⟩
theorem znx {C:Cn} {pos:Pos} {k v:Expr} {ks:List (Option Expr)} {vs:List Expr} {fk fv:PSt->R PV} {f:PSt->R (List (Key × PV))} (hk:EV C k fk) (hv:EV C v fv) (h:ED C pos ks vs f):ED C pos (some k::ks) (v::vs) (zp3 fk fv f):=by
 obtain ⟨trs,hp,ht⟩:=h
 refine ⟨_,zts hk hv hp,fun σ H Q ⟨ρ,vw,q⟩=>⟨ρ,vw,q.bind.imp fun kp _ q1 x H1 s1 r1=>?_⟩⟩
 obtain ⟨kk,ek,q1⟩:∃ kk,zf1 kp=some kk/\RQ C H (fv ρ >>= fun p=>f ρ >>= fun r=>R.ok ((kk,p)::r)) _:=by
  cases h:zf1 kp with
  | none=>rw [h] at q1;exact False.elim q1
  | some kk=>rw [h] at q1;exact ⟨kk,rfl,q1⟩
 refine ⟨ρ,vw.same s1,(q1.bind.same s1).imp fun p _ q2 y H2 s2 r2=>ht σ H2 _ ⟨ρ,(vw.same s1).same s2,(q2.bind.same (s1.trans s2)).imp fun kps _ q3 kvs H3 s3 r3=>?_⟩⟩
 have hx:=zfn ek r1.o
 subst hx
 exact q3 ((kk,y)::kvs) H3 ((s1.trans s2).trans s3) ⟨y,kvs,rfl,r2.same s3,r3⟩
def addP (d:PV) (kp:Key × PV):PV:=match d with
 | .dct ks ps=>putP ks ps kp.1 kp.2
 | d=>d
theorem zor (kps:List (Key × PV)):zhd kps=kps.foldl addP (.dct [] []):=rfl
theorem zj5 {K:PySem.W.Frag} {H:Hp}:∀ {kps:List (Key × PV)} {kvs acc:List (Key × V)} {ps:List PV},KReps K H kps kvs->Reps K H ps (acc.map (·.2)) →
  ∃ ks' ps',kps.foldl addP (PV.dct (acc.map (·.1)) ps)=PV.dct ks' ps'/\(zfw acc kvs).map (·.1)=ks'/\Reps K H ps' ((zfw acc kvs).map (·.2))
 | [],kvs,acc,ps,h,r=>by cases h;exact ⟨_,_,rfl,rfl,r⟩
 | kp::kps,kvs,acc,ps,⟨v,t,e,h1,h2⟩,r=>by
  subst e
  obtain ⟨ks',ps',g,g1,g2⟩:=zof (k:=kp.1) r h1
  obtain ⟨ks2,ps2,f,f1,f2⟩:=zj5 (acc:=putK acc kp.1 v) h2 g2
  refine ⟨ks2,ps2,?_,f1,f2⟩
  rw [List.foldl_cons]
  have:addP (PV.dct (acc.map (·.1)) ps) kp=PV.dct ((putK acc kp.1 v).map (·.1)) ps':=by
   show putP _ _ _ _=_
   rw [g,g1]
  rw [this]
  exact f
theorem KReps.length {K:PySem.W.Frag} {H:Hp}:∀ {kps:List (Key × PV)} {xs:List (Key × V)},KReps K H kps xs->kps.length=xs.length
 | [],_,h=>by cases h;rfl
 | kp::r,_,⟨v,t,e,h1,h2⟩=>by subst e;simp [KReps.length h2]
theorem zxh {C:Cn} {pos:Pos} {ks:List (Option Expr)} {vs:List Expr} {f:PSt->R (List (Key × PV))} (h:ED C pos ks vs f) (hall:ks.all (·.isSome)=true:=by rfl) (hl:ks.length=vs.length:=by rfl) (h0:ks≠[]:=by exact fun z=>nomatch z)
  (h15:ks.length<=15:=by decide):EN C (.Dict ks vs pos) (zul f):=by
 obtain ⟨trs,hp,ht⟩:=h
 intro pins s σ H Q I ⟨ρ,vw,q⟩
 refine zwp hp hall hl h0 h15 pins s σ H Q I fun p hn=>ht σ _ _ ⟨ρ,vw.same (Same.new hn),(q.bind.same (Same.new hn)).imp fun kps _ q1 kvs H3 s3 r3=>?_⟩
 have sm:Same H H3:=(Same.new hn).trans s3
 have e3:H3 p=some (.dK []):=s3 _ _ za0
 by_cases hk:kps.length<=15
 ·rw [if_pos hk] at q1
  refine ⟨e3,kvs,rfl,by rw [← r3.length];exact hk,?_⟩
  have kp:Kp H3 (upd H3 p (.dK (zfw [] kvs))):=Kp.upd e3 rfl
  obtain ⟨ks',ps',g,g1,g2⟩:=zj5 (acc:=[]) (ps:=[]) (KReps.kp kp r3) Reps.nil
  refine q1 p _ (fun b o eb=>?_) hn ?_
  ·rw [za4 (zbi eb hn)]
   exact sm b o eb
  ·rw [zor]
   have g:kps.foldl addP (PV.dct [] [])=PV.dct ks' ps':=g
   rw [g]
   exact ⟨_,za0,g1,g2⟩
 ·rw [if_neg hk] at q1
  exact False.elim q1
end PU
end
section
namespace PU
open PySem PySem.Spec PyProof.Rows L2 PySem.SeqAt
variable [TW]
structure Con (K:PySem.W.Frag) (mg:Str->Option Value) (x:Str) (c:PV):Prop where
 ex:∃ v u,mg x=some u/\RelV v u/\∀ H,Rep K H c v
theorem zr9 {C:Cn} {x:Str} {c:PV} {pos:Pos} (hg:Gl C.X x) (h:Con C.X.K C.X.mg x c) (hd:(x == ("__debug__":Str))=false:=by decide):EV C (.Name x pos) (kP c):=by
 obtain ⟨v,u,hm,r,rp⟩:=h.ex
 exact zxd hg hm r rp hd
def entS (p:Params) (e:Str × Tok × Value):DictEntry:={ hash:=PyData.keyHash p e.1,key:=.str e.1 e.2.1,val:=e.2.2 }
omit [TW] in
theorem zpv (w:World) (x:Str):PyData.keyHash w.params x=hashStr w x:=rfl
omit [TW] in
theorem zkz {P:Program} {w:World}:∀ (es:List (Str × Tok × Value)),Pairs (za2 P w) (es.map (entS w.params)) (es.map fun e=>((Sum.inr e.1:Key),e.2.2))
 | []=>.nil
 | e::es=>.cons (zf9 P w e.1 e.2.1) rfl (zkz es)
omit [TW] in
theorem zri:∀ {xs:List V} {es:List (Str × Tok × Value)},Vals xs (es.map (·.2.2))->KV ((es.map fun e=>(Sum.inr e.1:Key)).zip xs) (es.map fun e=>((Sum.inr e.1:Key),e.2.2))
 | [],[],_=>.nil
 | x::xs,e::es,r=>by
  cases r with
  | cons a b=>exact .cons ⟨rfl,a⟩ (zri b)
 | [],_::_,r=>by cases r
 | _::_,[],r=>by cases r
omit [TW] in
theorem con_dct {w:World} {K:PySem.W.Frag} {h:Heap} {mg:Str->Option Value} {x:Str} {a:Addr} {o:Obj} (es:List (Str × Tok × Value)) {ep:Nat} {ps:List PV} {xs:List V} (X:K.In h) (G:h.Ns mainGlobals mg)
  (n1:PySem.W.nsIn K mainGlobals x=some (some (.ref a))) (n2:K.lookup a=some o) (n3:o={ cls:=.type "dict",data:=.dict (es.map (entS w.params)).toArray ep }) (hs:(a == sysModules)=false)
  (nd:(es.map (·.1)).Nodup) (hz:es.length<=sizeLine) (vals:Vals xs (es.map (·.2.2))) (reps:∀ H,@Reps ⟨w⟩ K H ps xs):@Con ⟨w⟩ K mg x (.dct (es.map fun e=>.inr e.1) ps):=by
 letI:TW:=⟨w⟩
 have hl:xs.length=es.length:=by rw [vals.length,List.length_map]
 have e1:((es.map fun e=>(Sum.inr e.1:Key)).zip xs).map (·.1)=es.map fun e=>.inr e.1:=List.map_fst_zip (by rw [List.length_map];omega)
 have e2:((es.map fun e=>(Sum.inr e.1:Key)).zip xs).map (·.2)=xs:=List.map_snd_zip (by rw [List.length_map];omega)
 refine ⟨.ref a,_,PySem.W.mg_of X G n1,rfl,fun H=>⟨a,(es.map fun e=>(Sum.inr e.1:Key)).zip xs,rfl,.inr ⟨?_,hs,o,_,_,n2,?_,by rw [n3],fun P=>⟨es.map fun e=>((Sum.inr e.1:Key),e.2.2),zri vals,?_,?_,?_⟩⟩,e1,by rw [e2];exact reps H⟩⟩
 ·rw [List.length_zip,List.length_map,hl]
  omega
 ·rw [n3]
  exact ⟨rfl,rfl,rfl⟩
 ·intro e he
  have he:e∈es.map (entS w.params):=by simpa using he
  obtain ⟨z,_,rfl⟩:=List.mem_map.mp he
  exact ⟨.inr z.1,zf9 P w z.1 z.2.1,zpv w z.1⟩
 ·have e3:(es.map (entS w.params)).toArray.toList=es.map (entS w.params):=by simp
  rw [e3]
  exact zkz (P:=P) (w:=w) es
 ·rw [List.map_map]
  have:((·.1) ∘ fun e:Str × Tok × Value=>((Sum.inr e.1:Key),e.2.2))=Sum.inr ∘ (·.1):=rfl
  rw [this,← List.map_map]
  exact List.Pairwise.map _ (fun a b hab e=>hab (Sum.inr.inj e)) nd
theorem ok_of {P:Program} {w:World} {K:PySem.W.Frag} {mg:Str->Option Value} {base:Heap} {x qual:Str} {st:Stmt} {f:Addr} {fd:FuncData} {N ps:List Str} {k:Nat} {g:PSt->R Fl} (F:Fun K x qual st f fd) (S:FnScope N ps (zae st))
  (hbody:∀ (cdv:Value) (A:Around) (outer:List Env) (s:Shared) (H:Hp) (E:XK),Room k (A.deeper (envOfC qual (zae st) s.heap.objs.size f cdv))->SVs (cnOf P w K mg base N qual (zae st) f cdv A outer s H E) (zaq st) g) :
  FnOk P w K mg base CX0 (k + 1) f fd ps (spP K ps.length (runF ps.length N.length g)):=by
 refine F.ok S (fun vs H Q E h=>h.1) (fun cdv A outer s H vs Q E hr h=>?_)
 obtain ⟨hl,qs,p,r,e,k⟩:=h
 refine ⟨_,hbody cdv A outer s H E hr,start N.length qs,(H,H),zjl r,?_⟩
 unfold runF at e
 rw [if_pos (by rw [r.length];exact hl)] at e
 cases hg:g (start N.length qs) with
 | ok fl =>
  rw [hg] at e
  cases fl with
  | next ρ=>cases e;exact fun σ H' S'=>k .non H' S'.same rfl
  | ret q=>cases e;exact fun v H' s' r'=>k v H' s' r'
  | brk ρ=>cases e
  | cont ρ=>cases e
 | er x=>rw [hg] at e;cases e
 | no=>rw [hg] at e;cases e
theorem zpl {K:PySem.W.Frag} {H:Hp} {a:Addr} {ns:List Int} (h:SqF K H a (ns.map V.int)):Reps K H [.lst (ns.map .int)] [.ref a]:=by
 have:∀ l:List Int,Reps K H (l.map PV.int) (l.map V.int):=by
  intro l
  induction l with
  | nil=>rfl
  | cons x l ih=>exact ⟨_,_,rfl,rfl,ih⟩
 exact ⟨_,_,rfl,⟨a,_,rfl,h,this ns⟩,rfl⟩
end PU
end
section
namespace PU
open PySem PySem.Spec PyProof.Rows L2 PySem.SeqAt
section
variable {P : Program} {w : World} {κ : Type} [DecidableEq κ] {kd : KeyKind P w κ} {A : Around} {E : Value → Shared → Prop} {s : Shared}
def SetL (kd:KeyKind P w κ) (h:Heap) (a:Addr) (led:Bool) (S:κ->Bool) (n:Nat):Prop :=
 ∃ o es ep t,h.get? a=some o/\o.ExactSet/\o.data=.set es ep t/\ElemsOf kd es.toList/\(∀ k,S k=true ↔ ∃ e∈es.toList,kd.is k e.2=true)/\es.size < scanBound/\t.fits es.size=true/\es.size=n/\t.led=led/\(1<=es.size->t.plain=false)
end
end PU
end
section
namespace PU
open PySem PySem.Spec PyProof.Rows L2 PySem.SeqAt
def addD (dd:List Str) (y:Str):List Str:=if y∈dd then dd else dd++[y]
def distinct (ys:List Str):List Str:=ys.foldl addD []
section
variable {P : Program} {w : World} {A : Around}
def memS (dd:List Str):Key->Bool
 | .inr x=>decide (x∈dd)
 | .inl _=>false
end
end PU
end
section
namespace PU
open PySem PySem.Spec PyProof.Rows L2 PySem.SeqAt
section
variable {P : Program} {w : World} {A : Around} {E : Value → Shared → Prop} {s : Shared}
abbrev ledW (w:World):Bool:=!w.params.followText "set-order"
abbrev newSetObj (w:World):Obj:={ cls:=.type "set",dict:=none,data:=.set #[] 0 (.fresh 0 0 (ledW w)) }
end
end PU
end
section
namespace PU
open PySem PySem.Spec PyProof.Rows L2 PySem.SeqAt
abbrev siObj (first:Value) (i:Nat) (a:Addr) (n ep:Nat):Obj:={ cls:=.type "set_iterator",dict:=none,data:=.fields #[first,.int i 0,.ref a,.int n 0,.int ep 0],slots:=#[] }
section
variable {P : Program} {w : World} {A : Around} {E : Value → Shared → Prop} {s : Shared} {it a T : Addr} {i n ep : Nat}
end
end PU
end
section
namespace PU
open PySem PySem.Spec PyProof.Rows L2 PySem.SeqAt
section
variable {P : Program} {w : World} {A : Around} {E : Value → Shared → Prop} {s : Shared} {it a : Addr} {i n ep slot : Nat}
def Tells (P:Program) (w:World) (s:Shared) (a:Addr) (slot i ep:Nat) (r:Option (Value × Nat)):Prop:=∀ (A:Around) (E:Value->Shared->Prop) (Q:Option (Value × Nat)->Shared->Prop),Q r s->wpAny (model P w) A (setNext a slot i ep) Q E s
end
end PU
end
section
namespace PU
open PySem PySem.Spec PyProof.Rows L2 PySem.SeqAt
section
variable {P : Program} {w : World} {A : Around} {E : Value → Shared → Prop} {s : Shared} {a : Addr} {n ep : Nat} {o : Obj} {es : Array (Int × Value)} {t : SetTable}
end
end PU
end
section
namespace PU
open PySem PySem.Spec PyProof.Rows L2 PySem.SeqAt
section
variable {P : Program} {w : World} {A : Around} {E : Value → Shared → Prop} {s : Shared} {a : Addr} {ep : Nat} {o : Obj} {es : Array (Int × Value)} {t : SetTable}
end
end PU
end
section
namespace PU
open PySem PySem.Spec PyProof.Rows L2 PySem.SeqAt
section
variable {P : Program} {w : World} {A : Around} {E : Value → Shared → Prop} {s : Shared} {a : Addr} {ep : Nat} {o : Obj} {es : Array (Int × Value)} {t : SetTable}
end
end PU
end
section
namespace PU
open PySem PySem.Spec PyProof.Rows L2 PySem.SeqAt
section
variable {P : Program} {w : World} {A : Around} {E : Value → Shared → Prop} {s : Shared} {a : Addr}
end
end PU
end
section
namespace PU
open PySem PySem.Spec PyProof.Rows L2 PySem.SeqAt
variable [TW]
end PU
end
section
namespace PU
def whF (t:PSt->R Bool) (g:PSt->R Fl):Nat->PSt->R Fl
 | 0,_=>.no
 | n + 1,ρ=>t ρ >>= fun b=>if b=true then g ρ >>= fun fl=>(match fl with
  | .next ρ2=>whF t g n ρ2
  | .cont ρ2=>whF t g n ρ2
  | .brk ρ2=>.ok (.next ρ2)
  | .ret q=>.ok (.ret q)) else .ok (.next ρ)
def whS (n:Nat) (t:PSt->R Bool) (g:PSt->R Fl):PSt->R Fl:=whF t g n
end PU
namespace PU
open PySem PySem.Spec PyProof.Rows L2 PySem.SeqAt
variable [TW]
theorem zlf {C:Cn} {c:Expr} {body:List Stmt} {t:PSt->R Bool} {g:PSt->R Fl} {pos:Pos} (n:Nat) (hp:PassesOwn (model C.X.prog C.X.w) C.X.A C.X.env C.X.xe) (hc:ET C c t) (hb:SVs C body g):SV C (.While c body [] pos) (whS n t g):=by
 intro pins s σ H D I ⟨ρ,B,S,q⟩
 refine ztr hp hc hb pins s σ H D I ⟨fun m σ' H'=>∃ ρ',StOk C.X.K B H' σ' ρ'/\RS C B D (whF t g m ρ'),⟨n,ρ,S,q⟩,?_⟩
 rintro m σ' H' ⟨ρ',S',q'⟩
 cases m with
 | zero=>exact False.elim q'
 | succ m =>
  have q':RS C B D (t ρ' >>= fun b=>if b=true then g ρ' >>= fun fl=>(match fl with
   | .next ρ2=>whF t g m ρ2
   | .cont ρ2=>whF t g m ρ2
   | .brk ρ2=>.ok (.next ρ2)
   | .ret q=>.ok (.ret q)) else .ok (.next ρ')):=q'
  refine ⟨ρ',S'.vw,(q'.bind S'.same).imp fun b _ k H1 s1=>?_⟩
  cases b with
  | false =>
   rw [if_neg Bool.false_ne_true] at k ⊢
   exact k σ' H1 (S'.grow s1)
  | true =>
   rw [if_pos rfl] at k ⊢
   refine ⟨fun σ2 H2=>∃ ρ2,StOk C.X.K B H2 σ2 ρ2/\RS C B D (whF t g m ρ2),fun σ2 H2 z=>⟨m,Nat.lt_succ_self m,z⟩,ρ',B,S'.grow s1,?_⟩
   cases hgr:g ρ' with
   | ok fl =>
    rw [hgr] at k
    cases fl with
    | next ρ2=>exact fun σ4 H4 S4=>⟨ρ2,S4,k⟩
    | cont ρ2=>exact fun σ4 H4 S4=>⟨ρ2,S4,k⟩
    | brk ρ2=>exact fun σ4 H4 S4=>k σ4 H4 S4
    | ret p=>exact k
   | er x=>rw [hgr] at k;exact k
   | no=>rw [hgr] at k;exact k
end PU
end
section
namespace PU
open PySem
def gStarts:PV->PV->Option PV
 | .str x,.str y=>some (.bl (Txt.startswith x y))
 | _,_=>none
def gEnds:PV->PV->Option PV
 | .str x,.str y=>some (.bl (Txt.endswith x y))
 | _,_=>none
def gCount:PV->PV->Option PV
 | .str x,.str y=>some (.int (Txt.count x y))
 | _,_=>none
def gFind:PV->PV->Option PV
 | .str x,.str y=>some (.int (Txt.find x y))
 | _,_=>none
def zxy:List PV->Option (List Bool)
 | []=>some []
 | .bl b::r=>(zxy r).map (b::·)
 | _::_=>none
def gAll:PV->Option PV
 | .lst ps=>(zxy ps).bind fun bs=>some (.bl (bs.all id))
 | _=>none
def gAny:PV->Option PV
 | .lst ps=>(zxy ps).bind fun bs=>some (.bl (bs.any id))
 | _=>none
end PU
namespace PU
open PySem PySem.Spec PyProof.Rows L2 PySem.SeqAt
variable [TW]
end PU
end
section
namespace PU
open PySem PySem.Spec PyProof.Rows L2 PySem.SeqAt
variable [TW]
theorem zkg {C:Cn} {tg a b:Expr} {f f2:PSt->R PV} {p pos:Pos} (hg:Gl C.X "range") (hm:C.X.mg "range"=none) (ha:EV C a f) (hb:EV C b f2) (hs:starEach [a,b] C.X.env=[(false,eval a C.X.env),(false,eval b C.X.env)]:=by rfl)
  (hs2:starEach [b] C.X.env=[(false,eval b C.X.env)]:=by exact zcm rfl):EI C tg (.Call (.Name "range" p) [a,b] [] pos) (rng2 f f2):=by
 intro pins s σ H Rk I ⟨ρ,vw,q⟩
 refine zqw hg hm (zde ha (zde hb zhc hs2) (by rw [hs,hs2])) hs hs2 pins s σ H Rk I ⟨ρ,vw,q.bind.imp fun p _ k v H1 s1 r1=>⟨ρ,vw.same s1,(k.bind.same s1).imp fun p2 _ k2 v2 H2 s2 r2=>?_⟩⟩
 cases p with
 | int i =>
  cases p2 with
  | int j =>
   cases (show v=.int i from r1)
   cases (show v2=.int j from r2)
   have k2:RQ C H (if i.natAbs < 1000000000/\j.natAbs < 1000000000 then R.ok (zcj i (j - i).toNat) else R.no) fun ps=>∀ J H',Same H H'->ItP C.X.K J H' ps->Rk J H':=k2
   by_cases hj:i.natAbs < 1000000000/\j.natAbs < 1000000000
   ·rw [if_pos hj] at k2
    exact ⟨i,j,rfl,⟨by omega,by omega,by omega,by omega⟩,k2 _ H2 (s1.trans s2) zox⟩
   ·rw [if_neg hj] at k2
    exact False.elim k2
  | _=>exact False.elim k2
 | _=>exact False.elim k2
end PU
end
section
namespace PU
def zrp:PV->Bool
 | .dct _ _=>true
 | _=>false
def methD (fo fe:PSt->R PV) (g:PV->PV->Option PV):PSt->R PV:=fun ρ=>fo ρ >>= fun p=>if zrp p=true then fe ρ >>= fun q=>R.ofO (g p q) else .no
def gGet:PV->PV->Option PV
 | .dct ks ps,q=>(zf1 q).bind fun k=>some ((zca ks ps k).getD .non)
 | _,_=>none
end PU
namespace PU
open PySem PySem.Spec PyProof.Rows L2 PySem.SeqAt
variable [TW]
theorem zk2 {K:PySem.W.Frag} {H:Hp} {k:Key}:∀ {ks:List Key} {ps:List PV} {kvs:List (Key × V)},kvs.map (·.1)=ks->Reps K H ps (kvs.map (·.2))->zca ks ps k=none->valV kvs k=none
 | _,_,[],h1,h2,e=>rfl
 | _,[],kv::kvs,h1,h2,e=>by
  cases h2
 | _,q::ps,kv::kvs,h1,h2,e=>by
  subst h1
  obtain ⟨x,r,ex,hx,ht⟩:=h2
  simp only [List.map_cons,List.cons.injEq] at ex
  obtain ⟨rfl,rfl⟩:=ex
  simp only [List.map_cons,zca] at e
  by_cases hk:kv.1=k
  ·rw [if_pos hk] at e
   cases e
  ·rw [if_neg hk] at e
   rw [zf0 hk]
   exact zk2 rfl ht e
end PU
end
section
namespace PU
open PySem
def insL (x:Str):List Str->List Str
 | []=>[x]
 | y::r=>if y.cps.toList < x.cps.toList then y::insL x r else x::y::r
def zv1 (l:List Str):List Str:=l.foldr insL []
def gSorted:PV->Option PV
 | .lst ps=>(zg2 ps).bind fun ys=>if ys.length < 64 then some (.lst ((zv1 ys).map .str)) else none
 | _=>none
end PU
namespace PU
open PySem PySem.Spec PyProof.Rows L2 PySem.SeqAt
variable [TW]
end PU
end
section
namespace PU
open PySem PySem.Spec PyProof.Rows L2 PySem.SeqAt
theorem zlg:isSubtype (.type "dict") (.type "dict")=pure true:=by rw [isSubtype_type];kernel_rfl
section
variable {P : Program} {w : World} {A : Around} {E : Value → Shared → Prop} {s : Shared} {d : Addr} {kvs : List (Key × Value)} {ep : Nat}
theorem zmt {Q:Value->Shared->Prop} (hh:A.handled=none) (hd:(d == sysModules)=false) (m:s.heap.DictAt (za2 P w) d kvs ep) (hz:kvs.length<=sizeLine)
  (q:∀ (h':Heap) (tk:Nat) (acc:Array Value) (c:Nat),(∀ b o,s.heap.get? b=some o->h'.get? b=some o)->h'.get? s.heap.objs.size=some { cls:=.type "list",data:=.seq acc c } →
   ItemsOf (fun i v=>∃ k x,kvs[i]?=some (k,x)/\(za2 P w).is k v=true) acc kvs.length->Q (.ref s.heap.objs.size) { s with heap:=h',toks:=tk }):wpAny (model P w) A (call (.type "list") [.ref d]) Q E s:=by
 have ld:d < s.heap.objs.size:=by obtain ⟨o,es,ho,_⟩:=m;exact Heap.lt_size ho
 refine callType_codes (Q₁:=fun obj s₁=>obj=.ref s.heap.objs.size/\s₁={ s with heap:=s.heap.push { cls:=.type "list",data:=.seq #[] } }) PySem.F.called_list (PySem.F.typeCall_list_1 _) PySem.F.entry_list_init (code_list_new _ ⟨rfl,rfl⟩) fun obj s₁ h₁=>?_
 obtain ⟨rfl,rfl⟩:=h₁
 have g0:(s.heap.push { cls:=.type "list",data:=.seq #[] }).get? s.heap.objs.size=some { cls:=.type "list",data:=.seq #[] }:=Heap.get?_push_size _ rfl
 refine ⟨⟨_,g0,rfl⟩,PySem.F.args_list_init_2 _ _,?_⟩
 show wpAny _ _ (do let old<- Builtin.List.listItems (.ref s.heap.objs.size);Builtin.List.listUpdate (.ref s.heap.objs.size) (fun _=>#[]);letGo old.toList.reverse;Builtin.List.listExtendWith (.ref s.heap.objs.size) (.ref d) .none) _ _ _
 refine wpAny_bind ?_
 unfold Builtin.List.listItems
 refine wpAny_bind (wpAny_seqItems g0 rfl (wpAny_pure ?_))
 show wpAny _ _ (updateSeq s.heap.objs.size (fun _=>#[]) >>= fun _=>letGo (#[]:Array Value).toList.reverse >>= fun _=>Builtin.List.listExtendWith (.ref s.heap.objs.size) (.ref d) .none) _ _ _
 refine wpAny_bind (wpAny_updateSeq g0 rfl ?_ (Nat.zero_le _) (Nat.zero_le _))
 have g1:=Heap.get?_update_self (Obj.mapSeq (fun _=>(#[]:Array Value))) g0 rfl
 have k1:∀ b o,s.heap.get? b=some o->((s.heap.push { cls:=.type "list",data:=.seq #[] }).update s.heap.objs.size (Obj.mapSeq (fun _=>(#[]:Array Value)))).get? b=some o :=
  fun b o e=>(Heap.get?_update_other _ _ (Nat.ne_of_gt (Heap.lt_size e))).trans (Heap.get?_push_of_some _ e)
 have z1:((s.heap.push { cls:=.type "list",data:=.seq #[] }).update s.heap.objs.size (Obj.mapSeq (fun _=>(#[]:Array Value)))).objs.size=s.heap.objs.size + 1:=by rw [Heap.size_update,Heap.size_push]
 refine wpAny_bind (wpAny_letGo ?_)
 generalize (s.heap.push { cls:=.type "list",data:=.seq #[] }).update s.heap.objs.size (Obj.mapSeq (fun _=>(#[]:Array Value)))=h1 at g1 k1 z1 ⊢
 have m1:h1.DictAt (za2 P w) d kvs ep:=by
  obtain ⟨o,es,ho,r⟩:=m
  exact ⟨o,es,k1 _ _ ho,r⟩
 have t1:({ s with heap:=h1 }:Shared).TypeIs (.ref d) "dict":=m1.dictOf.typeIs
 unfold Builtin.List.listExtendWith
 refine wpAny_bind (wpAny_typeOf (T:="dict") t1 ?_)
 have r1:Builtin.List.listSameRef (.ref s.heap.objs.size) (.ref d)=false:=by
  show (s.heap.objs.size == d)=false
  simpa using Nat.ne_of_gt ld
 have r2:(Value.type "dict" == Value.type "list")=false:=by decide
 have r3:(Value.type "dict" == Value.type "tuple")=false:=by decide
 simp only [r1,r2,r3,Bool.or_false,Bool.false_eq_true,if_false]
 refine wpAny_bind (wpAny_pyIter_dict (knd:=za2 P w) (s:={ s with heap:=h1 }) hd m1 ?_)
 refine wpAny_bind (wpAny_holding ?_)
 have m2:(h1.push { cls:=.type "dict_keyiterator",data:=.fields #[.ref d,.int 0 0,.int kvs.length 0,.int ep 0] }).DictAt (za2 P w) d kvs ep:=by
  obtain ⟨o,es,ho,r⟩:=m1
  exact ⟨o,es,Heap.get?_push_of_some _ ho,r⟩
 have t2:=(show ({ s with heap:=h1.push { cls:=.type "dict_keyiterator",data:=.fields #[.ref d,.int 0 0,.int kvs.length 0,.int ep 0] } }:Shared).TypeIs (.ref d) "dict" from m2.dictOf.typeIs)
 unfold Builtin.List.listLengthHint
 refine wpAny_bind (wpAny_specialOf (T:="dict") (v:=.ref d) t2 PySem.F.slot_dict_len.lookup ?_)
 wp_delta
 refine wpAny_bind (wpAny_isInstance (T:="dict") (v:=.ref d) (b:=true) t2 zlg ?_)
 show wpAny _ _ (typeOf (Value.ref d) >>= _) _ _ _
 refine wpAny_bind (wpAny_typeOf (T:="dict") (v:=.ref d) t2 (wpAny_pure ?_))
 rw [if_pos (by decide)]
 refine wpAny_bind (wpAny_rule (wpAny_bind ?_))
 unfold Builtin.List.listTouch
 have nI:h1.objs.size≠s.heap.objs.size:=by rw [z1];exact Nat.succ_ne_self _
 have gL2:(h1.push { cls:=.type "dict_keyiterator",data:=.fields #[.ref d,.int 0 0,.int kvs.length 0,.int ep 0] }).get? s.heap.objs.size=some _:=Heap.get?_push_of_some _ g1
 have gI2:(h1.push { cls:=.type "dict_keyiterator",data:=.fields #[.ref d,.int 0 0,.int kvs.length 0,.int ep 0] }).get? h1.objs.size=some _:=Heap.get?_push_size _ rfl
 have k2:∀ b o,s.heap.get? b=some o->(h1.push { cls:=.type "dict_keyiterator",data:=.fields #[.ref d,.int 0 0,.int kvs.length 0,.int ep 0] }).get? b=some o:=fun b o e=>Heap.get?_push_of_some _ (k1 b o e)
 refine wpAny_bind (wpAny_updateSeq gL2 rfl ?_ (Nat.zero_le _) (by show 1<=_;rw [sizeLine_eq];decide))
 have g3:=Heap.get?_update_self (Obj.mapSeq (·.push Value.none)) gL2 rfl
 refine wpAny_updateSeq g3 rfl ?_ (by show 1<=_;rw [sizeLine_eq];decide) (Nat.zero_le _)
 have g4:=Heap.get?_update_self (Obj.mapSeq (·.pop)) g3 rfl
 have k4:∀ b ob,b≠s.heap.objs.size->(h1.push { cls:=.type "dict_keyiterator",data:=.fields #[.ref d,.int 0 0,.int kvs.length 0,.int ep 0] }).get? b=some ob->(((h1.push { cls:=.type "dict_keyiterator",data:=.fields #[.ref d,.int 0 0,.int kvs.length 0,.int ep 0] }).update s.heap.objs.size (Obj.mapSeq (·.push Value.none))).update s.heap.objs.size (Obj.mapSeq (·.pop))).get? b=some ob:=fun b ob hb e =>
  (Heap.get?_update_other _ _ (Ne.symm hb)).trans ((Heap.get?_update_other _ _ (Ne.symm hb)).trans e)
 show wpAny _ _ _ _ _ { s with heap:=(((h1.push { cls:=.type "dict_keyiterator",data:=.fields #[.ref d,.int 0 0,.int kvs.length 0,.int ep 0] }).update s.heap.objs.size (Obj.mapSeq (·.push Value.none))).update s.heap.objs.size (Obj.mapSeq (·.pop))) }
 generalize ((h1.push { cls:=.type "dict_keyiterator",data:=.fields #[.ref d,.int 0 0,.int kvs.length 0,.int ep 0] }).update s.heap.objs.size (Obj.mapSeq (·.push Value.none))).update s.heap.objs.size (Obj.mapSeq (·.pop))=h4 at g4 k4 ⊢
 have nd:d≠s.heap.objs.size:=Nat.ne_of_lt ld
 have ndI:d≠h1.objs.size:=by rw [z1];exact Nat.ne_of_lt (Nat.lt_succ_of_lt ld)
 have st4:h4.IsKeyIter h1.objs.size d 0 kvs.length ep/\h4.DictAt (za2 P w) d kvs ep:=by
  refine ⟨⟨_,k4 _ _ nI gI2,rfl,rfl⟩,?_⟩
  obtain ⟨o,es,ho,r⟩:=m2
  exact ⟨o,es,k4 _ _ nd ho,r⟩
 have nL:s.heap.objs.size ∉ [h1.objs.size,d]:=fun z=>by
  rcases List.mem_cons.mp z with e | z
  ·exact nI e.symm
  ·exact nd (List.mem_singleton.mp z).symm
 have W:∀ A':Around,A'.handled=none->Walks P w A' h1.objs.size [h1.objs.size,d] [h1.objs.size] kvs.length _ _:=fun A' hA=>Walks.dictKeys (knd:=za2 P w) hA h1.objs.size d ndI kvs ep
 refine wpAny_pure ⟨plainId_quiet PySem.F.plain_extend_loop _,codeAny_extend_loopS (W A.in1.in1 hh).toS hz _ nL _ kvs.length 0 _ _ _ rfl (Nat.zero_le _) st4 g4 (ItemsOf.nil _) fun s' acc c mm gA it'=>?_⟩
 rw [Moved.eq_with mm]
 refine ⟨rfl,q s'.heap s'.toks acc c (fun b o e=>mm.heap b o (fun hb=>?_) (k4 b o (Nat.ne_of_lt (Heap.lt_size e)) (k2 b o e))) gA it'⟩
 have lt:=Heap.lt_size e
 rcases List.mem_cons.mp hb with z | z
 ·exact absurd lt (z ▸ Nat.lt_irrefl _)
 ·rw [List.mem_singleton.mp z,z1] at lt
  exact absurd lt (Nat.not_lt.mpr (Nat.le_succ _))
end
end PU
end
section
namespace PU
def zrx:PV->Option PV
 | .lst ps=>some (.lst ps)
 | .tup ps=>some (.lst ps)
 | .dct ks _=>some (.lst (ks.map keyP))
 | _=>none
end PU
namespace PU
open PySem PySem.Spec PyProof.Rows L2 PySem.SeqAt
variable [TW]
theorem zmu {K:PySem.W.Frag} {H:Hp}:∀ ks:List Key,Reps K H (ks.map keyP) (ks.map kV)
 | []=>rfl
 | k::ks=>by
  refine ⟨kV k,ks.map kV,rfl,?_,zmu ks⟩
  cases k <;> exact rfl
omit [TW] in
theorem zw1 {P:Program} {w:World} {k:Key} {v:Value} (h:(za2 P w).is k v=true):RelV (kV k) v:=by
 rcases zbq (show znp k v=true from h) with ⟨i,t,rfl,rfl⟩ | ⟨x,t,rfl,rfl⟩
 ·exact ⟨t,rfl⟩
 ·exact ⟨t,rfl⟩
omit [TW] in
theorem zqe {P:Program} {w:World}:∀ (kvs:List (Key × Value)) (us:List Value),us.length=kvs.length->(∀ (i:Nat) (v:Value),us[i]?=some v->∃ k x,kvs[i]?=some (k,x)/\(za2 P w).is k v=true)->Vals ((kvs.map (·.1)).map kV) us
 | [],us,hl,_=>by
  cases us with
  | nil=>exact .nil
  | cons a r=>cases hl
 | kv::kvs,us,hl,h=>by
  cases us with
  | nil=>cases hl
  | cons a r =>
   obtain ⟨k,x,e,hk⟩:=h 0 a rfl
   cases e
   exact .cons (zw1 hk) (zqe kvs r (by simpa using hl) fun i v e=>h (i + 1) v e)
theorem cListA {X:Cx} (hc:X.calm=true:=by rfl) (hw:X.w=TW.w:=by rfl):zhw X (.type "list") (rn1 X.K zrx):=by
 intro pins s σ H xs us Q I r ⟨v,p,z,e1,rp,ez,k⟩
 subst e1
 cases p with
 | lst ps =>
  obtain ⟨a,xs,rfl,g,rr⟩:=RepO.lst_inv rp
  cases ez
  exact zjg pins s σ H _ us Q I r ⟨a,xs,rfl,.inl g.l,fun l hl=>k _ _ (Same.new hl) hl ⟨xs,za0,rr.same (Same.new hl)⟩⟩
 | tup ps =>
  obtain ⟨a,xs,rfl,g,rr⟩:=RepO.tup_inv rp
  cases ez
  exact zjg pins s σ H _ us Q I r ⟨a,xs,rfl,.inr g,fun l hl=>k _ _ (Same.new hl) hl ⟨xs,za0,rr.same (Same.new hl)⟩⟩
 | dct ks ps =>
  obtain ⟨a,kvs,rfl,g,e1,rr⟩:=rp
  cases ez
  obtain ⟨u,rfl,ru⟩:=vals1 r
  cases ru
  obtain ⟨hz,hS,vs,rel,o,es,ep,ho,x1,d1,rest⟩:=DkR.at hw I g
  have hl:kvs.length=vs.length:=Paired.length rel
  have hk:kvs.map (·.1)=vs.map (·.1):=by
   clear hl hz e1 rr g rest
   induction rel with
   | nil=>rfl
   | cons a b ih=>rw [List.map_cons,List.map_cons,ih,a.1]
  refine zmt (kvs:=vs) (ep:=ep) (I.ok.hd hc) hS ⟨o,es,ho,x1,d1,rest⟩ (by omega) fun h' tk acc c keep gA it'=>?_
  obtain ⟨i1,i2⟩:=it'
  have rv:Vals (ks.map kV) acc.toList:=by
   rw [← e1,hk]
   exact zqe (P:=X.prog) (w:=X.w) vs acc.toList (by simpa using i1) fun i v e=>i2 i v (by simpa using e)
  have hlk:ks.length=kvs.length:=by rw [← e1,List.length_map]
  have I2:=I.laid (a:=s.heap.objs.size) (o:=.lst (ks.map kV)) (h':=h') (t':=tk) keep (Nat.le_refl _) ⟨by rw [List.length_map];omega,acc.toList,c,rv,by rw [Array.toArray_toList];exact gA⟩
  have nf:H s.heap.objs.size=none:=I.fresh
  exact ⟨.ref _,_,I2,rfl,k _ _ (Same.new nf) nf ⟨_,za0,zmu ks⟩⟩
 | _=>cases ez
end PU
end
section
namespace PU
def zoq (fo fe fd:PSt->R PV) (g:PV->PV->PV->Option PV):PSt->R PV:=fun ρ=>fo ρ >>= fun p=>if zrp p=true then fe ρ >>= fun q=>fd ρ >>= fun y=>R.ofO (g p q y) else .no
def zpz:PV->PV->PV->Option PV
 | .dct ks ps,q,y=>(zf1 q).bind fun k=>some ((zca ks ps k).getD y)
 | _,_,_=>none
end PU
namespace PU
open PySem PySem.Spec PyProof.Rows L2 PySem.SeqAt
variable [TW]
theorem zxe {C:Cn} {o e d:Expr} {fo fe fd:PSt->R PV} {apos cpos:Pos} (ho:EO C o fo) (he:EV C e fe) (hd:EV C d fd) (hw:C.X.w=TW.w:=by rfl)
  (hbase:attributeBase o "get" C.X.env (eval o C.X.env)=eval o C.X.env:=by rfl) (hline:(apos.endLine == cpos.line)=true:=by rfl) (hs:starEach [e,d] C.X.env=[(false,eval e C.X.env),(false,eval d C.X.env)]:=by rfl) (hs2:starEach [d] C.X.env=[(false,eval d C.X.env)]:=by exact zcm rfl) :
  EV C (.Call (.Attribute o "get" apos) [e,d] [] cpos) (zoq fo fe fd zpz):=by
 intro pins s σ H Q I ⟨ρ,vw,q⟩
 refine wpAny_Call_method_late hbase (by rw [hs];rfl) hline rfl (thn (ho pins s σ H (fun v H1=>∃ p,RepO C.X.K H1 p v/\Same H H1/\RQ C H (if zrp p=true then fe ρ >>= fun q=>fd ρ >>= fun y=>R.ofO (zpz p q y) else .no) fun p=>∀ v H',Same H H'->Rep C.X.K H' p v->Q v H') I ⟨ρ,vw,q.bind.imp fun p _ k v H1 s1 r1=>⟨p,r1,s1,k⟩⟩) fun v s1 ⟨x,H1,I1,r1,p,ro,sm,k⟩=>?_)
 cases p with
 | dct ks ps =>
  have ro':=ro
  obtain ⟨a,kvs,rfl,g,e1,r⟩:=ro
  cases r1
  obtain ⟨hz,hdd,vs,rel,dd⟩:=DkR.at hw I1 g
  have k:RQ C H (fe ρ >>= fun q=>fd ρ >>= fun y=>R.ofO (zpz (.dct ks ps) q y)) fun p=>∀ v H',Same H H'->Rep C.X.K H' p v->Q v H':=k
  refine ⟨"dict","dict.get",PySem.F.plainAttrs_dict,PySem.F.slot_dict_get,PySem.F.type_dict_get,dd.typeIs,dd.mapOf.noDict,?_⟩
  have hA:=(zde he (zde hd zhc hs2) (by rw [hs,hs2])) cpos pins s1 σ H1 (fun xs H2=>∃ q y z u x,xs=[u,x]/\Rep C.X.K H2 q u/\Rep C.X.K H2 y x/\zpz (.dct ks ps) q y=some z/\Same H1 H2/\∀ v H',Same H H'->Rep C.X.K H' z v->Q v H') I1 ⟨ρ,vw.same sm,(k.bind.same sm).imp fun q _ k2 u H2 s2 r2=>⟨ρ,vw.same (sm.trans s2),(k2.bind.same (sm.trans s2)).imp fun y _ k4 x H3 s3 r3=>by
   obtain ⟨z,ez,k3⟩:=k4.ofO
   exact ⟨q,y,z,u,x,rfl,r2.same s3,r3,ez,s2.trans s3,k3⟩⟩⟩
  rw [hs] at hA ⊢
  refine Calls.callWith_builtin rfl (Calls.evalArgs_plain ?_)
  refine thn hA fun us s2 ⟨xs,H2,I2,r2,q,y,z,u,x,eu,rq,ry,ez,s2',k3⟩=>?_
  subst eu
  obtain ⟨u',x',rfl,ru,rx⟩:∃ u' x',us=[u',x']/\RelV u u'/\RelV x x':=by
   cases r2 with
   | cons a b =>
    obtain ⟨x',e,rx⟩:=vals1 b
    subst e
    exact ⟨_,x',rfl,a,rx⟩
  obtain ⟨kk,ek,ez⟩:=Option.bind_eq_some_iff.mp (show (zf1 q).bind (fun k=>some ((zca ks ps k).getD y))=some z from ez)
  cases ez
  have hy:=zfn ek rq.o
  subst hy
  obtain ⟨a2,kvs2,ea,g2,e2,rr2⟩:=ro'.same s2'
  cases ea
  obtain ⟨_,hd2,vs2,rel2,dd2⟩:=DkR.at hw I2 g2
  refine call_meetsIn PySem.F.slot_dict_get dd2.typeIs PySem.F.entry_dict_get (PySem.F.args_dict_get_3 _ _ _) (meets_dict_get_default (za2 C.X.prog C.X.w) a (znq ru) hd2 x') ⟨_,dd2.mapOf,?_⟩
  cases el:zca ks ps kk with
  | some p' =>
   obtain ⟨w,ew,rp⟩:=zh6 e2 rr2 el
   obtain ⟨w',hw',rw'⟩:=RelO.some_of (v:=w) (o:=valueAt vs2 kk) (by rw [← ew];exact rel2.val kk)
   rw [hw']
   rw [el] at k3
   exact ⟨w,H2,I2.tok _,rw',k3 w H2 (sm.trans s2') rp⟩
  | none =>
   have ew:=zk2 (k:=kk) e2 rr2 el
   have hn:valueAt vs2 kk=none:=RelO.none_of (by rw [← ew];exact rel2.val kk)
   rw [hn]
   rw [el] at k3
   exact ⟨x,H2,I2.tok _,rx,k3 x H2 (sm.trans s2') ry⟩
 | _=>exact False.elim k
end PU
end
section
namespace PU
open PySem
def gIndex:PV->PV->Option PV
 | .str x,.str y=>match Builtin.Str.occurrences x y 0 x.length 1 with
  | i::_=>some (.int i)
  | []=>none
 | _,_=>none
end PU
namespace PU
open PySem PySem.Spec PyProof.Rows L2 PySem.SeqAt
variable [TW]
end PU
end
section
namespace PU
open PySem L2
def zrj:List Key->Option (List Str)
 | []=>some []
 | .inr x::r=>(zrj r).map (x::·)
 | .inl _::_=>none
def gSortedA:PV->Option PV
 | .lst ps=>(zg2 ps).bind fun ys=>if ys.length < 64 then some (.lst ((zv1 ys).map .str)) else none
 | .dct ks _=>(zrj ks).bind fun ys=>if ys.length < 64 then some (.lst ((zv1 ys).map .str)) else none
 | _=>none
end PU
namespace PU
open PySem PySem.Spec PyProof.Rows L2 PySem.SeqAt
section
variable {P : Program} {w : World} {A : Around} {E : Value → Shared → Prop} {s : Shared} {d : Addr} {kvs : List (Key × Value)} {ep : Nat}
end
section
variable {P : Program} {w : World} {A : Around} {E : Value → Shared → Prop} {s : Shared} {d : Addr} {kvs : List (Key × Value)} {ep : Nat}
end
variable [TW]
end PU
end
section
namespace PU
open PySem PySem.Spec PyProof.Rows L2 PySem.SeqAt
variable [TW]
def extF (i:Nat) (f:PSt->R PV):PSt->R Fl:=fun ρ=>match ρ[i]? with
 | some (.own (.lst ps))=>f ρ >>= fun p=>(match p with
  | .lst qs=>if ps.length + qs.length<=16777216 then .ok (.next (ρ.set i (.own (.lst (ps++qs))))) else .no
  | _=>.no)
 | _=>.no
def rExtO (K:PySem.W.Frag):V->List V->Hp->VK->Prop:=fun x vs H Q=>∃ l b xs zs,x=.ref l/\vs=[.ref b]/\H l=some (.lst xs)/\SqO K H b zs/\xs.length + zs.length<=sizeLine/\Q .non (upd H l (.lst (xs++zs)))
section
variable {C : Cn} {e : Expr} {f : PSt → R PV} {pos apos cpos : Pos}
end
end PU
end
section
namespace PU
open PySem PySem.Spec PyProof.Rows L2 PySem.SeqAt
theorem con_str {w:World} {K:PySem.W.Frag} {h:Heap} {mg:Str->Option Value} {x:Str} {i:Str} {t:Tok} (X:K.In h) (G:h.Ns mainGlobals mg) (n1:PySem.W.nsIn K mainGlobals x=some (some (.str i t))):@Con ⟨w⟩ K mg x (.str i):=by
 letI:TW:=⟨w⟩
 exact ⟨.str i,.str i t,PySem.W.mg_of X G n1,⟨t,rfl⟩,fun H=>rfl⟩
end PU
end
section
namespace PU
open PySem PySem.Spec PyProof.Rows L2 PySem.SeqAt
variable [TW]
theorem zo2 {C:Cn} {a b c:Expr} {fa fb fc:PSt->R PV} {pos:Pos} {op op':CmpOp} {g g':PV->PV->Option PV} (ho:OpR C.X (compareOp op) (rP C.X.K g)) (ho':OpR C.X (compareOp op') (rP C.X.K g')) (hg:isBl g) (hg':isBl g') (ha:EO C a fa) (hb:EO C b fb) (hc:EO C c fc)
  (hm:lastMarks [op,op'] [b,c]=false:=by with_unfolding_all rfl):ET C (.Compare a [op,op'] [b,c] pos) (truF (chain2 fa fb fc g g')):=by
 intro pins s σ H Q I ⟨ρ,vw,q⟩
 refine ztq ho ho' ha hb hc hm pins s σ H Q I ?_
 have q1:=q.bind
 refine ⟨ρ,vw,q1.bind.imp fun p _ k v H1 s1 r1=>⟨ρ,vw.same s1,(k.bind.same s1).imp fun p2 _ k2 u H2 s2 r2=>?_⟩⟩
 obtain ⟨z,ez,k3⟩:=k2.bind.ofO
 obtain ⟨bb,rfl⟩:=hg _ _ _ ez
 refine ⟨p,p2,.bl bb,r1.same s2,r2,ez,fun w H3 s3 r3=>?_⟩
 cases (show w=.bl bb from r3)
 refine ⟨bb,rfl,?_⟩
 have s13:=(s1.trans s2).trans s3
 cases bb with
 | true =>
  refine iteT ⟨ρ,vw.same s13,?_⟩
  refine (RQ.same (RQ.bind k3) s13).imp fun p3 _ k4 w4 H4 s4 r4=>?_
  obtain ⟨z2,ez2,k5⟩:=k4.ofO
  obtain ⟨b2,rfl⟩:=hg' _ _ _ ez2
  refine ⟨p2,p3,.bl b2,(r2.same s3).same s4,r4,ez2,fun w5 H5 s5 r5=>?_⟩
  cases (show w5=.bl b2 from r5)
  obtain ⟨b3,eb,k6⟩:=k5.ofO
  cases eb
  exact ⟨b2,rfl,k6 H5 ((s13.trans s4).trans s5)⟩
 | false =>
  have k3:RQ C H (R.ofO (truB (.bl false))) (fun b=>∀ H',Same H H'->Q b H'):=k3
  obtain ⟨b3,eb,k6⟩:=RQ.ofO k3
  cases eb
  exact iteF ⟨false,rfl,k6 H3 s13⟩
end PU
end
section
namespace PU
open PySem PySem.Spec PyProof.Rows L2 PySem.SeqAt
def gSlA:PV->Option Int->Option Int->Option PV
 | .str x,lo,hi=>if x.length<=16777216 then some (.str (PySem.Txt.slice x lo hi)) else none
 | .lst ps,lo,hi=>gSl (.lst ps) lo hi
 | .tup ps,lo,hi=>gSl (.tup ps) lo hi
 | _,_,_=>none
def ze9 (f:PSt->R PV) (l h:PSt->R (Option Int)):PSt->R PV:=fun ρ=>f ρ >>= fun p=>l ρ >>= fun lo=>h ρ >>= fun hi=>R.ofO (gSlA p lo hi)
variable [TW]
def rSlA (K:PySem.W.Frag):V->Option Int->Option Int->Hp->VK->Prop:=fun v lo hi H Q=>∃ p z,RepO K H p v/\gSlA p lo hi=some z/\∀ w H',Same H H'->Rep K H' z w->Q w H'
theorem slA {X:Cx}:SlR X (rSlA X.K):=by
 intro pins s σ H x v vl vu lo hi sl Q I rx hs pl pu ⟨p,z,rp,ez,k⟩
 cases p with
 | lst ps=>exact slP pins s σ H x v vl vu lo hi sl Q I rx hs pl pu ⟨_,z,rp,ez,k⟩
 | tup ps=>exact slP pins s σ H x v vl vu lo hi sl Q I rx hs pl pu ⟨_,z,rp,ez,k⟩
 | str y =>
  simp only [gSlA] at ez
  split at ez
  ·rename_i hz
   cases ez
   cases (show x=.str y from rp)
   obtain ⟨t,rfl⟩:=rx
   have fin:∀ (lo hi:Option Int) t' kk,(∀ w H',Same H H'->Rep X.K H' (.str (PySem.Txt.slice y lo hi)) w->Q w H')->EP X pins σ Q (.str (PySem.Txt.slice y lo hi) t') { s with toks:=kk }:=fun lo hi t' kk k=>⟨.str _,H,I.tok _,⟨t',rfl⟩,k _ H (Same.refl H) rfl⟩
   obtain ⟨o,e1,e2,e3⟩:=hs
   have hz:y.length<=sizeLine:=by rw [sizeLine_eq];exact hz
   refine ⟨"str",_,PySem.F.slot_str_getitem.lookup,typeIs_str _ _ _,?_⟩
   cases pl with
   | none =>
    cases pu with
    | none=>exact wpAny_getItem_str_slice (l:=none) (u:=none) (st:=none) ⟨o,e1,e2,e3⟩ rfl (post_val_or_str ⟨Nat.le_trans (PySem.Txt.slice_le y _ _) hz,fun t' kk=>fin none none t' kk k⟩)
    | int j uj=>exact wpAny_getItem_str_slice (l:=none) (u:=some (j,uj)) (st:=none) ⟨o,e1,e2,e3⟩ rfl (post_val_or_str ⟨Nat.le_trans (PySem.Txt.slice_le y _ _) hz,fun t' kk=>fin none (some j) t' kk k⟩)
   | int i ui =>
    cases pu with
    | none=>exact wpAny_getItem_str_slice (l:=some (i,ui)) (u:=none) (st:=none) ⟨o,e1,e2,e3⟩ rfl (post_val_or_str ⟨Nat.le_trans (PySem.Txt.slice_le y _ _) hz,fun t' kk=>fin (some i) none t' kk k⟩)
    | int j uj=>exact wpAny_getItem_str_slice (l:=some (i,ui)) (u:=some (j,uj)) (st:=none) ⟨o,e1,e2,e3⟩ rfl (post_val_or_str ⟨Nat.le_trans (PySem.Txt.slice_le y _ _) hz,fun t' kk=>fin (some i) (some j) t' kk k⟩)
  ·cases ez
 | _=>cases ez
theorem zcl {C:Cn} {e:Expr} {f:PSt->R PV} {lo hi:Option Expr} {l h:PSt->R (Option Int)} {pos p2:Pos} (ha:EO C e f) (hl:EOI C lo l) (hh:EOI C hi h):EV C (.Subscript e (.Slice lo hi none p2) pos) (ze9 f l h):=by
 intro pins s σ H Q I ⟨ρ,vw,q⟩
 refine zoi slA ha hl hh pins s σ H Q I ⟨ρ,vw,q.bind.imp fun p _ k v H1 s1 r1=>⟨ρ,vw.same s1,(k.bind.same s1).imp fun o1 _ k2 H2 s2=>⟨ρ,(vw.same s1).same s2,(k2.bind.same (s1.trans s2)).imp fun o2 _ k3 H3 s3=>?_⟩⟩⟩
 obtain ⟨z,ez,k4⟩:=k3.ofO
 exact ⟨p,z,(r1.same s2).same s3,ez,fun w H4 s4 r4=>k4 w H4 (((s1.trans s2).trans s3).trans s4) r4⟩
end PU
end
section
namespace PU
open PySem PySem.Spec PyProof.Rows L2 PySem.SeqAt
theorem znk:mroOf (.type "reversed")=pure [.type "reversed",.type "object"]:=by rw [mroOf_type];kernel_rfl
theorem zkn:typeLookup (.type "reversed") "__new__"=pure (some (.builtin "reversed.__new__")):=by rw [typeLookup_type,builtinLookup_eq_fast];kernel_rfl
theorem zt4:Bind.madeBy (.type "reversed")=pure (some "reversed.__new__"):=madeBy_type znk zkn (by decide +kernel)
theorem zma (a:Value):checkTypeCall "reversed" ⟨[a],[]⟩=pure ():=by kernel_rfl
theorem znj (a:Value):checkBuiltinCall "reversed.__new__" ⟨[.type "reversed",a],[]⟩=pure ():=by kernel_rfl
theorem zl2:entryFor table "reversed.__new__"=some Builtin.«reversed.__new__»:=entryFor_of_tree (by kernel_rfl)
theorem zln:plainId "reversed.__new__"=true:=by decide +kernel
theorem zqn:isSubtype (.type "reversed") (.type "reversed")=pure true:=by rw [isSubtype_type];kernel_rfl
section
variable {prog : Program} {w : World} {A : Around} {E : Value → Shared → Prop} {s : Shared}
def IsRev (h:Heap) (it l:Addr) (i:Int):Prop:=∃ o,h.get? it=some o/\o.cls=.type "list_reverseiterator"/\o.data=.fields #[.ref l,rawInt (i - 1)]
end
def Itv (K:PySem.W.Frag) (a:Addr) (n:Nat):It :=
 ⟨fun i H=>∃ xs x,SqL K H a xs/\xs.length=n/\i < n/\xs[n - 1 - i]?=some x,fun i H x H'=>H'=H/\∀ xs,SqL K H a xs->xs[n - 1 - i]?=some x,fun i H=>∃ xs,SqL K H a xs/\xs.length=n/\i=n⟩
def revL (f:PSt->R PV):PSt->R (List PV):=fun ρ=>f ρ >>= fun p=>(match p with
 | .lst ps=>.ok ps.reverse
 | _=>.no)
variable [TW]
end PU
end
section
namespace PU
open PySem PySem.Spec PyProof.Rows L2 PySem.SeqAt PySem.Calls PyProof.V
def gNeA:PV->PV->Option PV
 | .dct ks ps,.dct ls qs=>if pdeps ps<=60 then (peqN 3 (.dct ks ps) (.dct ls qs)).map fun b=>.bl (!b) else none
 | p,q=>gNe p q
variable [TW]
section
variable {P : Program} {w : World} {κ : Type} [DecidableEq κ] {kd : KeyKind P w κ} {A : Around} {E : Value → Shared → Prop} {s : Shared}
end
end PU
end
section
namespace PU
open PySem PySem.Spec PyProof.Rows L2 PySem.SeqAt
def zipP (ps qs:List PV):List (List PV):=ps.zipWith (fun a b=>[a,b]) qs
def zht:PV->Bool
 | .non | .bl _ | .int _ | .str _=>true
 | _=>false
def zipF (f g:PSt->R PV):PSt->R (List PV):=fun ρ=>f ρ >>= fun p=>g ρ >>= fun q=>(match p,q with
 | .lst ps,.lst qs=>if (ps.all zht || qs.all zht)=true then .ok ((zipP ps qs).map .tup) else .no
 | _,_=>.no)
variable [TW]
section
variable {P : Program} {w : World} {K : PySem.W.Frag} {elts : List Expr} {kk : Nat} {tp : Pos}
def zipV (xs ys:List V):List (List V):=xs.zipWith (fun a b=>[a,b]) ys
theorem zoz {x:V} {u:Value} (r:RelV x u) (h:∀ b,x≠.ref b):¬ ∃ b,u=Value.ref b:=fun ⟨b,e⟩=>by
 subst e
 cases x with
 | ref a=>exact h a rfl
 | non=>cases r
 | bl b=>cases r
 | ty n=>cases r
 | int i=>obtain ⟨t,r⟩:=r;cases r
 | str i=>obtain ⟨t,r⟩:=r;cases r
 | byt i=>obtain ⟨t,r⟩:=r;cases r
 | flt i=>obtain ⟨t,r⟩:=r;cases r
theorem zuf {K:PySem.W.Frag} {H:Hp} {p:PV} {x:V} (hf:zht p=true) (r:Rep K H p x):∀ b,x≠.ref b:=fun b e=>by
 subst e
 cases p with
 | non=>cases (show V.ref b=_ from r)
 | bl _=>cases (show V.ref b=_ from r)
 | int _=>cases (show V.ref b=_ from r)
 | str _=>cases (show V.ref b=_ from r)
 | _=>cases hf
theorem zmx {K:PySem.W.Frag} {H:Hp} {ps:List PV} {xs:List V} (hf:ps.all zht=true) (r:Reps K H ps xs):∀ x∈xs,∀ b,x≠.ref b:=fun x hx=>by
 obtain ⟨i,hi⟩:=List.mem_iff_getElem?.mp hx
 have hl:=r.length
 have hlt:i < ps.length:=by rw [hl];exact (List.getElem?_eq_some_iff.mp hi).1
 have e1:ps[i]?=some ps[i]:=by simp [hlt]
 obtain ⟨y,ey,ry⟩:=r.get e1
 rw [hi] at ey
 cases ey
 exact zuf (List.all_eq_true.mp hf _ (List.getElem_mem hlt)) ry
theorem zta (z TI TO i1 i2 a b:Addr) (D:ZipApart z TI TO i1 i2 a b) (xs ys:List V) (hfl:(∀ x∈xs,∀ b,x≠V.ref b)\/(∀ y∈ys,∀ b,y≠V.ref b)) :
  Turn P w K (.Tuple elts kk tp) (zl6 (min xs.length ys.length) (fun H=>SqL K H a xs/\SqL K H b ys) (zipV xs ys)) [z,TI,TO,i1,i2] z
   (fun i h=>IsZip h z TI TO .none/\IsPair h TI (.ref i1) (.ref i2)/\(∃ a b,IsPair h TO a b)/\h.IsListIter i1 a i/\h.IsListIter i2 b i):=by
 refine zqi (wr:=[z,TO,i1,i2]) (n:=min xs.length ys.length) (fun X pins σ H s i hP hw hK hc I st hg=>?_) (by simp) (fun b hb=>by simp at hb ⊢;rcases hb with rfl | rfl | rfl | rfl <;> simp) (fun i h st b hb=>?_) (fun i h h' st k=>?_) (fun i H h=>h.1) (fun i H h=>h.1) fun A i s Q E st h=>wpAny_pyIter_zip st.1 h
 ·subst hP hw hK
  obtain ⟨hq1,hq2⟩:SqL X.K H a xs/\SqL X.K H b ys:=by rcases hg with h | h <;> exact h.2
  obtain ⟨its1,rv1,pl1,hz1⟩:=I.list hq1
  obtain ⟨its2,rv2,pl2,hz2⟩:=I.list hq2
  have hl1:=rv1.length
  have hl2:=rv2.length
  have W:=WalksT.zip2 (prog:=X.prog) (w:=X.w) (A:=X.A) (I.ok.hd hc) z TI TO i1 i2 a b D its1.toArray its2.toArray
  rw [show min its1.toArray.size its2.toArray.size=min xs.length ys.length by simp [hl1,hl2]] at W
  refine ⟨_,_,_,_,W,⟨st.1,st.2.1,st.2.2.1,st.2.2.2.1,st.2.2.2.2,pl1.isList,pl2.isList⟩,fun j h st=>⟨st.1,st.2.1,st.2.2.1,st.2.2.2.1,st.2.2.2.2.1⟩,fun vals hv=>?_⟩
  obtain ⟨x,y,hx,hy,rfl⟩:=hv
  have hx:its1[i]?=some x:=by simpa using hx
  have hy:its2[i]?=some y:=by simpa using hy
  have h1:i < xs.length:=by rw [hl1];exact (List.getElem?_eq_some_iff.mp hx).1
  have h2:i < ys.length:=by rw [hl2];exact (List.getElem?_eq_some_iff.mp hy).1
  have e1:xs[i]?=some xs[i]:=by simp [h1]
  have e2:ys[i]?=some ys[i]:=by simp [h2]
  obtain ⟨u,eu,ru⟩:=rv1.get e1
  rw [hx] at eu
  cases eu
  obtain ⟨v,ev,rv⟩:=rv2.get e2
  rw [hy] at ev
  cases ev
  refine ⟨[xs[i],ys[i]],.cons ru (.cons rv .nil),by show 2<=sizeLine;decide,fun z=>?_,fun T hT=>⟨T,_,rfl,hT,?_,rfl⟩⟩
  ·rcases hfl with g | g
   ·exact zoz ru (g _ (List.getElem_mem h1)) (z _ List.mem_cons_self)
   ·exact zoz rv (g _ (List.getElem_mem h2)) (z _ (List.mem_cons_of_mem _ List.mem_cons_self))
  unfold zipV
  rw [List.getElem?_zipWith,e1,e2]
 ·obtain ⟨hz,hTI,⟨u,v,hTO⟩,⟨o1,ho1,_,hd1⟩,o2,ho2,_,hd2⟩:=st
  simp only [List.mem_cons,List.not_mem_nil,or_false] at hb
  rcases hb with rfl | rfl | rfl | rfl | rfl
  ·exact ⟨_,hz,fun v z=>by cases (show Data.fields _=Data.cell v from z)⟩
  ·exact ⟨_,hTI,fun v z=>by cases (show Data.seq _ _=Data.cell v from z)⟩
  ·exact ⟨_,hTO,fun v z=>by cases (show Data.seq _ _=Data.cell v from z)⟩
  ·exact ⟨o1,ho1,fun v z=>by rw [hd1] at z;cases z⟩
  ·exact ⟨o2,ho2,fun v z=>by rw [hd2] at z;cases z⟩
 ·obtain ⟨hz,hTI,⟨u,v,hTO⟩,h1,h2⟩:=st
  exact ⟨k z (by simp) _ hz,k TI (by simp) _ hTI,⟨u,v,k TO (by simp) _ hTO⟩,h1.at fun o x=>k i1 (by simp) o x,h2.at fun o x=>k i2 (by simp) o x⟩
end
theorem zs3 {K:PySem.W.Frag} {H:Hp} {ps qs:List PV} {xs ys:List V} (r1:Reps K H ps xs) (r2:Reps K H qs ys):∀ (i:Nat) (zs:List PV) (ws:List V),(zipP ps qs)[i]?=some zs->(zipV xs ys)[i]?=some ws->Reps K H zs ws:=fun i zs ws h1 h2=>by
 unfold zipP at h1
 unfold zipV at h2
 rw [List.getElem?_zipWith] at h1 h2
 cases e:ps[i]? with
 | none=>rw [e] at h1;cases h1
 | some p =>
  cases e2:qs[i]? with
  | none=>rw [e,e2] at h1;cases h1
  | some q =>
   rw [e,e2] at h1
   obtain ⟨x,ex,rp⟩:=r1.get e
   obtain ⟨y,ey,rq⟩:=r2.get e2
   rw [ex,ey] at h2
   cases h1
   cases h2
   exact ⟨_,_,rfl,rp,_,_,rfl,rq,rfl⟩
theorem ei_zip {C:Cn} {e e2:Expr} {elts:List Expr} {kk:Nat} {tp p pos:Pos} {f g:PSt->R PV} (hg:Gl C.X "zip") (hm:C.X.mg "zip"=none) (he:EV C e f) (he2:EV C e2 g)
  (hs:starEach [e,e2] C.X.env=[(false,eval e C.X.env),(false,eval e2 C.X.env)]:=by exact zn9 rfl rfl) (hs2:starEach [e2] C.X.env=[(false,eval e2 C.X.env)]:=by exact zcm rfl) :
  EI C (.Tuple elts kk tp) (.Call (.Name "zip" p) [e,e2] [] pos) (zipF f g):=by
 intro pins s σ H Rk I ⟨ρ,vw,q⟩
 refine Call_ (zjf I hg hm PyProof.Rows.boot_zip (PyProof.Rows.callWith_type1 (thn ((zde he (zde he2 zhc hs2) (by rw [hs,hs2])) pos pins s σ H (fun vs H'=>∃ v u ps qs,vs=[v,u]/\Same H H'/\Rep C.X.K H' (.lst ps) v/\Rep C.X.K H' (.lst qs) u/\(ps.all zht || qs.all zht)=true/\∀ J H2,Same H' H2->ItP C.X.K J H2 ((zipP ps qs).map .tup)->Rk J H2) I ⟨ρ,vw,q.bind.imp fun p _ k v H1 s1 r1=>⟨ρ,vw.same s1,(k.bind.same s1).imp fun p2 _ k2 u H2 s2 r2=>?_⟩⟩)
  fun us s1 ⟨vs,H1,I1,r1,v,u,ps,qs,ev,sm,rp,rq,hfl,k⟩=>?_) (by rw [hs,hs2]) (by rw [hs2];rfl)))
 ·cases p with
  | lst ps =>
   cases p2 with
   | lst qs =>
    by_cases hfl:(ps.all zht || qs.all zht)=true
    ·simp only [if_pos hfl] at k2
     exact ⟨v,u,ps,qs,rfl,s1.trans s2,r1.same s2,r2,hfl,fun J H3 s3 it=>k2 J H3 ((s1.trans s2).trans s3) it⟩
    ·simp only [if_neg hfl] at k2
     exact False.elim k2
   | _=>exact False.elim k2
  | _=>exact False.elim k2
 ·subst ev
  obtain ⟨w1,w2,rfl,rw1,rw2⟩:=vals2 r1
  obtain ⟨a,xs,rfl,g1,rr1⟩:=rp
  obtain ⟨b,ys,rfl,g2,rr2⟩:=rq
  cases rw1
  cases rw2
  obtain ⟨its1,rv1,pl1,hz1⟩:=I1.list g1.l.l
  obtain ⟨its2,rv2,pl2,hz2⟩:=I1.list g2.l.l
  have ha:a < s1.heap.objs.size:=by obtain ⟨o,n,ho,_⟩:=pl1;exact Heap.lt_size ho
  have hb:b < s1.heap.objs.size:=by obtain ⟨o,n,ho,_⟩:=pl2;exact Heap.lt_size ho
  have hfl2:(∀ x∈xs,∀ b,x≠V.ref b)\/(∀ y∈ys,∀ b,y≠V.ref b):=by
   cases hA:ps.all zht with
   | true=>exact .inl (zmx hA rr1)
   | false =>
    rw [hA,Bool.false_or] at hfl
    exact .inr (zmx hfl rr2)
  refine call_zip_2 pl1.isList pl2.isList fun h' z1 z2 z3 z4 z5 hsz hk=>wpAny_pyIter_zip z1 ?_
  refine ⟨_,[s1.heap.objs.size + 4,s1.heap.objs.size + 2,s1.heap.objs.size + 3,s1.heap.objs.size,s1.heap.objs.size + 1],_,_,H1,rfl,I1.kept (t':=s1.toks) hk,zta (s1.heap.objs.size + 4) (s1.heap.objs.size + 2) (s1.heap.objs.size + 3) s1.heap.objs.size (s1.heap.objs.size + 1) a b (zipApart_new ha hb) xs ys hfl2,⟨z1,z2,⟨_,_,z3⟩,z4,z5⟩,fun c hc=>?_,k _ H1 (Same.refl H1) ?_⟩
  ·have hc:s1.heap.objs.size<=c:=by
    simp only [List.mem_cons,List.not_mem_nil,or_false] at hc
    rcases hc with rfl | rfl | rfl | rfl | rfl <;> omega
   exact I1.fpOk hc (I1.hok.fresh hc)
  ·refine znr ?_ (fun H2 k2=>⟨(k2.sqF g1).l.l,(k2.sqF g2).l.l⟩) (zs3 rr1 rr2)
   unfold zipP
   rw [List.length_zipWith,rr1.length,rr2.length]
end PU
end
section
namespace PU
open PySem PySem.Spec PyProof.Rows L2 PySem.SeqAt
def gDictC:PV->Option PV
 | .dct ks ps=>some (.dct ks ps)
 | _=>none
section
variable [TW]
end
theorem zms:typeLookup (.type "tuple") "__reversed__"=pure none:=by rw [typeLookup_type,builtinLookup_eq_fast];kernel_rfl
theorem zkl:isSubtype (.type "tuple") (.type "dict")=pure false:=by rw [isSubtype_type];kernel_rfl
theorem zlh:Slot "reversed" "__init__" "object.__init__" :=
 .of (owner:="object") (n:="__init__") (by rw [typeLookup_type,builtinLookup_eq_fast];kernel_rfl) (by decide +kernel) (by decide +kernel) (by decide +kernel)
  (by first | exact .inl (by decide +kernel) | exact .inr (by decide +kernel)) (by rw [isSubtype_type];kernel_rfl)
theorem zi5:TypeCalled "reversed" "reversed.__new__" "object.__init__" :=
 ⟨by decide +kernel,by decide +kernel,⟨_,_,znk⟩,zt4,by decide +kernel,zqn,zlh⟩
theorem zdb:Slot "reversed" "__next__" "reversed.__next__" :=
 .of (owner:="reversed") (n:="__next__") (by rw [typeLookup_type,builtinLookup_eq_fast];kernel_rfl) (by decide +kernel) (by decide +kernel) (by decide +kernel)
  (by first | exact .inl (by decide +kernel) | exact .inr (by decide +kernel)) (by rw [isSubtype_type];kernel_rfl)
theorem zhi:entryFor table "reversed.__next__"=some Builtin.«reversed.__next__»:=entryFor_of_tree (by kernel_rfl)
theorem zh0:Slot "reversed" "__iter__" "reversed.__iter__" :=
 .of (owner:="reversed") (n:="__iter__") (by rw [typeLookup_type,builtinLookup_eq_fast];kernel_rfl) (by decide +kernel) (by decide +kernel) (by decide +kernel)
  (by first | exact .inl (by decide +kernel) | exact .inr (by decide +kernel)) (by rw [isSubtype_type];kernel_rfl)
theorem zkp:entryFor table "reversed.__iter__"=some Builtin.«dict_keyiterator.__iter__» :=
 entryFor_alias (id':="dict_keyiterator.__iter__") (by kernel_rfl) (by first | rfl | decide +kernel | (unfold String.splitOn;simp +decide [String.splitOnAux])) (by decide +kernel) (by kernel_rfl)
theorem zml:Manifest.owners.lookup (String.ofList "reversed".toList.reverse.reverse)=some Manifest.sig_reversed:=by kernel_rfl
theorem zim (a:Value):argsOk "reversed.__next__" ⟨[a],[]⟩:=by
 unfold argsOk;rw [signature?_of (id:="reversed.__next__") (n:="__next__".toList.reverse) (o:="reversed".toList.reverse) (by kernel_rfl) zml];kernel_rfl
theorem zl5 (a:Value):argsOk "reversed.__iter__" ⟨[a],[]⟩:=by
 unfold argsOk;rw [signature?_of (id:="reversed.__iter__") (n:="__iter__".toList.reverse) (o:="reversed".toList.reverse) (by kernel_rfl) zml];kernel_rfl
section
variable {prog : Program} {w : World} {A : Around} {E : Value → Shared → Prop} {s : Shared}
def zn1 (h:Heap) (it l:Addr) (i:Int):Prop:=∃ o,h.get? it=some o/\o.cls=.type "reversed"/\o.data=.fields #[.ref l,rawInt (i - 1)]
theorem zn1.typeIs {it l:Addr} {i:Int} (h:zn1 s.heap it l i):s.TypeIs (.ref it) "reversed":=by
 obtain ⟨o,e,c,_⟩:=h
 exact ⟨o,e,c⟩
theorem zm5 {l:Addr} {items:Array Value} {Q₁:Value->Shared->Prop} (hl:s.heap.IsTuple l items) (hz:items.size<=sizeLine)
  (h:∀ tk,Q₁ (.ref s.heap.objs.size) { s with heap:=s.heap.push { cls:=.type "reversed",data:=.fields #[.ref l,rawInt ((items.size:Int) - 1)] },toks:=tk }) :
  codeAny (model prog w) A (.call (.builtin "reversed.__new__") ⟨[.type "reversed",.ref l],[]⟩) (wants Q₁ E) s:=by
 refine codeAny_call_builtin zln zl2 (wpAny_of_eq (znj _) ?_)
 have hsub:=zqn
 have hmro:=znk
 have hT:s.TypeIs (.ref l) "tuple":=by obtain ⟨o,e,c,_⟩:=hl;exact ⟨o,e,c⟩
 have h1:=zms
 have h2:=zkl
 have h3:=PyProof.Rows.slot_tuple_getitem.lookup
 unfold Builtin.«reversed.__new__»
 have hf:(items.size:Int) < 2 ^ 63:=by have:=line63;omega
 obtain ⟨hp,g,d,tk,os⟩:=s
 have hl':IsTup (Shared.heap ⟨hp,g,d,tk,os⟩) l items:=hl
 wp_walk using PyProof.Rows.len_tuple hl' hf
 exact h _
theorem zuo {l:Addr} {items:Array Value} {Q:Value->Shared->Prop} (hl:s.heap.IsTuple l items) (hz:items.size<=sizeLine)
  (h:∀ tk,Q (.ref s.heap.objs.size) { s with heap:=s.heap.push { cls:=.type "reversed",data:=.fields #[.ref l,rawInt ((items.size:Int) - 1)] },toks:=tk }) :
  wpAny (model prog w) A (call (.type "reversed") [.ref l]) Q E s:=by
 refine callType_codes (Q₁:=fun obj s₁=>s₁.TypeIs obj "reversed"/\Q obj s₁) zi5 (zma _) PySem.F.entry_object_init (zm5 hl hz fun tk=>⟨⟨_,Heap.get?_push_size _ rfl,rfl⟩,h tk⟩) fun obj s₁ hq=>⟨hq.1,PySem.F.args_object_init_2 obj _,?_⟩
 exact object_init_meets zi5.init.lookup zi5.made (by decide) prog w A.in1 _ s₁ ⟨hq.1,rfl,hq.2⟩
theorem zlt {it l:Addr} {j:Nat} {items:Array Value} {x:Value} {Q:Option Value->Shared->Prop} (hit:zn1 s.heap it l ((j:Int) + 1)) (hl:s.heap.IsTuple l items) (hne:l≠it) (hz:items.size<=sizeLine) (hx:items[j]?=some x)
  (hQ:∀ h' tk,zn1 h' it l (j:Int)->Heap.SameBut it s.heap h'->Q (some x) { s with heap:=h',toks:=tk }):wpAny (model prog w) A (pyNext (.ref it)) Q E s:=by
 obtain ⟨o,ho,hc,hd⟩:=id hit
 have hT:s.TypeIs (.ref l) "tuple":=by obtain ⟨o,e,c,_⟩:=hl;exact ⟨o,e,c⟩
 have hj:j < items.size:=(Array.getElem?_eq_some_iff.mp hx).1
 unfold pyNext
 refine wpAny_bind (wpAny_attempt (wpAny_callSpecial?_slot (name:=Str.ofString "__next__") hit.typeIs zdb
  (wpAny_call_entry zdb hit.typeIs zhi ?_ (zim _))))
 show wpAny _ _ (field (.ref it) 0 >>= _) _ _ s
 have e1:(j:Int) + 1 - 1=j:=by omega
 rw [e1] at hd
 refine wpAny_bind (wpAny_field ho hd (x:=.ref l) rfl ?_)
 show wpAny _ _ (field (.ref it) 1 >>= _) _ _ s
 refine wpAny_bind (wpAny_field ho hd (x:=rawInt (j:Int)) rfl ?_)
 show wpAny _ _ (if ((j:Int) < 0) then _ else _) _ _ s
 rw [if_neg (by omega)]
 refine wpAny_bind (wpAny_specialOf hT PyProof.Rows.slot_tuple_getitem.lookup ?_)
 dsimp only
 rw [if_neg (by simp)]
 refine wpAny_bind (wpAny_mkInt ?_)
 have hseq:seqIndex? (j:Int) items.size=some j:=by
  unfold seqIndex?
  simp
  omega
 have hl63:=line63
 refine wpAny_bind (wpAny_attempt (PyProof.Rows.getItem_tuple (s:={ s with toks:=s.toks + 1 }) hl (by omega) (by omega) hseq hx ?_))
 dsimp only
 refine wpAny_bind (wpAny_field (s:={ s with toks:=s.toks + 1 }) ho hd (x:=rawInt (j:Int)) rfl ?_)
 show wpAny _ _ (setField (.ref it) 1 (rawInt ((j:Int) - 1)) >>= _) _ _ _
 refine wpAny_bind (wpAny_setField (s:={ s with toks:=s.toks + 1 }) ho hd (by simp) (wpAny_pure ⟨x,rfl,wpAny_pure (hQ _ _ ?_ (Heap.SameBut.update ..))⟩))
 exact ⟨_,Heap.get?_update_self _ ho (Obj.isFreed_of_fields (Obj.data_mapFields hd _)),(Obj.cls_mapFields ..).trans hc,by
  rw [Obj.data_mapFields hd];simp [rawInt]⟩
theorem zmp {it l:Addr} {Q:Option Value->Shared->Prop} (hh:A.handled=none) (hit:zn1 s.heap it l 0)
  (hQ:∀ h' tk,Heap.ExtBut it s.heap h'->Q none { s with heap:=h',toks:=tk }):wpAny (model prog w) A (pyNext (.ref it)) Q E s:=by
 obtain ⟨o,ho,hc,hd⟩:=id hit
 unfold pyNext
 refine wpAny_bind (wpAny_attempt (wpAny_callSpecial?_slot (name:=Str.ofString "__next__") hit.typeIs zdb
  (wpAny_call_entry zdb hit.typeIs zhi ?_ (zim _))))
 show wpAny _ _ (field (.ref it) 0 >>= _) _ _ s
 refine wpAny_bind (wpAny_field ho hd (x:=.ref l) rfl ?_)
 show wpAny _ _ (field (.ref it) 1 >>= _) _ _ s
 refine wpAny_bind (wpAny_field ho hd (x:=rawInt (0 - 1:Int)) rfl ?_)
 show wpAny _ _ (if ((0 - 1:Int) < 0) then _ else _) _ _ s
 rw [if_pos (by omega)]
 refine wpAny_bind (wpAny_rule (wpAny_bind ?_))
 show wpAny _ _ (setField (.ref it) 1 (rawInt (-1)) >>= fun _=>setField (.ref it) 0 .none) _ _ _
 refine wpAny_bind (wpAny_setField ho hd (by simp) ?_)
 have ho1:=Heap.get?_update_self (Obj.mapFields fun x=>x.setIfInBounds 1 (rawInt (-1))) ho (Obj.isFreed_of_fields (Obj.data_mapFields hd _))
 have hd1:=Obj.data_mapFields hd (fun x:Array Value=>x.setIfInBounds 1 (rawInt (-1)))
 refine wpAny_setField ho1 hd1 (by simp) (wpAny_bind ?_)
 unfold Builtin.SmallTypes.stopIteration
 refine wpAny_bind ?_
 simp only [newExc,newTuple]
 refine wpAny_bind (wpAny_newObj_type ?_ (by size_fits))
 refine wpAny_bind (m:=firstArgMember _ _) (wpAny_of_eq (a:=Value.none) (by first | rfl | (simp only [firstArgMember];rfl)) ?_)
 refine wpAny_newObj_type ?_ (by size_fits)
 simp only [raiseNew]
 refine wpAny_bind (wpAny_handled ?_)
 first | rw [show A.in1.handled=none from hh] | rw [hh]
 refine wpAny_bind (wpAny_pure (wpAny_throw ?_))
 refine wpAny_bind (wpAny_isInstance (T:="StopIteration") (b:=true) ⟨_,Heap.get?_push_size _ rfl,rfl⟩ isSubtype_stop ?_)
 refine wpAny_pure (hQ _ s.toks fun b ob hb e=>?_)
 refine Heap.get?_push_of_some _ (Heap.get?_push_of_some _ ?_)
 rw [Heap.get?_update_other _ _ (Ne.symm hb),Heap.get?_update_other _ _ (Ne.symm hb)]
 exact e
theorem zow {it l:Addr} {i:Int} {Q:Value->Shared->Prop} (hit:zn1 s.heap it l i) (h:Q (.ref it) s):wpAny (model prog w) A (pyIter (.ref it)) Q E s:=by
 refine wpAny_pyIter_slot hit.typeIs zh0 (wpAny_call_entry zh0 hit.typeIs zkp ?_ (zl5 _))
 show wpAny _ _ (PySem.ret (.ref it)) _ _ s
 exact wpAny_pure ⟨_,rfl,"reversed",_,hit.typeIs,zdb.lookup,h⟩
end
def Itw (K:PySem.W.Frag) (a:Addr) (n:Nat):It :=
 ⟨fun i H=>∃ xs x,SqT K H a xs/\xs.length=n/\i < n/\xs[n - 1 - i]?=some x,fun i H x H'=>H'=H/\∀ xs,SqT K H a xs->xs[n - 1 - i]?=some x,fun i H=>∃ xs,SqT K H a xs/\xs.length=n/\i=n⟩
theorem ztb {P:Program} {w:World} {K:PySem.W.Frag} {tg:Expr} (a it:Addr) (n:Nat) (hne:a≠it):Turn P w K tg (Itw K a n) [it] it (fun i h=>zn1 h it a ((n:Int) - i)) where
 mem:=by simp
 obj:=fun i h st b hb=>by
  have e:b=it:=by simpa using hb
  subst e
  obtain ⟨o,e,c,d⟩:=st
  exact ⟨o,e,fun v z=>by rw [d] at z;cases z⟩
 keep:=fun i h h' st k=>by
  obtain ⟨o,e,c,d⟩:=st
  exact ⟨o,k it (by simp) o e,c,d⟩
 item:=by
  intro X hP hw hK hc i pins s σ H E I hf st hg
  subst hP hw hK
  obtain ⟨xs,x,hq,hn,hi,hx⟩:=hg
  obtain ⟨its,rv,p,hz⟩:=I.tuple hq
  obtain ⟨u,hu,ru⟩:=rv.get hx
  obtain ⟨f0,f1,f2,f3,f4,f5⟩:=hf it (by simp)
  have e1:(n:Int) - i=((n - 1 - i:Nat):Int) + 1:=by omega
  have e2:((n - 1 - i:Nat):Int)=(n:Int) - ((i + 1:Nat):Int):=by omega
  rw [e1] at st
  refine zlt st (show s.heap.IsTuple a its.toArray from p) hne (by rw [List.size_toArray,← rv.length];exact hz) (x:=u) (by simpa using hu) fun h' tk st' sb=>?_
  rw [e2] at st'
  have I1:L2.Inv X pins σ H { s with heap:=h',toks:=tk }:=I.turned (t':=tk) (fun b o hb e=>(sb.2 b hb).trans e) f0 f1 f3 f4 f5
  obtain ⟨o,e,c,d⟩:=id st'
  exact ⟨u,rfl,zpy (s:={ s with heap:=h',toks:=tk }) e c d (by decide) ⟨x,H,I1,ru,⟨rfl,fun ys hy=>by rw [I.tuple_inj hy hq];exact hx⟩,st',fun b hb=>(hf b hb).1⟩⟩
 done:=by
  intro X hP hw hK hc i pins s σ H E I hf st hg
  subst hP hw hK
  obtain ⟨xs,hq,hn,hi⟩:=hg
  obtain ⟨f0,f1,f2,f3,f4,f5⟩:=hf it (by simp)
  have e1:(n:Int) - i=0:=by omega
  rw [e1] at st
  exact zmp (I.ok.hd hc) st fun h' tk eb=>⟨rfl,I.turned (t':=tk) (fun b o hb e=>eb b o hb e) f0 f1 f3 f4 f5⟩
 self:=fun _ _ _ _ _ st h=>zow st h
def revT (f:PSt->R PV):PSt->R (List PV):=fun ρ=>f ρ >>= fun p=>(match p with
 | .tup ps=>.ok ps.reverse
 | _=>.no)
section
variable [TW]
theorem it_rvt {K:PySem.W.Frag} {H:Hp} {a:Addr} {xs:List V} {ps:List PV} (g:SqT K H a xs) (r:Reps K H ps xs):ItP K (Itw K a xs.length) H ps.reverse:=fun i H' k=>by
 have g':=k.sqT g
 have r':=Reps.kp k ps r
 have hl:=r'.length
 refine ⟨fun h=>⟨xs,g',rfl,by rw [List.length_reverse] at h;omega⟩,fun p e=>?_⟩
 have hi:i < ps.length:=by
  have:=(List.getElem?_eq_some_iff.mp e).1
  rwa [List.length_reverse] at this
 rw [List.getElem?_reverse hi] at e
 obtain ⟨x,ex,rp⟩:=r'.get e
 rw [hl] at ex
 exact ⟨⟨xs,x,g',rfl,by omega,ex⟩,fun y H2 ⟨eh,hy⟩=>by
  subst eh
  have:=hy xs g'
  rw [ex] at this
  cases this
  exact ⟨Same.refl _,rp⟩⟩
theorem zxi {C:Cn} {e tg:Expr} {p pos:Pos} {f:PSt->R PV} (hg:Gl C.X "reversed") (hm:C.X.mg "reversed"=none) (he:EV C e f) (hs:starEach [e] C.X.env=[(false,eval e C.X.env)]:=by exact zcm rfl) :
  EI C tg (.Call (.Name "reversed" p) [e] [] pos) (revT f):=by
 intro pins s σ H Rk I ⟨ρ,vw,q⟩
 refine Call_ (zjf I hg hm PyProof.Rows.boot_reversed (PyProof.Rows.callWith_type1 (thn ((zde he zhc hs) pos pins s σ H (fun vs H'=>∃ v ps,vs=[v]/\Same H H'/\Rep C.X.K H' (.tup ps) v/\∀ J H2,Same H' H2->ItP C.X.K J H2 ps.reverse->Rk J H2) I ⟨ρ,vw,q.bind.imp fun p _ k v H' s' r=>?_⟩)
  fun us s1 ⟨vs,H1,I1,r1,v,ps,ev,sm,rp,k⟩=>?_) hs rfl))
 ·cases p with
  | tup ps=>exact ⟨v,ps,rfl,s',r,fun J H2 s2 it=>k J H2 (s'.trans s2) it⟩
  | _=>exact False.elim k
 ·subst ev
  obtain ⟨u,rfl,ru⟩:=vals1 r1
  obtain ⟨a,xs,rfl,g,rr⟩:=rp
  cases ru
  obtain ⟨its,rv,p,hz⟩:=I1.tuple g
  have hl:its.toArray.size=xs.length:=by rw [List.size_toArray,rv.length]
  have ha:a < s1.heap.objs.size:=by obtain ⟨o,ho,_⟩:=p;exact Heap.lt_size ho
  refine zuo (show s1.heap.IsTuple a its.toArray from p) (by rw [hl];exact hz) fun tk=>zow (l:=a) (i:=(its.toArray.size:Int)) ⟨_,Heap.get?_push_size _ rfl,rfl,rfl⟩ ?_
  refine ⟨s1.heap.objs.size,[s1.heap.objs.size],_,_,H1,rfl,I1.kept (t':=tk) fun b o e=>Heap.get?_push_of_some _ e,ztb a _ xs.length (Nat.ne_of_lt ha),⟨_,Heap.get?_push_size _ rfl,rfl,?_⟩,fun b hb=>?_,k _ H1 (Same.refl H1) (it_rvt g rr)⟩
  ·rw [hl]
   simp
  ·have e:b=s1.heap.objs.size:=by simpa using hb
   subst e
   exact I1.fpOk (Nat.le_refl _) (I1.hok.fresh (Nat.le_refl _))
end
end PU
end
section
namespace PU
open PySem PySem.Spec PyProof.Rows L2
variable [TW]
def spN (K:PySem.W.Frag) (n:Nat) (F:List PV->Option PV):Sp:=fun vs H Q _=>vs.length=n/\∃ ps p,Reps K H ps vs/\F ps=some p/\∀ a H',Same H H'->H a=none->zfm K H' a p->Q (.ref a) H'
structure PFN (P:Program) (w:World) (K:PySem.W.Frag) (mg:Str->Option Value) (base:Heap) (k:Nat) (x:Str) (F:List PV->Option PV):Prop where
 ex:∃ (f:Addr) (fd:FuncData) (ps:List Str),FnOk P w K mg base CX0 k f fd ps (spN K ps.length F)/\mg x=some (.ref f)/\PySem.W.keepIn K (.ref f)=true/\Binds K fd ps []/\∀ qs p,F qs=some p->qs.length=ps.length
section
variable {C : Cn} {e : Expr} {es : List Expr} {fs : PSt → R (List PV)} {x : Str} {k : Nat} {F : List PV → Option PV} {p pos : Pos}
theorem znw (G:PFN C.X.prog C.X.w C.X.K C.X.mg C.X.base k x F) (hr:Room k C.X.A) (hg:Gl C.X x) (ha:EA C (e::es) fs)
  (hdb:(x == ("__debug__":Str))=false:=by decide) (he:starEach (e::es) C.X.env=(false,eval e C.X.env)::starEach es C.X.env:=by exact zfp rfl) (hpl:(backTo pos (starEach es C.X.env)).any (·.1)=false:=by exact zoa rfl) :
  EN C (.Call (.Name x p) (e::es) [] pos) (zaw fs F):=by
 obtain ⟨f,fd,ps,a,b,c,d,l⟩:=G.ex
 intro pins s σ H Q I ⟨ρ,vw,q⟩
 refine zq0 (dvs:=[]) (ds:=[]) (E:=E0) a hr hg b c d .nil pass0 ha hdb he hpl pins s σ H Q I ⟨ρ,vw,q.bind.imp fun qs _ k vs H1 s1 r1=>?_⟩
 obtain ⟨z,ez,k⟩:=k.ofO
 rw [List.append_nil]
 exact ⟨by rw [← r1.length];exact l qs z ez,qs,z,r1,ez,fun v H' s' n' r'=>k v H' (s1.trans s') (s1.free n') r'⟩
end
section
variable {P : Program} {w : World} {K : PySem.W.Frag} {mg : Str → Option Value} {base : Heap}
theorem zy5 {x qual:Str} {st:Stmt} {f:Addr} {fd:FuncData} {N ps:List Str} {k:Nat} {e:Expr} {rp:Pos} {fe:PSt->R PV} (F:Fun K x qual st f fd) (S:FnScope N ps (zae st)) (hm:mg x=some (.ref f)) (hb:Binds K fd ps [])
  (hd:zaq st=[.Return (some e) rp])
  (hbody:∀ (cdv:Value) (A:Around) (outer:List Env) (s:Shared) (H:Hp) (E:XK),Room k (A.deeper (envOfC qual (zae st) s.heap.objs.size f cdv))->EN (cnOf P w K mg base N qual (zae st) f cdv A outer s H E) e fe) :
  PFN P w K mg base (k + 1) x (runF ps.length N.length (retF fe)):=by
 refine ⟨f,fd,ps,F.ok S (fun vs H Q E h=>h.1) (fun cdv A outer s H vs Q E hr h=>?_),hm,F.kp,hb,fun qs p h=>?_⟩
 ·obtain ⟨hl,qs,p,r,e0,k⟩:=h
  rw [hd]
  refine ⟨_,znf (zqu (hbody cdv A outer s H E hr)),start N.length qs,(zjl r).vw,?_⟩
  unfold runF at e0
  rw [if_pos (by rw [r.length];exact hl)] at e0
  unfold retF at e0
  cases hg:fe (start N.length qs) with
  | ok q=>rw [hg] at e0;cases e0;exact fun a H' s' n' w'=>k a H' s' n' w'
  | er x=>rw [hg] at e0;cases e0
  | no=>rw [hg] at e0;cases e0
 ·unfold runF at h
  split at h
  ·rename_i hl;exact hl
  ·cases h
end
def ItS (K:PySem.W.Frag) (J:It) (H₁:Hp) (ps:List PV):Prop :=
 ∀ (i:Nat) (H:Hp),Same H₁ H->(i=ps.length->J.stop i H)/\∀ p,ps[i]?=some p->J.go i H/\∀ x H',J.yld i H x H'->Same H H'/\Rep K H' p x
def tIS (C:Cn) (f:PSt->R (List PV)):TI:=fun σ H Q=>∃ ρ,View C.X.K H σ ρ/\RQ C H (f ρ) fun ps=>∀ J H',Same H H'->ItS C.X.K J H' ps->Q J H'
def EIS (C:Cn) (tg iter:Expr) (f:PSt->R (List PV)):Prop:=PI C.X tg iter (tIS C f)
def itemsL:PV->Option (List PV)
 | .lst ps=>some ps
 | _=>none
def itL (f:PSt->R PV):PSt->R (List PV):=fun ρ=>f ρ >>= fun p=>R.ofO (itemsL p)
section
variable {C : Cn} {elt tg iter : Expr} {ifs : List Expr} {scope : Scope} {pos : Pos} {N' : List Str} {nt : Nat} {idx : List Nat} {fi : PSt → R (List PV)} {h : Tgt} {t : PSt → R Bool} {fe : PSt → R PV}
end
end PU
end
section
namespace PU
open PySem PySem.Spec PyProof.Rows L2 PySem.SeqAt
section
variable {prog : Program} {w : World} {A : Around} {E : Value → Shared → Prop} {s : Shared}
end
variable [TW]
section
variable {P : Program} {w : World} {K : PySem.W.Frag} {elts : List Expr} {kk : Nat} {tp : Pos}
end
def enumRv (f:PSt->R PV):PSt->R (List PV):=fun ρ=>f ρ >>= fun p=>(match p with
 | .lst ps=>.ok ((numP ps.reverse).map .tup)
 | _=>.no)
end PU
end
section
namespace PU
open PySem PySem.Spec PyProof.Rows L2
variable [TW]
def RN (C:Cn) (B:Hp × Hp) (D:Ends):R Fl->Prop
 | .ok (.ret p)=>∀ a H,Same B.1 H->B.1 a=none->zfm C.X.K H a p->D.rt (.ref a) H
 | _=>False
def tSN (C:Cn) (g:PSt->R Fl):TS:=fun D σ H=>∃ ρ B,StOk C.X.K B H σ ρ/\RN C B D (g ρ)
def SVN (C:Cn) (st:List Stmt) (g:PSt->R Fl):Prop:=PSs C.X st (tSN C g)
section
variable {C : Cn} {st : Stmt} {sts : List Stmt} {e : Expr} {f : PSt → R PV} {g g' : PSt → R Fl} {pos : Pos}
theorem zle (hn:∀ ρ p,g ρ≠.ok (.ret p)) (h1:SV C st g) (h2:SVN C sts g'):SVN C (st::sts) (seqF g g'):=by
 intro pins s σ H D I ⟨ρ,B,S,h⟩
 refine zog h1 h2 pins s σ H D I ⟨ρ,B,S,?_⟩
 unfold seqF at h
 cases hg:g ρ with
 | ok fl =>
  rw [hg] at h
  cases fl with
  | next ρ'=>exact fun σ' H' S'=>⟨ρ',B,S',h⟩
  | brk ρ'=>exact False.elim h
  | cont ρ'=>exact False.elim h
  | ret p=>exact absurd hg (hn ρ p)
 | er x=>rw [hg] at h;exact False.elim h
 | no=>rw [hg] at h;exact False.elim h
omit [TW] in
theorem zqq (i:Nat) (f:PSt->R PV) (ρ:PSt) (p:PV):setF i f ρ≠.ok (.ret p):=by
 unfold setF
 cases f ρ with
 | ok q=>intro h;cases h
 | er x=>intro h;cases h
 | no=>intro h;cases h
end
section
variable {P : Program} {w : World} {K : PySem.W.Frag} {mg : Str → Option Value} {base : Heap}
end
def isOwn:Sl->Bool
 | .own _=>true
 | _=>false
def thawB (i:Nat) (f:PSt->R Bool):PSt->R Bool:=fun ρ=>match ρ[i]? with
 | some (.own (.lst ps))=>if (ρ.set i (.val (.lst ps))).any isOwn=false then noEr (f (ρ.set i (.val (.lst ps)))) else .no
 | _=>.no
def zyz:V->List V->Hp->VK->Prop:=fun x vs H Q=>∃ l xs,x=.ref l/\vs=[]/\H l=some (.lst xs)/\Q .non (upd H l (.lst []))
def clrF (i:Nat):PSt->R Fl:=fun ρ=>match ρ[i]? with
 | some (.own (.lst _))=>.ok (.next (ρ.set i (.own (.lst []))))
 | _=>.no
end PU
end
section
namespace PU
open PySem PySem.Spec PyProof.Rows L2
variable [TW]
def znm (i:Nat) (fk fv:PSt->R PV):PSt->R Fl:=fun ρ=>match ρ[i]? with
 | some (.own (.lst ps))=>fv ρ >>= fun p=>fk ρ >>= fun kp=>(match kp with
  | .int j=>if 0<=j/\j < ps.length then .ok (.next (ρ.set i (.own (.lst (ps.set j.toNat p))))) else .no
  | _=>.no)
 | _=>.no
omit [TW] in
theorem Vals.setAt {v:V} {u:Value} (ru:RelV v u):∀ {xs:List V} {its:List Value} (n:Nat),Vals xs its->Vals (xs.set n v) (its.set n u)
 | _,_,n,.nil=>.nil
 | _,_,0,.cons r rs=>.cons ru rs
 | _,_,n + 1,.cons r rs=>.cons r (Vals.setAt ru n rs)
omit [TW] in
theorem zlj {prog:Program} {w:World} {A:Around} {E:Value->Shared->Prop} {s:Shared} {l:Addr} {items:Array Value} {n:Nat} {k:Int} {t:Tok} {v:Value} {Q:Unit->Shared->Prop} (ho:s.heap.get? l=some { cls:=.type "list",data:=.seq items n }) (h0:0<=k) (hfit:k < 2 ^ 63) (hn:k < items.size)
  (hQ:Q () { s with heap:=s.heap.update l (Obj.mapSeq (·.setIfInBounds k.toNat v)) }):wpAny (model prog w) A (setItem (.ref l) (.int k t) v) Q E s:=by
 have hl:s.heap.IsList l items:=⟨_,ho,rfl,n,rfl⟩
 unfold setItem
 try with_reducible refine wpAny_holding ?_
 first | refine wpAny_bind (wpAny_pure ?_) | skip
 refine wpAny_bind (wpAny_sequenceKey hl.typeIs (by decide) ?_)
 refine wpAny_bind (wpAny_callSpecial?_slot (name:=Str.ofString "__setitem__") hl.typeIs PySem.F.slot_list_setitem
  (wpAny_call_entry PySem.F.slot_list_setitem hl.typeIs PySem.F.entry_list_setitem ?_ (PySem.F.args_list_setitem_3 _ _ _)))
 show wpAny _ _ (Builtin.List.listSubscript? (.int k t) >>= _) _ _ s
 refine wpAny_bind (wpAny_listSubscript_int (fitsIndex_of h0 hfit) ?_)
 clear hfit
 obtain ⟨j,rfl⟩:=Int.eq_ofNat_of_zero_le h0
 have hj:j < items.size:=by omega
 have hx':items[j]?=some items[j]:=Array.getElem?_eq_getElem hj
 show wpAny _ _ ((seqItemAt l j >>= fun r=>pure (r.map (j,·))) >>= _) _ _ s
 refine wpAny_bind (wpAny_bind (wpAny_seqItemAt ho rfl (wpAny_pure ?_)))
 rw [hx']
 show wpAny _ _ (setSeqItemAt l j v >>= _) _ _ s
 refine wpAny_bind (wpAny_setSeqItemAt ho rfl ?_)
 first
  | exact wpAny_bind (wpAny_pure (wpAny_pure ⟨.none,rfl,wpAny_pure hQ⟩))
  | exact wpAny_pure ⟨.none,rfl,wpAny_pure hQ⟩
theorem zvy {C:Cn} (i:Nat) {x:Str} {ke e:Expr} {fk fv:PSt->R PV} {np pos' pos:Pos} (hk:EV C ke fk) (hv:EV C e fv) (hN:C.X.N[i]?=some x:=by rfl) (hvis:Vis C.X.env.scope x:=by first | exact Or.inl rfl | exact Or.inr (Or.inl rfl))
  (hs:swapsWith e (some (.Subscript (.Name x np) ke pos')) pos.line C.X.env=pure false:=by rfl) (hd:(x == ("__debug__":Str))=false:=by decide) (hcd:(x == ("__classdict__":Str))=false:=by decide) :
  SV C (.Assign [.Subscript (.Name x np) ke pos'] e pos) (znm i fk fv):=by
 intro pins s σ H D I ⟨ρ,B,S,q⟩
 unfold znm at q
 split at q
 ·rename_i ps e1
  obtain ⟨a,e2,xs,hx,rr⟩:=S.vw i _ e1
  refine wpAny_Assign_Subscript (thn (hv pins s σ H (fun v H1=>∃ p,Same H H1/\Rep C.X.K H1 p v/\RQ C H1 (fk ρ) (fun kp=>RS C B D (match kp with
   | .int j=>if 0<=j/\j < ps.length then R.ok (.next (ρ.set i (.own (.lst (ps.set j.toNat p))))) else .no
   | _=>.no))) I ⟨ρ,S.vw,(RS.bind q S.same).imp fun p _ q1 v H1 s1 r1=>⟨p,s1,r1,RS.bind q1 (S.same.trans s1)⟩⟩) fun uv s1 ⟨v,H1,I1,rv,p,sm1,rp1,q1⟩=>?_) hs
  refine thn ((zj2 hN hvis hd hcd) pins s1 σ H1 (fun u H2=>u=.ref a/\H2=H1) I1 ⟨_,e2,rfl,rfl⟩) fun u s2 ⟨x2,H2,I2,rx,ex2,eh2⟩=>?_
  subst ex2 eh2
  refine thn (hk pins s2 σ H2 (fun y H3=>∃ j:Int,Same H2 H3/\y=.int j/\RS C B D (if 0<=j/\j < ps.length then R.ok (.next (ρ.set i (.own (.lst (ps.set j.toNat p))))) else .no)) I2 ⟨ρ,S.vw.same sm1,q1.imp fun kp _ q2 y H3 s3 r3=>?_⟩) fun iv s3 ⟨y,H3,I3,ry,j,sm3,ey,q3⟩=>?_
  ·cases kp with
   | int j=>exact ⟨j,s3,r3,q2⟩
   | _=>exact False.elim q2
  ·subst ey
   cases rx
   obtain ⟨t,rfl⟩:=ry
   by_cases hj:0<=j/\j < ps.length
   ·rw [if_pos hj] at q3
    have hx3:H3 a=some (.lst xs):=sm3 _ _ (sm1 _ _ hx)
    obtain ⟨z,its,n,r,hl,eo⟩:=I3.lstM hx3
    obtain ⟨m,rfl⟩:=Int.eq_ofNat_of_zero_le hj.1
    have hm:m < ps.length:=by have:=hj.2;omega
    have hps:=rr.length
    have hsz:=sizeLine_eq
    refine zlj eo hj.1 (by omega) (by rw [List.size_toArray];omega) ?_
    have I4:=I3.lset (its':=its.set m uv) (ys:=xs.set m v) (t':=s3.toks) (f:=fun y=>y.setIfInBounds m uv) hx3 eo (by simp) (Vals.setAt rv m r) (by rw [List.length_set];exact z)
    refine ⟨σ,_,I4,q3 σ _ (((S.grow sm1).grow sm3).turn e1 e2 (fun b hb=>za4 hb) ?_)⟩
    have kp:Kp H3 (upd H3 a (.lst (xs.set m v))):=Kp.upd hx3 rfl
    exact ⟨a,rfl,xs.set m v,za0,Reps.set m (Reps.kp kp _ ((rr.same sm1).same sm3)) (Rep.kp kp _ (rp1.same sm3))⟩
   ·rw [if_neg hj] at q3
    exact False.elim q3
 ·exact False.elim q
end PU
end
section
namespace PU
open PySem PySem.Spec PyProof.Rows L2 PySem.SeqAt
theorem zjv:typeLookup (.type "tuple") "keys"=pure none:=by rw [typeLookup_type,builtinLookup_eq_fast];kernel_rfl
theorem zil {prog:Program} {w:World} {A:Around} {E:Value->Shared->Prop} {s:Shared} {a:Addr} {o:Obj} {xs:Array Value} {k:Nat} {name:Str} {Q:Option Value->Shared->Prop}
  (hx:s.heap.get? a=some o) (hc:o.cls=.type "tuple") (hdat:o.data=.seq xs k) (hd:o.dict=none) (hmiss:typeLookup (.type "tuple") name=pure none) (hname:(["__module__","__name__","__qualname__","__doc__","__annotations__"]:List Str).contains name=false) (hA:A.handled=none)
  (h:∀ h' tk e,Heap.NewExcOf s.heap h' e "AttributeError"->Q none { s with heap:=h',toks:=tk }) (hsz:name.length + 100<=sizeLine:=by size_fits) :
  wpAny (model prog w) A (getAttr? (.ref a) name) Q E s:=by
 obtain ⟨c,dct,dat,sl⟩:=o
 simp only at hc hdat hd
 subst hc hdat hd
 obtain ⟨hp,g,d,tk,os⟩:=s
 have hT:∀ tk',(⟨hp,g,d,tk',os⟩:Shared).TypeIs (.ref a) "tuple":=fun _=>⟨_,hx,rfl⟩
 have f1:=sub_AttributeError
 have f3:=F.slot_tuple_getattribute.lookup
 have f4:=F.slot_tuple_getattribute.bind (.ref a)
 have f5:=am_tuple_getattr_none
 unfold getAttr? getAttrBy? getAttrBy
 repeat (any_goals (first | assumption | exact hT _ | ((with_reducible show wpAny _ _ (call (Value.builtin "tuple.__getattribute__") _ _) _ _ _);refine call_meets F.slot_tuple_getattribute (hT _) am_entry_tuple_getattribute (F.args_tuple_getattribute_2 _ _) (meets_getattribute_miss_tuple a xs k sl name _ hmiss hname hsz) ⟨hx,hA,fun h' tk' e hx'=>?_⟩) | wp_step))
 obtain ⟨t',u',he⟩:=hx'.there
 show wpAny _ _ (getattributeRaised _ _ _ _ _ _ _) _ _ _
 unfold getattributeRaised
 repeat (any_goals (first | assumption | wp_step))
 exact h _ _ _ hx'.of
theorem zhh:entryFor table "dict.update.loop"=some Builtin.«dict.update.loop»:=entryFor_of_tree (by kernel_rfl)
section
variable {prog : Program} {w : World} {K : Type} [DecidableEq K] {knd : KeyKind prog w K} {A : Around}
def ze8 (acc:List (K × Value)) (l:List (K × Value)):List (K × Value):=l.foldl (fun a p=>stored a p.1 p.2) acc
theorem zn3 {R:Result->Shared->Prop} {h0:Heap} {d it a:Addr} {items:Array Value} {kvs:List (K × Value)} {result:Value} (hh:A.handled=none) (hda:a≠d) (hia:a≠it) (hdi:d≠it) (ha:h0.IsTuple a items) (hn:items.size=kvs.length)
  (hp:∀ (j:Nat) (x:Value),items[j]?=some x->∃ (p:Addr) (key:Value) (k:K) (v:Value),x=.ref p/\kvs[j]?=some (k,v)/\p≠d/\p≠it/\h0.IsTuple p #[key,v]/\knd.is k key=true) :
  ∀ (m i:Nat) (s:Shared) (acc:List (K × Value)),m=items.size - i->i<=items.size->(∀ b o,b≠d->b≠it->h0.get? b=some o->s.heap.get? b=some o)->s.heap.IsTupleIter it a i->s.heap.DictOf knd d acc->acc.length + m<=sizeLine →
   (∀ h' tk,(∀ b o,b≠d->b≠it->h0.get? b=some o->h'.get? b=some o)->h'.DictOf knd d (ze8 acc (kvs.drop i))->R (.ok (.ret result)) { s with heap:=h',toks:=tk }) →
   codeAny (model prog w) A (.builtin "dict.update.loop" ⟨[.ref d,.ref it,rawInt (i:Int),result],[]⟩) R s
 | 0,i,s,acc,hm,hi,hk,hit,hd,hz,hR=>by
  have e:i=items.size:=by omega
  have hq:s.heap.IsTuple a items:=ha.at fun o e=>hk a o hda hia e
  refine codeAny_builtin zhh ?_
  unfold Builtin.«dict.update.loop»
  show wpAny _ _ (pyNext (.ref it) >>= _) _ _ s
  refine wpAny_bind (wpAny_pyNext_tuple_end (by exact hh) hit hq (by rw [e];simp) fun h' eb=>?_)
  have hd':h'.DictOf knd d acc:=hd.extBut eb hdi
  show wpAny _ _ (Builtin.Dict.addKeywords d [] >>= _) _ _ _
  refine wpAny_bind (wpAny_pure (wpAny_pure (hR h' s.toks (fun b o hb1 hb2 q=>eb b o hb2 (hk b o hb1 hb2 q)) ?_)))
  rw [e,hn,List.drop_length]
  exact hd'
 | m + 1,i,s,acc,hm,hi,hk,hit,hd,hz,hR=>by
  have hlt:i < items.size:=by omega
  have hq:s.heap.IsTuple a items:=ha.at fun o e=>hk a o hda hia e
  have hx:items[i]?=some items[i]:=by simp [hlt]
  obtain ⟨p,key,k,v,ex,ek,h1,h2,h3,h4⟩:=hp i _ hx
  refine codeAny_builtin zhh ?_
  unfold Builtin.«dict.update.loop»
  show wpAny _ _ (pyNext (.ref it) >>= _) _ _ s
  refine wpAny_bind (wpAny_pyNext_tuple_item hit hq hx fun h' hit' sb=>?_)
  rw [ex]
  have hd':h'.DictOf knd d acc:=hd.extBut sb.extBut hdi
  have hpt:h'.IsTuple p #[key,v]:=h3.at fun o e=>(sb.2 p h2).trans (hk p o h1 h2 e)
  obtain ⟨op,hop,hcp,np,hdp⟩:=id hpt
  dsimp only
  refine wpAny_bind (wpAny_holding (wpAny_bind (wpAny_tryCatch ?_)))
  unfold Builtin.Dict.pairItems
  refine wpAny_bind (wpAny_typeOf hpt.typeIs ?_)
  rw [if_pos (by decide)]
  refine wpAny_bind ?_
  have hsi:wpAny (model prog w) (A.under (Code.builtin "dict.update.loop" ⟨[.ref d,.ref it,rawInt (i:Int),result],[]⟩)) (seqItems? (.ref p)) (fun r s'=>r=some #[key,v]/\s'={ s with heap:=h' }) (fun _ _=>False) { s with heap:=h' }:=by
   repeat (any_goals (first | assumption | wp_step))
   rw [hdp]
   exact wpAny_pure ⟨rfl,rfl⟩
  refine wpAny_mono hsi (fun r s' hr=>?_) fun _ _ h=>h.elim
  obtain ⟨rfl,rfl⟩:=hr
  refine wpAny_pure ?_
  show wpAny _ _ (holding [key,v] (dictSet d key v)) _ _ _
  refine wpAny_holding (wpAny_dictSet_pairs h4 hd' (fun h'' hd'' sb'=>?_) (by omega))
  refine wpAny_pure ⟨Code.quiet_builtin _ (by decide +kernel),?_⟩
  have ei:((i:Int) + 1)=((i + 1:Nat):Int):=by omega
  rw [ei]
  have hlen:=stored_length_le acc k v
  refine zn3 hh hda hia hdi ha hn hp m (i + 1) _ (stored acc k v) (by omega) hlt (fun b o hb1 hb2 q=>?_) ?_ hd'' (by omega) fun h3 tk hk3 hd3=>hR h3 tk hk3 ?_
  ·exact (sb'.2 b hb1).trans ((sb.2 b hb2).trans (hk b o hb1 hb2 q))
  ·exact hit'.at fun o e=>(sb'.2 it (Ne.symm hdi)).trans e
  ·have hdr:kvs.drop i=(k,v)::kvs.drop (i + 1):=by
    obtain ⟨hl,e⟩:=List.getElem?_eq_some_iff.mp ek
    rw [List.drop_eq_getElem_cons hl,e]
   rw [hdr]
   exact hd3
theorem zki {E:Value->Shared->Prop} {s:Shared} {a:Addr} {o:Obj} {items:Array Value} {n0:Nat} {kvs:List (K × Value)} {Q:Value->Shared->Prop} (hA:A.handled=none) (hx:s.heap.get? a=some o) (hc:o.cls=.type "tuple") (hdat:o.data=.seq items n0) (hdn:o.dict=none)
  (hn:items.size=kvs.length) (hz:kvs.length<=sizeLine)
  (hp:∀ (j:Nat) (x:Value),items[j]?=some x->∃ (p:Addr) (key:Value) (k:K) (v:Value),x=.ref p/\kvs[j]?=some (k,v)/\s.heap.IsTuple p #[key,v]/\knd.is k key=true)
  (h:∀ h' tk,(∀ b o,s.heap.get? b=some o->h'.get? b=some o)->h'.DictOf knd s.heap.objs.size (ze8 [] kvs)->Q (.ref s.heap.objs.size) { s with heap:=h',toks:=tk }) :
  wpAny (model prog w) A (call (.type "dict") [.ref a]) Q E s:=by
 refine callType_codes (Q₁:=fun obj s₁=>obj=.ref s.heap.objs.size/\s₁={ s with heap:=s.heap.push { cls:=.type "dict",data:=.dict #[] } }) F.kt_called_dict (F.kt_typeCall_dict_1 _) F.entry_dict_init (kt_code_dict_new _ ⟨rfl,rfl⟩) ?_
 rintro obj s₁ ⟨rfl,rfl⟩
 have hnew:(s.heap.push { cls:=.type "dict",data:=.dict #[] }).DictOf knd s.heap.objs.size []:=Heap.DictOf.new s.heap
 have hx':(s.heap.push { cls:=.type "dict",data:=.dict #[] }).get? a=some o:=Heap.get?_push_of_some _ hx
 have hT:Shared.TypeIs { s with heap:=s.heap.push { cls:=.type "dict",data:=.dict #[] } } (.ref a) "tuple":=⟨o,hx',hc⟩
 refine ⟨hnew.typeIs,F.args_dict_init_2 _ _,?_⟩
 unfold Builtin.«dict.__init__»
 refine wpAny_bind ?_
 unfold Builtin.Dict.selfAndRest
 refine wpAny_bind (wpAny_notOrdered_dict hnew.typeIs ?_)
 show wpAny _ _ (pure (s.heap.objs.size,[Value.ref a])) _ _ _
 refine wpAny_pure ?_
 show wpAny _ _ (Builtin.Dict.updateFrom "dict.__init__" s.heap.objs.size (.ref a) [] .none) _ _ _
 unfold Builtin.Dict.updateFrom
 refine wpAny_bind (wpAny_typeOf hT ?_)
 rw [if_pos (by decide)]
 refine wpAny_bind (zil hx' hc hdat hdn zjv (by decide +kernel) (by exact hA) fun h1 tk1 e1 ne=>?_)
 have k1:∀ b u,(s.heap.push { cls:=.type "dict",data:=.dict #[] }).get? b=some u->h1.get? b=some u:=fun b u q=>ne.keeps b u q
 rw [if_pos (show (none:Option Value).isNone=true from rfl)]
 have ht:h1.IsTuple a items:=⟨o,k1 a o hx',hc,n0,hdat⟩
 refine wpAny_bind (wpAny_rule (wpAny_bind (wpAny_pyIter_tuple ht ?_)))
 have sD:s.heap.objs.size < h1.objs.size:=by
  obtain ⟨od,_,_,hod,_⟩:=hnew
  exact Heap.lt_size (k1 _ _ hod)
 have k2:∀ b u,s.heap.get? b=some u->(h1.push { cls:=.type "tuple_iterator",data:=.fields #[.ref a,.int 0 0] }).get? b=some u:=fun b u q=>Heap.get?_push_of_some _ (k1 b u (Heap.get?_push_of_some _ q))
 refine wpAny_pure ⟨Code.quiet_builtin _ (by decide +kernel),?_⟩
 have lts:∀ b u,s.heap.get? b=some u->b≠s.heap.objs.size/\b≠h1.objs.size:=fun b u q=>⟨Nat.ne_of_lt (Heap.lt_size q),Nat.ne_of_lt (Nat.lt_trans (Heap.lt_size q) sD)⟩
 refine zn3 (knd:=knd) (h0:=h1.push { cls:=.type "tuple_iterator",data:=.fields #[.ref a,.int 0 0] }) (kvs:=kvs) (by exact hA) (lts a o hx).1 (lts a o hx).2 (Nat.ne_of_lt sD) (ht.push _) hn (fun j x hj=>?_) items.size 0 _ [] (by omega) (Nat.zero_le _) (fun b u _ _ q=>q) ⟨_,Heap.get?_push_size _ rfl,rfl,rfl⟩ ?_ (by simp;omega) fun h' tk hk' hd'=>?_
 ·obtain ⟨p,key,k,v,e1,e2,e3,e4⟩:=hp j x hj
  obtain ⟨op,hop,r⟩:=id e3
  exact ⟨p,key,k,v,e1,e2,(lts p op hop).1,(lts p op hop).2,⟨op,k2 p op hop,r⟩,e4⟩
 ·obtain ⟨od,es,ep,hod,r⟩:=hnew
  exact ⟨od,es,ep,Heap.get?_push_of_some _ (k1 _ _ hod),r⟩
 ·exact ⟨rfl,h h' tk (fun b u q=>hk' b u (lts b u q).1 (lts b u q).2 (k2 b u q)) hd'⟩
end
end PU
end
section
namespace PU
open PySem L2
def zjd:List PV->Option (List (Key × PV))
 | []=>some []
 | .tup [.str k,v]::r=>(zjd r).map fun l=>(.inr k,v)::l
 | _=>none
def zk8:PV->Option PV
 | .tup ps=>if ps.length<=1000 then (zjd ps).map zhd else none
 | _=>none
end PU
end
section
namespace PU
open PySem PySem.Spec PyProof.Rows L2 PySem.SeqAt
variable [TW]
theorem zol {X:Cx} {pins:List (Addr × Obj)} {σ:L2.St} {H:Hp} {s:Shared} (I:L2.Inv X pins σ H s):∀ {ps:List PV} {kps:List (Key × PV)} {xs:List V} {its:List Value},zjd ps=some kps->Reps X.K H ps xs->Vals xs its →
  ∃ (kvs:List (Key × V)) (vs:List (Key × Value)),KReps X.K H kps kvs/\KV kvs vs/\its.length=vs.length/\∀ (j:Nat) (x:Value),its[j]?=some x->∃ (p:Addr) (key:Value) (k:Key) (v:Value),x=.ref p/\vs[j]?=some (k,v)/\s.heap.IsTuple p #[key,v]/\(za2 X.prog X.w).is k key=true
 | [],kps,xs,its,e,r,rv=>by
  cases e
  cases r
  cases rv
  exact ⟨[],[],rfl,.nil,rfl,fun j x h=>by simp at h⟩
 | p::ps,kps,xs,its,e,r,rv=>by
  obtain ⟨x,t,rfl,r1,r2⟩:=r
  cases rv with
  | cons ru rv =>
  unfold zjd at e
  split at e
  ·rename_i h;cases h
  ·rename_i k v r' h
   cases h
   obtain ⟨l,el,ez⟩:=Option.map_eq_some_iff.mp e
   cases ez
   obtain ⟨kvs,vs,q1,q2,q3,q4⟩:=zol I el r2 rv
   obtain ⟨a,ys,rfl,g,rr⟩:=r1
   obtain ⟨y1,t1,rfl,h1,y2,t2,rfl,h2,h3⟩:=rr
   cases h3
   cases h1
   cases ru
   obtain ⟨its2,rv2,pl,hz⟩:=I.tuple g
   cases rv2 with
   | cons ra rv2 =>
   cases rv2 with
   | cons rb rv2 =>
   cases rv2
   obtain ⟨tk,rfl⟩:=ra
   refine ⟨(.inr k,y2)::kvs,(.inr k,_)::vs,⟨y2,kvs,rfl,h2,q1⟩,.cons ⟨rfl,rb⟩ q2,by simp [q3],fun j x hj=>?_⟩
   cases j with
   | zero =>
    simp at hj
    subst hj
    exact ⟨a,_,_,_,rfl,rfl,pl,zf9 _ _ _ _⟩
   | succ j =>
    obtain ⟨p,key,k',v',e1,e2,e3,e4⟩:=q4 j x (by simpa using hj)
    exact ⟨p,key,k',v',e1,by simpa using e2,e3,e4⟩
  ·cases e
omit [TW] in
theorem zi9 {K:Type} [DecidableEq K]:∀ (l acc:List (K × Value)),(ze8 acc l).length<=acc.length + l.length
 | [],acc=>by simp [ze8]
 | p::l,acc=>by
  have h1:=zi9 l (stored acc p.1 p.2)
  have h2:=stored_length_le acc p.1 p.2
  have e:ze8 acc (p::l)=ze8 (stored acc p.1 p.2) l:=rfl
  rw [e,List.length_cons]
  omega
theorem zvm {X:Cx} (hc:X.calm=true:=by rfl) (hw:X.w=TW.w:=by rfl):zhw X (.type "dict") (rn1 X.K zk8):=by
 intro pins s σ H xs us Q I r ⟨v,p,z,e1,rp,ez,k⟩
 subst e1
 cases p with
 | tup ps =>
  have ez:(if ps.length<=1000 then (zjd ps).map zhd else none)=some z:=ez
  by_cases hlen:ps.length<=1000
  ·rw [if_pos hlen] at ez
   obtain ⟨kps,ek,rfl⟩:=Option.map_eq_some_iff.mp ez
   obtain ⟨a,xs,rfl,g,rr⟩:=rp
   obtain ⟨u,rfl,ru⟩:=vals1 r
   cases ru
   obtain ⟨its,rv,⟨o,ho,hcl,⟨n0,hdat⟩,hdn⟩,hz⟩:=I.tupleX g
   obtain ⟨kvs,vs,q1,q2,q3,q4⟩:=zol I ek rr rv
   have hl1:=rr.length
   have hl2:=rv.length
   have hs:=sizeLine_eq
   refine zki (knd:=za2 X.prog X.w) (kvs:=vs) (I.ok.hd hc) ho hcl hdat (hdn fun v hv=>(by obtain ⟨j,hj⟩:=List.mem_iff_getElem?.mp hv;obtain ⟨p,_,_,_,e,_⟩:=q4 j v (by simpa using hj);exact ⟨p,e⟩)) (by rw [List.size_toArray];exact q3) (by omega) (fun j x hj=>q4 j x (by simpa using hj)) fun h' tk keep D'=>?_
   have nf:H s.heap.objs.size=none:=I.fresh
   have hne:(s.heap.objs.size == sysModules)=false:=by
    have hb:=I.big
    refine beq_eq_false_iff_ne.mpr fun e=>?_
    rw [e] at hb
    exact Nat.lt_irrefl _ hb
   have hm:KV (zfw [] kvs) (ze8 [] vs):=KV.merge q2 .nil
   have hml:(zfw [] kvs).length<=sizeLine:=by
    have a1:(zfw [] kvs).length=(ze8 [] vs).length:=Paired.length hm
    have a2:=zi9 vs []
    simp only [List.length_nil] at a2
    omega
   have I2:=I.laid (a:=s.heap.objs.size) (o:=.dK (zfw [] kvs)) (h':=h') (t':=tk) keep (Nat.le_refl _) ⟨hml,hne,_,hm,D'⟩
   have kp:Kp H (upd H s.heap.objs.size (.dK (zfw [] kvs))):=Same.kp (Same.new nf)
   obtain ⟨ks',ps',g1,g2,g3⟩:=zj5 (acc:=[]) (ps:=[]) (KReps.kp kp q1) Reps.nil
   refine ⟨.ref _,_,I2,rfl,k _ _ (Same.new nf) nf ?_⟩
   rw [zor]
   have g1:kps.foldl addP (PV.dct [] [])=PV.dct ks' ps':=g1
   rw [g1]
   exact ⟨_,za0,g2,g3⟩
  ·rw [if_neg hlen] at ez
   cases ez
 | _=>cases ez
end PU
end
section
namespace PU
open PySem PySem.Spec PyProof.Rows L2
def gDictA:PV->Option PV
 | .dct ks ps=>gDictC (.dct ks ps)
 | .tup ps=>zk8 (.tup ps)
 | _=>none
variable [TW]
end PU
end
section
namespace PU
open PySem PySem.Spec PyProof.Rows L2 PySem.SeqAt
def zxa:List PV->Option (List Int)
 | []=>some []
 | .int i::r=>(zxa r).map (i::·)
 | _=>none
def ltL:List Int->List Int->Bool
 | x::xs,y::ys=>if x=y then ltL xs ys else decide (x < y)
 | _,_=>false
def gLtT:PV->PV->Option PV
 | .tup [.int i,.lst ps],.tup [.int j,.lst qs] =>
  (match zxa ps,zxa qs with
  | some xs,some ys=>if i=j/\¬ xs.length=ys.length then none else some (.bl (if i=j then ltL xs ys else decide (i < j)))
  | _,_=>none)
 | _,_=>none
def gMax2:PV->PV->Option PV
 | .int i,.int j=>some (.int (if j > i then j else i))
 | _,_=>none
section
open AutoSeq1 (wpAny_loadPart')
open MeetsSeq MeetsSeq2 MeetsSeq3
def RcLtAt (A:Around) (s:Shared) (y x:Value) (b:Bool):Prop :=
 ∀ (prog:Program) (w:World) (E:Value->Shared->Prop) (Q:Value->Shared->Prop),Q (.bool b) s->wpAny (model prog w) A (richCompare .Lt y x) Q E s
def ltR (e l:Nat->Bool):List Nat->Bool
 | []=>false
 | i::r=>if e i=true then ltR e l r else l i
end
variable [TW]
end PU
end
section
namespace PU
open PySem PySem.Spec PyProof.Rows L2
def retO (i:Nat):PSt->R Fl:=fun ρ=>match ρ[i]? with
 | some (.own p)=>.ok (.ret p)
 | _=>.no
def runN (m n:Nat) (g:PSt->R Fl) (ps:List PV):Option PV:=if ps.length=m then (match g (start n ps) with
 | .ok (.ret p)=>some p
 | _=>none) else none
section
variable {g g' : PSt → R Fl} {t : PSt → R Bool} {f fk fv : PSt → R PV} {i : Nat}
theorem zq3 (i:Nat) (f:PSt->R PV) (ρ:PSt) (p:PV):ownF i f ρ≠.ok (.ret p):=by
 unfold ownF
 cases f ρ with
 | ok q=>intro h;cases h
 | er x=>intro h;cases h
 | no=>intro h;cases h
theorem zsw (i:Nat) (f:PSt->R PV) (ρ:PSt) (p:PV):appF i f ρ≠.ok (.ret p):=by
 unfold appF
 intro h
 split at h
 ·cases hf:f ρ with
  | ok q =>
   rw [hf,R.ok_bind] at h
   repeat' split at h
   all_goals cases h
  | er x=>rw [hf] at h;cases h
  | no=>rw [hf] at h;cases h
 ·cases h
theorem zr0 {h:Tgt} {fi:PSt->R (List PV)} (hg:∀ ρ p,g ρ≠.ok (.ret p)) (ρ:PSt) (p:PV):forS fi h g ρ≠.ok (.ret p):=by
 have go:∀ (ps:List PV) (ρ:PSt),forF h g ps ρ≠.ok (.ret p):=by
  intro ps
  induction ps with
  | nil=>intro ρ h;cases h
  | cons x ps ih =>
   intro ρ e
   unfold forF at e
   cases h1:h x ρ with
   | none=>rw [h1] at e;cases e
   | some ρ1 =>
    rw [h1,R.ofO_some,R.ok_bind] at e
    cases h2:g ρ1 with
    | ok fl =>
     rw [h2,R.ok_bind] at e
     cases fl with
     | next ρ2=>exact ih ρ2 e
     | cont ρ2=>exact ih ρ2 e
     | brk ρ2=>cases e
     | ret q=>exact hg ρ1 q h2
    | er x=>rw [h2] at e;cases e
    | no=>rw [h2] at e;cases e
 unfold forS
 intro e
 cases h1:fi ρ with
 | ok ps=>rw [h1,R.ok_bind] at e;exact go ps ρ e
 | er x=>rw [h1] at e;cases e
 | no=>rw [h1] at e;cases e
end
variable [TW]
section
variable {C : Cn}
theorem ztd (i:Nat) {x:Str} {np pos:Pos} (hN:C.X.N[i]?=some x:=by rfl) (hv:Vis C.X.env.scope x:=by first | exact Or.inl rfl | exact Or.inr (Or.inl rfl) | exact Or.inr (Or.inr rfl))
  (hd:(x == ("__debug__":Str))=false:=by decide) (hcd:(x == ("__classdict__":Str))=false:=by decide):SVN C [.Return (some (.Name x np)) pos] (retO i):=by
 intro pins s σ H D I ⟨ρ,B,S,h⟩
 unfold retO at h
 split at h
 ·rename_i p e1
  obtain ⟨a,ea,nw⟩:=S.vw i _ e1
  exact znf (zqu (zj2 hN hv hd hcd)) pins s σ H D I ⟨.ref a,ea,h a H S.same (S.fresh i p a e1 ea) nw⟩
 ·exact False.elim h
end
section
variable {P : Program} {w : World} {K : PySem.W.Frag} {mg : Str → Option Value} {base : Heap}
theorem zwn {x qual:Str} {st:Stmt} {f:Addr} {fd:FuncData} {N ps:List Str} {k:Nat} {g:PSt->R Fl} (F:Fun K x qual st f fd) (S:FnScope N ps (zae st)) (hm:mg x=some (.ref f)) (hb:Binds K fd ps [])
  (hbody:∀ (cdv:Value) (A:Around) (outer:List Env) (s:Shared) (H:Hp) (E:XK),Room k (A.deeper (envOfC qual (zae st) s.heap.objs.size f cdv))->SVN (cnOf P w K mg base N qual (zae st) f cdv A outer s H E) (zaq st) g) :
  PFN P w K mg base (k + 1) x (runN ps.length N.length g):=by
 refine ⟨f,fd,ps,F.ok S (fun vs H Q E h=>h.1) (fun cdv A outer s H vs Q E hr' h=>?_),hm,F.kp,hb,fun qs p h=>?_⟩
 ·obtain ⟨hl,qs,p,r,e0,k⟩:=h
  refine ⟨_,hbody cdv A outer s H E hr',start N.length qs,(H,H),zjl r,?_⟩
  unfold runN at e0
  rw [if_pos (by rw [r.length];exact hl)] at e0
  split at e0
  ·rename_i q hq
   rw [hq]
   cases e0
   exact fun a H' s' n' w'=>k a H' s' n' w'
  ·cases e0
 ·unfold runN at h
  split at h
  ·rename_i hl;exact hl
  ·cases h
end
end PU
end
section
namespace L2
open PySem PySem.Spec PyProof.Rows
theorem zrg {P:Program} {w:World} {K:PySem.W.Frag} {mg mb:Str->Option Value} {CX:CXT} {k:Nat} {fa a:Addr} {fd:FuncData} {x:Str} {sp:Sp} {s₁:Shared} {vs:List Value} {ns:List Int}
  (KX:K.In s₁.heap) (hns:s₁.heap.Ns mainGlobals mg) (hb:s₁.heap.Ns builtinsNs mb) (hbb:∀ x:Str,x≠"__name__"->mb x=bootBuiltins x) (hlim:s₁.heap.NoLimit) (hg:s₁.gens=#[])
  (ha:s₁.heap.get? a=some { cls:=.type "list",data:=.seq vs.toArray }) (hi:IntsAre vs ns) (hl:ns.length<=sizeLine) (hr:Room k callerA)
  (F:∀ base:Heap,K.In base->base.Ns mainGlobals mg->FnOk P w K mg base CX k fa fd [x] sp) (hbind:∀ (s:Shared) (u:Value),BindsTo s fd ⟨[u],[]⟩ [(x,u)])
  (hsp:∀ H:Hp,Only H->PU.SqF K H a (ns.map V.int)->sp [.ref a] H (fun v _=>v=.bl true) fun _ _ _=>False)
  (hCX:∀ H e s',CX [] H s₁ (fun _ _ _=>False) e s'->False) :
  codeAny (model P w) callerA (.call (.ref fa) ⟨[.ref a],[]⟩) (fun r s'=>r=.ok (.ret (.bool true))/\OldK s₁.heap s'.heap/\s'.os=s₁.os/\AllBare s'.gens) s₁:=by
 have rv:=zl9 hi
 have lenV:=hi.length
 have core:∀ H:Hp,Only H->PU.SqF K H a (ns.map V.int)->HOk P w H s₁.heap->(∀ b,H b≠none->b=a)->(H a≠none->K.lookup a=none) →
   codeAny (model P w) callerA (.call (.ref fa) ⟨[.ref a],[]⟩) (fun r s'=>r=.ok (.ret (.bool true))/\OldK s₁.heap s'.heap/\s'.os=s₁.os/\AllBare s'.gens) s₁:=by
  intro H hO hS hok hA hK
  have base_of:∀ {b:Addr} {o:Obj},s₁.heap.get? b=some o->H b=none->(hidT s₁.heap H).get? b=some o:=fun e n=>zuc e n
  have noA:∀ {b:Addr} {o:Obj} {es:Array DictEntry} {ep:Nat},s₁.heap.get? b=some o->o.data=.dict es ep->H b=none:=fun {b o es ep} e d=>by
   cases q:H b with
   | none=>rfl
   | some u =>
    have e':b=a:=hA b (by rw [q];simp)
    subst e'
    rw [ha] at e;cases e
    have d':Data.seq vs.toArray _=Data.dict es ep:=d
    cases d'
  have nsK:∀ {b:Addr} {m:Str->Option Value},s₁.heap.Ns b m->(hidT s₁.heap H).Ns b m:=fun {b m} ⟨o,es,ep,e,d,r⟩=>⟨o,es,ep,base_of e (noA e d),d,r⟩
  have hKb:K.In (hidT s₁.heap H):=fun b o e=>base_of (KX b o e) (by
   cases q:H b with
   | none=>rfl
   | some u =>
    have e':b=a:=hA b (by rw [q];simp)
    subst e'
    rw [hK (by rw [q];simp)] at e;cases e)
  have hM:Mod K mg (hidT s₁.heap H):=⟨hKb,nsK hns,⟨mb,nsK hb,hbb⟩,let ⟨mc,h1,h2⟩:=hlim;⟨mc,nsK h1,h2⟩⟩
  have e0:Env0 P w K mg (hidT s₁.heap H) callerA [] s₁ H:=⟨rfl,hM,fun b o e=>zwu e,Nat.le_of_eq (zrt _ _),trivial,fun b hb=>absurd (show b∈([]:List Addr) from hb) (by simp),hok,.of_eq hg⟩
  refine codeAny_mono ((F _ hKb (nsK hns)).run callerA [] s₁ H ⟨[.ref a],[]⟩ [.ref a] [.ref a] _ _ hr e0 (hbind s₁ (.ref a)) (.cons rfl .nil) (hsp H hO hS)) fun r s' h=>?_
  cases r with
  | error e=>exact (hCX H e s' h).elim
  | ok fl =>
   cases fl with
   | next=>exact False.elim h
   | brk=>exact False.elim h
   | cont=>exact False.elim h
   | ret u =>
    obtain ⟨v,H',os,bare,un,hok',r',q⟩:=h
    have q':v=.bl true:=q
    subst q'
    obtain rfl:u=Value.bool true:=r'
    refine ⟨rfl,OldK.of_keep fun b o e=>?_,os,bare⟩
    cases q:H b with
    | none=>exact un.keep b o e q (by intro z;exact absurd (show b∈([]:List Addr) from z) (by simp)) (by simp)
    | some u =>
     rcases hO b with z | ⟨ob,xs,z⟩
     ·rw [q] at z;cases z
     ·have z2:=un.frzs b ob _ z
      obtain ⟨e1,_⟩:=hok b _ z
      obtain ⟨e2,_⟩:=hok' b _ z2
      rw [e] at e1;cases e1
      exact e2
 cases hk:K.lookup a with
 | some o =>
  have e:=KX a o hk
  rw [ha] at e
  cases e
  refine core (fun _=>none) (fun _=>.inl rfl) (.inr ⟨vs,_,hk,by rw [List.length_map];exact hl,rv⟩) (fun b u z=>by have z':(none:Option HO)=some u:=z;cases z') (fun b z=>absurd rfl z) fun z=>absurd rfl z
 | none =>
  refine core (fun b=>if b=a then some (.frz { cls:=.type "list",data:=.seq vs.toArray } (.lst (ns.map V.int))) else none) (fun b=>?_) (.inl ⟨{ cls:=.type "list",data:=.seq vs.toArray },if_pos rfl⟩) (fun b u z=>?_) (fun b z=>?_) fun _=>hk
  ·by_cases hb:b=a
   ·exact .inr ⟨_,_,if_pos hb⟩
   ·exact .inl (if_neg hb)
  ·by_cases hb:b=a
   ·have z':=(if_pos hb).symm.trans z
    cases z'
    subst hb
    exact ⟨ha,by rw [List.length_map];exact hl,vs,_,rv,ha⟩
   ·have z':=(if_neg hb).symm.trans z
    cases z'
  ·by_cases hb:b=a
   ·exact hb
   ·exact absurd (if_neg hb) z
theorem walk_ofF {l:PySem.W.OpenLaw} {n k:Nat} {q:Program} {loose:List Str} {XP:(Str->Option Value)->Heap->Prop} {YP:World->Heap->Prop} {d:DefRec} {K:Params->PySem.W.Frag} {CX:World->CXT} {sp:World->Sp} {x:Str}
  (hn:l.most=some n) (hn2:n<=sizeLine) (hdf:d.params.defaults=[]) (hr:Room k callerA)
  (hY:∀ (w:World) (h:Heap),YP w h->(K w.params).In h)
  (F:∀ (w:World) (mg:Str->Option Value) (fa:Addr) (h:Heap),(K w.params).In h->h.Ns mainGlobals mg->mg d.name=some (.ref fa) →
   ∃ fd:FuncData,(∀ (s:Shared) (u:Value),BindsTo s fd ⟨[u],[]⟩ [(x,u)]) ∧
    ∀ base:Heap,(K w.params).In base->base.Ns mainGlobals mg->FnOk l.prog w (K w.params) mg base (CX w) k fa fd [x] (sp w))
  (hsp:∀ (w:World) (H:Hp) (a:Addr) (ns:List Int),ns.length<=n->Only H->PU.SqF (K w.params) H a (ns.map V.int)->sp w [.ref a] H (fun v _=>v=.bl true) fun _ _ _=>False)
  (hCX:∀ (w:World) (H:Hp) (s:Shared) (e:Value) (s':Shared),CX w [] H s (fun _ _ _=>False) e s'->False) :
  PySem.W.WalkO q loose XP YP l.row.toRowW d [] (fun f vs=>PySem.call f vs):=by
 refine Att.attach_call hn hdf fun w s₀ s₁ mg mb fa o pm cd doc a vs ns G Y ho hd hcd hmg hobj hints hlen hg=>?_
 have KX:=hY w _ Y
 obtain ⟨fd,hb,hF⟩:=F w mg fa _ KX G.T.g hmg
 exact zrg KX G.T.g G.T.b G.T.builtins G.T.nolimit hg hobj hints (Nat.le_trans hlen hn2) hr hF hb (fun H hO hS=>hsp w H a ns hlen hO hS) fun H e s'=>hCX w H s₁ e s'
end L2
end
section
namespace PU
open PySem L2
def rngP (p:PV):R (List PV):=match p with
 | .int j=>if j.natAbs < 1000000000 then .ok (zcj 0 j.toNat) else .no
 | _=>.no
def rngQ (p q:PV):R (List PV):=match p,q with
 | .int i,.int j=>if i.natAbs < 1000000000/\j.natAbs < 1000000000 then .ok (zcj i (j - i).toNat) else .no
 | _,_=>.no
theorem zpd {j:Int} (h0:0<=j) (h1:j < 1000000000):rngP (.int j)=.ok (zcj 0 j.toNat):=by
 unfold rngP
 exact if_pos (by omega)
theorem zqf {i j:Int} (h0:0<=i) (h1:i < 1000000000) (h2:0<=j) (h3:j < 1000000000):rngQ (.int i) (.int j)=.ok (zcj i (j - i).toNat):=by
 unfold rngQ
 exact if_pos ⟨by omega,by omega⟩
section
def seqK (g':PSt->R Fl):R Fl->R Fl
 | .ok (.next ρ)=>g' ρ
 | .ok (.brk ρ)=>.ok (.brk ρ)
 | .ok (.cont ρ)=>.ok (.cont ρ)
 | .ok (.ret p)=>.ok (.ret p)
 | .er x=>.er x
 | .no=>.no
def mapK {α β:Type} (f:α->β):R α->R β
 | .ok a=>.ok (f a)
 | .er x=>.er x
 | .no=>.no
def bndK {α β:Type} (f:α->R β):R α->R β
 | .ok a=>f a
 | .er x=>.er x
 | .no=>.no
def ifK {α:Type} (g g':PSt->R α) (ρ:PSt):R Bool->R α
 | .ok true=>g ρ
 | .ok false=>g' ρ
 | .er x=>.er x
 | .no=>.no
def twoK {α β γ:Type} (f:α->β->R γ):R α->R β->R γ
 | .ok a,.ok b=>f a b
 | .ok _,.er x=>.er x
 | .ok _,.no=>.no
 | .er x,_=>.er x
 | .no,_=>.no
variable {α : Type} {ρ : PSt} {f fa fb fc : PSt → R PV} {g g' : PSt → R Fl} {t u : PSt → R Bool} {i : Nat}
@[simp] theorem zk4:seqK g' (.ok (.next ρ))=g' ρ:=by unfold seqK;exact Eq.refl _
@[simp] theorem zrn (p:PV):seqK g' (.ok (.ret p))=.ok (.ret p):=by unfold seqK;exact Eq.refl _
@[simp] theorem k_map {β:Type} (f:α->β) (a:α):mapK f (.ok a)=.ok (f a):=by unfold mapK;exact Eq.refl _
@[simp] theorem ziy {β:Type} (f:α->R β) (a:α):bndK f (.ok a)=f a:=by unfold bndK;exact Eq.refl _
@[simp] theorem k_if_t (g g':PSt->R α):ifK g g' ρ (.ok true)=g ρ:=by unfold ifK;exact Eq.refl _
@[simp] theorem k_if_f (g g':PSt->R α):ifK g g' ρ (.ok false)=g' ρ:=by unfold ifK;exact Eq.refl _
@[simp] theorem zrm {β γ:Type} (f:α->β->R γ) (a:α) (b:β):twoK f (.ok a) (.ok b)=f a b:=by unfold twoK;exact Eq.refl _
@[simp] theorem zqb:seqF g g' ρ=seqK g' (g ρ):=by
 unfold seqF
 cases g ρ with
 | ok fl=>cases fl <;> rfl
 | er x=>rfl
 | no=>rfl
@[simp] theorem x_nextF:zb9 ρ=.ok (.next ρ):=by unfold zb9;exact Eq.refl _
def rP1 (ρ:PSt) (_:PV):Fl:=.next ρ
@[simp] theorem zuw:retF f ρ=mapK .ret (f ρ):=by unfold retF;cases f ρ <;> rfl
@[simp] theorem x_ifF:ifF t g g' ρ=ifK g g' ρ (t ρ):=by
 unfold ifF
 cases t ρ with
 | ok b=>cases b <;> rfl
 | er x=>rfl
 | no=>rfl
def setP (i:Nat) (ρ:PSt) (p:PV):Fl:=.next (ρ.set i (.val p))
def ownP (i:Nat) (ρ:PSt) (p:PV):Fl:=.next (ρ.set i (.own p))
@[simp] theorem k_set (p:PV):setP i ρ p=.next (ρ.set i (.val p)):=by unfold setP;exact Eq.refl _
@[simp] theorem k_own (p:PV):ownP i ρ p=.next (ρ.set i (.own p)):=by unfold ownP;exact Eq.refl _
@[simp] theorem zx3:setF i f ρ=mapK (setP i ρ) (f ρ):=by unfold setF;cases f ρ <;> rfl
@[simp] theorem x_ownF:ownF i f ρ=mapK (ownP i ρ) (f ρ):=by unfold ownF;cases f ρ <;> rfl
@[simp] theorem x_frzS:frzS i g ρ=g (frzF i ρ):=by unfold frzS;exact Eq.refl _
@[simp] theorem x_kI (j:Int):kI j ρ=.ok (.int j):=by unfold kI;exact Eq.refl _
@[simp] theorem x_kB (j:Bool):kB j ρ=.ok (.bl j):=by unfold kB;exact Eq.refl _
@[simp] theorem x_kN:kN ρ=.ok .non:=by unfold kN;exact Eq.refl _
@[simp] theorem x_kS (j:Str):kS j ρ=.ok (.str j):=by unfold kS;exact Eq.refl _
@[simp] theorem x_kP (j:PV):kP j ρ=.ok j:=by unfold kP;exact Eq.refl _
@[simp] theorem x_nilA:nilA ρ=.ok []:=by unfold nilA;exact Eq.refl _
def zxo (p:PV) (ps:List PV):R (List PV):=.ok (p::ps)
@[simp] theorem k_cons (p:PV) (ps:List PV):zxo p ps=.ok (p::ps):=by unfold zxo;exact Eq.refl _
@[simp] theorem x_consA {fs:PSt->R (List PV)}:zac f fs ρ=twoK zxo (f ρ) (fs ρ):=by unfold zac;cases f ρ <;> cases fs ρ <;> rfl
def tupP (ps:List PV):R PV:=if ps.length<=16777216 then .ok (.tup ps) else .no
def lstP (ps:List PV):R PV:=if ps.length<=16777216 then .ok (.lst ps) else .no
@[simp] theorem k_tup (ps:List PV):tupP ps=if ps.length<=16777216 then .ok (.tup ps) else .no:=by unfold tupP;exact Eq.refl _
@[simp] theorem k_lst (ps:List PV):lstP ps=if ps.length<=16777216 then .ok (.lst ps) else .no:=by unfold lstP;exact Eq.refl _
@[simp] theorem x_tupF {fs:PSt->R (List PV)}:tupF fs ρ=bndK tupP (fs ρ):=by
 unfold tupF
 cases fs ρ with
 | ok ps=>simp only [R.ok_bind,zhf,ziy,k_tup];split <;> rfl
 | er x=>rfl
 | no=>rfl
@[simp] theorem x_lstF {fs:PSt->R (List PV)}:lstF fs ρ=bndK lstP (fs ρ):=by
 unfold lstF
 cases fs ρ with
 | ok ps=>simp only [R.ok_bind,zhf,ziy,k_lst];split <;> rfl
 | er x=>rfl
 | no=>rfl
def opP (g:PV->PV->Option PV) (p q:PV):R PV:=R.ofO (g p q)
def op1 (g:PV->Option PV) (p:PV):R PV:=R.ofO (g p)
@[simp] theorem k_op (g:PV->PV->Option PV) (p q:PV):opP g p q=R.ofO (g p q):=by unfold opP;exact Eq.refl _
@[simp] theorem k_op1 (g:PV->Option PV) (p:PV):op1 g p=R.ofO (g p):=by unfold op1;exact Eq.refl _
@[simp] theorem x_bin2 {g:PV->PV->Option PV}:bin2 fa fb g ρ=twoK (opP g) (fa ρ) (fb ρ):=by unfold bin2;cases fa ρ <;> cases fb ρ <;> rfl
@[simp] theorem zx2 {g:PV->Option PV}:un1 f g ρ=bndK (op1 g) (f ρ):=by unfold un1;cases f ρ <;> rfl
def truP (p:PV):R Bool:=R.ofO (truB p)
@[simp] theorem k_tru (p:PV):truP p=R.ofO (truB p):=by unfold truP;exact Eq.refl _
@[simp] theorem x_truF:truF f ρ=bndK truP (f ρ):=by unfold truF;cases f ρ <;> rfl
@[simp] theorem x_andB:andB t u ρ=ifK u (fun _=>.ok false) ρ (t ρ):=by
 unfold andB
 cases t ρ with
 | ok b=>cases b <;> rfl
 | er x=>rfl
 | no=>rfl
@[simp] theorem x_orB:orB t u ρ=ifK (fun _=>.ok true) u ρ (t ρ):=by
 unfold orB
 cases t ρ with
 | ok b=>cases b <;> rfl
 | er x=>rfl
 | no=>rfl
@[simp] theorem x_notB:notB t ρ=mapK not (t ρ):=by unfold notB;cases t ρ <;> rfl
def andK (fb:PSt->R PV) (ρ:PSt) (p:PV):R PV:=match p with
 | .bl true=>fb ρ
 | .bl false=>.ok (.bl false)
 | _=>.no
def orK (fb:PSt->R PV) (ρ:PSt) (p:PV):R PV:=match p with
 | .bl true=>.ok (.bl true)
 | .bl false=>fb ρ
 | _=>.no
def notP (p:PV):R PV:=match p with
 | .bl b=>.ok (.bl (!b))
 | _=>.no
@[simp] theorem x_ifV:ifV t fa fb ρ=ifK fa fb ρ (t ρ):=by
 unfold ifV
 cases t ρ with
 | ok b=>cases b <;> rfl
 | er x=>rfl
 | no=>rfl
@[simp] theorem zx1:yesB ρ=.ok true:=by unfold yesB;exact Eq.refl _
def zxt (F:List PV->Option PV) (ps:List PV):R PV:=R.ofO (F ps)
@[simp] theorem k_call (F:List PV->Option PV) (ps:List PV):zxt F ps=R.ofO (F ps):=by unfold zxt;exact Eq.refl _
@[simp] theorem x_callF {fs:PSt->R (List PV)} {F:List PV->Option PV}:zaw fs F ρ=bndK (zxt F) (fs ρ):=by unfold zaw;cases fs ρ <;> rfl
def itQ (F:PV->Option (List PV)) (p:PV):R (List PV):=R.ofO (F p)
@[simp] theorem k_it (F:PV->Option (List PV)) (p:PV):itQ F p=R.ofO (F p):=by unfold itQ;exact Eq.refl _
@[simp] theorem x_itF:itF f ρ=bndK (itQ zfi) (f ρ):=by unfold itF;cases f ρ <;> rfl
@[simp] theorem x_enumF:zsd f ρ=bndK (itQ znu) (f ρ):=by unfold zsd;cases f ρ <;> rfl
def forP (h:Tgt) (g:PSt->R Fl) (ρ:PSt) (ps:List PV):R Fl:=forF h g ps ρ
@[simp] theorem k_for (h:Tgt) (ps:List PV):forP h g ρ ps=forF h g ps ρ:=by unfold forP;exact Eq.refl _
@[simp] theorem zux {fi:PSt->R (List PV)} {h:Tgt}:forS fi h g ρ=bndK (forP h g ρ) (fi ρ):=by unfold forS;cases fi ρ <;> rfl
@[simp] theorem x_rng1:rng1 f ρ=bndK rngP (f ρ):=by unfold rng1;cases f ρ <;> rfl
@[simp] theorem zuv:rng2 fa fb ρ=twoK rngQ (fa ρ) (fb ρ):=by unfold rng2;cases fa ρ <;> cases fb ρ <;> rfl
def methP (g:PV->PV->Option PV) (p q:PV):R PV:=if zw8 p=true then R.ofO (g p q) else .no
@[simp] theorem x_meth1s {g:PV->PV->Option PV} (x:Str):meth1 (kS x) fb g ρ=bndK (opP g (.str x)) (fb ρ):=by unfold meth1;cases fb ρ <;> rfl
def unpP (h:Tgt) (ρ:PSt) (p:PV):R Fl:=mapK .next (R.ofO (h p ρ))
@[simp] theorem k_unp (h:Tgt) (p:PV):unpP h ρ p=mapK .next (R.ofO (h p ρ)):=by unfold unpP;exact Eq.refl _
@[simp] theorem x_unpF {h:Tgt}:unpF f h ρ=bndK (unpP h ρ) (f ρ):=by
 unfold unpF
 cases f ρ with
 | ok p=>simp only [R.ok_bind,ziy,k_unp];cases h p ρ <;> rfl
 | er x=>rfl
 | no=>rfl
@[simp] theorem x_noPart:zcv ρ=.ok none:=by unfold zcv;exact Eq.refl _
def aP (p:PV):R (Option Int):=match p with
 | .int i=>.ok (some i)
 | _=>.no
@[simp] theorem k_aP (i:Int):aP (.int i)=.ok (some i):=by unfold aP;exact Eq.refl _
@[simp] theorem x_aPart:zeb f ρ=bndK aP (f ρ):=by unfold zeb;cases f ρ <;> rfl
def slQ (p:PV) (lh:Option Int × Option Int):R PV:=R.ofO (gSl p lh.1 lh.2)
def zty (a b:Option Int):R (Option Int × Option Int):=.ok (a,b)
@[simp] theorem k_sl (p:PV) (a b:Option Int):slQ p (a,b)=R.ofO (gSl p a b):=by unfold slQ;exact Eq.refl _
@[simp] theorem k_pair (a b:Option Int):zty a b=.ok (a,b):=by unfold zty;exact Eq.refl _
@[simp] theorem x_sliceF {l h:PSt->R (Option Int)}:zfq f l h ρ=twoK slQ (f ρ) (twoK zty (l ρ) (h ρ)):=by unfold zfq;cases f ρ <;> cases l ρ <;> cases h ρ <;> rfl
@[simp] theorem x_newD:newD ρ=.ok (.dct [] []):=by unfold newD;exact Eq.refl _
@[simp] theorem x_nilD:nilD ρ=.ok []:=by unfold nilD;exact Eq.refl _
def keyQ (p:PV):R Key:=R.ofO (zf1 p)
@[simp] theorem zve (p:PV):keyQ p=R.ofO (zf1 p):=by unfold keyQ;exact Eq.refl _
def kvQ (k:Key) (p:PV):R (Key × PV):=.ok (k,p)
@[simp] theorem k_kvQ (k:Key) (p:PV):kvQ k p=.ok (k,p):=by unfold kvQ;exact Eq.refl _
def zxn (a:Key × PV) (r:List (Key × PV)):R (List (Key × PV)):=.ok (a::r)
@[simp] theorem k_consQ (a:Key × PV) (r:List (Key × PV)):zxn a r=.ok (a::r):=by unfold zxn;exact Eq.refl _
@[simp] theorem x_consD {fd:PSt->R (List (Key × PV))}:zp3 fa fb fd ρ=twoK zxn (twoK kvQ (bndK keyQ (fa ρ)) (fb ρ)) (fd ρ):=by
 unfold zp3
 cases fa ρ with
 | ok p=>simp only [R.ok_bind,ziy,zve];cases zf1 p <;> cases fb ρ <;> cases fd ρ <;> rfl
 | er x=>cases fb ρ <;> cases fd ρ <;> rfl
 | no=>cases fb ρ <;> cases fd ρ <;> rfl
def zxk (kps:List (Key × PV)):R PV:=if kps.length<=15 then .ok (zhd kps) else .no
@[simp] theorem k_dictP (kps:List (Key × PV)):zxk kps=if kps.length<=15 then .ok (zhd kps) else .no:=by unfold zxk;exact Eq.refl _
@[simp] theorem x_dictF {fd:PSt->R (List (Key × PV))}:zul fd ρ=bndK zxk (fd ρ):=by unfold zul;cases fd ρ <;> rfl
def zxp (h:Tgt) (t:PSt->R Bool) (fe:PSt->R PV) (ρ:PSt) (ps:List PV):R PV:=bndK lstP (noEr (zeh h t fe ρ ps))
@[simp] theorem k_comp (h:Tgt) (ps:List PV):zxp h t f ρ ps=bndK lstP (noEr (zeh h t f ρ ps)):=by unfold zxp;exact Eq.refl _
@[simp] theorem x_compF {fi:PSt->R (List PV)} {h:Tgt} {nt:Nat} {idx:List Nat}:zih fi h t f nt idx ρ=bndK (zxp h t f (ze3 nt idx ρ)) (fi ρ):=by
 unfold zih
 cases fi ρ with
 | ok ps =>
  simp only [R.ok_bind,ziy,k_comp]
  cases zeh h t f (ze3 nt idx ρ) ps with
  | ok qs=>simp only [noEr,R.ok_bind,ziy,k_lst,zhf];split <;> rfl
  | er x=>rfl
  | no=>rfl
 | er x=>rfl
 | no=>rfl
@[simp] theorem zin (p:PV):zao i p ρ=some (ρ.set i (.val p)):=by unfold zao;exact Eq.refl _
@[simp] theorem x_nilT:nilT [] ρ=some ρ:=by unfold nilT;exact Eq.refl _
@[simp] theorem x_consT {h:Tgt} {h':Tgts} (p:PV) (r:List PV):zau h h' (p::r) ρ=(h p ρ).bind fun ρ1=>h' r ρ1:=by unfold zau;exact Eq.refl _
@[simp] theorem x_tupT {n:Nat} {h:Tgts} (ps:List PV):tupT n h (.tup ps) ρ=if ps.length=n then h ps ρ else none:=by unfold tupT;exact Eq.refl _
@[simp] theorem x_noErok (a:α):noEr (.ok a)=.ok a:=by unfold noEr;exact Eq.refl _
end
section
variable {p : PV} {l : Sl} {ρ : PSt} {i : Nat}
@[simp] theorem znb:getV 0 (.val p::ρ)=.ok p:=by unfold getV;exact Eq.refl _
@[simp] theorem zvq:getV (i + 1) (l::ρ)=getV i ρ:=by unfold getV;rw [List.getElem?_cons_succ]
@[simp] theorem x_getO0':getO 0 (.own p::ρ)=.ok p:=by unfold getO;exact Eq.refl _
@[simp] theorem x_getOs:getO (i + 1) (l::ρ)=getO i ρ:=by unfold getO;rw [List.getElem?_cons_succ]
@[simp] theorem x_frz0:frzF 0 (.own p::ρ)=.val p::ρ:=by unfold frzF;exact Eq.refl _
theorem zrz:frzF (i + 1) (l::ρ)=l::frzF i ρ:=by
 unfold frzF
 simp only [List.getElem?_cons_succ]
 cases ρ[i]? with
 | none=>rfl
 | some x=>cases x <;> rfl
@[simp] theorem x_frzs:frzF (i + 1) (l::ρ)=l::frzF i ρ:=zrz
def roA (i:Nat) (ρ:PSt):Sl:=roS ρ[i]?
@[simp] theorem k_ro0:roA 0 (.val p::ρ)=.val p:=by unfold roA roS;exact Eq.refl _
@[simp] theorem k_ros:roA (i + 1) (l::ρ)=roA i ρ:=by unfold roA;rw [List.getElem?_cons_succ]
theorem zlc (nt:Nat) (idx:List Nat):ze3 nt idx ρ=List.replicate nt .no++idx.map fun i=>roA i ρ:=by unfold ze3 roA;exact Eq.refl _
def appQ (i:Nat) (ρ:PSt) (p:PV):R PSt:=match ρ[i]? with
 | some (.own (.lst ps))=>if ps.length < 16777216 then .ok (ρ.set i (.own (.lst (ps++[p])))) else .no
 | _=>.no
def hasL (i:Nat) (ρ:PSt):Bool:=match ρ[i]? with
 | some (.own (.lst _))=>true
 | _=>false
def zum (l:Sl) (ρ:PSt):PSt:=l::ρ
@[simp] theorem k_consR:zum l ρ=l::ρ:=by unfold zum;exact Eq.refl _
@[simp] theorem k_app0 (ps:List PV):appQ 0 (.own (.lst ps)::ρ) p=if ps.length < 16777216 then .ok (.own (.lst (ps++[p]))::ρ) else .no:=by unfold appQ;exact Eq.refl _
@[simp] theorem k_apps:appQ (i + 1) (l::ρ) p=mapK (zum l) (appQ i ρ p):=by
 unfold appQ
 rw [List.getElem?_cons_succ]
 cases ρ[i]? with
 | none=>rfl
 | some x =>
  cases x with
  | own q =>
   cases q with
   | lst ps=>dsimp only;split <;> rfl
   | _=>rfl
  | _=>rfl
@[simp] theorem k_has0 (ps:List PV):hasL 0 (.own (.lst ps)::ρ)=true:=by unfold hasL;exact Eq.refl _
@[simp] theorem k_hass:hasL (i + 1) (l::ρ)=hasL i ρ:=by unfold hasL;rw [List.getElem?_cons_succ]
def appZ (i:Nat) (ρ:PSt) (p:PV):R Fl:=mapK .next (appQ i ρ p)
@[simp] theorem k_appZ:appZ i ρ p=mapK .next (appQ i ρ p):=by unfold appZ;exact Eq.refl _
theorem zxw (f:PSt->R PV) (h:hasL i ρ=true):appF i f ρ=bndK (appZ i ρ) (f ρ):=by
 unfold hasL at h
 unfold appF
 cases e:ρ[i]? with
 | none=>rw [e] at h;cases h
 | some x =>
  rw [e] at h
  cases x with
  | own q =>
   cases q with
   | lst ps =>
    dsimp only
    cases f ρ with
    | ok p =>
     simp only [R.ok_bind,ziy,k_appZ]
     unfold appQ
     rw [e]
     dsimp only
     split <;> rfl
    | er x=>rfl
    | no=>rfl
   | _=>cases h
  | _=>cases h
def appC (b:Bool) (i:Nat) (ρ:PSt) (r:R PV):R Fl:=if b=true then bndK (appZ i ρ) r else .no
@[simp] theorem k_appC (r:R PV):appC true i ρ r=bndK (appZ i ρ) r:=by unfold appC;exact if_pos rfl
@[simp] theorem x_appF (f:PSt->R PV):appF i f ρ=appC (hasL i ρ) i ρ (f ρ):=by
 cases h:hasL i ρ with
 | true=>rw [zxw f h,k_appC]
 | false =>
  unfold appC
  rw [if_neg Bool.false_ne_true]
  unfold hasL at h
  unfold appF
  split
  ·rename_i ps e
   rw [e] at h
   cases h
  ·rfl
def putQ (i:Nat) (ρ:PSt) (k:Key) (p:PV):R PSt:=match ρ[i]? with
 | some (.own (.dct ks ps))=>if ks.length < 16777216 then .ok (ρ.set i (.own (putP ks ps k p))) else .no
 | _=>.no
def hasD (i:Nat) (ρ:PSt):Bool:=match ρ[i]? with
 | some (.own (.dct _ _))=>true
 | _=>false
@[simp] theorem k_put0 (ks:List Key) (ps:List PV) (k:Key):putQ 0 (.own (.dct ks ps)::ρ) k p=if ks.length < 16777216 then .ok (.own (putP ks ps k p)::ρ) else .no:=by unfold putQ;exact Eq.refl _
@[simp] theorem k_puts (k:Key):putQ (i + 1) (l::ρ) k p=mapK (zum l) (putQ i ρ k p):=by
 unfold putQ
 rw [List.getElem?_cons_succ]
 cases ρ[i]? with
 | none=>rfl
 | some x =>
  cases x with
  | own q =>
   cases q with
   | dct ks ps=>dsimp only;split <;> rfl
   | _=>rfl
  | _=>rfl
@[simp] theorem k_hasD0 (ks:List Key) (ps:List PV):hasD 0 (.own (.dct ks ps)::ρ)=true:=by unfold hasD;exact Eq.refl _
@[simp] theorem k_hasDs:hasD (i + 1) (l::ρ)=hasD i ρ:=by unfold hasD;rw [List.getElem?_cons_succ]
def putZ (i:Nat) (ρ:PSt) (p:PV) (k:Key):R Fl:=mapK .next (putQ i ρ k p)
@[simp] theorem k_putZ (k:Key):putZ i ρ p k=mapK .next (putQ i ρ k p):=by unfold putZ;exact Eq.refl _
def putC (b:Bool) (i:Nat) (ρ:PSt) (v:R PV) (k:R PV):R Fl:=if b=true then twoK (putZ i ρ) v (bndK keyQ k) else .no
@[simp] theorem k_putC (v k:R PV):putC true i ρ v k=twoK (putZ i ρ) v (bndK keyQ k):=by unfold putC;exact if_pos rfl
@[simp] theorem x_putF (fk fv:PSt->R PV):putF i fk fv ρ=putC (hasD i ρ) i ρ (fv ρ) (fk ρ):=by
 unfold putF hasD
 cases e:ρ[i]? with
 | none=>rfl
 | some x =>
  cases x with
  | own q =>
   cases q with
   | dct ks ps =>
    dsimp only
    rw [k_putC]
    cases fv ρ with
    | ok p =>
     simp only [R.ok_bind]
     cases fk ρ with
     | ok kp =>
      simp only [R.ok_bind,ziy,zve]
      cases zf1 kp with
      | none=>rfl
      | some k =>
       simp only [R.ofO_some,R.ok_bind,zrm,k_putZ]
       unfold putQ
       rw [e]
       dsimp only
       split <;> rfl
     | er x=>rfl
     | no=>rfl
    | er x=>rfl
    | no=>rfl
   | _=>rfl
  | _=>rfl
end
@[simp] theorem zyj (a b:Int):gAdd (.int a) (.int b)=some (.int (a + b)):=rfl
theorem zju {a b:Str} (h:a.length + b.length<=16777216):gAdd (.str a) (.str b)=some (.str (a++b)):=if_pos h
theorem zhz {a b:List PV} (h:a.length + b.length<=16777216):gAdd (.lst a) (.lst b)=some (.lst (a++b)):=if_pos h
@[simp] theorem zyi (a b:List PV):gAdd (.tup a) (.tup b)=if a.length + b.length<=16777216 then some (.tup (a++b)) else none:=rfl
@[simp] theorem v_sub (a b:Int):gSub (.int a) (.int b)=some (.int (a - b)):=rfl
theorem zpe {a b:Int} (h:a.natAbs < 18446744073709551616\/b.natAbs < 18446744073709551616):gMul (.int a) (.int b)=some (.int (a * b)):=if_pos h
theorem znc {a b:Int} (h:0 < b/\b < 1073741824):gDiv (.int a) (.int b)=some (.int (a / b)):=if_pos h
theorem zdj {a b:Int} (h:0 < b):gMod (.int a) (.int b)=some (.int (a % b)):=if_pos h
@[simp] theorem v_lt (a b:Int):gLt (.int a) (.int b)=some (.bl (decide (a < b))):=rfl
@[simp] theorem v_le (a b:Int):gLe (.int a) (.int b)=some (.bl (decide (a<=b))):=rfl
@[simp] theorem v_gt (a b:Int):gGt (.int a) (.int b)=some (.bl (decide (b < a))):=rfl
@[simp] theorem v_ge (a b:Int):gGe (.int a) (.int b)=some (.bl (decide (b<=a))):=rfl
@[simp] theorem v_lt_str (x y:Str):gLt (.str x) (.str y)=some (.bl (decide (x.cps.toList < y.cps.toList))):=rfl
@[simp] theorem v_eq_int (a b:Int):gEq (.int a) (.int b)=some (.bl (decide (a=b))):=by simp [gEq,isSc,scV,scal]
@[simp] theorem zn2 (a b:Str):gEq (.str a) (.str b)=some (.bl (decide (a=b))):=by simp [gEq,isSc,scV,scal]
@[simp] theorem zld (a b:Str):gNe (.str a) (.str b)=some (.bl (!decide (a=b))):=by simp [gNe,isSc,scV,scal]
@[simp] theorem v_tru_bl (b:Bool):truB (.bl b)=some b:=rfl
@[simp] theorem zx7 (ps:List PV):truB (.lst ps)=some (!ps.isEmpty):=rfl
@[simp] theorem zx8 (ks:List Key) (ps:List PV):truB (.dct ks ps)=some (!ks.isEmpty):=rfl
@[simp] theorem zyd (ps:List PV):gLen (.lst ps)=some (.int ps.length):=rfl
@[simp] theorem zyc (ps:List PV):gLen (.tup ps)=some (.int ps.length):=rfl
theorem zgl {x:Str} (h:x.length<=16777216):gLen (.str x)=some (.int x.length):=if_pos h
@[simp] theorem v_ix_lst (ps:List PV) (i:Int):gIx (.lst ps) (.int i)=atI ps i:=rfl
@[simp] theorem v_ix_tup (ps:List PV) (i:Int):gIx (.tup ps) (.int i)=atI ps i:=rfl
theorem zs9 {z:Str} {i:Int} {c:Nat} (h:z.length<=16777216) (e:atI z.cps.toList i=some c):gIx (.str z) (.int i)=some (.str ⟨#[c]⟩):=by
 show (if z.length<=16777216 then (atI z.cps.toList i).map fun c=>PV.str ⟨#[c]⟩ else none)=_
 rw [if_pos h,e]
 rfl
@[simp] theorem v_ix_dct (ks:List Key) (ps:List PV) (k:PV):gIx (.dct ks ps) k=(zf1 k).bind fun k=>zca ks ps k:=rfl
@[simp] theorem zyf (i:Int):zf1 (.int i)=some (.inl i):=rfl
@[simp] theorem zye (x:Str):zf1 (.str x)=some (.inr x):=rfl
@[simp] theorem zi7 (k j:Key) (ks:List Key) (p:PV) (ps:List PV):zca (k::ks) (p::ps) j=if k=j then some p else zca ks ps j:=rfl
@[simp] theorem v_int_bl (b:Bool):gInt (.bl b)=some (.int (if b then 1 else 0)):=rfl
@[simp] theorem zyh (b:Int):gInt (.int b)=some (.int b):=rfl
@[simp] theorem zx6 (ps:List PV):zk7 (.lst ps)=some (.tup ps):=rfl
@[simp] theorem zx5 (ps:List PV):zk7 (.tup ps)=some (.tup ps):=rfl
@[simp] theorem v_it_lst (ps:List PV):zfi (.lst ps)=some ps:=rfl
@[simp] theorem v_it_tup (ps:List PV):zfi (.tup ps)=some ps:=rfl
@[simp] theorem v_it_dct (ks:List Key) (ps:List PV):zfi (.dct ks ps)=some (ks.map keyP):=rfl
@[simp] theorem v_keyP (x:Str):keyP (.inr x)=.str x:=rfl
@[simp] theorem zx0 (ps:List PV):znu (.lst ps)=some ((numP ps).map .tup):=rfl
@[simp] theorem zxz (x:Str):znu (.str x)=some ((numP (zgo x)).map .tup):=rfl
@[simp] theorem zya (i:Int):gStr (.int i)=if i.natAbs.log2 < 1920 then some (.str (toString i)) else none:=rfl
@[simp] theorem zx9 (x:Str):gStr (.str x)=some (.str x):=rfl
@[simp] theorem v_isStr (x:Str):zw8 (.str x)=true:=rfl
@[simp] theorem v_sl_lst (ps:List PV) (lo hi:Option Int):gSl (.lst ps) lo hi=some (.lst (cutP ps lo hi)):=rfl
theorem za6 {α:Type} {xs:List α} {i:Int} {n:Nat} {x:α} (hi:i=n) (h:xs[n]?=some x):atI xs i=some x:=by
 subst hi
 have hl:=(List.getElem?_eq_some_iff.mp h).1
 unfold atI ixN
 rw [if_pos (by omega),if_pos (by omega)]
 simpa using h
@[simp] theorem atI_0 {α:Type} (x:α) (xs:List α):atI (x::xs) 0=some x:=za6 (n:=0) rfl rfl
@[simp] theorem atI_1 {α:Type} (x y:α) (xs:List α):atI (x::y::xs) 1=some y:=za6 (n:=1) rfl rfl
@[simp] theorem atI_2 {α:Type} (x y z:α) (xs:List α):atI (x::y::z::xs) 2=some z:=za6 (n:=2) rfl rfl
@[simp] theorem atI_3 {α:Type} (x y z u:α) (xs:List α):atI (x::y::z::u::xs) 3=some u:=za6 (n:=3) rfl rfl
theorem zr2 {h:Tgt} {g:PSt->R Fl} (I:Nat->PSt->Prop):∀ (ps:List PV) (n:Nat) (ρ:PSt),I n ρ →
  (∀ (i:Nat) (p:PV) (ρ:PSt),ps[i]?=some p->I (n + i) ρ->∃ ρ1 ρ2,h p ρ=some ρ1/\(g ρ1=.ok (.next ρ2)\/g ρ1=.ok (.cont ρ2))/\I (n + i + 1) ρ2) →
  ∃ ρ',forF h g ps ρ=.ok (.next ρ')/\I (n + ps.length) ρ'
 | [],n,ρ,h0,_=>⟨ρ,rfl,h0⟩
 | p::ps,n,ρ,h0,hs=>by
  obtain ⟨ρ1,ρ2,e1,e2,i2⟩:=hs 0 p ρ rfl h0
  obtain ⟨ρ3,e3,i3⟩:=zr2 I ps (n + 1) ρ2 i2 fun i q ρ' hq hi=>by
   have:=hs (i + 1) q ρ' (by simpa using hq) (by rw [show n + (i + 1)=n + 1 + i by omega];exact hi)
   rw [show n + (i + 1) + 1=n + 1 + i + 1 by omega] at this
   exact this
  refine ⟨ρ3,?_,by rw [List.length_cons,show n + (ps.length + 1)=n + 1 + ps.length by omega];exact i3⟩
  unfold forF
  rw [e1]
  rcases e2 with e2 | e2 <;> (simp only [R.ofO_some,R.ok_bind,e2];exact e3)
theorem zud {h:Tgt} {g:PSt->R Fl} {ps:List PV} {ρ:PSt} (I:Nat->PSt->Prop) (h0:I 0 ρ)
  (hs:∀ (i:Nat) (p:PV) (ρ:PSt),ps[i]?=some p->I i ρ->∃ ρ1 ρ2,h p ρ=some ρ1/\(g ρ1=.ok (.next ρ2)\/g ρ1=.ok (.cont ρ2))/\I (i + 1) ρ2) :
  ∃ ρ',forF h g ps ρ=.ok (.next ρ')/\I ps.length ρ':=by
 have:=zr2 I ps 0 ρ h0 fun i p ρ hp hi=>by
  rw [Nat.zero_add] at hi ⊢
  exact hs i p ρ hp hi
 simpa using this
theorem zpp (lo:Int) (n:Nat):(zcj lo n).length=n:=by simp [zcj]
theorem zpq {lo:Int} {n i:Nat} {p:PV} (h:(zcj lo n)[i]?=some p):i < n/\p=.int (lo + i):=by
 unfold zcj at h
 rw [List.getElem?_map] at h
 by_cases hi:i < n
 ·rw [List.getElem?_range hi] at h
  exact ⟨hi,(Option.some.inj h).symm⟩
 ·rw [List.getElem?_eq_none (by simpa using hi)] at h
  cases h
theorem forR {h:Tgt} {g:PSt->R Fl} {lo:Int} {n:Nat} {ρ:PSt} (I:Nat->PSt->Prop) (h0:I 0 ρ)
  (hs:∀ (i:Nat) (ρ:PSt),i < n->I i ρ->∃ ρ1 ρ2,h (.int (lo + i)) ρ=some ρ1/\(g ρ1=.ok (.next ρ2)\/g ρ1=.ok (.cont ρ2))/\I (i + 1) ρ2) :
  ∃ ρ',forF h g (zcj lo n) ρ=.ok (.next ρ')/\I n ρ':=by
 obtain ⟨ρ',e,i'⟩:=zud (ps:=zcj lo n) I h0 fun i p ρ hp hi=>by
  obtain ⟨hn,rfl⟩:=zpq hp
  exact hs i ρ hn hi
 rw [zpp] at i'
 exact ⟨ρ',e,i'⟩
theorem zr1 {α:Type} {enc:α->PV} {h:Tgt} {g:PSt->R Fl} {xs:List α} (I:List α->PSt->Prop)
  (hs:∀ (pre:List α) (x:α) (post:List α) (ρ:PSt),xs=pre++x::post->I pre ρ->∃ ρ1 ρ2,h (enc x) ρ=some ρ1/\(g ρ1=.ok (.next ρ2)\/g ρ1=.ok (.cont ρ2))/\I (pre++[x]) ρ2) :
  ∀ (ys pre:List α) (ρ:PSt),xs=pre++ys->I pre ρ->∃ ρ',forF h g (ys.map enc) ρ=.ok (.next ρ')/\I xs ρ'
 | [],pre,ρ,e,h0=>⟨ρ,rfl,by rw [e,List.append_nil];exact h0⟩
 | y::ys,pre,ρ,e,h0=>by
  obtain ⟨ρ1,ρ2,e1,e2,i2⟩:=hs pre y ys ρ e h0
  obtain ⟨ρ3,e3,i3⟩:=zr1 I hs ys (pre++[y]) ρ2 (by rw [e];simp) i2
  refine ⟨ρ3,?_,i3⟩
  rw [List.map_cons]
  unfold forF
  rw [e1]
  rcases e2 with e2 | e2 <;> (simp only [R.ofO_some,R.ok_bind,e2];exact e3)
theorem forM {α:Type} {enc:α->PV} {h:Tgt} {g:PSt->R Fl} {xs:List α} {ρ:PSt} (I:List α->PSt->Prop) (h0:I [] ρ)
  (hs:∀ (pre:List α) (x:α) (post:List α) (ρ:PSt),xs=pre++x::post->I pre ρ->∃ ρ1 ρ2,h (enc x) ρ=some ρ1/\(g ρ1=.ok (.next ρ2)\/g ρ1=.ok (.cont ρ2))/\I (pre++[x]) ρ2) :
  ∃ ρ',forF h g (xs.map enc) ρ=.ok (.next ρ')/\I xs ρ':=zr1 I hs xs [] ρ rfl h0
end PU
end
section
namespace PU
open PySem L2
theorem zam {m n:Nat} {g:PSt->R Fl} {ps:List PV} {p:PV} (hl:ps.length=m) (h:g (PU.start n ps)=.ok (.ret p)):runF m n g ps=some p:=by
 unfold runF
 rw [if_pos hl,h]
theorem zut {α:Type} {xs:List α} {i:Int} (d:α) (h0:0<=i) (h1:i < xs.length):atI xs i=some (xs.getD i.toNat d):=by
 have h2:i.toNat < xs.length:=by omega
 exact za6 (n:=i.toNat) (by omega) (by simp [h2])
def mkS (l:List Nat):Str:=⟨l.toArray⟩
theorem zj4 (a b:List Nat):mkS a++mkS b=mkS (a++b):=by
 show Str.mk (a.toArray++b.toArray)=_
 simp [mkS]
@[simp] theorem zc4 (a:List Nat):(mkS a).length=a.length:=by simp [mkS,Str.length]
@[simp] theorem zgu (a:List Nat):(mkS a).cps.toList=a:=by simp [mkS]
theorem zq9 (c:Nat):(⟨#[c]⟩:Str)=mkS [c]:=rfl
theorem zd3:("":Str)=mkS []:=by decide +kernel
theorem zlx (l:List Nat) (z:Int) (h0:0<=z) (h1:z < l.length) (hl:l.length<=16777216):gIx (.str (mkS l)) (.int z)=some (.str ⟨#[l.getD z.toNat 0]⟩) :=
 zs9 (by simpa using hl) (by rw [zgu];exact zut 0 h0 h1)
theorem zeo (x:List Nat) (c:Nat) (hx:x.length<=1000):gAdd (.str (mkS x)) (.str ⟨#[c]⟩)=some (.str (mkS (x++[c]))):=by
 rw [zq9,zju (by simp;omega),zj4]
theorem zp7 (xs:List Str):zg2 (xs.map .str)=some xs:=by
 induction xs with
 | nil=>rfl
 | cons x r ih=>simp [zg2,ih]
theorem zyg {s:Str} {xs:List Str} (h:(xs.map (·.length)).sum + xs.length * s.length<=16777216):zry (.str s) (.lst (xs.map .str))=some (.str (Str.join s xs)):=by
 show (zg2 (xs.map PV.str)).bind (fun ys=>if (ys.map (·.length)).sum + ys.length * s.length<=16777216 then some (PV.str (Txt.join s ys)) else none)=_
 rw [zp7,Option.bind_some,if_pos h,zt8]
end PU
namespace MT
open PySem L2 PU
inductive Room where
 | menu (text:Str) (keys:List (Str × Str)) (wrong waits:Int × Str)
 | names (text:Str) (words:List (Str × Str)) (wrong waits:Int × Str)
 | hours (spans:List (Int × Int × Str)) (last:Str)
 | hand (text:Str)
 | fin (text:Str)
structure House where
 first:Str
 letters:List (Str × Str)
 rooms:List (Str × Room)
def pv2 (p:Str × Str):PV:=.tup [.str p.1,.str p.2]
def pvI (p:Int × Str):PV:=.tup [.int p.1,.str p.2]
def pv3 (p:Int × Int × Str):PV:=.tup [.int p.1,.int p.2.1,.str p.2.2]
def Room.pv:Room->PV
 | .menu t ks wr wa=>.tup [.str "menu",.str t,.tup (ks.map pv2),pvI wr,pvI wa]
 | .names t ks wr wa=>.tup [.str "names",.str t,.tup (ks.map pv2),pvI wr,pvI wa]
 | .hours sp l=>.tup [.str "hours",.tup (sp.map pv3),.str l]
 | .hand t=>.tup [.str "hand",.str t]
 | .fin t=>.tup [.str "end",.str t]
def zaj (rs:List (Str × Room)):PV:=.dct (rs.map fun r=>.inr r.1) (rs.map fun r=>r.2.pv)
def House.pv (h:House):PV:=.dct [.inr "first",.inr "letters",.inr "rooms"] [.str h.first,.lst (h.letters.map pv2),zaj h.rooms]
def num (i:Int):Str:=toString i
abbrev sp:Str:=" "
def zva (kind name:Str) (wr wa:Int × Str) (t:Str):Str:=kind++(sp++(name++(sp++(num wr.1++(sp++(wr.2++(sp++(num wa.1++(sp++(wa.2++(sp++t)))))))))))
def row3 (a b c:Str):Str:=a++(sp++(b++(sp++c)))
def row4 (a b c d:Str):Str:=a++(sp++(b++(sp++(c++(sp++d)))))
def zti (name:Str):Room->List Str
 | .menu t ks wr wa=>zva "menu" name wr wa t::ks.map fun k=>row3 "key" k.1 k.2
 | .names t ks wr wa=>zva "names" name wr wa t::ks.map fun k=>row3 "name" k.1 k.2
 | .hours sp l=>row3 "hours" name l::sp.map fun s=>row4 "from" (num s.1) (num s.2.1) s.2.2
 | .hand t=>[row3 "hand" name t]
 | .fin t=>[row3 "end" name t]
def House.rows (h:House):List Str:=("first"++(sp++h.first):Str)::(h.letters.map (fun l=>row3 "letters" l.1 l.2)++h.rooms.flatMap fun r=>zti r.1 r.2)
def House.text (h:House):Str:=Str.join "\n" h.rows
structure LimOk (p:Int × Str):Prop where
 lo:1<=p.1
 hi:p.1<=9
 nm:p.2.length<=12
def RoomOk:Room->Prop
 | .menu t ks wr wa=>t.length<=80/\ks.length<=12/\(∀ k∈ks,k.1.length<=12/\k.2.length<=12)/\LimOk wr/\LimOk wa
 | .names t ks wr wa=>t.length<=80/\ks.length<=12/\(∀ k∈ks,k.1.length<=12/\k.2.length<=12)/\LimOk wr/\LimOk wa
 | .hours sp l=>sp.length<=12/\(∀ s∈sp,0<=s.1/\s.1<=24/\0<=s.2.1/\s.2.1<=24/\s.2.2.length<=12)/\l.length<=12
 | .hand t=>t.length<=80
 | .fin t=>t.length<=80
structure HouseOk (h:House):Prop where
 first:h.first.length<=12
 nlet:h.letters.length<=12
 lets:∀ l∈h.letters,l.1.length<=12/\l.2.length<=30
 nrooms:h.rooms.length<=12
 rooms:∀ r∈h.rooms,r.1.length<=12/\RoomOk r.2
 nd:(h.rooms.map (·.1)).Nodup
end MT
end
section
namespace PU
open PySem L2
def chZ (fc:PSt->R PV) (g':PV->PV->Option PV) (ρ:PSt) (q:PV):PV->R PV
 | .bl true=>bndK (opP g' q) (fc ρ)
 | .bl false=>.ok (.bl false)
 | _=>.no
def chQ (fc:PSt->R PV) (g g':PV->PV->Option PV) (ρ:PSt) (p q:PV):R PV:=bndK (chZ fc g' ρ q) (R.ofO (g p q))
@[simp] theorem k_chT (fc:PSt->R PV) (g':PV->PV->Option PV) (ρ:PSt) (q:PV):chZ fc g' ρ q (.bl true)=bndK (opP g' q) (fc ρ):=by unfold chZ;exact Eq.refl _
@[simp] theorem k_chF (fc:PSt->R PV) (g':PV->PV->Option PV) (ρ:PSt) (q:PV):chZ fc g' ρ q (.bl false)=.ok (.bl false):=by unfold chZ;exact Eq.refl _
@[simp] theorem k_chQ (fc:PSt->R PV) (g g':PV->PV->Option PV) (ρ:PSt) (p q:PV):chQ fc g g' ρ p q=bndK (chZ fc g' ρ q) (R.ofO (g p q)):=by unfold chQ;exact Eq.refl _
@[simp] theorem x_chain2 {fa fb fc:PSt->R PV} {g g':PV->PV->Option PV} {ρ:PSt}:chain2 fa fb fc g g' ρ=twoK (chQ fc g g' ρ) (fa ρ) (fb ρ):=by
 unfold chain2
 cases fa ρ with
 | ok p =>
  cases fb ρ with
  | ok q =>
   simp only [R.ok_bind,zrm,k_chQ]
   cases g p q with
   | none=>rfl
   | some z =>
    simp only [R.ofO_some,R.ok_bind,ziy]
    cases z with
    | bl b =>
     cases b with
     | true =>
      rw [k_chT]
      cases fc ρ <;> rfl
     | false=>rfl
    | _=>rfl
  | _=>rfl
 | _=>cases fb ρ <;> rfl
theorem zo7 {α:Type} (f:α->PV) (xs:List α) (lo hi:Option Int):cutP (xs.map f) lo hi=(cutP xs lo hi).map f:=by simp [cutP]
theorem zfd {α:Type} {enc:α->PV} {h:Tgt} {t:PSt->R Bool} {fe:PSt->R PV} {ρ:PSt} (P:α->Bool) (F:α->PV):∀ (xs:List α),
  (∀ x∈xs,∃ ρ1,h (enc x) ρ=some ρ1/\t ρ1=.ok (P x)/\(P x=true->fe ρ1=.ok (F x)))->zeh h t fe ρ (xs.map enc)=.ok ((xs.filter P).map F)
 | [],_=>rfl
 | x::xs,hs=>by
  obtain ⟨ρ1,e1,e2,e3⟩:=hs x (List.mem_cons_self ..)
  have ih:=zfd P F xs fun y hy=>hs y (List.mem_cons_of_mem _ hy)
  rw [List.map_cons]
  unfold zeh
  rw [e1]
  simp only [R.ofO_some,R.ok_bind,e2]
  cases hp:P x with
  | true =>
   rw [if_pos rfl,e3 hp,List.filter_cons_of_pos hp,List.map_cons]
   simp only [R.ok_bind,ih]
  | false =>
   rw [if_neg Bool.false_ne_true,List.filter_cons_of_neg (by rw [hp];exact Bool.false_ne_true)]
   exact ih
theorem zib {α:Type} {enc:α->PV} {h:Tgt} {g:PSt->R Fl} (P:α->Bool) (F:α->PV) (I:PSt->Prop)
  (hs:∀ (x:α) (ρ:PSt),I ρ->∃ ρ1,h (enc x) ρ=some ρ1/\(P x=true->g ρ1=.ok (.ret (F x)))/\(P x=false->∃ ρ2,g ρ1=.ok (.next ρ2)/\I ρ2)) :
  ∀ (xs:List α) (ρ:PSt),I ρ->(∀ x,xs.find? P=some x->forF h g (xs.map enc) ρ=.ok (.ret (F x)))/\(xs.find? P=none->∃ ρ',forF h g (xs.map enc) ρ=.ok (.next ρ')/\I ρ')
 | [],ρ,h0=>⟨fun x e=>(by cases e),fun _=>⟨ρ,rfl,h0⟩⟩
 | x::xs,ρ,h0=>by
  obtain ⟨ρ1,e1,e2,e3⟩:=hs x ρ h0
  cases hp:P x with
  | true =>
   rw [List.find?_cons_of_pos hp]
   refine ⟨fun y e=>?_,fun e=>by cases e⟩
   cases e
   rw [List.map_cons]
   unfold forF
   rw [e1]
   simp only [R.ofO_some,R.ok_bind,e2 hp]
  | false =>
   obtain ⟨ρ2,e4,i2⟩:=e3 hp
   obtain ⟨k1,k2⟩:=zib P F I hs xs ρ2 i2
   rw [List.find?_cons_of_neg (by rw [hp];exact Bool.false_ne_true)]
   have e5:forF h g ((x::xs).map enc) ρ=forF h g (xs.map enc) ρ2:=by
    rw [List.map_cons]
    conv=>lhs;unfold forF
    rw [e1]
    simp only [R.ofO_some,R.ok_bind,e4]
   rw [e5]
   exact ⟨k1,k2⟩
theorem zuy {t:PSt->R Bool} {g:PSt->R Fl} (I:Nat->PSt->Prop) (D:PSt->Prop)
  (hs:∀ (m:Nat) (ρ:PSt),I m ρ->(t ρ=.ok false/\D ρ)\/(t ρ=.ok true/\∃ k ρ',k < m/\(g ρ=.ok (.next ρ')\/g ρ=.ok (.cont ρ'))/\I k ρ')\/(t ρ=.ok true/\∃ ρ',g ρ=.ok (.brk ρ')/\D ρ')) :
  ∀ (n m:Nat) (ρ:PSt),m < n->I m ρ->∃ ρ',whF t g n ρ=.ok (.next ρ')/\D ρ'
 | 0,m,ρ,h,_=>absurd h (Nat.not_lt_zero _)
 | n + 1,m,ρ,h,i=>by
  unfold whF
  rcases hs m ρ i with ⟨e,d⟩ | ⟨e,k,ρ',hk,e2,i2⟩ | ⟨e,ρ',e2,d⟩
  ·refine ⟨ρ,?_,d⟩
   rw [e]
   rfl
  ·obtain ⟨ρ2,e3,d⟩:=zuy I D hs n k ρ' (by omega) i2
   refine ⟨ρ2,?_,d⟩
   rw [e,R.ok_bind,if_pos rfl]
   rcases e2 with e2 | e2
   ·rw [e2,R.ok_bind]
    exact e3
   ·rw [e2,R.ok_bind]
    exact e3
  ·refine ⟨ρ',?_,d⟩
   rw [e,R.ok_bind,if_pos rfl,e2]
   rfl
@[simp] theorem x_whS {n:Nat} {t:PSt->R Bool} {g:PSt->R Fl} {ρ:PSt}:whS n t g ρ=whF t g n ρ:=by unfold whS;exact Eq.refl _
def mdK (fe:PSt->R PV) (g:PV->PV->Option PV) (ρ:PSt) (p:PV):R PV:=if zrp p=true then bndK (opP g p) (fe ρ) else .no
end PU
end
section
namespace WO
open PySem L2 PU MT
def sg (c:Nat):PV:=.str ⟨#[c]⟩
theorem zte (l:List Nat):zgo (mkS l)=l.map sg:=by unfold zgo sg;rw [zgu]
theorem it_mk (l:List Nat):zfi (.str (mkS l))=some (l.map sg):=by rw [← zte];unfold zfi;exact Eq.refl _
theorem in_one (c:Nat) (l:List Nat):gIn (sg c) (.str (mkS l))=some (.bl (decide (c∈l))):=by
 show some (PV.bl (inS ⟨#[c]⟩ (mkS l)))=_
 have e:=PySem.StrLaws.found_one (mkS l) c
 rw [zgu] at e
 unfold inS
 rw [e]
def keyPv (o:Option Nat):PV:=match o with
 | some k=>sg k
 | none=>.non
def codePv (o:Option (List Nat)):PV:=match o with
 | some c=>.str (mkS c)
 | none=>.non
abbrev Lts:=List (Nat × List Nat)
def ltPv (ls:Lts):PV:=.lst (ls.map fun l=>.tup [sg l.1,.str (mkS l.2)])
def keyL (ls:Lts) (c:Nat):Option Nat:=(ls.find? fun l=>decide (c∈l.2)).map (·.1)
def codeL (ls:Lts) (x:List Nat):Option (List Nat):=if x.all (fun c=>(keyL ls c).isSome)=true then some (x.map fun c=>(keyL ls c).getD 0) else none
theorem zro:∀ l:List Nat,Str.join "" (l.map fun c=>(⟨#[c]⟩:Str))=mkS l
 | []=>by rw [← zd3];rfl
 | [a]=>rfl
 | a::b::r=>by
  have ih:=zro (b::r)
  have e:Str.join "" (((a::b::r:List Nat)).map fun c=>(⟨#[c]⟩:Str))=(⟨#[a]⟩:Str)++""++Str.join "" ((b::r).map fun c=>(⟨#[c]⟩:Str)):=rfl
  rw [e,ih,zq9,zd3,zj4,zj4]
  rfl
theorem joinV (l:List Nat) (h:l.length<=1000):zry (.str "") (.lst (l.map sg))=some (.str (mkS l)):=by
 have e:l.map sg=(l.map fun c=>(⟨#[c]⟩:Str)).map PV.str:=by rw [List.map_map];rfl
 rw [e,zyg,zro]
 rw [List.map_map]
 have:(List.map ((fun x=>x.length) ∘ fun c=>({ cps:=#[c] }:Str)) l)=l.map fun _=>1:=rfl
 rw [this]
 have:("":Str).length=0:=by decide +kernel
 have h2:∀ l:List Nat,(l.map fun _=>1).sum=l.length:=fun l=>by
  induction l with
  | nil=>rfl
  | cons a r ih=>simp only [List.map_cons,List.sum_cons,ih,List.length_cons];omega
 rw [h2,this]
 omega
theorem zkk (ls:Lts) (x:List Nat):(x.map fun c=>keyPv (keyL ls c)).all isSc=true:=by
 rw [List.all_eq_true]
 intro p hp
 obtain ⟨c,_,rfl⟩:=List.mem_map.mp hp
 cases keyL ls c <;> rfl
theorem none_in (ls:Lts) (x:List Nat):gIn .non (.lst (x.map fun c=>keyPv (keyL ls c)))=some (.bl (!x.all fun c=>(keyL ls c).isSome)):=by
 have e:gIn .non (.lst (x.map fun c=>keyPv (keyL ls c)))=if isSc .non=true/\(x.map fun c=>keyPv (keyL ls c)).all isSc=true then some (.bl (inV (scV .non) ((x.map fun c=>keyPv (keyL ls c)).map scV))) else none:=rfl
 rw [e,if_pos ⟨rfl,zkk ls x⟩]
 congr 2
 clear e
 induction x with
 | nil=>rfl
 | cons c r ih =>
  simp only [List.map_cons,List.all_cons,Bool.not_and,inV,List.any_cons]
  rw [← ih]
  unfold inV
  cases keyL ls c <;> simp [keyPv,sg,scV,eqV]
theorem in_list_comp {α:Type} {enc:α->PV} {h:Tgt} {fe:PSt->R PV} {ρ:PSt} (F:α->PV) (xs:List α)
  (hs:∀ x∈xs,∃ ρ1,h (enc x) ρ=some ρ1/\fe ρ1=.ok (F x)):zeh h yesB fe ρ (xs.map enc)=.ok (xs.map F):=by
 have e:=zfd (t:=yesB) (fun _=>true) F xs fun x hx=>by
  obtain ⟨ρ1,a,b⟩:=hs x hx
  exact ⟨ρ1,a,zx1,fun _=>b⟩
 rw [List.filter_eq_self.mpr (fun _ _=>rfl)] at e
 exact e
end WO
end
section
namespace PU
open PySem
section
variable {p : PV} {l : Sl} {ρ : PSt} {i : Nat}
def extQ (i:Nat) (ρ:PSt) (p:PV):R PSt:=match ρ[i]? with
 | some (.own (.lst ps))=>(match p with
  | .lst qs=>if ps.length + qs.length<=16777216 then .ok (ρ.set i (.own (.lst (ps++qs)))) else .no
  | _=>.no)
 | _=>.no
def extZ (i:Nat) (ρ:PSt) (p:PV):R Fl:=mapK .next (extQ i ρ p)
def extC (b:Bool) (i:Nat) (ρ:PSt) (r:R PV):R Fl:=if b=true then bndK (extZ i ρ) r else .no
end
theorem zr5 {α β:Type} {f:α->List β} {b:Nat}:∀ {l:List α},(∀ x∈l,(f x).length<=b)->(l.flatMap f).length<=l.length * b
 | [],_=>by simp
 | a::l,h=>by
  have:=zr5 (l:=l) fun x hx=>h x (List.mem_cons_of_mem _ hx)
  have h1:=h a (List.mem_cons_self ..)
  simp only [List.flatMap_cons,List.length_append,List.length_cons,Nat.succ_mul]
  omega
end PU
namespace FA
open PySem L2 PU MT
@[simp] theorem ztl:(Str.ofString "menu"=Str.ofString "names")=False:=by decide +kernel
@[simp] theorem ztm:(Str.ofString "menu"=Str.ofString "hours")=False:=by decide +kernel
@[simp] theorem zu1:(Str.ofString "menu"=Str.ofString "hand")=False:=by decide +kernel
@[simp] theorem zv9:(Str.ofString "menu"=Str.ofString "end")=False:=by decide +kernel
@[simp] theorem ztj:(Str.ofString "names"=Str.ofString "menu")=False:=by decide +kernel
@[simp] theorem zs0:(Str.ofString "names"=Str.ofString "hours")=False:=by decide +kernel
@[simp] theorem ztk:(Str.ofString "names"=Str.ofString "hand")=False:=by decide +kernel
@[simp] theorem zu0:(Str.ofString "names"=Str.ofString "end")=False:=by decide +kernel
@[simp] theorem ztn:(Str.ofString "hours"=Str.ofString "menu")=False:=by decide +kernel
@[simp] theorem zs1:(Str.ofString "hours"=Str.ofString "names")=False:=by decide +kernel
@[simp] theorem zu2:(Str.ofString "hand"=Str.ofString "menu")=False:=by decide +kernel
@[simp] theorem zto:(Str.ofString "hand"=Str.ofString "names")=False:=by decide +kernel
@[simp] theorem ztp:(Str.ofString "hand"=Str.ofString "hours")=False:=by decide +kernel
@[simp] theorem zwa:(Str.ofString "hand"=Str.ofString "end")=False:=by decide +kernel
@[simp] theorem zwb:(Str.ofString "end"=Str.ofString "menu")=False:=by decide +kernel
@[simp] theorem zu3:(Str.ofString "end"=Str.ofString "names")=False:=by decide +kernel
@[simp] theorem zu4:(Str.ofString "end"=Str.ofString "hours")=False:=by decide +kernel
@[simp] theorem zwc:(Str.ofString "end"=Str.ofString "hand")=False:=by decide +kernel
@[simp] theorem zqa:(Str.ofString "first"=Str.ofString "letters")=False:=by decide +kernel
@[simp] theorem zs2:(Str.ofString "first"=Str.ofString "rooms")=False:=by decide +kernel
@[simp] theorem zp9:(Str.ofString "letters"=Str.ofString "rooms")=False:=by decide +kernel
def holds (hour:Int) (s:Int × Int × Str):Bool:=decide (s.1<=hour) && decide (hour < s.2.1)
def handOf (spans:List (Int × Int × Str)) (last:Str) (hour:Int):Str:=match spans.find? (holds hour) with
 | some s=>s.2.2
 | none=>last
def targets:Room->List Str
 | .menu _ ks wr wa=>wr.2::wa.2::ks.map (·.2)
 | .names _ ks wr wa=>wr.2::wa.2::ks.map (·.2)
 | .hours sp l=>l::sp.map (·.2.2)
 | .hand _=>[]
 | .fin _=>[]
abbrev Rooms:=List (Str × Room)
def lookR (rs:Rooms) (n:Str):Option Room:=(rs.find? fun r=>decide (r.1=n)).map (·.2)
def names (rs:Rooms):List Str:=rs.map (·.1)
theorem zk1 (n:Str):∀ rs:Rooms,zca (rs.map fun r=>.inr r.1) (rs.map fun r=>r.2.pv) (.inr n)=(lookR rs n).map Room.pv
 | []=>rfl
 | r::rs=>by
  have ih:=zk1 n rs
  unfold lookR at ih ⊢
  by_cases h:r.1=n
  ·simp [h]
  ·simp only [List.map_cons,zi7]
   rw [if_neg (by simpa using h),List.find?_cons_of_neg (by simpa using h)]
   exact ih
theorem ix_rooms (rs:Rooms) (n:Str):gIx (zaj rs) (.str n)=(lookR rs n).map Room.pv:=zk1 n rs
theorem look_some (rs:Rooms) (n:Str) (h:n∈names rs):∃ r,lookR rs n=some r:=by
 unfold lookR
 cases e:rs.find? fun r=>decide (r.1=n) with
 | some r=>exact ⟨_,rfl⟩
 | none =>
  obtain ⟨r,hr,e2⟩:=List.mem_map.mp h
  exact absurd (List.find?_eq_none.mp e r hr) (by simpa using e2)
def rmPv (r:Str × Room):PV:=.tup [.str r.1,r.2.pv]
theorem keys_rooms (rs:Rooms):zfi (zaj rs)=some ((names rs).map .str):=by
 have e:zfi (zaj rs)=some ((rs.map fun r=>(Sum.inr r.1:Key)).map keyP):=rfl
 rw [e,List.map_map]
 unfold names
 rw [List.map_map]
 rfl
def lost (h:House):List PV:=((((Str.ofString "",h.first)::h.rooms.flatMap fun r=>(targets r.2).map fun t=>(r.1,t)).filter fun t=>!decide (t.2=Str.ofString "back") && !decide (t.2∈names h.rooms))).map fun t=>.tup [.str "lost",.str t.1,.str t.2]
def goR (rs:Rooms) (hour:Int) (name:Str):Nat->Str->Option Bool
 | 0,_=>none
 | n + 1,come=>match lookR rs come with
  | some (.hours sp l)=>if handOf sp l hour=name then some true else goR rs hour name n (handOf sp l hour)
  | _=>some false
def inRing (rs:Rooms) (hour:Int) (name:Str):Bool:=(goR rs hour name rs.length name).getD false
def zv6 (rs:Rooms) (hour:Nat):List PV:=((names rs).filter (inRing rs hour)).map fun n=>.tup [.str "ring",.int hour,.str n]
def zv5 (rs:Rooms):List PV:=(List.range 24).flatMap (zv6 rs)
end FA
end
section
namespace FA
open PySem L2 PU MT
def cdPv (o:Option Str):PV:=match o with
 | some k=>.str k
 | none=>.non
def keyS (ls:List (Str × Str)) (c:Nat):Option Str:=(ls.find? fun l=>decide (c∈l.2.cps.toList)).map (·.1)
def codeS (ls:List (Str × Str)) (w:Str):Option Str:=if w.cps.toList.all (fun c=>(keyS ls c).isSome)=true then some (Str.join "" (w.cps.toList.map fun c=>(keyS ls c).getD "")) else none
def coded (ls:List (Str × Str)):Room->List (Str × Option Str)
 | .names _ ks _ _=>ks.map fun k=>(k.1,codeS ls k.1)
 | _=>[]
def cdP (p:Str × Option Str):PV:=.tup [.str p.1,cdPv p.2]
def among:List (Str × Option Str)->List (Str × Str)
 | []=>[]
 | x::r=>((r.filter fun y=>decide (y.2=x.2)).map fun y=>(x.1,y.1))++among r
def zre (ls:List (Str × Str)) (r:Str × Room):List PV:=((coded ls r.2).filter (·.2.isNone)).map fun w=>.tup [.str "letter",.str r.1,.str w.1]
def zrd (h:House):List PV:=h.rooms.flatMap (zre h.letters)
def zvu (ls:List (Str × Str)) (r:Str × Room):List PV:=(among ((coded ls r.2).filter (·.2.isSome))).map fun p=>.tup [.str "twins",.str r.1,.str p.1,.str p.2]
def zvt (h:House):List PV:=h.rooms.flatMap (zvu h.letters)
def faultsOf (h:House):List PV:=lost h++zrd h++zvt h++zv5 h.rooms
theorem cut_from {α:Type} (xs:List α) (i:Nat) (h:i < xs.length):cutP xs (some ((i:Int) + 1)) none=xs.drop (i + 1):=by
 unfold cutP HT.sIx
 simp
 have e1:¬ ((i:Int) + 1 < 0):=by omega
 have e2:((i:Int) + 1).toNat=i + 1:=by omega
 try simp [e1,e2]
 try rw [Nat.min_eq_left (by omega)]
 try exact List.take_of_length_le (by simp)
end FA
end
section
namespace MT
open PySem L2 PU
mutual
def flat:PV->Bool
 | .tup ps=>flats ps
 | .lst ps=>flats ps
 | .dct _ _=>false
 | .dtt _ _=>false
 | _=>true
def flats:List PV->Bool
 | []=>true
 | p::ps=>flat p && flats ps
end
mutual
theorem zlq:∀ (p:PV),flat p=true->peqO p p=some true
 | .non,_=>by simp [peqO]
 | .bl _,_=>by simp [peqO]
 | .int _,_=>by simp [peqO]
 | .str _,_=>by simp [peqO]
 | .tup ps,h=>by
  simp only [peqO]
  exact zfv ps (by simpa [flat] using h)
 | .lst ps,h=>by
  simp only [peqO]
  exact zfv ps (by simpa [flat] using h)
 | .dct _ _,h=>by simp [flat] at h
 | .dtt _ _,h=>by simp [flat] at h
theorem zfv:∀ (ps:List PV),flats ps=true->zd9 ps ps=some true
 | [],_=>by simp [zd9]
 | p::ps,h=>by
  simp only [flats,Bool.and_eq_true] at h
  simp only [zd9,zlq p h.1,zfv ps h.2,Option.bind_some,Bool.and_self]
end
theorem zic {α:Type} (f:α->PV) (h:∀ x,flat (f x)=true):∀ (xs:List α),flats (xs.map f)=true
 | []=>rfl
 | x::xs=>by
  rw [List.map_cons]
  simp only [flats,h x,zic f h xs,Bool.and_self]
theorem zo0 (p:Str × Str):flat (pv2 p)=true:=by simp [pv2,flat,flats]
theorem zug (p:Int × Int × Str):flat (pv3 p)=true:=by simp [pv3,flat,flats]
theorem zr4 (r:Room):flat r.pv=true:=by
 cases r <;> simp [Room.pv,flat,flats,pvI,zic pv2 zo0,zic pv3 zug]
theorem zgt {α:Type} (f:α->PV) (n:Nat) (h:∀ x,pdep (f x)<=n):∀ (xs:List α),pdeps (xs.map f)<=n
 | []=>by simp [pdeps]
 | x::xs=>by
  rw [List.map_cons]
  simp only [pdeps]
  have:=h x
  have:=zgt f n h xs
  omega
theorem zok (p:Str × Str):pdep (pv2 p)<=1:=by simp [pv2,pdep,pdeps]
theorem ztx (p:Int × Int × Str):pdep (pv3 p)<=1:=by simp [pv3,pdep,pdeps]
theorem zq1 (r:Room):pdep r.pv<=3:=by
 have h2:=fun ks=>zgt pv2 1 zok ks
 have h3:=fun ks=>zgt pv3 1 ztx ks
 cases r with
 | menu t ks wr wa=>have:=h2 ks;simp [Room.pv,pdep,pdeps,pvI];omega
 | names t ks wr wa=>have:=h2 ks;simp [Room.pv,pdep,pdeps,pvI];omega
 | hours spans l=>have:=h3 spans;simp [Room.pv,pdep,pdeps];omega
 | hand t=>simp [Room.pv,pdep,pdeps]
 | fin t=>simp [Room.pv,pdep,pdeps]
theorem zou {k:Key} {r:PV}:∀ (ks:List Key) (ps:List PV),ks.length=ps.length->k ∉ ks->∀ (ls:List Key) (qs:List PV),zca (ks++k::ls) (ps++r::qs) k=some r
 | [],[],_,_,ls,qs=>by simp
 | j::ks,p::ps,hl,hn,ls,qs=>by
  simp only [List.cons_append,zi7]
  rw [if_neg (fun e=>hn (by rw [e];exact List.mem_cons_self))]
  exact zou ks ps (by simpa using hl) (fun h=>hn (List.mem_cons_of_mem _ h)) ls qs
 | [],_::_,h,_,_,_=>by simp at h
 | _::_,[],h,_,_,_=>by simp at h
theorem zj7 (e:PV->PV->Option Bool):∀ (ks₀ ks:List Key) (ps₀ ps:List PV),ks₀.length=ps₀.length->ks.length=ps.length->(ks₀++ks).Nodup->(∀ p∈ps,e p p=some true)->zh9 e ks ps (ks₀++ks) (ps₀++ps)=some true
 | _,[],_,[],_,_,_,_=>by simp [zh9]
 | ks₀,k::ks,ps₀,p::ps,h0,hl,hn,he=>by
  have hk:k ∉ ks₀:=fun h=>by
   rw [List.nodup_append] at hn
   exact hn.2.2 k h k List.mem_cons_self rfl
  have:=zj7 e (ks₀++[k]) ks (ps₀++[p]) ps (by simp [h0]) (by simpa using hl) (by simpa using hn) fun q hq=>he q (List.mem_cons_of_mem _ hq)
  simp only [List.append_assoc,List.cons_append,List.nil_append] at this
  unfold zh9
  rw [zou ks₀ ps₀ h0 hk ks ps]
  simp only [he p List.mem_cons_self,Option.bind_some,this,Bool.and_self]
 | _,[],_,_::_,_,h,_,_=>by simp at h
 | _,_::_,_,[],_,h,_,_=>by simp at h
theorem zpu {rs:List (Str × Room)} (h:(rs.map (·.1)).Nodup):(rs.map fun r=>(Sum.inr r.1:Key)).Nodup:=by
 have:(rs.map fun r=>(Sum.inr r.1:Key))=(rs.map (·.1)).map Sum.inr:=by simp
 rw [this]
 exact List.Pairwise.map _ (fun a b hab e=>hab (Sum.inr.inj e)) h
theorem zpo (rs:List (Str × Room)) (h:(rs.map (·.1)).Nodup):peqN 2 (zaj rs) (zaj rs)=some true:=by
 unfold zaj peqN
 rw [if_pos rfl]
 refine zj7 (peqN 1) [] _ [] _ rfl (by simp) (zpu h) fun p hp=>?_
 obtain ⟨r,_,rfl⟩:=List.mem_map.mp hp
 have h1:=zr4 r.2
 cases e:r.2.pv with
 | dct ks ps=>rw [e] at h1;simp [flat] at h1
 | _=>rw [← e];rw [show peqN 1 r.2.pv r.2.pv=peqO r.2.pv r.2.pv by rw [e];rfl];exact zlq _ h1
theorem zpx (h:House) (nd:(h.rooms.map (·.1)).Nodup):gEq h.pv h.pv=some (.bl true):=by
 have hd:pdeps [.str h.first,.lst (h.letters.map pv2),zaj h.rooms]<=60:=by
  have:=zgt pv2 1 zok h.letters
  have:=zgt (fun r:Str × Room=>r.2.pv) 3 (fun r=>zq1 r.2) h.rooms
  simp only [pdeps,pdep,zaj]
  omega
 show (if pdeps [.str h.first,.lst (h.letters.map pv2),zaj h.rooms]<=60 then (peqN 3 h.pv h.pv).map PV.bl else none)=_
 rw [if_pos hd]
 have:peqN 3 h.pv h.pv=some true:=by
  unfold House.pv peqN
  rw [if_pos rfl]
  refine zj7 (peqN 2) [] _ [] _ rfl rfl (by simp) fun p hp=>?_
  simp only [List.mem_cons,List.not_mem_nil,or_false] at hp
  rcases hp with rfl | rfl | rfl
  ·show peqO _ _=_
   simp [peqO]
  ·show peqO _ _=_
   exact zlq _ (by simp [flat,zic pv2 zo0])
  ·exact zpo _ nd
 rw [this]
 rfl
def putR (rs:List (Str × Room)) (k:Str) (r:Room):List (Str × Room):=if k∈rs.map (·.1) then rs.map (fun x=>if x.1=k then (x.1,r) else x) else rs++[(k,r)]
theorem zgp (rs:List (Str × Room)) (k:Str) (r:Room):putP (rs.map fun r=>.inr r.1) (rs.map fun r=>r.2.pv) (.inr k) r.pv=zaj (putR rs k r):=by
 unfold putP putR
 by_cases h:k∈rs.map (·.1)
 ·rw [if_pos h,if_pos (by
   obtain ⟨x,hx,e⟩:=List.mem_map.mp h
   rw [List.any_eq_true]
   exact ⟨.inr x.1,List.mem_map.mpr ⟨x,hx,rfl⟩,by simp [e]⟩)]
  have e1:(rs.map fun x=>if x.1=k then (x.1,r) else x).map (fun r=>(Sum.inr r.1:Key))=rs.map fun r=>.inr r.1:=by
   rw [List.map_map]
   apply List.map_congr_left
   intro x _
   simp only [Function.comp]
   split <;> rfl
  have e2:zji (rs.map fun r=>.inr r.1) (rs.map fun r=>r.2.pv) (.inr k) r.pv=(rs.map fun x=>if x.1=k then (x.1,r) else x).map fun r=>r.2.pv:=by
   unfold zji
   clear h e1
   induction rs with
   | nil=>rfl
   | cons x rs ih =>
    simp only [List.map_cons,List.zipWith_cons_cons,ih,Sum.inr.injEq]
    congr 1
    split <;> rfl
  unfold zaj
  rw [e1,e2]
 ·rw [if_neg h,if_neg (by
   rw [List.any_eq_true]
   rintro ⟨j,hj,e⟩
   obtain ⟨x,hx,rfl⟩:=List.mem_map.mp hj
   exact h (List.mem_map.mpr ⟨x,hx,by simpa using e⟩))]
  unfold zaj
  simp
theorem zwe {rs:List (Str × Room)} {k:Str} {r:Room} (P:Str × Room->Prop) (h:∀ x∈rs,P x) (hk:∀ x:Str × Room,x.1=k->x.2=r->P x) (nd:(rs.map (·.1)).Nodup) :
  (∀ x∈putR rs k r,P x)/\((putR rs k r).map (·.1)).Nodup/\(putR rs k r).length<=rs.length + 1:=by
 unfold putR
 by_cases hm:k∈rs.map (·.1)
 ·rw [if_pos hm]
  refine ⟨fun x hx=>?_,?_,by simp⟩
  ·obtain ⟨y,hy,e⟩:=List.mem_map.mp hx
   by_cases hyk:y.1=k
   ·rw [if_pos hyk] at e
    subst e
    exact hk _ hyk rfl
   ·rw [if_neg hyk] at e
    subst e
    exact h _ hy
  ·rw [List.map_map]
   have:(rs.map ((fun x=>x.1) ∘ fun x=>if x.1=k then (x.1,r) else x))=rs.map (·.1):=by
    apply List.map_congr_left
    intro x _
    simp only [Function.comp]
    split <;> rfl
   rw [this]
   exact nd
 ·rw [if_neg hm]
  refine ⟨fun x hx=>?_,?_,by simp⟩
  ·rcases List.mem_append.mp hx with hx | hx
   ·exact h x hx
   ·have:x=(k,r):=by simpa using hx
    subst this
    exact hk _ rfl rfl
  ·rw [List.map_append,List.nodup_append]
   refine ⟨nd,by simp,fun a ha b hb e=>?_⟩
   have:b=k:=by simpa using hb
   subst this
   subst e
   exact hm ha
end MT
end
section
namespace NM
open PySem L2 PU MT
def c24:List Nat:=[97,99,100,101,102,103,104,105,106,108,109,110,111,112,113,114,115,116,117,118,119,120,121,122]
def nmSize (n:Int):Nat:=(1 + n % 8).toNat
def nmAt (n:Int):Int:=n / 8 % (1 + n % 8)
def nmSign (n:Int) (t k:Nat):Nat:=c24.getD ((n / ((k:Int) + 2) + (t:Int) * (if (k:Int)=nmAt n then 1 else 0)) % 24).toNat 0
def zww (n:Int) (t i:Nat):List Nat:=(List.range i).map (nmSign n t)
def nm (n:Int) (t:Nat):Str:=mkS (zww n t (nmSize n))
theorem zpc (nms:List Str) (z:Int) (h:0 < nms.length):∃ x∈nms,atI (nms.map PV.str) (z % (nms.length:Int))=some (.str x):=by
 have h0:0<=z % (nms.length:Int):=Int.emod_nonneg _ (by omega)
 have h1:z % (nms.length:Int) < nms.length:=Int.emod_lt_of_pos _ (by omega)
 have h2:(z % (nms.length:Int)).toNat < nms.length:=by omega
 refine ⟨nms[(z % (nms.length:Int)).toNat],List.getElem_mem h2,za6 (n:=(z % (nms.length:Int)).toNat) (by omega) ?_⟩
 rw [List.getElem?_map,List.getElem?_eq_getElem h2]
 rfl
def zvo (nms:List Str) (s:Int × Int × Str):Prop:=0<=s.1/\s.1<=24/\0<=s.2.1/\s.2.1<=24/\s.2.2∈nms
theorem at_i (ss:List Str) (i:Nat) (hi:i < ss.length):atI (ss.map PV.str) (i:Int)=some (.str ss[i]):=za6 rfl (by
 rw [List.getElem?_map,List.getElem?_eq_getElem hi]
 rfl)
end NM
end
section
namespace NM
open PySem L2 PU MT
theorem zrs (x:Str) (l:List Str):gIn (.str x) (.lst (l.map .str))=some (.bl (decide (x∈l))):=by
 have e:gIn (.str x) (.lst (l.map .str))=if isSc (.str x)=true/\(l.map PV.str).all isSc=true then some (.bl (inV (scV (.str x)) ((l.map PV.str).map scV))) else none:=rfl
 rw [e,if_pos ⟨rfl,by simp [isSc]⟩]
 congr 2
 unfold inV eqV
 rw [List.map_map,List.any_map]
 induction l with
 | nil=>rfl
 | cons a r ih =>
  have ih:=ih rfl
  rw [List.any_cons,ih]
  by_cases h:x=a
  ·subst h
   simp [scV]
  ·have h2:¬ a=x:=fun z=>h z.symm
   have h3:decide (x∈a::r)=decide (x∈r):=decide_eq_decide.mpr ⟨fun m=>(List.mem_cons.mp m).resolve_left h,List.mem_cons_of_mem _⟩
   rw [h3]
   simp [scV,h2]
theorem zue {ps:List PV} (h:∀ p∈ps,flat p=true):flats ps=true:=by
 induction ps with
 | nil=>rfl
 | cons a r ih=>simp [flats,h a (List.mem_cons_self ..),ih fun p hp=>h p (List.mem_cons_of_mem _ hp)]
theorem ztw {ps:List PV} {n:Nat} (h:∀ p∈ps,pdep p<=n):pdeps ps<=n:=by
 induction ps with
 | nil=>simp [pdeps]
 | cons a r ih =>
  have h1:=h a (List.mem_cons_self ..)
  have h2:=ih fun p hp=>h p (List.mem_cons_of_mem _ hp)
  simp only [pdeps]
  omega
theorem zwy {ps:List PV} (h:∀ p∈ps,flat p=true/\pdep p<=3):gNe (.lst ps) (.lst ps)=some (.bl false):=by
 have e:gNe (.lst ps) (.lst ps)=if pdeps ps<=60 then (zd9 ps ps).map fun b=>.bl (!b) else none:=rfl
 rw [e,if_pos (Nat.le_trans (ztw fun p hp=>(h p hp).2) (by decide)),zfv _ (zue fun p hp=>(h p hp).1)]
 rfl
theorem zgv (rs:FA.Rooms) (k:Str) (r:Room) (x:Str):x∈FA.names (putR rs k r) ↔ x∈FA.names rs\/x=k:=by
 unfold FA.names putR
 by_cases h:k∈rs.map (·.1)
 ·rw [if_pos h,List.map_map]
  have:(rs.map ((fun x=>x.1) ∘ fun x=>if x.1=k then (x.1,r) else x))=rs.map (·.1):=by
   apply List.map_congr_left
   intro x _
   simp only [Function.comp]
   split <;> rfl
  rw [this]
  exact ⟨.inl,fun z=>z.elim id fun e=>e ▸ h⟩
 ·rw [if_neg h]
  simp
end NM
end
section
namespace PU
def revQ:PV->R (List PV)
 | .lst ps=>.ok ps.reverse
 | _=>.no
end PU
namespace NM
open PySem L2 PU MT
def comeGo (rs:FA.Rooms) (hour:Int):Nat->Str->Option Str
 | 0,_=>none
 | n + 1,x=>match FA.lookR rs x with
  | some (.hours sp l)=>comeGo rs hour n (FA.handOf sp l hour)
  | some _=>some x
  | none=>none
theorem znn (rs:FA.Rooms) (n:Str) (r:Room) (h:FA.lookR rs n=some r):(n,r)∈rs:=by
 unfold FA.lookR at h
 cases e:rs.find? fun r=>decide (r.1=n) with
 | none=>rw [e] at h;cases h
 | some q =>
  rw [e] at h
  cases h
  have h1:=List.find?_some e
  have h1:q.1=n:=by simpa using h1
  subst h1
  exact List.mem_of_find?_eq_some e
end NM
end
section
namespace PU
open PySem L2
def slQA (p:PV) (lh:Option Int × Option Int):R PV:=R.ofO (gSlA p lh.1 lh.2)
@[simp] theorem k_slA (p:PV) (a b:Option Int):slQA p (a,b)=R.ofO (gSlA p a b):=by unfold slQA;exact Eq.refl _
@[simp] theorem x_sliceA {f:PSt->R PV} {l h:PSt->R (Option Int)} {ρ:PSt}:ze9 f l h ρ=twoK slQA (f ρ) (twoK zty (l ρ) (h ρ)):=by unfold ze9;cases f ρ <;> cases l ρ <;> cases h ρ <;> rfl
theorem zs8 {x:Str} (lo hi:Option Int) (h:x.length<=16777216):gSlA (.str x) lo hi=some (.str (PySem.Txt.slice x lo hi)):=if_pos h
@[simp] theorem zyb (ps:List PV) (lo hi:Option Int):gSlA (.lst ps) lo hi=some (.lst (cutP ps lo hi)):=rfl
end PU
namespace NM
open PySem L2 PU MT
theorem zb7 (ls:List Int) (k:Nat) (hk:k < ls.length):atI (ls.map PV.int) (k:Int)=some (.int ls[k]):=za6 rfl (by rw [List.getElem?_map,List.getElem?_eq_getElem hk];rfl)
theorem cut_1 {α:Type} (xs:List α) (h:0 < xs.length):cutP xs (some 1) none=xs.drop 1:=FA.cut_from xs 0 h
def dPv (kl vl:List Str):PV:=.dct (kl.map .inr) (vl.map .str)
end NM
end
section
namespace PU
open PySem L2 MT
def zipQ:PV->PV->R (List PV)
 | .lst ps,.lst qs=>if (ps.all zht || qs.all zht)=true then .ok ((zipP ps qs).map .tup) else .no
 | _,_=>.no
@[simp] theorem k_zipQ (ps qs:List PV) (h:(ps.all zht || qs.all zht)=true):zipQ (.lst ps) (.lst qs)=.ok ((zipP ps qs).map .tup):=by unfold zipQ;exact if_pos h
@[simp] theorem zmy {α:Type} (f:α->Str) (l:List α):(l.map fun x=>PV.str (f x)).all zht=true:=by induction l <;> simp_all [zht]
@[simp] theorem x_zipF {f g:PSt->R PV} {ρ:PSt}:zipF f g ρ=twoK zipQ (f ρ) (g ρ):=by
 unfold zipF
 cases f ρ with
 | ok p =>
  cases g ρ with
  | ok q=>rw [R.ok_bind,R.ok_bind,zrm];cases p <;> cases q <;> rfl
  | er x=>rfl
  | no=>rfl
 | er x=>rfl
 | no=>rfl
def md2K (fe fd:PSt->R PV) (g:PV->PV->PV->Option PV) (ρ:PSt) (p:PV):R PV:=if zrp p=true then twoK (fun q y=>R.ofO (g p q y)) (fe ρ) (fd ρ) else .no
@[simp] theorem k_md2K (fe fd:PSt->R PV) (g:PV->PV->PV->Option PV) (ρ:PSt) (ks:List Key) (ps:List PV):md2K fe fd g ρ (.dct ks ps)=twoK (fun q y=>R.ofO (g (.dct ks ps) q y)) (fe ρ) (fd ρ):=by unfold md2K;exact if_pos rfl
@[simp] theorem x_methD2 {fo fe fd:PSt->R PV} {g:PV->PV->PV->Option PV} {ρ:PSt}:zoq fo fe fd g ρ=bndK (md2K fe fd g ρ) (fo ρ):=by
 unfold zoq
 cases fo ρ with
 | ok p =>
  rw [R.ok_bind,ziy]
  unfold md2K
  split
  ·cases fe ρ with
   | ok q=>cases fd ρ <;> rfl
   | er x=>rfl
   | no=>rfl
  ·rfl
 | er x=>rfl
 | no=>rfl
theorem zjm (l:List Nat) (n:Nat):PySem.Txt.slice (mkS l) none (some (n:Int))=mkS (l.take n):=by
 have main:∀ m:Nat,m<=l.length->PySem.Txt.slice (mkS l) none (some (m:Int))=mkS (l.take m):=fun m hm=>by
  have e:=PySem.StrLaws.sliceText_to (x:=mkS l) (j:=m) ⟨by omega,by rw [zgu];omega⟩
  have e2:PySem.Txt.slice (mkS l) none (some (m:Int))=PySem.StrLaws.sliceText (mkS l) none (some (m:Int)):=rfl
  rw [e2,e,zgu]
  have:((m:Int) - 0).toNat=m:=by omega
  rw [this]
  rfl
 by_cases h:n<=l.length
 ·exact main n h
 ·have e:PySem.Txt.slice (mkS l) none (some (n:Int))=PySem.Txt.slice (mkS l) none (some (l.length:Int)):=by
   have e1:Builtin.Str.strSliceIndices none (some (n:Int)) 1 (mkS l).length=Builtin.Str.strSliceIndices none (some (l.length:Int)) 1 (mkS l).length:=by
    rw [zc4]
    unfold Builtin.Str.strSliceIndices
    have a:¬ ((n:Int) < 0):=by omega
    have b:¬ ((l.length:Int) < 0):=by omega
    have c:max (0:Int) (min (n:Int) (l.length:Int))=max 0 (min (l.length:Int) (l.length:Int)):=by omega
    simp only [a,b,if_false,c,show (1:Int) > 0 from by decide,if_true]
   unfold PySem.Txt.slice
   rw [e1]
  rw [e,main l.length (Nat.le_refl _),List.take_length,List.take_of_length_le (by omega)]
end PU
namespace BG
open PySem L2 PU MT
abbrev W:=List Nat
def pre (p c:W):Bool:=p.isPrefixOf c
theorem zfg {p c:W}:pre p c=true ↔ p <+: c:=List.isPrefixOf_iff_prefix
def many (cs:List W) (p:W):Nat:=(cs.filter (pre p)).length
def own (cs:List W) (c:W):W:=match (List.range (c.length - 1)).find? (fun i=>decide (many cs (c.take (i + 1))=1)) with
 | some i=>c.take (i + 1)
 | none=>c
def Code (c:W):Prop:=∃ x:W,c=x++[35]/\35 ∉ x
theorem zo8 {c d:W} (hc:Code c) (hd:Code d) (h:c <+: d):c=d:=by
 obtain ⟨x,rfl,hx⟩:=hc
 obtain ⟨y,rfl,hy⟩:=hd
 obtain ⟨t,e⟩:=h
 cases ht:t.reverse with
 | nil =>
  have:t=[]:=by simpa using ht
  rw [this,List.append_nil] at e
  exact e
 | cons a r =>
  exfalso
  have e1:t=r.reverse++[a]:=by
   have:=congrArg List.reverse ht
   simpa using this
  rw [e1,← List.append_assoc] at e
  have e2:=List.append_inj' e rfl
  exact hy (by rw [← e2.1];simp)
theorem zls (cs:List W) (c:W):own cs c <+: c:=by
 unfold own
 split
 ·exact List.take_prefix _ _
 ·exact List.prefix_refl _
theorem zq4 (cs:List W) (c:W) (h:c≠[]):own cs c≠[]:=by
 unfold own
 split
 ·intro e
  cases c with
  | nil=>exact h rfl
  | cons a r=>simp at e
 ·exact h
theorem zq2 {cs:List W} (hcs:∀ c∈cs,Code c) {c d:W} (hc:c∈cs) (hd:d∈cs) (h:own cs c <+: d):c=d:=by
 unfold own at h
 split at h
 ·rename_i i e
  have h1:many cs (c.take (i + 1))=1:=by simpa using List.find?_some e
  unfold many at h1
  have m1:c∈cs.filter (pre (c.take (i + 1))):=List.mem_filter.mpr ⟨hc,zfg.mpr (List.take_prefix _ _)⟩
  have m2:d∈cs.filter (pre (c.take (i + 1))):=List.mem_filter.mpr ⟨hd,zfg.mpr h⟩
  generalize cs.filter (pre (c.take (i + 1)))=l at h1 m1 m2
  match l,h1,m1,m2 with
  | [a],_,m1,m2=>rw [List.mem_singleton.mp m1,List.mem_singleton.mp m2]
 ·exact zo8 (hcs c hc) (hcs d hd) h
theorem zwj {p q r:W} (hp:p <+: r) (hq:q <+: r):p <+: q\/q <+: p:=by
 rcases Nat.le_total p.length q.length with h | h
 ·exact .inl (List.prefix_of_prefix_length_le hp hq h)
 ·exact .inr (List.prefix_of_prefix_length_le hq hp h)
theorem zq5 {cs:List W} (hcs:∀ c∈cs,Code c) {c d r:W} (hc:c∈cs) (hd:d∈cs) (h1:own cs c <+: r) (h2:own cs d <+: r):c=d:=by
 rcases zwj h1 h2 with h | h
 ·exact zq2 hcs hc hd (List.IsPrefix.trans h (zls cs d))
 ·exact (zq2 hcs hd hc (List.IsPrefix.trans h (zls cs c))).symm
theorem zp0 {α:Type} {l:List α} {P:α->Bool} {x:α} (hd:l.Nodup) (hx:x∈l) (h:∀ y∈l,P y=true ↔ y=x):l.filter P=[x]:=by
 induction l with
 | nil=>cases hx
 | cons a r ih =>
  rw [List.nodup_cons] at hd
  by_cases e:a=x
  ·subst e
   rw [List.filter_cons_of_pos ((h a (List.mem_cons_self ..)).mpr rfl),List.filter_eq_nil_iff.mpr]
   intro y hy hp
   have:=(h y (List.mem_cons_of_mem _ hy)).mp hp
   exact hd.1 (this ▸ hy)
  ·rw [List.filter_cons_of_neg fun hp=>e ((h a (List.mem_cons_self ..)).mp hp)]
   exact ih hd.2 ((List.mem_cons.mp hx).resolve_left fun z=>e z.symm) fun y hy=>h y (List.mem_cons_of_mem _ hy)
def pres (c:W):List W:=(List.range c.length).map fun i=>c.take (i + 1)
theorem zsl {l:List W} {p:W} (nd:l.Nodup) (h:p∈l):l.count p=1:=by
 induction l with
 | nil=>cases h
 | cons a r ih =>
  rw [List.nodup_cons] at nd
  by_cases e:a=p
  ·subst e
   rw [List.count_cons_self,List.count_eq_zero.mpr nd.1]
  ·rw [List.count_cons_of_ne e]
   exact ih nd.2 ((List.mem_cons.mp h).resolve_left fun z=>e z.symm)
theorem zp2 (c p:W):(pres c).count p=if p≠[]/\p <+: c then 1 else 0:=by
 have nd:(pres c).Nodup:=by
  unfold pres List.Nodup
  rw [List.pairwise_map]
  refine List.Pairwise.imp_of_mem (R:=fun a b=>a < b) (fun {a b} ha hb hab e=>?_) List.pairwise_lt_range
  rw [List.mem_range] at ha hb
  have:=congrArg List.length e
  rw [List.length_take,List.length_take] at this
  omega
 by_cases h:p≠[]/\p <+: c
 ·rw [if_pos h]
  refine zsl nd ?_
  unfold pres
  refine List.mem_map.mpr ⟨p.length - 1,List.mem_range.mpr ?_,?_⟩
  ·have:=h.2.length_le
   have:p.length≠0:=fun e=>h.1 (List.length_eq_zero_iff.mp e)
   omega
  ·have:p.length≠0:=fun e=>h.1 (List.length_eq_zero_iff.mp e)
   rw [show p.length - 1 + 1=p.length by omega]
   exact (List.prefix_iff_eq_take.mp h.2).symm
 ·rw [if_neg h]
  refine List.count_eq_zero.mpr fun hm=>h ?_
  unfold pres at hm
  obtain ⟨i,hi,rfl⟩:=List.mem_map.mp hm
  rw [List.mem_range] at hi
  refine ⟨fun e=>?_,List.take_prefix _ _⟩
  have:=congrArg List.length e
  rw [List.length_take,List.length_nil] at this
  omega
theorem zsm (cs:List W) (p:W) (hp:p≠[]):(cs.flatMap pres).count p=many cs p:=by
 induction cs with
 | nil=>rfl
 | cons c r ih =>
  rw [List.flatMap_cons,List.count_append,ih,zp2]
  unfold many
  by_cases h:p <+: c
  ·rw [if_pos ⟨hp,h⟩,List.filter_cons_of_pos (zfg.mpr h),List.length_cons]
   omega
  ·rw [if_neg fun z=>h z.2,List.filter_cons_of_neg fun z=>h (zfg.mp z)]
   omega
structure Cnt (L:List W) (ks:List Key) (ps:List PV):Prop where
 len:ks.length=ps.length
 le:ks.length<=L.length
 at_:∀ p:W,zca ks ps (.inr (mkS p))=if L.count p=0 then none else some (.int (L.count p))
theorem mkS_inj {a b:W} (h:mkS a=mkS b):a=b:=by
 have:=congrArg (fun s:Str=>s.cps.toList) h
 simpa using this
theorem look_put (ks:List Key) (ps:List PV) (k:Key) (v:PV) (hl:ks.length=ps.length):∃ ks' ps',putP ks ps k v=.dct ks' ps'/\ks'.length=ps'.length/\ks'.length<=ks.length + 1/\∀ j,zca ks' ps' j=if k=j then some v else zca ks ps j:=by
 unfold putP
 by_cases hk:(ks.any fun j=>decide (j=k))=true
 ·rw [if_pos hk]
  refine ⟨ks,zji ks ps k v,rfl,by simp [zji,hl],by omega,fun j=>?_⟩
  induction ks generalizing ps with
  | nil=>simp at hk
  | cons a ks ih =>
   cases ps with
   | nil=>simp at hl
   | cons b ps =>
    have hl':ks.length=ps.length:=by simpa using hl
    have e:zji (a::ks) (b::ps) k v=(if a=k then v else b)::zji ks ps k v:=rfl
    rw [e]
    simp only [zi7]
    by_cases haj:a=j
    ·rw [if_pos haj,if_pos haj]
     by_cases hkj:k=j
     ·rw [if_pos (haj.trans hkj.symm),if_pos hkj]
     ·rw [if_neg fun z=>hkj (z.symm.trans haj),if_neg hkj]
    ·rw [if_neg haj,if_neg haj]
     by_cases hk2:(ks.any fun j=>decide (j=k))=true
     ·exact ih ps hl' hk2
     ·have hak:a=k:=by
       rw [List.any_cons] at hk
       simp only [Bool.or_eq_true,decide_eq_true_eq] at hk
       exact hk.resolve_right hk2
      have hkj:¬ k=j:=fun z=>haj (hak.trans z)
      rw [if_neg hkj]
      have:zji ks ps k v=ps:=by
       clear ih hk e hl
       induction ks generalizing ps with
       | nil=>cases ps with
        | nil=>rfl
        | cons=>simp at hl'
       | cons c ks ih =>
        cases ps with
        | nil=>simp at hl'
        | cons d ps =>
         have e:zji (c::ks) (d::ps) k v=(if c=k then v else d)::zji ks ps k v:=rfl
         rw [List.any_cons] at hk2
         simp only [Bool.or_eq_true,decide_eq_true_eq,not_or] at hk2
         rw [e,if_neg hk2.1,ih ps (by simpa using hl') hk2.2]
      rw [this]
 ·rw [if_neg hk]
  refine ⟨ks++[k],ps++[v],rfl,by simp [hl],by simp,fun j=>?_⟩
  induction ks generalizing ps with
  | nil =>
   cases ps with
   | nil=>simp [zca]
   | cons=>simp at hl
  | cons a ks ih =>
   cases ps with
   | nil=>simp at hl
   | cons b ps =>
    rw [List.any_cons] at hk
    simp only [Bool.or_eq_true,decide_eq_true_eq,not_or] at hk
    simp only [List.cons_append,zi7]
    by_cases haj:a=j
    ·rw [if_pos haj,if_pos haj,if_neg fun z=>hk.1 (haj.trans z.symm)]
    ·rw [if_neg haj,if_neg haj]
     exact ih ps (by simpa using hl) hk.2
theorem zxr {L:List W} {ks:List Key} {ps:List PV} (c:Cnt L ks ps) (p:W):∃ ks' ps',putP ks ps (.inr (mkS p)) (.int ((L.count p:Int) + 1))=.dct ks' ps'/\Cnt (L++[p]) ks' ps':=by
 obtain ⟨ks',ps',e,h1,h2,h3⟩:=look_put ks ps (.inr (mkS p)) (.int ((L.count p:Int) + 1)) c.len
 refine ⟨ks',ps',e,h1,by rw [List.length_append,List.length_singleton];have:=c.le;omega,fun q=>?_⟩
 rw [h3,List.count_append]
 by_cases hq:p=q
 ·subst hq
  rw [if_pos rfl,List.count_singleton_self,if_neg (by omega)]
  congr 2
 ·rw [if_neg fun z=>hq (mkS_inj (Sum.inr.inj z)),c.at_ q]
  have:List.count q [p]=0:=List.count_eq_zero.mpr (by simp;exact fun z=>hq z.symm)
  rw [this,Nat.add_zero]
theorem zxs {L:List W} {ks:List Key} {ps:List PV} (c:Cnt L ks ps) (p:W):zpz (.dct ks ps) (.str (mkS p)) (.int 0)=some (.int (L.count p)):=by
 show some ((zca ks ps (.inr (mkS p))).getD (.int 0))=_
 rw [c.at_ p]
 split
 ·rename_i h
  rw [h]
  rfl
 ·rfl
end BG
end
section
namespace PU
def revW:PV->R (List PV)
 | .tup ps=>.ok ps.reverse
 | _=>.no
@[simp] theorem k_revW (ps:List PV):revW (.tup ps)=.ok ps.reverse:=by unfold revW;exact Eq.refl _
@[simp] theorem x_revT {f:PSt->R PV} {ρ:PSt}:revT f ρ=bndK revW (f ρ):=by
 unfold revT
 cases f ρ with
 | ok p=>rw [R.ok_bind,ziy];cases p <;> rfl
 | er x=>rfl
 | no=>rfl
end PU
end
section
namespace NW
open PySem L2 PU MT BG
def wstep (p:W) (o:Option PV) (x:W × Str):Option PV:=if x.1=p then some (.str x.2) else if p≠[]/\p <+: x.1 then some .non else o
def Ways (bs:List (W × Str)) (p:W):Option PV:=bs.foldl (wstep p) none
def hitB (p:W) (x:W × Str):Bool:=decide (p≠[]) && pre p x.1
theorem zg9 {p:W} {x:W × Str}:hitB p x=true ↔ p≠[]/\p <+: x.1:=by simp [hitB,zfg]
theorem zhx (p:W) (hp:p≠[]):∀ (bs:List (W × Str)) (o:Option PV),bs.foldl (wstep p) o=match (bs.filter (hitB p)).getLast? with
  | none=>o
  | some x=>if x.1=p then some (.str x.2) else some .non
 | [],o=>rfl
 | x::bs,o=>by
  rw [List.foldl_cons,zhx p hp bs]
  by_cases h:hitB p x=true
  ·rw [List.filter_cons_of_pos h]
   have h':=(zg9.mp h)
   have e:wstep p o x=if x.1=p then some (.str x.2) else some .non:=by
    unfold wstep
    rw [if_pos h']
   cases hl:bs.filter (hitB p) with
   | nil=>simp only [List.getLast?_nil,List.getLast?_singleton];exact e
   | cons a r =>
    rw [List.getLast?_cons_cons]
    cases hg:(a::r).getLast? with
    | none=>simp at hg
    | some y=>rfl
  ·rw [List.filter_cons_of_neg h]
   have h':¬ (p≠[]/\p <+: x.1):=fun z=>h (zg9.mpr z)
   have e:wstep p o x=o:=by
    unfold wstep
    rw [if_neg h',if_neg fun e=>h' ⟨hp,by rw [e];exact List.prefix_refl _⟩]
   rw [e]
section
variable {bs : List (W × Str)} (hne : ∀ x ∈ bs, x.1 ≠ []) (hpf : ∀ x ∈ bs, ∀ y ∈ bs, x.1 <+: y.1 → x = y)
include hne hpf
theorem zs5 {x:W × Str} (hx:x∈bs):Ways bs x.1=some (.str x.2):=by
 unfold Ways
 rw [zhx x.1 (hne x hx)]
 have m:x∈bs.filter (hitB x.1):=List.mem_filter.mpr ⟨hx,zg9.mpr ⟨hne x hx,List.prefix_refl _⟩⟩
 cases e:(bs.filter (hitB x.1)).getLast? with
 | none=>rw [List.getLast?_eq_none_iff.mp e] at m;cases m
 | some y =>
  have my:=List.mem_filter.mp (List.mem_of_getLast? e)
  have:=hpf x hx y my.1 (zg9.mp my.2).2
  subst this
  simp
theorem zs4 {x:W × Str} (hx:x∈bs) {p:W} (hp:p≠[]) (h1:p <+: x.1) (h2:p≠x.1):Ways bs p=some .non:=by
 unfold Ways
 rw [zhx p hp]
 have m:x∈bs.filter (hitB p):=List.mem_filter.mpr ⟨hx,zg9.mpr ⟨hp,h1⟩⟩
 cases e:(bs.filter (hitB p)).getLast? with
 | none=>rw [List.getLast?_eq_none_iff.mp e] at m;cases m
 | some y =>
  have my:=List.mem_filter.mp (List.mem_of_getLast? e)
  have h3:¬ y.1=p:=fun z=>by
   have:y=x:=hpf y my.1 x hx (by rw [z];exact h1)
   exact h2 (by rw [← z,this])
  simp only [if_neg h3]
omit hpf in
theorem zqc {p:W} (h:∀ x∈bs,p≠[]->¬ p <+: x.1):Ways bs p=none:=by
 unfold Ways
 by_cases hp:p=[]
 ·subst hp
  have:∀ (l:List (W × Str)),(∀ x∈l,x.1≠[])->l.foldl (wstep []) none=none:=by
   intro l
   induction l with
   | nil=>intro _;rfl
   | cons x l ih =>
    intro hl
    rw [List.foldl_cons]
    have e:wstep [] none x=none:=by
     unfold wstep
     rw [if_neg (hl x List.mem_cons_self),if_neg (by simp)]
    rw [e]
    exact ih fun y hy=>hl y (List.mem_cons_of_mem _ hy)
  exact this bs hne
 ·rw [zhx p hp]
  have:bs.filter (hitB p)=[]:=List.filter_eq_nil_iff.mpr fun x hx z=>h x hx hp (zg9.mp z).2
  rw [this]
  rfl
end
structure Tells (ks:List Key) (ps:List PV) (F:W->Option PV):Prop where
 len:ks.length=ps.length
 at_:∀ p,zca ks ps (.inr (mkS p))=F p
theorem Tells.put {ks:List Key} {ps:List PV} {F:W->Option PV} (h:Tells ks ps F) (p0:W) (v:PV):∃ ks' ps',putP ks ps (.inr (mkS p0)) v=.dct ks' ps'/\ks'.length<=ks.length + 1/\Tells ks' ps' (fun p=>if p0=p then some v else F p):=by
 obtain ⟨ks',ps',e,h1,h2,h3⟩:=look_put ks ps (.inr (mkS p0)) v h.len
 refine ⟨ks',ps',e,h2,h1,fun p=>?_⟩
 rw [h3,h.at_]
 by_cases hp:p0=p
 ·rw [if_pos hp,if_pos (by rw [hp])]
 ·rw [if_neg hp,if_neg fun z=>hp (mkS_inj (Sum.inr.inj z))]
theorem zov {k:Key}:∀ (ks:List Key) (ps:List PV),ks.length=ps.length->(ks.any fun j=>decide (j=k))=(zca ks ps k).isSome
 | [],[],_=>rfl
 | [],_::_,h=>by simp at h
 | _::_,[],h=>by simp at h
 | j::ks,p::ps,h=>by
  rw [zi7,List.any_cons]
  by_cases e:j=k
  ·simp [e]
  ·rw [if_neg e,zov ks ps (by simpa using h)]
   simp [e]
theorem Tells.notIn {ks:List Key} {ps:List PV} {F:W->Option PV} (h:Tells ks ps F) (p:W):zhg (.str (mkS p)) (.dct ks ps)=some (.bl (!(F p).isSome)):=by
 have e:zhg (.str (mkS p)) (.dct ks ps)=some (.bl (!(ks.any fun j=>decide (j=.inr (mkS p))))):=rfl
 rw [e,zov ks ps h.len,h.at_]
theorem Tells.ix {ks:List Key} {ps:List PV} {F:W->Option PV} (h:Tells ks ps F) (p:W):gIx (.dct ks ps) (.str (mkS p))=F p:=h.at_ p
def wtPv (wt:List (W × Str)):PV:=.tup (wt.map fun p=>.tup [.str (mkS p.1),.str p.2])
def wtD (wt:List (W × Str)):PV:=.dct (wt.map fun p=>.inr (mkS p.1)) (wt.map fun p=>.str p.2)
theorem zmk:∀ wt:List (W × Str),zjd (wt.map fun p=>PV.tup [.str (mkS p.1),.str p.2])=some (wt.map fun p=>(.inr (mkS p.1),.str p.2))
 | []=>rfl
 | p::wt=>by
  rw [List.map_cons,List.map_cons]
  unfold zjd
  rw [zmk wt]
  rfl
theorem zlm {ks:List Key} {ps:List PV} {k:Key} {v:PV} (h:k ∉ ks):putP ks ps k v=.dct (ks++[k]) (ps++[v]):=by
 unfold putP
 rw [if_neg]
 ·simpa using h
theorem zr3:∀ (wt:List (W × Str)) (ks:List Key) (ps:List PV),((wt.map (·.1)).Nodup)->(∀ p∈wt,(.inr (mkS p.1):Key) ∉ ks)->(wt.map fun p=>((.inr (mkS p.1):Key),PV.str p.2)).foldl addP (.dct ks ps)=.dct (ks++wt.map fun p=>.inr (mkS p.1)) (ps++wt.map fun p=>.str p.2)
 | [],ks,ps,_,_=>by simp
 | p::wt,ks,ps,nd,hk=>by
  rw [List.map_cons,List.foldl_cons]
  have e:addP (.dct ks ps) (.inr (mkS p.1),.str p.2)=.dct (ks++[.inr (mkS p.1)]) (ps++[.str p.2]):=zlm (hk p List.mem_cons_self)
  rw [e,zr3 wt _ _ (List.nodup_cons.mp nd).2]
  ·simp
  ·intro q hq z
   rcases List.mem_append.mp z with z | z
   ·exact hk q (List.mem_cons_of_mem _ hq) z
   ·have z:=Sum.inr.inj (List.mem_singleton.mp z)
    have z:=mkS_inj z
    exact (List.nodup_cons.mp nd).1 (List.mem_map.mpr ⟨q,hq,z⟩)
theorem zsg (wt:List (W × Str)) (hl:wt.length<=1000) (nd:(wt.map (·.1)).Nodup):zk8 (wtPv wt)=some (wtD wt):=by
 have e:zk8 (wtPv wt)=if (wt.map fun p=>PV.tup [.str (mkS p.1),.str p.2]).length<=1000 then (zjd (wt.map fun p=>PV.tup [.str (mkS p.1),.str p.2])).map zhd else none:=rfl
 rw [e,if_pos (by simpa using hl),zmk]
 show some (zhd _)=_
 have m:∀ l,zhd l=l.foldl addP (.dct [] []):=fun l=>rfl
 rw [m,zr3 wt [] [] nd (by simp)]
 simp [wtD]
theorem zwz (wt:List (W × Str)):zrx (wtD wt)=some (.lst (wt.map fun p=>.str (mkS p.1))):=by
 show some (PV.lst ((wt.map fun p=>(.inr (mkS p.1):Key)).map keyP))=_
 rw [List.map_map]
 rfl
theorem ztc (wt:List (W × Str)) (nd:(wt.map (·.1)).Nodup) {p:W × Str} (hp:p∈wt):zca (wt.map fun p=>.inr (mkS p.1)) (wt.map fun p=>.str p.2) (.inr (mkS p.1))=some (.str p.2):=by
 induction wt with
 | nil=>cases hp
 | cons q wt ih =>
  rw [List.map_cons,List.map_cons,zi7]
  rcases List.mem_cons.mp hp with rfl | h
  ·rw [if_pos rfl]
  ·have nd':=List.nodup_cons.mp nd
   rw [if_neg fun z=>nd'.1 (List.mem_map.mpr ⟨p,h,(mkS_inj (Sum.inr.inj z)).symm⟩)]
   exact ih nd'.2 h
theorem zmb {α:Type} (wt:List α) (f:α->W) (g:α->PV) (nd:(wt.map f).Nodup) {p:α} (hp:p∈wt):zca (wt.map fun p=>.inr (mkS (f p))) (wt.map g) (.inr (mkS (f p)))=some (g p):=by
 induction wt with
 | nil=>cases hp
 | cons q wt ih =>
  rw [List.map_cons,List.map_cons,zi7]
  rcases List.mem_cons.mp hp with rfl | h
  ·rw [if_pos rfl]
  ·have nd':=List.nodup_cons.mp nd
   rw [if_neg fun z=>nd'.1 (List.mem_map.mpr ⟨p,h,(mkS_inj (Sum.inr.inj z)).symm⟩)]
   exact ih nd'.2 h
theorem zh8 {α β:Type} (f:α->β):∀ (l:List α),(l.map f).Nodup->∀ x∈l,∀ y∈l,f x=f y->x=y
 | [],_,x,hx,_,_,_=>by cases hx
 | a::l,nd,x,hx,y,hy,e=>by
  rw [List.map_cons,List.nodup_cons] at nd
  rcases List.mem_cons.mp hx with h1 | h1
  ·rcases List.mem_cons.mp hy with h2 | h2
   ·rw [h1,h2]
   ·exact absurd (List.mem_map.mpr ⟨y,h2,by rw [← e,h1]⟩) nd.1
  ·rcases List.mem_cons.mp hy with h2 | h2
   ·exact absurd (List.mem_map.mpr ⟨x,h1,by rw [e,h2]⟩) nd.1
   ·exact zh8 f l nd.2 x h1 y h2 e
end NW
end
section
namespace PU
open PySem L2
theorem ztg {m n:Nat} {g:PSt->R Fl} {ps:List PV} {p:PV} (hl:ps.length=m) (h:g (PU.start n ps)=.ok (.ret p)):runN m n g ps=some p:=by
 unfold runN
 rw [if_pos hl,h]
@[simp] theorem x_retO0 (p:PV) (ρ:PSt):retO 0 (.own p::ρ)=.ok (.ret p):=by unfold retO;exact Eq.refl _
@[simp] theorem x_retOs (i:Nat) (l:Sl) (ρ:PSt):retO (i + 1) (l::ρ)=retO i ρ:=by unfold retO;rw [List.getElem?_cons_succ]
end PU
end
section
namespace K22
open PySem L2 PU
def c_CODE_END:PV:=(.str "#")
def c_HEARD:PV:=(.dct [(.inr "menu"),(.inr "names"),(.inr "hand"),(.inr "end")] [(.str "asked"),(.str "asked"),(.str "hand"),(.str "end")])
def c_WAIT:PV:=(.str "w")
def zfz:PSt->R Fl:=(ifF (truF (chain2 (getV 2) (getV 1) (getV 3) gLe gLt)) (retF (getV 4)) zb9)
def zjq:PSt->R Fl:=(seqF (forS (itF (bin2 (getV 0) (kI 1) gIx)) (tupT 3 (zau (zao 2) (zau (zao 3) (zau (zao 4) nilT)))) zfz) (retF (bin2 (getV 0) (kI 2) gIx)))
def zjs:List PV->Option PV:=runF 2 5 zjq
def zgi:PSt->R Fl:=(setF 3 (zaw (zac (bin2 (bin2 (getV 0) (kS "rooms") gIx) (getV 3) gIx) (zac (getV 1) nilA)) zjs))
def zka:PSt->R Fl:=(seqF (setF 3 (getV 2)) (seqF (whS 300 (truF (bin2 (bin2 (bin2 (bin2 (getV 0) (kS "rooms") gIx) (getV 3) gIx) (kI 0) gIx) (kS "hours") gEq)) zgi) (retF (getV 3))))
def zie:List PV->Option PV:=runF 3 4 zka
def zhb:PSt->R Fl:=(ifF (truF (bin2 (getV 1) (getV 3) gIn)) (retF (getV 2)) zb9)
def zjp:PSt->R Fl:=(seqF (forS (itF (getV 0)) (tupT 2 (zau (zao 2) (zau (zao 3) nilT))) zhb) (retF kN))
def zjr:List PV->Option PV:=runF 2 4 zjp
def zhv:PSt->R PV:=(zaw (zac (getV 1) (zac (getV 0) nilA)) zjr)
def zkb:PSt->R Fl:=(seqF (setF 2 (zih (itF (getV 1)) (zao 0) yesB zhv 1 [0])) (retF (ifV (truF (bin2 kN (getV 2) gIn)) kN (meth1 (kS "") (getV 2) zry))))
def zg0:List PV->Option PV:=runF 2 3 zkb
def zb0:PSt->R Fl:=(putF 1 (ze9 (getV 2) zcv (zeb (getV 3))) (bin2 (zoq (getO 1) (ze9 (getV 2) zcv (zeb (getV 3))) (kI 0) zpz) (kI 1) gAdd))
def zbz:PSt->R Fl:=(forS (rng2 (kI 1) (bin2 (un1 (getV 2) gLen) (kI 1) gAdd)) (zao 3) zb0)
def zdh:PSt->R Fl:=(seqF (ownF 1 newD) (seqF (forS (itF (getV 0)) (zao 2) zbz) (frzS 1 (retF (getV 1)))))
def zbu:List PV->Option PV:=runF 1 4 zdh
def zcu:PSt->R Fl:=(ifF (truF (bin2 (bin2 (getV 1) (ze9 (getV 0) zcv (zeb (getV 2))) gIx) (kI 1) gEq)) (retF (ze9 (getV 0) zcv (zeb (getV 2)))) zb9)
def zdf:PSt->R Fl:=(seqF (forS (rng2 (kI 1) (un1 (getV 0) gLen)) (zao 2) zcu) (retF (getV 0)))
def zdi:List PV->Option PV:=runF 2 3 zdf
def zfk:PSt->R PV:=(bin2 (zaw (zac (getV 1) (zac (getV 0) nilA)) zg0) (kP c_CODE_END) gAdd)
def zfj:PSt->R PV:=(tupF (zac (getV 0) (zac (zaw (zac (getV 1) (zac (getV 2) nilA)) zdi) nilA)))
def zgz:PSt->R Fl:=(seqF (setF 2 (zih (itF (getV 1)) (zao 0) yesB zfk 1 [0])) (seqF (setF 3 (zaw (zac (getV 2) nilA) zbu)) (retF (zih (zipF (getV 1) (getV 2)) (tupT 2 (zau (zao 0) (zau (zao 1) nilT))) yesB zfj 2 [3]))))
def zea:List PV->Option PV:=runF 2 4 zgz
def zkc:PSt->R Fl:=(retF (tupF (zac (zaw (zac (getV 0) (zac (getV 1) (zac (getV 2) nilA))) zie) (zac (getV 3) (zac (kI 0) (zac (kI 0) (zac (kS "") nilA)))))))
def zcb:List PV->Option PV:=runF 4 4 zkc
def zns:PSt->R Fl:=(retF (zaw (zac (getV 0) (zac (getV 1) (zac (bin2 (getV 0) (kS "first") gIx) (zac (kS "") nilA)))) zcb))
def zhu:List PV->Option PV:=runF 2 2 zns
def zd1:PSt->R Fl:=(seqF (setF 3 (bin2 (bin2 (bin2 (getV 0) (kS "rooms") gIx) (bin2 (getV 2) (kI 0) gIx) gIx) (kI 3) gIx)) (seqF (setF 4 (bin2 (bin2 (getV 2) (kI 2) gIx) (kI 1) gAdd)) (seqF (ifF (truF (bin2 (getV 4) (bin2 (getV 3) (kI 0) gIx) gEq)) (retF (zaw (zac (getV 0) (zac (getV 1) (zac (bin2 (getV 3) (kI 1) gIx) (zac (bin2 (getV 2) (kI 0) gIx) nilA)))) zcb)) zb9) (retF (tupF (zac (bin2 (getV 2) (kI 0) gIx) (zac (bin2 (getV 2) (kI 1) gIx) (zac (getV 4) (zac (bin2 (getV 2) (kI 3) gIx) (zac (kS "") nilA))))))))))
def zbx:List PV->Option PV:=runF 3 5 zd1
def zgc:PSt->R Fl:=(seqF (setF 5 (bin2 (bin2 (getV 3) (kI 4) gIx) (getV 4) gAdd)) (seqF (ifF (truF (bin2 (getV 5) (getV 2) zhg)) (retF (zaw (zac (getV 0) (zac (getV 1) (zac (getV 3) nilA))) zbx)) zb9) (seqF (setF 6 (ifV (truF (bin2 (bin2 (getV 2) (getV 5) gIx) (kS "back") gEq)) (bin2 (getV 3) (kI 1) gIx) (bin2 (getV 2) (getV 5) gIx))) (seqF (ifF (truF (bin2 (getV 6) kN gIsN)) (retF (tupF (zac (bin2 (getV 3) (kI 0) gIx) (zac (bin2 (getV 3) (kI 1) gIx) (zac (bin2 (getV 3) (kI 2) gIx) (zac (bin2 (getV 3) (kI 3) gIx) (zac (getV 5) nilA))))))) zb9) (seqF (ifF (truF (bin2 (getV 6) (kS "") gEq)) (retF (zaw (zac (getV 0) (zac (getV 1) (zac (getV 3) nilA))) zbx)) zb9) (retF (zaw (zac (getV 0) (zac (getV 1) (zac (getV 6) (zac (bin2 (getV 3) (kI 0) gIx) nilA)))) zcb)))))))
def zeg:List PV->Option PV:=runF 5 7 zgc
def zia:PSt->R Fl:=(seqF (setF 3 (bin2 (bin2 (bin2 (getV 0) (kS "rooms") gIx) (bin2 (getV 2) (kI 0) gIx) gIx) (kI 4) gIx)) (seqF (setF 4 (bin2 (bin2 (getV 2) (kI 3) gIx) (kI 1) gAdd)) (seqF (ifF (truF (bin2 (getV 4) (bin2 (getV 3) (kI 0) gIx) gEq)) (retF (zaw (zac (getV 0) (zac (getV 1) (zac (bin2 (getV 3) (kI 1) gIx) (zac (bin2 (getV 2) (kI 0) gIx) nilA)))) zcb)) zb9) (retF (tupF (zac (bin2 (getV 2) (kI 0) gIx) (zac (bin2 (getV 2) (kI 1) gIx) (zac (bin2 (getV 2) (kI 2) gIx) (zac (getV 4) (zac (kS "") nilA))))))))))
def zif:List PV->Option PV:=runF 3 5 zia
def zfb:PSt->R Fl:=(seqF (setF 5 (bin2 (bin2 (bin2 (getV 0) (kS "rooms") gIx) (bin2 (getV 3) (kI 0) gIx) gIx) (kI 0) gIx)) (seqF (ifF (orB (truF (bin2 (getV 5) (kS "hand") gEq)) (truF (bin2 (getV 5) (kS "end") gEq))) (retF (getV 3)) zb9) (seqF (ifF (truF (bin2 (getV 4) (kP c_WAIT) gEq)) (retF (zaw (zac (getV 0) (zac (getV 1) (zac (getV 3) nilA))) zif)) zb9) (retF (zaw (zac (getV 0) (zac (getV 1) (zac (getV 2) (zac (getV 3) (zac (getV 4) nilA))))) zeg)))))
def zc0:List PV->Option PV:=runF 5 6 zfb
def zcy:PSt->R Fl:=(putF 2 (ze9 (getV 4) zcv (zeb (getV 5))) kN)
def zcx:PSt->R Fl:=(seqF (forS (rng2 (kI 1) (un1 (getV 4) gLen)) (zao 5) zcy) (putF 2 (getV 4) (bin2 (getV 1) (getV 3) gIx)))
def zgx:PSt->R Fl:=(seqF (ownF 2 newD) (seqF (forS (itF (zaw (zac (getV 0) (zac (un1 (getV 1) zrx) nilA)) zea)) (tupT 2 (zau (zao 3) (zau (zao 4) nilT))) zcx) (frzS 2 (retF (getV 2)))))
def zfc:List PV->Option PV:=runF 2 6 zgx
def zdu:PSt->R Fl:=(seqF (setF 2 (bin2 (bin2 (getV 0) (kS "rooms") gIx) (getV 1) gIx)) (seqF (ifF (truF (bin2 (bin2 (getV 2) (kI 0) gIx) (kS "menu") gEq)) (retF (un1 (bin2 (getV 2) (kI 2) gIx) zk8)) zb9) (seqF (ifF (truF (bin2 (bin2 (getV 2) (kI 0) gIx) (kS "names") gEq)) (retF (zaw (zac (bin2 (getV 0) (kS "letters") gIx) (zac (un1 (bin2 (getV 2) (kI 2) gIx) zk8) nilA)) zfc)) zb9) (retF newD))))
def za3:List PV->Option PV:=runF 2 3 zdu
def zrv:PSt->R Fl:=(retF (zaw (zac (getV 0) (zac (getV 1) (zac (zaw (zac (getV 0) (zac (bin2 (getV 2) (kI 0) gIx) nilA)) za3) (zac (getV 2) (zac (getV 3) nilA))))) zc0))
def zo1:List PV->Option PV:=runF 4 4 zrv
def zfl:PSt->R Fl:=(putF 1 (getV 2) (zaw (zac (getV 0) (zac (getV 2) nilA)) za3))
def zgy:PSt->R Fl:=(seqF (ownF 1 newD) (seqF (forS (itF (bin2 (getV 0) (kS "rooms") gIx)) (zao 2) zfl) (frzS 1 (retF (getV 1)))))
def zc9:List PV->Option PV:=runF 1 3 zgy
def zgh:PSt->R Fl:=(appF 5 (zaw (zac (getV 0) (zac (getV 1) (zac (bin2 (getV 4) (bin2 (bin2 (getO 5) (un1 (kI 1) gNeg) gIx) (kI 0) gIx) gIx) (zac (bin2 (getO 5) (un1 (kI 1) gNeg) gIx) (zac (getV 6) nilA))))) zc0))
def zj9:PSt->R Fl:=(seqF (setF 4 (zaw (zac (getV 0) nilA) zc9)) (seqF (ownF 5 (lstF (zac (getV 2) nilA))) (seqF (forS (itF (getV 3)) (zao 6) zgh) (retO 5))))
def zid:List PV->Option PV:=runN 4 7 zj9
def zvg:PSt->R Fl:=(retF (zaw (zac (getV 0) (zac (getV 1) (zac (zaw (zac (getV 0) (zac (getV 1) nilA)) zhu) (zac (getV 2) nilA)))) zid))
def zmz:List PV->Option PV:=runF 3 3 zvg
def zi3:PSt->R Fl:=(seqF (setF 2 (bin2 (bin2 (getV 0) (kS "rooms") gIx) (bin2 (getV 1) (kI 0) gIx) gIx)) (retF (tupF (zac (bin2 (kP c_HEARD) (bin2 (getV 2) (kI 0) gIx) gIx) (zac (bin2 (getV 2) (kI 1) gIx) nilA)))))
def zl1:List PV->Option PV:=runF 2 3 zi3
def zee:PSt->R Fl:=(seqF (ifF (truF (bin2 (getV 1) (un1 (getV 0) gLen) gLt)) (retF (bin2 (getV 0) (getV 1) gIx)) zb9) (retF (kI 0)))
def zan:List PV->Option PV:=runF 2 2 zee
def ze5:PSt->R Fl:=(seqF (appF 2 (bin2 (getV 3) (kI 5040) gMod)) (setF 3 (bin2 (getV 3) (kI 5040) gDiv)))
def ze4:PSt->R Fl:=(seqF (setF 3 (bin2 (bin2 (bin2 (bin2 (getV 3) (getV 4) gAdd) (kI 1) gAdd) (kI 48271) gMul) (kI 2147483647) gMod)) (appF 2 (bin2 (bin2 (getV 3) (kI 69621) gMul) (kI 2147483629) gMod)))
def zed:PSt->R Fl:=(seqF (ownF 2 (lstF nilA)) (seqF (setF 3 (bin2 (getV 0) (kI 2) gDiv)) (seqF (ifF (truF (bin2 (bin2 (getV 0) (kI 2) gMod) (kI 1) gEq)) (seqF (forS (rng1 (getV 1)) (zao 4) ze5) (frzS 2 (retF (getV 2)))) zb9) (seqF (setF 3 (bin2 (getV 3) (kI 2147483647) gMod)) (seqF (forS (rng1 (bin2 (getV 1) (kI 1) gAdd)) (zao 4) ze4) (retF (zfq (getO 2) (zeb (kI 1)) zcv)))))))
def zax:List PV->Option PV:=runF 2 5 zed
def zej:PSt->R Fl:=(setF 7 (bin2 (getV 7) (bin2 (getV 1) (bin2 (bin2 (bin2 (getV 2) (getV 8) gIx) (bin2 (bin2 (kI 3) (getV 6) gMul) (un1 (bin2 (getV 8) (getV 4) gEq) gInt) gMul) gAdd) (kI 20) gMod) gIx) gAdd))
def zei:PSt->R Fl:=(seqF (setF 7 (kS "")) (seqF (forS (rng1 (getV 3)) (zao 8) zej) (appF 5 (getV 7))))
def zhp:PSt->R Fl:=(seqF (setF 1 (kS "bcdfghjlmnpqrstvwxyz")) (seqF (setF 2 (zaw (zac (getV 0) (zac (kI 10) nilA)) zax)) (seqF (setF 3 (bin2 (kI 1) (bin2 (bin2 (getV 2) (kI 8) gIx) (kI 8) gMod) gAdd)) (seqF (setF 4 (bin2 (bin2 (getV 2) (kI 9) gIx) (getV 3) gMod)) (seqF (ownF 5 (lstF nilA)) (seqF (forS (rng1 (kI 9)) (zao 6) zei) (frzS 5 (retF (getV 5)))))))))
def zge:List PV->Option PV:=runF 1 9 zhp
def zi1:PSt->R Fl:=(retF (bin2 (kI 1) (bin2 (lstF (zac (bin2 (bin2 (getV 0) (kI 4) gDiv) (kI 3) gMod) (zac (bin2 (bin2 (getV 0) (kI 4) gDiv) (kI 3) gMod) (zac (bin2 (bin2 (getV 0) (kI 4) gDiv) (kI 2) gMod) (zac (bin2 (bin2 (getV 0) (kI 4) gDiv) (kI 9) gMod) nilA))))) (bin2 (getV 0) (kI 4) gMod) gIx) gAdd))
def zc8:List PV->Option PV:=runF 1 1 zi1
def zfe:PSt->R Fl:=(ifF (truF (bin2 (bin2 (bin2 (getV 3) (getV 5) gIx) (kI 3) gMod) (kI 0) gGt)) (appF 4 (tupF (zac (getV 6) (zac (bin2 (bin2 (getV 0) (lstF (zac (kS "back") (zac (kS "back") nilA))) gAdd) (bin2 (bin2 (getV 3) (bin2 (getV 5) (kI 12) gAdd) gIx) (kI 11) gMod) gIx) nilA)))) zb9)
def zi0:PSt->R Fl:=(seqF (setF 3 (zaw (zac (getV 2) (zac (kI 30) nilA)) zax)) (seqF (ownF 4 (lstF nilA)) (seqF (forS (zsd (kS "0123456789*#")) (tupT 2 (zau (zao 5) (zau (zao 6) nilT))) zfe) (seqF (setF 7 (tupF (zac (zaw (zac (bin2 (getV 3) (kI 24) gIx) nilA) zc8) (zac (bin2 (getV 0) (bin2 (bin2 (getV 3) (kI 25) gIx) (kI 9) gMod) gIx) nilA)))) (retF (tupF (zac (kS "menu") (zac (getV 1) (zac (un1 (getO 4) zk7) (zac (getV 7) (zac (tupF (zac (zaw (zac (bin2 (getV 3) (kI 26) gIx) nilA) zc8) (zac (bin2 (getV 0) (bin2 (bin2 (getV 3) (kI 27) gIx) (kI 9) gMod) gIx) nilA))) nilA)))))))))))
def zha:List PV->Option PV:=runF 3 8 zi0
def zdg:PSt->R Fl:=(seqF (setF 1 (lstF (zac (tupF (zac (kS "2") (zac (kS "abc") nilA))) (zac (tupF (zac (kS "3") (zac (kS "def") nilA))) (zac (tupF (zac (kS "4") (zac (kS "ghi") nilA))) (zac (tupF (zac (kS "5") (zac (kS "jkl") nilA))) (zac (tupF (zac (kS "6") (zac (kS "mno") nilA))) (zac (tupF (zac (kS "7") (zac (kS "pqrs") nilA))) (zac (tupF (zac (kS "9") (zac (kS "wxyz") nilA))) nilA))))))))) (seqF (ifF (truF (bin2 (bin2 (getV 0) (kI 3) gMod) (kI 1) gEq)) (setF 1 (lstF (zac (tupF (zac (kS "1") (zac (kS "abcdefgh") nilA))) (zac (tupF (zac (kS "2") (zac (kS "ijklmnop") nilA))) (zac (tupF (zac (kS "3") (zac (kS "qrstuvwxyz") nilA))) nilA))))) zb9) (seqF (ifF (truF (bin2 (bin2 (getV 0) (kI 3) gMod) (kI 2) gEq)) (setF 1 (lstF (zac (tupF (zac (kS "0") (zac (kS "a") nilA))) (zac (tupF (zac (kS "5") (zac (kS "bnc") nilA))) (zac (tupF (zac (kS "9") (zac (kS "rol") nilA))) (zac (tupF (zac (kS "*") (zac (kS "dey") nilA))) nilA)))))) zb9) (retF (getV 1)))))
def zef:List PV->Option PV:=runF 1 2 zdg
def zbg:PSt->R Fl:=(ifF (andB (truF (bin2 (bin2 (bin2 (getV 2) (getV 4) gIx) (kI 2) gMod) (kI 1) gEq)) (truF (bin2 (un1 (getO 3) gLen) (kI 5) gLt))) (appF 3 (tupF (zac (getV 5) (zac (bin2 (getV 0) (bin2 (bin2 (bin2 (getV 2) (getV 4) gIx) (kI 2) gDiv) (kI 9) gMod) gIx) nilA)))) zb9)
def zb5:PSt->R Fl:=(seqF (setF 2 (zaw (zac (getV 1) (zac (kI 14) nilA)) zax)) (seqF (ownF 3 (lstF nilA)) (seqF (forS (zsd (lstF (zac (kS "ann") (zac (kS "anna") (zac (kS "bo") (zac (kS "bob") (zac (kS "cyd") (zac (kS "lee") (zac (kS "leed") (zac (kS "roe") nilA)))))))))) (tupT 2 (zau (zao 4) (zau (zao 5) nilT))) zbg) (seqF (ifF (truF (bin2 (un1 (getO 3) gLen) (kI 0) gEq)) (appF 3 (tupF (zac (kS "lee") (zac (bin2 (getV 0) (kI 6) gIx) nilA)))) zb9) (seqF (setF 6 (tupF (zac (zaw (zac (bin2 (getV 2) (kI 9) gIx) nilA) zc8) (zac (bin2 (getV 0) (bin2 (bin2 (getV 2) (kI 10) gIx) (kI 9) gMod) gIx) nilA)))) (retF (tupF (zac (kS "names") (zac (kS "Spell a name") (zac (un1 (getO 3) zk7) (zac (getV 6) (zac (tupF (zac (zaw (zac (bin2 (getV 2) (kI 11) gIx) nilA) zc8) (zac (bin2 (getV 0) (bin2 (bin2 (getV 2) (kI 12) gIx) (kI 9) gMod) gIx) nilA))) nilA))))))))))))
def zbr:List PV->Option PV:=runF 2 7 zb5
def zel:PSt->R Fl:=(seqF (setF 5 (bin2 (bin2 (getV 2) (bin2 (bin2 (kI 3) (getV 4) gMul) (kI 1) gAdd) gIx) (kI 24) gMod)) (appF 3 (tupF (zac (getV 5) (zac (bin2 (bin2 (getV 5) (kI 1) gAdd) (bin2 (bin2 (getV 2) (bin2 (bin2 (kI 3) (getV 4) gMul) (kI 2) gAdd) gIx) (bin2 (kI 24) (getV 5) gSub) gMod) gAdd) (zac (bin2 (getV 0) (bin2 (bin2 (getV 2) (bin2 (bin2 (kI 3) (getV 4) gMul) (kI 3) gAdd) gIx) (un1 (getV 0) gLen) gMod) gIx) nilA))))))
def zhr:PSt->R Fl:=(seqF (setF 2 (zaw (zac (getV 1) (zac (kI 11) nilA)) zax)) (seqF (ownF 3 (lstF nilA)) (seqF (forS (rng1 (bin2 (bin2 (getV 2) (kI 0) gIx) (kI 4) gMod)) (zao 4) zel) (retF (tupF (zac (kS "hours") (zac (un1 (getO 3) zk7) (zac (bin2 (getV 0) (bin2 (bin2 (getV 2) (kI 10) gIx) (un1 (getV 0) gLen) gMod) gIx) nilA))))))))
def zb6:List PV->Option PV:=runF 2 6 zhr
def zek:PSt->R Fl:=(putF 2 (bin2 (getV 1) (getV 3) gIx) (zaw (zac (getV 1) (zac (bin2 (lstF (zac (kS "Hello") (zac (kS "Press 1.") nilA))) (getV 3) gIx) (zac (bin2 (zaw (zac (getV 0) (zac (bin2 (kI 1) (getV 3) gAdd) nilA)) zan) (bin2 (kI 7919) (getV 3) gMul) gAdd) nilA))) zha))
def zhq:PSt->R Fl:=(seqF (setF 1 (zaw (zac (zaw (zac (getV 0) (zac (kI 0) nilA)) zan) nilA) zge)) (seqF (ownF 2 newD) (seqF (forS (rng1 (kI 2)) (zao 3) zek) (seqF (putF 2 (bin2 (getV 1) (kI 2) gIx) (zaw (zac (getV 1) (zac (zaw (zac (getV 0) (zac (kI 3) nilA)) zan) nilA)) zbr)) (seqF (putF 2 (bin2 (getV 1) (kI 3) gIx) (zaw (zac (getV 1) (zac (bin2 (zaw (zac (getV 0) (zac (kI 4) nilA)) zan) (kI 104729) gAdd) nilA)) zbr)) (seqF (putF 2 (bin2 (getV 1) (kI 4) gIx) (zaw (zac (bin2 (zfq (getV 1) zcv (zeb (kI 4))) (zfq (getV 1) (zeb (kI 5)) zcv) gAdd) (zac (zaw (zac (getV 0) (zac (kI 5) nilA)) zan) nilA)) zb6)) (seqF (putF 2 (bin2 (getV 1) (kI 5) gIx) (zaw (zac (bin2 (zfq (getV 1) zcv (zeb (kI 4))) (zfq (getV 1) (zeb (kI 6)) zcv) gAdd) (zac (bin2 (zaw (zac (getV 0) (zac (kI 6) nilA)) zan) (kI 31) gAdd) nilA)) zb6)) (seqF (putF 2 (bin2 (getV 1) (kI 8) gIx) (zaw (zac (bin2 (zfq (getV 1) zcv (zeb (kI 4))) (zfq (getV 1) (zeb (kI 6)) (zeb (kI 8))) gAdd) (zac (bin2 (bin2 (zaw (zac (getV 0) (zac (kI 5) nilA)) zan) (kI 7) gDiv) (kI 5) gAdd) nilA)) zb6)) (seqF (putF 2 (bin2 (getV 1) (kI 6) gIx) (tupF (zac (kS "hand") (zac (kS "Ann here") nilA)))) (seqF (putF 2 (bin2 (getV 1) (kI 7) gIx) (tupF (zac (kS "end") (zac (kS "Good bye") nilA)))) (seqF (setF 4 (bin2 (getV 1) (bin2 (lstF (zac (kI 0) (zac (kI 1) (zac (kI 2) (zac (kI 3) (zac (kI 4) (zac (kI 0) (zac (kI 3) (zac (kI 1) (zac (kI 6) nilA)))))))))) (bin2 (zaw (zac (getV 0) (zac (kI 7) nilA)) zan) (kI 9) gMod) gIx) gIx)) (frzS 2 (retF (zul (zp3 (kS "first") (getV 4) (zp3 (kS "letters") (zaw (zac (zaw (zac (getV 0) (zac (kI 8) nilA)) zan) nilA) zef) (zp3 (kS "rooms") (getV 2) nilD)))))))))))))))))
def ze1:List PV->Option PV:=runF 1 5 zhq
def zda:PSt->R Fl:=(ifF (truF (chain2 (getV 5) (getV 1) (getV 6) gLe gLt)) (setF 2 (getV 7)) zb9)
def zff:PSt->R Fl:=(seqF (setF 2 (bin2 (getV 4) (kI 2) gIx)) (seqF (forS (revT (bin2 (getV 4) (kI 1) gIx)) (tupT 3 (zau (zao 5) (zau (zao 6) (zau (zao 7) nilT)))) zda) (setF 4 (bin2 (bin2 (getV 0) (kS "rooms") gIx) (getV 2) gIx))))
def zi2:PSt->R Fl:=(seqF (setF 4 (bin2 (bin2 (getV 0) (kS "rooms") gIx) (getV 2) gIx)) (seqF (whS 300 (truF (bin2 (bin2 (getV 4) (kI 0) gIx) (kS "hours") gEq)) zff) (retF (tupF (zac (getV 2) (zac (getV 3) (zac (kI 0) (zac (kI 0) (zac (kS "") nilA)))))))))
def za5:List PV->Option PV:=runF 4 8 zi2
def zgf:PSt->R PV:=(getV 0)
def zf2:PSt->R Bool:=(truF (bin2 (getV 2) (getV 1) gIn))
def zen:PSt->R Fl:=(setF 5 (bin2 (getV 5) (bin2 (zih (itF (bin2 (getV 0) (kS "letters") gIx)) (tupT 2 (zau (zao 0) (zau (zao 1) nilT))) zf2 zgf 2 [6]) (kI 0) gIx) gAdd))
def zem:PSt->R Fl:=(seqF (setF 5 (kS "")) (seqF (forS (itF (getV 3)) (zao 6) zen) (putF 2 (getV 3) (bin2 (getV 5) (kS "#") gAdd))))
def zhs:PSt->R Fl:=(seqF (ownF 2 newD) (seqF (forS (itF (getV 1)) (tupT 2 (zau (zao 3) (zau (zao 4) nilT))) zem) (frzS 2 (retF (getV 2)))))
def zdx:List PV->Option PV:=runF 2 7 zhs
def zbn:PSt->R PV:=(bin2 (ze9 (bin2 (getV 2) (getV 0) gIx) zcv (zeb (getV 3))) (ze9 (getV 1) zcv (zeb (getV 3))) gEq)
def zbm:PSt->R Bool:=(truF (bin2 (getV 0) (getV 4) gNe))
def zdz:PSt->R Fl:=(setF 3 (bin2 (getV 3) (kI 1) gAdd))
def ze0:PSt->R Fl:=(seqF (setF 2 (bin2 (getV 0) (getV 1) gIx)) (seqF (setF 3 (kI 1)) (seqF (whS 300 (truF (bin2 (kB true) (zih (itF (getV 0)) (zao 0) zbm zbn 1 [2,0,3,1]) gIn)) zdz) (retF (ze9 (getV 2) zcv (zeb (getV 3)))))))
def zbe:List PV->Option PV:=runF 2 4 ze0
def zdv:PSt->R Fl:=(seqF (unpF (getV 2) (tupT 5 (zau (zao 4) (zau (zao 5) (zau (zao 6) (zau (zao 7) (zau (zao 8) nilT))))))) (seqF (ownF 9 (lstF (zac (getV 6) (zac (getV 7) nilA)))) (seqF (znm 9 (getV 3) (bin2 (bin2 (getO 9) (getV 3) gIx) (kI 1) gAdd)) (seqF (unpF (bin2 (bin2 (bin2 (getV 0) (kS "rooms") gIx) (getV 4) gIx) (bin2 (kI 3) (getV 3) gAdd) gIx) (tupT 2 (zau (zao 10) (zau (zao 11) nilT)))) (seqF (ifF (truF (bin2 (bin2 (getO 9) (getV 3) gIx) (getV 10) gEq)) (retF (zaw (zac (getV 0) (zac (getV 1) (zac (getV 11) (zac (getV 4) nilA)))) za5)) zb9) (retF (tupF (zac (getV 4) (zac (getV 5) (zac (bin2 (getO 9) (kI 0) gIx) (zac (bin2 (getO 9) (kI 1) gIx) (zac (kS "") nilA))))))))))))
def zbw:List PV->Option PV:=runF 4 12 zdv
def zbd:PSt->R Fl:=(seqF (setF 9 (zaw (zac (getV 5) (zac (getV 7) nilA)) zbe)) (seqF (ifF (truF (bin2 (getV 9) (getV 6) gEq)) (retF (zaw (zac (getV 0) (zac (getV 1) (zac (getV 8) (zac (bin2 (getV 2) (kI 0) gIx) nilA)))) za5)) zb9) (ifF (truF (bin2 (ze9 (getV 9) zcv (zeb (un1 (getV 6) gLen))) (getV 6) gEq)) (retF (bin2 (ze9 (getV 2) zcv (zeb (kI 4))) (tupF (zac (getV 6) nilA)) gAdd)) zb9)))
def zgb:PSt->R Fl:=(seqF (setF 4 (bin2 (bin2 (getV 0) (kS "rooms") gIx) (bin2 (getV 2) (kI 0) gIx) gIx)) (seqF (setF 5 (zaw (zac (getV 0) (zac (bin2 (getV 4) (kI 2) gIx) nilA)) zdx)) (seqF (setF 6 (bin2 (bin2 (getV 2) (kI 4) gIx) (getV 3) gAdd)) (seqF (forS (itF (bin2 (getV 4) (kI 2) gIx)) (tupT 2 (zau (zao 7) (zau (zao 8) nilT))) zbd) (retF (zaw (zac (getV 0) (zac (getV 1) (zac (getV 2) (zac (kI 0) nilA)))) zbw))))))
def zgd:List PV->Option PV:=runF 4 10 zgb
def zbf:PSt->R Fl:=(seqF (ifF (andB (truF (bin2 (getV 5) (getV 3) gEq)) (truF (bin2 (getV 6) (kS "back") gNe))) (retF (zaw (zac (getV 0) (zac (getV 1) (zac (getV 6) (zac (bin2 (getV 2) (kI 0) gIx) nilA)))) za5)) zb9) (ifF (andB (truF (bin2 (getV 5) (getV 3) gEq)) (truF (bin2 (bin2 (getV 2) (kI 1) gIx) (kS "") gNe))) (retF (zaw (zac (getV 0) (zac (getV 1) (zac (bin2 (getV 2) (kI 1) gIx) (zac (bin2 (getV 2) (kI 0) gIx) nilA)))) za5)) zb9))
def zdw:PSt->R Fl:=(seqF (setF 4 (bin2 (bin2 (getV 0) (kS "rooms") gIx) (bin2 (getV 2) (kI 0) gIx) gIx)) (seqF (ifF (truF (bin2 (bin2 (getV 4) (kI 0) gIx) (lstF (zac (kS "hand") (zac (kS "end") nilA))) gIn)) (retF (getV 2)) zb9) (seqF (ifF (truF (bin2 (getV 3) (kS "w") gEq)) (retF (zaw (zac (getV 0) (zac (getV 1) (zac (getV 2) (zac (kI 1) nilA)))) zbw)) zb9) (seqF (ifF (truF (bin2 (bin2 (getV 4) (kI 0) gIx) (kS "names") gEq)) (retF (zaw (zac (getV 0) (zac (getV 1) (zac (getV 2) (zac (getV 3) nilA)))) zgd)) zb9) (seqF (forS (itF (bin2 (getV 4) (kI 2) gIx)) (tupT 2 (zau (zao 5) (zau (zao 6) nilT))) zbf) (retF (zaw (zac (getV 0) (zac (getV 1) (zac (getV 2) (zac (kI 0) nilA)))) zbw)))))))
def zev:List PV->Option PV:=runF 4 7 zdw
def zct:PSt->R Fl:=(seqF (setF 3 (kS "0123456789*#w")) (seqF (setF 4 (bin2 (bin2 (getV 0) (kS "rooms") gIx) (bin2 (getV 1) (kI 0) gIx) gIx)) (seqF (ifF (andB (truF (bin2 (bin2 (getV 2) (kI 3) gMod) (kI 0) gGt)) (andB (truF (bin2 (bin2 (getV 4) (kI 0) gIx) (kS "menu") gEq)) (truF (bin2 (un1 (bin2 (getV 4) (kI 2) gIx) gLen) (kI 0) gGt)))) (retF (bin2 (bin2 (bin2 (getV 4) (kI 2) gIx) (bin2 (bin2 (getV 2) (kI 3) gDiv) (un1 (bin2 (getV 4) (kI 2) gIx) gLen) gMod) gIx) (kI 0) gIx)) zb9) (seqF (ifF (andB (truF (bin2 (bin2 (getV 2) (kI 3) gMod) (kI 0) gGt)) (truF (bin2 (bin2 (getV 4) (kI 0) gIx) (kS "names") gEq))) (seqF (setF 5 (zaw (zac (getV 0) (zac (bin2 (getV 4) (kI 2) gIx) nilA)) zdx)) (seqF (setF 6 (bin2 (bin2 (bin2 (getV 4) (kI 2) gIx) (bin2 (bin2 (getV 2) (kI 3) gDiv) (un1 (bin2 (getV 4) (kI 2) gIx) gLen) gMod) gIx) (kI 0) gIx)) (seqF (setF 7 (zaw (zac (getV 5) (zac (getV 6) nilA)) zbe)) (ifF (truF (bin2 (ze9 (getV 7) zcv (zeb (un1 (bin2 (getV 1) (kI 4) gIx) gLen))) (bin2 (getV 1) (kI 4) gIx) gEq)) (retF (bin2 (getV 7) (un1 (bin2 (getV 1) (kI 4) gIx) gLen) gIx)) zb9)))) zb9) (retF (bin2 (getV 3) (bin2 (bin2 (getV 2) (kI 3) gDiv) (kI 13) gMod) gIx))))))
def zfx:List PV->Option PV:=runF 3 8 zct
def znz:PSt->R Fl:=(seqF (setF 7 (zaw (zac (getV 1) (zac (getV 3) (zac (getV 6) nilA))) zfx)) (seqF (setF 8 (zaw (zac (getV 1) (zac (getV 2) (zac (getV 3) (zac (getV 7) nilA)))) zev)) (seqF (ifF (truF (bin2 (zaw (zac (getV 1) (zac (getV 2) (zac (getV 3) (zac (getV 7) nilA)))) zo1) (getV 8) gNe)) (retF (kB false)) zb9) (seqF (setF 5 (bin2 (getV 5) (getV 7) gAdd)) (seqF (setF 3 (getV 8)) (appF 4 (getV 3)))))))
def zrw:PSt->R Fl:=(seqF (setF 1 (zaw (zac (zfq (getV 0) zcv (zeb (kI 9))) nilA) ze1)) (seqF (setF 2 (bin2 (zaw (zac (getV 0) (zac (kI 9) nilA)) zan) (kI 24) gMod)) (seqF (setF 3 (zaw (zac (getV 1) (zac (getV 2) (zac (bin2 (getV 1) (kS "first") gIx) (zac (kS "") nilA)))) za5)) (seqF (ownF 4 (lstF (zac (getV 3) nilA))) (seqF (setF 5 (kS "")) (seqF (forS (itF (zfq (getV 0) (zeb (kI 10)) (zeb (kI 50)))) (zao 6) znz) (seqF (ownF 9 (zaw (zac (getV 1) (zac (getV 2) (zac (getV 5) nilA))) zmz)) (seqF (ifF (orB (notB (truF (un1 (getO 9) (gIsi "list")))) (orB (truF (bin2 (getO 9) (getO 4) gNe)) (truF (bin2 (zaw (zac (getV 1) (zac (getV 2) nilA)) zhu) (bin2 (getO 4) (kI 0) gIx) gNe)))) (retF (kB false)) zb9) (seqF (setF 10 (bin2 (bin2 (getV 1) (kS "rooms") gIx) (bin2 (getV 3) (kI 0) gIx) gIx)) (seqF (setF 11 (bin2 (getV 10) (kI 0) gIx)) (seqF (ifF (truF (bin2 (getV 11) (lstF (zac (kS "menu") (zac (kS "names") nilA))) gIn)) (setF 11 (kS "asked")) zb9) (seqF (appF 9 kN) (seqF (ifF (orB (truF (bin2 (zaw (zac (getV 1) (zac (getV 3) nilA)) zl1) (tupF (zac (getV 11) (zac (bin2 (getV 10) (kI 1) gIx) nilA))) gNe)) (truF (bin2 (zaw (zac (getV 1) (zac (getV 2) (zac (getV 5) nilA))) zmz) (getO 4) gNe))) (retF (kB false)) zb9) (retF (bin2 (getV 1) (zaw (zac (zfq (getV 0) zcv (zeb (kI 9))) nilA) ze1) gEq)))))))))))))))
def zr7:List PV->Option PV:=runF 1 12 zrw
end K22
end
section
namespace K22
open PySem L2 PU MT
theorem zx4 (ls:WO.Lts) (c:Nat):zjr [WO.ltPv ls,WO.sg c]=some (WO.keyPv (WO.keyL ls c)):=by
 refine zam rfl ?_
 obtain ⟨k1,k2⟩:=zib (enc:=fun l:Nat × List Nat=>PV.tup [WO.sg l.1,.str (mkS l.2)]) (h:=tupT 2 (zau (zao 2) (zau (zao 3) nilT))) (g:=zhb) (fun l=>decide (c∈l.2)) (fun l=>WO.sg l.1)
  (I:=fun ρ=>∃ a b,ρ=[.val (WO.ltPv ls),.val (WO.sg c),a,b]) (by
   rintro l ρ ⟨a,b,rfl⟩
   have e:=WO.in_one c l.2
   refine ⟨_,rfl,fun hp=>?_,fun hp=>⟨_,?_,.val (WO.sg l.1),.val (.str (mkS l.2)),rfl⟩⟩
   ·rw [hp] at e
    simp [zhb,e]
   ·rw [hp] at e
    simp [zhb,e]) ls [.val (WO.ltPv ls),.val (WO.sg c),.no,.no] ⟨_,_,rfl⟩
 have ei:zfi (WO.ltPv ls)=some (ls.map fun l=>PV.tup [WO.sg l.1,.str (mkS l.2)]):=rfl
 cases e:ls.find? (fun l=>decide (c∈l.2)) with
 | some l =>
  have k:=k1 l e
  simp [zjp,PU.start,ei]
  rw [k]
  simp [WO.keyPv,WO.keyL,e]
 | none =>
  obtain ⟨ρ',k,a,b,rfl⟩:=k2 e
  simp [zjp,PU.start,ei]
  rw [k]
  simp [WO.keyPv,WO.keyL,e]
theorem zvr (ls:WO.Lts) (x:List Nat) (hx:x.length<=1000):zg0 [WO.ltPv ls,.str (mkS x)]=some (WO.codePv (WO.codeL ls x)):=by
 refine zam rfl ?_
 have c1:zeh (zao 0) yesB zhv [.no,.val (WO.ltPv ls)] (x.map WO.sg)=.ok (x.map fun c=>WO.keyPv (WO.keyL ls c)) :=
  WO.in_list_comp (fun c=>WO.keyPv (WO.keyL ls c)) x fun c _=>⟨_,zin _,by simp [zhv,zx4]⟩
 have c2:=WO.none_in ls x
 have hl:x.length<=16777216:=by omega
 simp [zkb,PU.start,WO.it_mk,zlc,List.replicate,c1,hl,c2]
 cases h:x.all fun c=>(WO.keyL ls c).isSome with
 | false=>simp [WO.codeL,h,WO.codePv]
 | true =>
  have e:(x.map fun c=>WO.keyPv (WO.keyL ls c))=(x.map fun c=>(WO.keyL ls c).getD 0).map WO.sg:=by
   rw [List.map_map]
   apply List.map_congr_left
   intro c hc
   have:=List.all_eq_true.mp h c hc
   cases h2:WO.keyL ls c with
   | none=>rw [h2] at this;cases this
   | some k=>simp [WO.keyPv,h2]
  have j:=WO.joinV (x.map fun c=>(WO.keyL ls c).getD 0) (by simpa using hx)
  rw [e]
  simp [-List.map_map,j,WO.codeL,h,WO.codePv]
open BG
abbrev bst (codes:PV) (ks:List Key) (ps:List PV) (a b:Sl):PSt:=[.val codes,.own (.dct ks ps),a,b]
theorem be_b1 (codes:PV) (L:List W) (ks:List Key) (ps:List PV) (h:Cnt L ks ps) (c:W) (n:Nat) (hc:c.length<=100) (hL:L.length<=10000):∃ ks' ps',Cnt (L++[c.take n]) ks' ps' ∧
  zb0 (bst codes ks ps (.val (.str (mkS c))) (.val (.int n)))=.ok (.next (bst codes ks' ps' (.val (.str (mkS c))) (.val (.int n)))):=by
 obtain ⟨ks',ps',e,h'⟩:=zxr h (c.take n)
 have e1:=zs8 (x:=mkS c) none (some (n:Int)) (by rw [zc4];omega)
 rw [zjm] at e1
 have e2:=zxs h (c.take n)
 have z:ks.length < 16777216:=by have:=h.le;omega
 refine ⟨ks',ps',h',?_⟩
 simp [zb0,bst,e1,e2,z,e]
theorem be_b2 (codes:PV) (L:List W) (ks:List Key) (ps:List PV) (h:Cnt L ks ps) (c:W) (b:Sl) (hc:c.length<=100) (hL:L.length<=9000):∃ ks' ps' b',Cnt (L++pres c) ks' ps' ∧
  zbz (bst codes ks ps (.val (.str (mkS c))) b)=.ok (.next (bst codes ks' ps' (.val (.str (mkS c))) b')):=by
 obtain ⟨ρ',f1,ks',ps',b',rfl,h'⟩:=forR (n:=c.length) (lo:=1) (h:=zao 3) (g:=zb0) (ρ:=bst codes ks ps (.val (.str (mkS c))) b)
  (I:=fun i ρ=>∃ ks ps b,ρ=bst codes ks ps (.val (.str (mkS c))) b/\Cnt (L++(List.range i).map fun j=>c.take (j + 1)) ks ps) ⟨ks,ps,b,rfl,by simpa using h⟩ (by
   rintro i ρ hi ⟨ks,ps,b,rfl,h⟩
   obtain ⟨ks',ps',h',e⟩:=be_b1 codes _ ks ps h c (i + 1) hc (by simp;omega)
   have ei:(1:Int) + (i:Int)=((i + 1:Nat):Int):=by omega
   rw [ei]
   refine ⟨_,_,rfl,.inl e,ks',ps',_,rfl,?_⟩
   rw [List.range_succ,List.map_append,← List.append_assoc]
   exact h')
 refine ⟨ks',ps',b',h',?_⟩
 have e1:gLen (.str (mkS c))=some (.int c.length):=by rw [zgl (by rw [zc4];omega),zc4]
 have e2:rngQ (.int 1) (.int ((c.length:Int) + 1))=.ok (zcj 1 c.length):=by rw [zqf (by omega) (by omega) (by omega) (by omega)];congr 2;omega
 simp [zbz,e1,e2]
 exact f1
theorem zsv (cs:List W) (hn:cs.length<=12) (hc:∀ c∈cs,c.length<=20):∃ ks ps,Cnt (cs.flatMap pres) ks ps/\zbu [.lst (cs.map fun c=>.str (mkS c))]=some (.dct ks ps):=by
 obtain ⟨ρ',f1,ks,ps,a,b,rfl,h⟩:=forM (enc:=fun c:W=>PV.str (mkS c)) (xs:=cs) (h:=zao 2) (g:=zbz) (ρ:=bst (.lst (cs.map fun c=>.str (mkS c))) [] [] .no .no)
  (I:=fun pre ρ=>∃ ks ps a b,ρ=bst (.lst (cs.map fun c=>.str (mkS c))) ks ps a b/\Cnt (pre.flatMap pres) ks ps) ⟨[],[],_,_,rfl,⟨rfl,by simp,fun p=>by simp [zca]⟩⟩ (by
   rintro pre c post ρ hx ⟨ks,ps,a,b,rfl,h⟩
   have hcm:c∈cs:=by rw [hx];simp
   have hpl:pre.length<=12:=by
    have:=congrArg List.length hx
    rw [List.length_append] at this
    omega
   have hfl:=zr5 (l:=pre) (f:=pres) (b:=20) fun x hxm=>by
    unfold pres
    rw [List.length_map,List.length_range]
    exact hc x (by rw [hx];exact List.mem_append_left _ hxm)
   obtain ⟨ks',ps',b',h',e⟩:=be_b2 (.lst (cs.map fun c=>.str (mkS c))) _ ks ps h c b (by have:=hc c hcm;omega) (by omega)
   refine ⟨_,_,rfl,.inl e,ks',ps',_,_,rfl,?_⟩
   rw [List.flatMap_append]
   simpa using h')
 refine ⟨ks,ps,h,zam rfl ?_⟩
 simp [zdh,PU.start]
 rw [f1]
 simp
theorem be_own (cs:List W) (ks:List Key) (ps:List PV) (h:Cnt (cs.flatMap pres) ks ps) (c:W) (hc:c∈cs) (hne:c≠[]) (hl:c.length<=100):zdi [.str (mkS c),.dct ks ps]=some (.str (mkS (own cs c))):=by
 refine zam rfl ?_
 have key:∀ i:Nat,gIx (.dct ks ps) (.str (mkS (c.take (i + 1))))=some (.int (many cs (c.take (i + 1)))):=fun i=>by
  have hp:c.take (i + 1)≠[]:=fun e=>by
   cases c with
   | nil=>exact hne rfl
   | cons a r=>simp at e
  show zca ks ps (.inr (mkS (c.take (i + 1))))=_
  rw [h.at_,zsm cs _ hp,if_neg]
  intro e
  unfold many at e
  have:c∈cs.filter (pre (c.take (i + 1))):=List.mem_filter.mpr ⟨hc,zfg.mpr (List.take_prefix _ _)⟩
  rw [List.length_eq_zero_iff.mp e] at this
  cases this
 obtain ⟨k1,k2⟩:=zib (enc:=fun i:Nat=>PV.int (1 + (i:Nat))) (h:=zao 2) (g:=zcu) (fun i=>decide (many cs (c.take (i + 1))=1)) (fun i=>PV.str (mkS (c.take (i + 1))))
  (I:=fun ρ=>∃ a,ρ=[.val (.str (mkS c)),.val (.dct ks ps),a]) (by
   rintro i ρ ⟨a,rfl⟩
   have e1:=zs8 (x:=mkS c) none (some ((i + 1:Nat):Int)) (by rw [zc4];omega)
   rw [zjm] at e1
   have ei:(1:Int) + (i:Int)=((i + 1:Nat):Int):=by omega
   have e2:=key i
   have e2:((zf1 (.str (mkS (c.take (i + 1))))).bind fun k=>zca ks ps k)=some (.int (many cs (c.take (i + 1)))):=e2
   rw [ei]
   refine ⟨_,rfl,fun hp=>?_,fun hp=>⟨_,?_,.val (.int ((i + 1:Nat):Int)),rfl⟩⟩
   ·have hp:many cs (c.take (i + 1))=1:=by simpa using hp
    rw [hp] at e2
    have e2:zca ks ps (.inr (mkS (c.take (i + 1))))=some (.int 1):=e2
    have e1:gSlA (.str (mkS c)) none (some ((i:Int) + 1))=some (.str (mkS (c.take (i + 1)))):=e1
    simp [zcu,e1,e2]
   ·have hp:¬ many cs (c.take (i + 1))=1:=by simpa using hp
    have hp2:¬ ((many cs (c.take (i + 1)):Nat):Int)=1:=by omega
    have e2:zca ks ps (.inr (mkS (c.take (i + 1))))=some (.int (many cs (c.take (i + 1)))):=e2
    have e1:gSlA (.str (mkS c)) none (some ((i:Int) + 1))=some (.str (mkS (c.take (i + 1)))):=e1
    simp [zcu,e1,e2,hp2]) (List.range (c.length - 1)) [.val (.str (mkS c)),.val (.dct ks ps),.no] ⟨_,rfl⟩
 have e1:gLen (.str (mkS c))=some (.int c.length):=by rw [zgl (by rw [zc4];omega),zc4]
 have e2:rngQ (.int 1) (.int (c.length:Int))=.ok ((List.range (c.length - 1)).map fun i:Nat=>PV.int (1 + (i:Nat))):=by rw [zqf (by omega) (by omega) (by omega) (by omega),show ((c.length:Int) - 1).toNat=c.length - 1 by omega];rfl
 unfold own
 cases e:(List.range (c.length - 1)).find? (fun i=>decide (many cs (c.take (i + 1))=1)) with
 | some i =>
  have k:=k1 i e
  simp only [zdf,PU.start,List.map_cons,List.map_nil,List.length_cons,List.length_nil,List.replicate,List.cons_append,List.nil_append,zqb,zux,zuv,x_kI,zx2,znb,ziy,k_op1,e1,R.ofO_some,zrm,e2,k_for,k,zrn]
 | none =>
  obtain ⟨ρ',k,a,rfl⟩:=k2 e
  simp only [zdf,PU.start,List.map_cons,List.map_nil,List.length_cons,List.length_nil,List.replicate,List.cons_append,List.nil_append,zqb,zux,zuv,x_kI,zx2,znb,ziy,k_op1,e1,R.ofO_some,zrm,e2,k_for,k,zk4,zuw,k_map]
def cdW (ls:WO.Lts) (w:W):W:=w.map (fun c=>(WO.keyL ls c).getD 0)
def cdH (ls:WO.Lts) (w:W):W:=cdW ls w++[35]
def told (ls:WO.Lts) (ws:List W) (w:W):PV:=.tup [.str (mkS w),.str (mkS (own (ws.map (cdH ls)) (cdH ls w)))]
theorem zus (ls:WO.Lts) (ws:List W) (hn:ws.length<=12) (hw:∀ w∈ws,w.length<=12/\∀ c∈w,(WO.keyL ls c).isSome=true):zea [WO.ltPv ls,.lst (ws.map fun w=>.str (mkS w))]=some (.lst (ws.map (told ls ws))):=by
 refine zam rfl ?_
 have hash:("#":Str)=mkS [35]:=by decide +kernel
 have c1:zeh (zao 0) yesB zfk [.no,.val (WO.ltPv ls)] (ws.map fun w=>.str (mkS w))=.ok (ws.map fun w=>.str (mkS (cdH ls w))) :=
  WO.in_list_comp (enc:=fun w:W=>PV.str (mkS w)) (fun w=>.str (mkS (cdH ls w))) ws fun w hwm=>by
   have h:=hw w hwm
   have e:=zvr ls w (by omega)
   have e2:WO.codeL ls w=some (cdW ls w):=by
    unfold WO.codeL
    rw [if_pos (List.all_eq_true.mpr fun c hc=>h.2 c hc)]
    rfl
   rw [e2] at e
   have e:zg0 [WO.ltPv ls,.str (mkS w)]=some (.str (mkS (cdW ls w))):=e
   have e3:gAdd (.str (mkS (cdW ls w))) c_CODE_END=some (.str (mkS (cdH ls w))):=by
    show gAdd (.str (mkS (cdW ls w))) (.str "#")=_
    rw [hash,zju (by simp [cdW];omega),zj4]
    rfl
   exact ⟨_,zin _,by simp [zfk,e,e3]⟩
 obtain ⟨ks,ps,h,e2⟩:=zsv (ws.map (cdH ls)) (by simpa using hn) (fun c hc=>by
  obtain ⟨w,hwm,rfl⟩:=List.mem_map.mp hc
  have:=(hw w hwm).1
  simp [cdH,cdW]
  omega)
 have e2:zbu [.lst (ws.map fun w=>.str (mkS (cdH ls w)))]=some (.dct ks ps):=by rw [← e2,List.map_map];rfl
 have ez:∀ l:List W,(zipP (l.map fun w=>PV.str (mkS w)) (l.map fun w=>PV.str (mkS (cdH ls w)))).map PV.tup=l.map fun w=>PV.tup [.str (mkS w),.str (mkS (cdH ls w))]:=by
  intro l
  unfold zipP
  induction l with
  | nil=>rfl
  | cons a r ih=>simp only [List.map_cons,List.zipWith_cons_cons];rw [ih]
 have c2:zeh (tupT 2 (zau (zao 0) (zau (zao 1) nilT))) yesB zfj [.no,.no,.val (.dct ks ps)] (ws.map fun w=>PV.tup [.str (mkS w),.str (mkS (cdH ls w))])=.ok (ws.map (told ls ws)) :=
  WO.in_list_comp (enc:=fun w:W=>PV.tup [.str (mkS w),.str (mkS (cdH ls w))]) (told ls ws) ws fun w hwm=>by
   have:=(hw w hwm).1
   have e:=be_own (ws.map (cdH ls)) ks ps h (cdH ls w) (List.mem_map.mpr ⟨w,hwm,rfl⟩) (by simp [cdH]) (by simp [cdH,cdW];omega)
   exact ⟨[.val (.str (mkS w)),.val (.str (mkS (cdH ls w))),.val (.dct ks ps)],rfl,by simp [zfj,e,told]⟩
 have z:ws.length<=16777216:=by omega
 have ei:zfi (.lst (ws.map fun w=>PV.str (mkS w)))=some (ws.map fun w=>PV.str (mkS w)):=rfl
 have zq:=k_zipQ (ws.map fun w=>PV.str (mkS w)) (ws.map fun w=>PV.str (mkS (cdH ls w))) (by rw [zmy];rfl)
 simp [zgz,PU.start,zlc,List.replicate,c1,z,e2,zq]
 rw [ez,c2]
 simp [z]
open NW
abbrev nwst (L D:PV) (ks:List Key) (ps:List PV) (a b c:Sl):PSt:=[.val L,.val D,.own (.dct ks ps),a,b,c]
theorem nw_b1 (L D:PV) (ks:List Key) (ps:List PV) (F:W->Option PV) (h:Tells ks ps F) (a:Sl) (b:W) (n:Nat) (hb:b.length<=100) (hk:ks.length<=100000):∃ ks' ps',Tells ks' ps' (fun p=>if b.take n=p then some .non else F p)/\ks'.length<=ks.length + 1 ∧
  zcy (nwst L D ks ps a (.val (.str (mkS b))) (.val (.int n)))=.ok (.next (nwst L D ks' ps' a (.val (.str (mkS b))) (.val (.int n)))):=by
 obtain ⟨ks',ps',e,h1,h2⟩:=h.put (b.take n) .non
 have e1:=zs8 (x:=mkS b) none (some (n:Int)) (by rw [zc4];omega)
 rw [zjm] at e1
 have z:ks.length < 16777216:=by omega
 refine ⟨ks',ps',h2,h1,?_⟩
 simp [zcy,nwst,e1,z,e]
theorem nw_b2 (L D:PV) (ks:List Key) (ps:List PV) (F:W->Option PV) (h:Tells ks ps F) (w b:W) (t:Str) (hne:b≠[]) (hD:gIx D (.str (mkS w))=some (.str t)) (x:Sl) (hb:b.length<=100) (hk:ks.length<=10000):∃ ks' ps' x',Tells ks' ps' (fun p=>wstep p (F p) (b,t))/\ks'.length<=ks.length + 100 ∧
  zcx (nwst L D ks ps (.val (.str (mkS w))) (.val (.str (mkS b))) x)=.ok (.next (nwst L D ks' ps' (.val (.str (mkS w))) (.val (.str (mkS b))) x')):=by
 have hbl:1<=b.length:=by cases b with | nil=>exact absurd rfl hne | cons _ _=>simp
 obtain ⟨ρ',f1,ks1,ps1,x1,rfl,h1,l1⟩:=forR (n:=b.length - 1) (lo:=1) (h:=zao 5) (g:=zcy) (ρ:=nwst L D ks ps (.val (.str (mkS w))) (.val (.str (mkS b))) x)
  (I:=fun i ρ=>∃ ks1 ps1 x1,ρ=nwst L D ks1 ps1 (.val (.str (mkS w))) (.val (.str (mkS b))) x1/\Tells ks1 ps1 (fun p=>if p∈(List.range i).map (fun j=>b.take (j + 1)) then some .non else F p)/\ks1.length<=ks.length + i)
  ⟨ks,ps,x,rfl,⟨h.len,fun p=>by rw [h.at_,if_neg (by simp)]⟩,by omega⟩ (by
   rintro i ρ hi ⟨ks1,ps1,x1,rfl,h1,l1⟩
   obtain ⟨ks2,ps2,h2,l2,e⟩:=nw_b1 L D ks1 ps1 _ h1 (.val (.str (mkS w))) b (i + 1) hb (by omega)
   have ei:(1:Int) + (i:Int)=((i + 1:Nat):Int):=by omega
   rw [ei]
   refine ⟨_,_,rfl,.inl e,ks2,ps2,_,rfl,⟨h2.len,fun p=>?_⟩,by omega⟩
   rw [h2.at_,List.range_succ,List.map_append]
   by_cases hp:b.take (i + 1)=p
   ·rw [if_pos hp,if_pos (List.mem_append_right _ (by simp [hp]))]
   ·rw [if_neg hp]
    by_cases hq:p∈(List.range i).map (fun j=>b.take (j + 1))
    ·rw [if_pos hq,if_pos (List.mem_append_left _ hq)]
    ·rw [if_neg hq,if_neg]
     intro z
     rcases List.mem_append.mp z with z | z
     ·exact hq z
     ·rw [List.map_singleton,List.mem_singleton] at z
      exact hp z.symm)
 obtain ⟨ks2,ps2,e2,l2,h2⟩:=h1.put b (.str t)
 refine ⟨ks2,ps2,x1,⟨h2.len,fun p=>?_⟩,by omega,?_⟩
 ·rw [h2.at_]
  unfold wstep
  by_cases hp:b=p
  ·simp only [if_pos hp]
  ·simp only [if_neg hp]
   by_cases hq:p≠[]/\p <+: b
   ·rw [if_pos hq,if_pos]
    have hl:=List.IsPrefix.length_le hq.2
    have h0:1<=p.length:=by
     cases p with
     | nil=>exact absurd rfl hq.1
     | cons _ _=>simp
    have ht:=List.prefix_iff_eq_take.mp hq.2
    have hlt:p.length≠b.length:=fun z=>hp (by rw [z,List.take_length] at ht;exact ht.symm)
    exact List.mem_map.mpr ⟨p.length - 1,List.mem_range.mpr (by omega),by rw [show p.length - 1 + 1=p.length by omega];exact ht.symm⟩
   ·rw [if_neg hq,if_neg]
    intro z
    obtain ⟨j,q2,rfl⟩:=List.mem_map.mp z
    have q2:=List.mem_range.mp q2
    refine hq ⟨fun z=>?_,List.take_prefix _ _⟩
    cases b with
    | nil=>exact hne rfl
    | cons a r=>simp at z
 ·have e1:gLen (.str (mkS b))=some (.int b.length):=by rw [zgl (by rw [zc4];omega),zc4]
  have e3:rngQ (.int 1) (.int (b.length:Int))=.ok (zcj 1 (b.length - 1)):=by rw [zqf (by omega) (by omega) (by omega) (by omega)];congr 2;omega
  have z:ks1.length < 16777216:=by omega
  have f1:forF (zao 5) zcy (zcj 1 (b.length - 1)) [.val L,.val D,.own (.dct ks ps),.val (.str (mkS w)),.val (.str (mkS b)),x]=.ok (.next [.val L,.val D,.own (.dct ks1 ps1),.val (.str (mkS w)),.val (.str (mkS b)),x1]):=f1
  simp only [nwst]
  simp [zcx,e1,e3,f1,hD,z,e2]
def bsOf (ls:WO.Lts) (wt:List (W × Str)):List (W × Str):=wt.map fun p=>(own ((wt.map (·.1)).map (cdH ls)) (cdH ls p.1),p.2)
theorem zt0 (ls:WO.Lts) (wt:List (W × Str)) (hn:wt.length<=12) (hw:∀ p∈wt,p.1.length<=12/\∀ c∈p.1,(WO.keyL ls c).isSome=true) (nd:(wt.map (·.1)).Nodup):∃ ks ps,Tells ks ps (Ways (bsOf ls wt))/\zfc [WO.ltPv ls,wtD wt]=some (.dct ks ps):=by
 have eb:=zus ls (wt.map (·.1)) (by simpa using hn) (fun w hwm=>by obtain ⟨p,hp,rfl⟩:=List.mem_map.mp hwm;exact hw p hp)
 have el:=zwz wt
 rw [List.map_map] at eb
 have eb:zea [WO.ltPv ls,.lst (wt.map fun p=>.str (mkS p.1))]=some (.lst ((wt.map (·.1)).map (told ls (wt.map (·.1))))):=eb
 rw [List.map_map] at eb
 let B:W × Str->W:=fun p=>own ((wt.map (·.1)).map (cdH ls)) (cdH ls p.1)
 have hB:∀ p∈wt,B p≠[]/\(B p).length<=100:=fun p hp=>⟨zq4 _ _ (by simp [cdH]),by
  have h1:=List.IsPrefix.length_le (zls ((wt.map (·.1)).map (cdH ls)) (cdH ls p.1))
  have h2:=(hw p hp).1
  have h3:(cdH ls p.1).length=p.1.length + 1:=by simp [cdH,cdW]
  show (own _ _).length<=100
  omega⟩
 obtain ⟨ρ',f1,ks,ps,a,b,c,rfl,h,l⟩:=forM (enc:=fun p:W × Str=>PV.tup [.str (mkS p.1),.str (mkS (B p))]) (xs:=wt) (h:=tupT 2 (zau (zao 3) (zau (zao 4) nilT))) (g:=zcx) (ρ:=nwst (WO.ltPv ls) (wtD wt) [] [] .no .no .no)
  (I:=fun pre ρ=>∃ ks ps a b c,ρ=nwst (WO.ltPv ls) (wtD wt) ks ps a b c/\Tells ks ps (fun p=>(pre.map fun q=>(B q,q.2)).foldl (wstep p) none)/\ks.length<=pre.length * 100) ⟨[],[],.no,.no,.no,rfl,⟨rfl,fun p=>rfl⟩,by simp⟩ (by
   rintro pre p post ρ hx ⟨ks,ps,a,b,c,rfl,h,l⟩
   have hp:p∈wt:=by rw [hx];simp
   have hpl:pre.length<=12:=by
    have:=congrArg List.length hx
    rw [List.length_append] at this
    omega
   have hD:gIx (wtD wt) (.str (mkS p.1))=some (.str p.2):=ztc wt nd hp
   obtain ⟨ks',ps',x',h',l',e⟩:=nw_b2 (WO.ltPv ls) (wtD wt) ks ps _ h p.1 (B p) p.2 (hB p hp).1 hD c (hB p hp).2 (by omega)
   refine ⟨_,_,rfl,.inl e,ks',ps',_,_,_,rfl,⟨h'.len,fun q=>?_⟩,by simp;omega⟩
   rw [h'.at_,List.map_append,List.foldl_append]
   rfl)
 refine ⟨ks,ps,h,zam rfl ?_⟩
 have ei:zfi (.lst (wt.map (told ls (wt.map (·.1)) ∘ fun x=>x.1)))=some (wt.map fun p:W × Str=>PV.tup [.str (mkS p.1),.str (mkS (B p))]):=rfl
 have f1:forF (tupT 2 (zau (zao 3) (zau (zao 4) nilT))) zcx (wt.map fun p:W × Str=>PV.tup [.str (mkS p.1),.str (mkS (B p))]) [.val (WO.ltPv ls),.val (wtD wt),.own (.dct [] []),.no,.no,.no]=.ok (.next [.val (WO.ltPv ls),.val (wtD wt),.own (.dct ks ps),a,b,c]):=f1
 generalize (wt.map fun p:W × Str=>PV.tup [.str (mkS p.1),.str (mkS (B p))])=TL at *
 generalize PV.lst (wt.map (told ls (wt.map (·.1)) ∘ fun x=>x.1))=TQ at *
 generalize PV.lst (wt.map fun p=>.str (mkS p.1))=WL at *
 generalize wtD wt=DD at *
 generalize WO.ltPv ls=LL at *
 simp [zgx,PU.start,el,eb,ei,f1]
theorem zw3 {ls:WO.Lts} {c:Nat} (h:(WO.keyL ls c).isSome=true):∃ l∈ls,(WO.keyL ls c).getD 0=l.1:=by
 unfold WO.keyL at h ⊢
 cases e:ls.find? fun l=>decide (c∈l.2) with
 | none=>rw [e] at h;cases h
 | some l=>exact ⟨l,List.mem_of_find?_eq_some e,rfl⟩
theorem zvl {ls:WO.Lts} (hk:∀ l∈ls,l.1≠35) {w:W} (hw:∀ c∈w,(WO.keyL ls c).isSome=true):Code (cdH ls w):=by
 refine ⟨cdW ls w,rfl,fun z=>?_⟩
 obtain ⟨c,hc,e⟩:=List.mem_map.mp z
 obtain ⟨l,hl,e2⟩:=zw3 (hw c hc)
 exact hk l hl (by rw [← e2,e])
section
variable {ls : WO.Lts} {wt : List (W × Str)} (hk : ∀ l ∈ ls, l.1 ≠ 35) (hw : ∀ p ∈ wt, ∀ c ∈ p.1, (WO.keyL ls c).isSome = true) (nc : (wt.map fun p => cdH ls p.1).Nodup)
omit hk hw nc in
theorem bs_ne:∀ x∈bsOf ls wt,x.1≠[]:=fun x hx=>by
 obtain ⟨p,_,rfl⟩:=List.mem_map.mp hx
 exact zq4 _ _ (by simp [cdH])
include hk hw nc
theorem zxm:∀ c∈(wt.map (·.1)).map (cdH ls),Code c:=fun c hc=>by
 obtain ⟨w,hwm,rfl⟩:=List.mem_map.mp hc
 obtain ⟨p,hp,rfl⟩:=List.mem_map.mp hwm
 exact zvl hk (hw p hp)
omit hk hw in
theorem cd_inj {p q:W × Str} (hp:p∈wt) (hq:q∈wt) (e:cdH ls p.1=cdH ls q.1):p=q :=
 zh8 (fun p:W × Str=>cdH ls p.1) wt nc p hp q hq e
theorem bs_pf:∀ x∈bsOf ls wt,∀ y∈bsOf ls wt,x.1 <+: y.1->x=y:=fun x hx y hy h=>by
 obtain ⟨p,hp,rfl⟩:=List.mem_map.mp hx
 obtain ⟨q,hq,rfl⟩:=List.mem_map.mp hy
 have m:∀ {p:W × Str},p∈wt->cdH ls p.1∈(wt.map (·.1)).map (cdH ls):=fun hp=>List.mem_map.mpr ⟨_,List.mem_map.mpr ⟨_,hp,rfl⟩,rfl⟩
 have:=zq5 (zxm hk hw nc) (m hp) (m hq) h (List.prefix_refl _)
 rw [cd_inj nc hp hq this]
end
theorem zxb (H:PV) (rs:FA.Rooms) (hR:gIx H (.str "rooms")=some (zaj rs)) (hl:rs.length<=1000) (Dn:Str->PV) (hD:∀ n∈FA.names rs,za3 [H,.str n]=some (Dn n)):∃ ks ps,zc9 [H]=some (.dct ks ps)/\∀ n∈FA.names rs,gIx (.dct ks ps) (.str n)=some (Dn n):=by
 have hnl:(FA.names rs).length=rs.length:=by simp [FA.names]
 obtain ⟨ρ',f1,ks,ps,a,rfl,h1,h2,h3⟩:=forM (enc:=PV.str) (xs:=FA.names rs) (h:=zao 2) (g:=zfl) (ρ:=[.val H,.own (.dct [] []),.no])
  (I:=fun pre ρ=>∃ ks ps a,ρ=[.val H,.own (.dct ks ps),a]/\ks.length=ps.length/\ks.length<=pre.length/\∀ n∈pre,zca ks ps (.inr n)=some (Dn n)) ⟨[],[],.no,rfl,rfl,by simp,by simp⟩ (by
   rintro pre n post ρ hx ⟨ks,ps,a,rfl,h1,h2,h3⟩
   have hn:n∈FA.names rs:=by rw [hx];simp
   have hpl:pre.length<=1000:=by
    have:=congrArg List.length hx
    rw [List.length_append] at this
    omega
   obtain ⟨ks',ps',e,g1,g2,g3⟩:=BG.look_put ks ps (.inr n) (Dn n) h1
   have z:ks.length < 16777216:=by omega
   have ed:=hD n hn
   refine ⟨_,[.val H,.own (.dct ks' ps'),.val (.str n)],zin _,.inl ?_,ks',ps',_,rfl,g1,by simp;omega,fun m hm=>?_⟩
   ·simp [zfl,ed,z,e]
   ·rw [g3]
    by_cases hmn:n=m
    ·rw [if_pos (by rw [hmn]),hmn]
    ·rw [if_neg fun z=>hmn (Sum.inr.inj z)]
     rcases List.mem_append.mp hm with hm | hm
     ·exact h3 m hm
     ·exact absurd (List.mem_singleton.mp hm).symm hmn)
 refine ⟨ks,ps,zam rfl ?_,h3⟩
 have ei:=FA.keys_rooms rs
 generalize (FA.names rs).map PV.str=NL at *
 generalize zaj rs=RM at *
 simp [zgy,PU.start,hR,ei,f1]
theorem zr6 (spans:List (Int × Int × Str)) (last:Str) (hour:Int):zjs [(Room.hours spans last).pv,.int hour]=some (.str (FA.handOf spans last hour)):=by
 refine zam rfl ?_
 obtain ⟨k1,k2⟩:=zib (enc:=pv3) (h:=tupT 3 (zau (zao 2) (zau (zao 3) (zau (zao 4) nilT)))) (g:=zfz) (FA.holds hour) (fun s=>PV.str s.2.2)
  (I:=fun ρ=>∃ a b c,ρ=[.val (Room.hours spans last).pv,.val (.int hour),a,b,c]) (by
   rintro s ρ ⟨a,b,c,rfl⟩
   refine ⟨_,rfl,fun hp=>?_,fun hp=>⟨_,?_,.val (.int s.1),.val (.int s.2.1),.val (.str s.2.2),rfl⟩⟩
   ·unfold FA.holds at hp
    simp only [Bool.and_eq_true,decide_eq_true_eq] at hp
    simp [zfz,hp.1,hp.2]
   ·unfold FA.holds at hp
    by_cases h1:s.1<=hour
    ·have h2:¬ hour < s.2.1:=by simpa [h1] using hp
     simp [zfz,h1,h2]
    ·simp [zfz,h1]) spans [.val (Room.hours spans last).pv,.val (.int hour),.no,.no,.no] ⟨_,_,_,rfl⟩
 unfold FA.handOf
 cases e:spans.find? (FA.holds hour) with
 | some s =>
  have k:=k1 s e
  simp only [Room.pv] at k ⊢
  simp [zjq,PU.start]
  rw [k]
  rfl
 | none =>
  obtain ⟨ρ',k,a,b,c,rfl⟩:=k2 e
  simp only [Room.pv] at k ⊢
  simp [zjq,PU.start]
  rw [k]
  simp
theorem zsq (H:PV) (rs:FA.Rooms) (hR:gIx H (.str "rooms")=some (zaj rs)) (hour:Int) (a:Sl):∀ (n N:Nat) (x y:Str),n<=N->NM.comeGo rs hour n x=some y →
  whF (truF (bin2 (bin2 (bin2 (bin2 (getV 0) (kS "rooms") gIx) (getV 3) gIx) (kI 0) gIx) (kS "hours") gEq)) zgi N [.val H,.val (.int hour),a,.val (.str x)]=.ok (.next [.val H,.val (.int hour),a,.val (.str y)])
 | 0,N,x,y,h,e=>by cases e
 | n + 1,0,x,y,h,e=>by omega
 | n + 1,N + 1,x,y,h,e=>by
  have n2:=FA.ix_rooms rs x
  unfold NM.comeGo at e
  unfold whF
  cases hr:FA.lookR rs x with
  | none=>rw [hr] at e;cases e
  | some r =>
   rw [hr] at e n2
   have n2:gIx (zaj rs) (.str x)=some r.pv:=n2
   cases r with
   | hours sp l =>
    have n3:gIx (Room.hours sp l).pv (.int 0)=some (.str "hours"):=rfl
    have n4:=zr6 sp l hour
    have ih:=zsq H rs hR hour a n N (FA.handOf sp l hour) y (by omega) e
    have t:truF (bin2 (bin2 (bin2 (bin2 (getV 0) (kS "rooms") gIx) (getV 3) gIx) (kI 0) gIx) (kS "hours") gEq) [.val H,.val (.int hour),a,.val (.str x)]=.ok true:=by simp [hR,n2,n3]
    have b:zgi [.val H,.val (.int hour),a,.val (.str x)]=.ok (.next [.val H,.val (.int hour),a,.val (.str (FA.handOf sp l hour))]):=by simp [zgi,hR,n2,n4]
    simp only [t,R.ok_bind,if_true,b]
    exact ih
   | menu t ks wr wa =>
    have n3:gIx (Room.menu t ks wr wa).pv (.int 0)=some (.str "menu"):=rfl
    have t:truF (bin2 (bin2 (bin2 (bin2 (getV 0) (kS "rooms") gIx) (getV 3) gIx) (kI 0) gIx) (kS "hours") gEq) [.val H,.val (.int hour),a,.val (.str x)]=.ok false:=by simp [hR,n2,n3]
    cases e
    simp only [t,R.ok_bind,Bool.false_eq_true,if_false]
   | names t ks wr wa =>
    have n3:gIx (Room.names t ks wr wa).pv (.int 0)=some (.str "names"):=rfl
    have t:truF (bin2 (bin2 (bin2 (bin2 (getV 0) (kS "rooms") gIx) (getV 3) gIx) (kI 0) gIx) (kS "hours") gEq) [.val H,.val (.int hour),a,.val (.str x)]=.ok false:=by simp [hR,n2,n3]
    cases e
    simp only [t,R.ok_bind,Bool.false_eq_true,if_false]
   | hand t =>
    have n3:gIx (Room.hand t).pv (.int 0)=some (.str "hand"):=rfl
    have t:truF (bin2 (bin2 (bin2 (bin2 (getV 0) (kS "rooms") gIx) (getV 3) gIx) (kI 0) gIx) (kS "hours") gEq) [.val H,.val (.int hour),a,.val (.str x)]=.ok false:=by simp [hR,n2,n3]
    cases e
    simp only [t,R.ok_bind,Bool.false_eq_true,if_false]
   | fin t =>
    have n3:gIx (Room.fin t).pv (.int 0)=some (.str "end"):=rfl
    have t:truF (bin2 (bin2 (bin2 (bin2 (getV 0) (kS "rooms") gIx) (getV 3) gIx) (kI 0) gIx) (kS "hours") gEq) [.val H,.val (.int hour),a,.val (.str x)]=.ok false:=by simp [hR,n2,n3]
    cases e
    simp only [t,R.ok_bind,Bool.false_eq_true,if_false]
theorem zxq (H:PV) (rs:FA.Rooms) (hR:gIx H (.str "rooms")=some (zaj rs)) (hour:Int) (n:Nat) (x y:Str) (hn:n<=300) (e:NM.comeGo rs hour n x=some y):zie [H,.int hour,.str x]=some (.str y):=by
 refine zam rfl ?_
 have k:=zsq H rs hR hour (.val (.str x)) n 300 x y hn e
 simp only [zka,PU.start,List.map_cons,List.map_nil,List.length_cons,List.length_nil,List.replicate,List.cons_append,List.nil_append,zqb,zx3,zvq,znb,k_map,k_set,zk4,List.set_cons_succ,List.set_cons_zero,x_whS,k,zuw]
theorem zgg (ns:List Int) (k:Nat):zan [.lst (ns.map .int),.int k]=some (.int (ns.getD k 0)):=by
 refine zam rfl ?_
 by_cases hk:k < ns.length
 ·have h2:(k:Int) < ns.length:=by omega
  have h3:atI (ns.map PV.int) (k:Int)=some (.int ns[k]):=za6 rfl (by simp [hk])
  simp [zee,PU.start,h2,h3,hk]
 ·have h2:¬ (k:Int) < ns.length:=by omega
  simp [zee,PU.start,h2,hk]
theorem numbers (cell:Int) (many:Nat) (hm:many<=100):∃ ls:List Int,ls.length=many/\(∀ x∈ls,0<=x)/\zax [.int cell,.int many]=some (.lst (ls.map .int)):=by
 by_cases h2:cell % 2=1
 ·obtain ⟨ρ',f1,ls,n,a,rfl,h1,h3⟩:=forR (n:=many) (lo:=0) (h:=zao 4) (g:=ze5) (ρ:=[.val (.int cell),.val (.int many),.own (.lst []),.val (.int (cell / 2)),.no])
   (I:=fun i ρ=>∃ (ls:List Int) (n:Int) (a:Sl),ρ=[.val (.int cell),.val (.int many),.own (.lst (ls.map .int)),.val (.int n),a]/\ls.length=i/\∀ x∈ls,0<=x) ⟨[],_,_,rfl,rfl,by simp⟩ (by
    rintro i ρ hi ⟨ls,n,a,rfl,h1,h3⟩
    have hq:ls.length < 16777216:=by omega
    refine ⟨_,[.val (.int cell),.val (.int many),.own (.lst ((ls++[n % 5040]).map .int)),.val (.int (n / 5040)),.val (.int (0 + (i:Int)))],rfl,.inl ?_,ls++[n % 5040],n / 5040,_,rfl,by simp [h1],fun x hx=>?_⟩
    ·simp (disch:=omega) [ze5,zdj,znc,hq]
    ·rcases List.mem_append.mp hx with hx | hx
     ·exact h3 x hx
     ·rw [List.mem_singleton.mp hx];omega)
  refine ⟨ls,h1,h3,zam rfl ?_⟩
  simp (disch:=omega) [zed,PU.start,zdj,znc,h2,zpd]
  rw [f1]
  simp
 ·obtain ⟨ρ',f1,ls,n,a,rfl,h1,h3⟩:=forR (n:=many + 1) (lo:=0) (h:=zao 4) (g:=ze4) (ρ:=[.val (.int cell),.val (.int many),.own (.lst []),.val (.int (cell / 2 % 2147483647)),.no])
   (I:=fun i ρ=>∃ (ls:List Int) (n:Int) (a:Sl),ρ=[.val (.int cell),.val (.int many),.own (.lst (ls.map .int)),.val (.int n),a]/\ls.length=i/\∀ x∈ls,0<=x) ⟨[],_,_,rfl,rfl,by simp⟩ (by
    rintro i ρ hi ⟨ls,n,a,rfl,h1,h3⟩
    have hq:ls.length < 16777216:=by omega
    rw [Int.zero_add]
    have m1:gMul (.int (n + (i:Int) + 1)) (.int 48271)=some (.int ((n + (i:Int) + 1) * 48271)):=zpe (.inr (by decide))
    have m2:∀ z:Int,gMul (.int z) (.int 69621)=some (.int (z * 69621)):=fun z=>zpe (.inr (by decide))
    refine ⟨_,[.val (.int cell),.val (.int many),.own (.lst ((ls++[(n + (i:Int) + 1) * 48271 % 2147483647 * 69621 % 2147483629]).map .int)),.val (.int ((n + (i:Int) + 1) * 48271 % 2147483647)),.val (.int (i:Int))],rfl,.inl ?_,_,_,_,rfl,by simp [h1],fun x hx=>?_⟩
    ·simp (disch:=omega) [ze4,zdj,m1,m2,hq]
    ·rcases List.mem_append.mp hx with hx | hx
     ·exact h3 x hx
     ·rw [List.mem_singleton.mp hx];omega)
  refine ⟨ls.drop 1,by simp [h1],fun x hx=>h3 x (List.mem_of_mem_drop hx),zam rfl ?_⟩
  have e1:(((many:Int) + 1)).toNat=many + 1:=by omega
  have e2:=NM.cut_1 (ls.map PV.int) (by rw [List.length_map];omega)
  simp (disch:=omega) [zed,PU.start,zdj,znc,h2,zpd,e1]
  rw [f1]
  simp [e2]
end K22
end
section
namespace K22
open PySem L2 PU MT NM
def c20:List Nat:=[98,99,100,102,103,104,106,108,109,110,112,113,114,115,116,118,119,120,121,122]
theorem c20_eq:("bcdfghjlmnpqrstvwxyz":Str)=mkS c20:=by decide +kernel
theorem zup:∀ i:Fin 20,∀ j:Fin 20,c20.getD i.1 0=c20.getD j.1 0->i.1=j.1:=by decide +kernel
theorem zxu (i j:Nat) (hi:i < 20) (hj:j < 20) (e:c20.getD i 0=c20.getD j 0):i=j:=zup ⟨i,hi⟩ ⟨j,hj⟩ e
def sgn (ls:List Int) (at_:Int) (t k:Nat):Nat:=c20.getD ((ls.getD k 0 + 3 * (t:Int) * (if (k:Int)=at_ then 1 else 0)) % 20).toNat 0
def cds (ls:List Int) (at_:Int) (t i:Nat):List Nat:=(List.range i).map (sgn ls at_ t)
abbrev nst (c:Int) (ls:List Int) (size at_:Int) (done:List PV) (a b d:Sl):PSt :=
 [.val (.int c),.val (.str (mkS c20)),.val (.lst (ls.map .int)),.val (.int size),.val (.int at_),.own (.lst done),a,b,d]
theorem zt2 (c:Int) (ls:List Int) (size at_:Int) (done:List PV) (t k:Nat) (x:List Nat) (hl:ls.length=10) (hk:k < 8) (hx:x.length<=100) :
  zej (nst c ls size at_ done (.val (.int t)) (.val (.str (mkS x))) (.val (.int k)))=.ok (.next (nst c ls size at_ done (.val (.int t)) (.val (.str (mkS (x++[sgn ls at_ t k])))) (.val (.int k)))):=by
 have i1:atI (ls.map PV.int) (k:Int)=some (.int (ls.getD k 0)):=by
  rw [zb7 ls k (by omega),List.getD_eq_getElem?_getD,List.getElem?_eq_getElem (by omega)]
  rfl
 have m1:gMul (.int 3) (.int t)=some (.int (3 * t)):=zpe (.inl (by decide))
 have hq:(if (k:Int)=at_ then (1:Int) else 0).natAbs < 18446744073709551616:=by split <;> decide
 have m2:gMul (.int (3 * (t:Int))) (.int (if (k:Int)=at_ then 1 else 0))=some (.int (3 * (t:Int) * (if (k:Int)=at_ then 1 else 0))):=zpe (.inr hq)
 have h3:∀ z:Int,gIx (.str (mkS c20)) (.int (z % 20))=some (.str ⟨#[c20.getD (z % 20).toNat 0]⟩):=fun z=>zlx c20 (z % 20) (by omega) (by show _ < (20:Int);omega) (by decide)
 have h4:=zeo x (sgn ls at_ t k) (by omega)
 unfold sgn at h4 ⊢
 simp (disch:=omega) [-List.getD_eq_getElem?_getD,zej,nst,i1,m1,m2,zdj,h3,h4]
theorem zt1 (c:Int) (ls:List Int) (size:Nat) (at_:Int) (done:List PV) (t:Nat) (b d:Sl) (hl:ls.length=10) (hs:size<=8) (hd:done.length<=100):∃ d',
  zei (nst c ls size at_ done (.val (.int t)) b d)=.ok (.next (nst c ls size at_ (done++[.str (mkS (cds ls at_ t size))]) (.val (.int t)) (.val (.str (mkS (cds ls at_ t size)))) d')):=by
 obtain ⟨ρ',f1,d',rfl⟩:=forR (n:=size) (lo:=0) (h:=zao 8) (g:=zej) (ρ:=nst c ls size at_ done (.val (.int t)) (.val (.str (mkS []))) d)
  (I:=fun i ρ=>∃ d,ρ=nst c ls size at_ done (.val (.int t)) (.val (.str (mkS (cds ls at_ t i)))) d) ⟨d,rfl⟩ (by
   rintro i ρ hi ⟨d,rfl⟩
   have e:=zt2 c ls size at_ done t i (cds ls at_ t i) hl (by omega) (by simp [cds];omega)
   have:cds ls at_ t (i + 1)=cds ls at_ t i++[sgn ls at_ t i]:=by simp [cds,List.range_succ]
   rw [Int.zero_add,this]
   exact ⟨_,_,rfl,.inl e,_,rfl⟩)
 refine ⟨d',?_⟩
 have hq:done.length < 16777216:=by omega
 simp (disch:=omega) [zei,zd3,zpd]
 rw [f1]
 simp [hq]
theorem names (c:Int):∃ nms:List Str,nms.length=9/\nms.Nodup/\(∀ x∈nms,x≠"back"/\x≠"")/\zge [.int c]=some (.lst (nms.map .str)):=by
 obtain ⟨ls,l1,l2,el⟩:=numbers c 10 (by omega)
 have el:zax [.int c,.int 10]=some (.lst (ls.map .int)):=el
 have i8:atI (ls.map PV.int) 8=some (.int ls[8]):=zb7 ls 8 (by omega)
 have i9:atI (ls.map PV.int) 9=some (.int ls[9]):=zb7 ls 9 (by omega)
 generalize ls[8]=z8 at i8
 generalize ls[9]=z9 at i9
 obtain ⟨size,hsz,h1,h8⟩:∃ size:Nat,(1 + z8 % 8)=(size:Int)/\1<=size/\size<=8:=⟨(1 + z8 % 8).toNat,by omega,by omega,by omega⟩
 obtain ⟨at_,hat,ha0,ha1⟩:∃ at_:Int,z9 % (size:Int)=at_/\0<=at_/\at_ < size:=⟨z9 % (size:Int),rfl,Int.emod_nonneg _ (by omega),Int.emod_lt_of_pos _ (by omega)⟩
 obtain ⟨ρ',f1,a,b,d,rfl⟩:=forR (n:=9) (lo:=0) (h:=zao 6) (g:=zei) (ρ:=nst c ls size at_ [] .no .no .no)
  (I:=fun i ρ=>∃ a b d,ρ=nst c ls size at_ ((List.range i).map fun t=>.str (mkS (cds ls at_ t size))) a b d) ⟨_,_,_,rfl⟩ (by
   rintro i ρ hi ⟨a,b,d,rfl⟩
   obtain ⟨d',e⟩:=zt1 c ls size at_ ((List.range i).map fun t=>.str (mkS (cds ls at_ t size))) i b d l1 h8 (by simp;omega)
   rw [Int.zero_add,List.range_succ,List.map_append]
   exact ⟨_,_,rfl,.inl e,_,_,_,rfl⟩)
 refine ⟨(List.range 9).map fun t=>mkS (cds ls at_ t size),by simp,?_,?_,zam rfl ?_⟩
 ·unfold List.Nodup
  rw [List.pairwise_map]
  refine List.Pairwise.imp_of_mem (R:=fun a b=>a < b) (fun {i j} hi hj hij e=>?_) List.pairwise_lt_range
  rw [List.mem_range] at hi hj
  have e:=BG.mkS_inj e
  have hs:at_.toNat < size:=by omega
  have e2:=congrArg (fun l:List Nat=>l[at_.toNat]?) e
  simp only [cds,List.getElem?_map,List.getElem?_range hs,Option.map_some] at e2
  have e3:sgn ls at_ i at_.toNat=sgn ls at_ j at_.toNat:=Option.some.inj e2
  unfold sgn at e3
  rw [if_pos (by omega)] at e3
  have e4:=zxu _ _ (by omega) (by omega) e3
  omega
 ·intro x hx
  obtain ⟨t,_,rfl⟩:=List.mem_map.mp hx
  have hb:("back":Str)=mkS [98,97,99,107]:=by decide +kernel
  refine ⟨fun e=>?_,fun e=>?_⟩
  ·rw [hb] at e
   have e:=BG.mkS_inj e
   have m:97∈cds ls at_ t size:=by rw [e];simp
   obtain ⟨k,_,ek⟩:=List.mem_map.mp m
   have:∀ z:Nat,z < 20->c20.getD z 0≠97:=by decide +kernel
   exact this _ (by omega) ek
  ·rw [zd3] at e
   have e:=BG.mkS_inj e
   have:=congrArg List.length e
   simp [cds] at this
   omega
 ·simp only [nst] at f1
  have hsz0:(0:Int) < size:=by omega
  simp (disch:=omega) [-List.map_map,zhp,PU.start,c20_eq,el,i8,i9,zdj,hsz,hat,zpd]
  rw [f1]
  simp
abbrev sst (ts:List Str) (cell:Int) (ls:List Int) (spans:List (Int × Int × Str)) (a b:Sl):PSt:=[.val (.lst (ts.map .str)),.val (.int cell),.val (.lst (ls.map .int)),.own (.lst (spans.map pv3)),a,b]
theorem zxc (ts:List Str) (cell:Int) (ls:List Int) (spans:List (Int × Int × Str)) (j:Nat) (b:Sl) (ht:0 < ts.length) (hl:ls.length=11) (hj:j < 3) (hs:spans.length=j):∃ s b',zvo ts s ∧
  zel (sst ts cell ls spans (.val (.int j)) b)=.ok (.next (sst ts cell ls (spans++[s]) (.val (.int j)) b')):=by
 have i1:=zb7 ls (3 * j + 1) (by omega)
 have i2:=zb7 ls (3 * j + 2) (by omega)
 have i3:=zb7 ls (3 * j + 3) (by omega)
 have n1:((3 * j + 1:Nat):Int)=3 * (j:Int) + 1:=by omega
 have n2:((3 * j + 2:Nat):Int)=3 * (j:Int) + 2:=by omega
 have n3:((3 * j + 3:Nat):Int)=3 * (j:Int) + 3:=by omega
 rw [n1] at i1
 rw [n2] at i2
 rw [n3] at i3
 generalize ls[3 * j + 1]=x at i1
 generalize ls[3 * j + 2]=y at i2
 generalize ls[3 * j + 3]=z at i3
 have m1:gMul (.int 3) (.int j)=some (.int (3 * j)):=zpe (.inl (by decide))
 obtain ⟨t,hts,e1⟩:=zpc ts z ht
 have hq:spans.length < 16777216:=by omega
 generalize hf:x % 24=f
 have hf0:0<=f/\f < 24:=by omega
 have hd:0 < 24 - f:=by omega
 have hd1:=Int.emod_nonneg y (b:=24 - f) (by omega)
 have hd2:=Int.emod_lt_of_pos y hd
 generalize hg:y % (24 - f)=g at hd1 hd2
 refine ⟨(f,f + 1 + g,t),.val (.int f),⟨by omega,by show f<=24;omega,by show 0<=f + 1 + g;omega,by show f + 1 + g<=24;omega,hts⟩,?_⟩
 simp (disch:=omega) [zel,sst,m1,i1,i2,i3,zdj,hf,hg,e1,hq,pv3]
theorem hours (ts:List Str) (cell:Int) (ht:0 < ts.length):∃ (sp:List (Int × Int × Str)) (l:Str),(∀ s∈sp,s.2.2∈ts)/\l∈ts/\zb6 [.lst (ts.map .str),.int cell]=some (Room.hours sp l).pv:=by
 obtain ⟨ls,l1,l2,el⟩:=numbers cell 11 (by omega)
 have el:zax [.int cell,.int 11]=some (.lst (ls.map .int)):=el
 have i0:atI (ls.map PV.int) 0=some (.int ls[0]):=zb7 ls 0 (by omega)
 have i10:atI (ls.map PV.int) 10=some (.int ls[10]):=zb7 ls 10 (by omega)
 generalize ls[0]=z at i0
 generalize ls[10]=y at i10
 obtain ⟨ρ',f1,sp,a,b,rfl,h1,h2⟩:=forR (n:=(z % 4).toNat) (lo:=0) (h:=zao 4) (g:=zel) (ρ:=sst ts cell ls [] .no .no)
  (I:=fun i ρ=>∃ (sp:List (Int × Int × Str)) (a b:Sl),ρ=sst ts cell ls sp a b/\sp.length=i/\∀ s∈sp,zvo ts s) ⟨[],_,_,rfl,rfl,by simp⟩ (by
   rintro i ρ hi ⟨sp,a,b,rfl,h1,h2⟩
   obtain ⟨s,b',hs,e⟩:=zxc ts cell ls sp i b ht l1 (by omega) h1
   rw [Int.zero_add]
   refine ⟨_,_,rfl,.inl e,_,_,_,rfl,by simp [h1],fun x hx=>?_⟩
   rcases List.mem_append.mp hx with hx | hx
   ·exact h2 x hx
   ·rw [List.mem_singleton.mp hx];exact hs)
 obtain ⟨l,hlm,e1⟩:=zpc ts y ht
 refine ⟨sp,l,fun s hs=>(h2 s hs).2.2.2.2,hlm,zam rfl ?_⟩
 have hlp:(0:Int) < ts.length:=by omega
 simp only [sst,List.map_nil] at f1
 simp (disch:=omega) [zhr,PU.start,el,i0,zdj,zpd]
 rw [f1]
 simp (disch:=omega) [i10,zdj,e1,Room.pv]
end K22
end
section
namespace K22
open PySem L2 PU MT NM BG NW
def enc (w:W):PV:=.str (mkS w)
def W8:List W:=[[97,110,110],[97,110,110,97],[98,111],[98,111,98],[99,121,100],[108,101,101],[108,101,101,100],[114,111,101]]
def LS0:WO.Lts:=[(50,[97,98,99]),(51,[100,101,102]),(52,[103,104,105]),(53,[106,107,108]),(54,[109,110,111]),(55,[112,113,114,115]),(57,[119,120,121,122])]
def LS1:WO.Lts:=[(49,[97,98,99,100,101,102,103,104]),(50,[105,106,107,108,109,110,111,112]),(51,[113,114,115,116,117,118,119,120,121,122])]
def LS2:WO.Lts:=[(48,[97]),(53,[98,110,99]),(57,[114,111,108]),(42,[100,101,121])]
def Ls (ls:WO.Lts):Prop:=ls=LS0\/ls=LS1\/ls=LS2
theorem zot {P:WO.Lts->Prop} (h0:P LS0) (h1:P LS1) (h2:P LS2) {ls:WO.Lts} (h:Ls ls):P ls:=by
 rcases h with rfl | rfl | rfl
 ·exact h0
 ·exact h1
 ·exact h2
theorem zu9 {ls:WO.Lts} (h:Ls ls):∀ w∈W8,∀ c∈w,(WO.keyL ls c).isSome=true :=
 zot (P:=fun ls=>∀ w∈W8,∀ c∈w,(WO.keyL ls c).isSome=true) (by decide +kernel) (by decide +kernel) (by decide +kernel) h
theorem ls_one {ls:WO.Lts} (h:Ls ls):∀ w∈W8,∀ c∈w,(ls.filter fun l=>decide (c∈l.2)).map (·.1)=[(WO.keyL ls c).getD 0] :=
 zot (P:=fun ls=>∀ w∈W8,∀ c∈w,(ls.filter fun l=>decide (c∈l.2)).map (·.1)=[(WO.keyL ls c).getD 0]) (by decide +kernel) (by decide +kernel) (by decide +kernel) h
theorem ls_nd {ls:WO.Lts} (h:Ls ls):(W8.map (cdH ls)).Nodup:=zot (P:=fun ls=>(W8.map (cdH ls)).Nodup) (by decide +kernel) (by decide +kernel) (by decide +kernel) h
theorem ls_no {ls:WO.Lts} (h:Ls ls):∀ l∈ls,l.1≠35:=zot (P:=fun ls=>∀ l∈ls,l.1≠35) (by decide +kernel) (by decide +kernel) (by decide +kernel) h
theorem w8_nd:W8.Nodup:=by decide +kernel
theorem zqd:∀ w∈W8,w.length<=4:=by decide +kernel
theorem lp0:PV.lst [.tup [.str "2",.str "abc"],.tup [.str "3",.str "def"],.tup [.str "4",.str "ghi"],.tup [.str "5",.str "jkl"],.tup [.str "6",.str "mno"],.tup [.str "7",.str "pqrs"],.tup [.str "9",.str "wxyz"]]=WO.ltPv LS0:=by kernel_rfl
theorem lp1:PV.lst [.tup [.str "1",.str "abcdefgh"],.tup [.str "2",.str "ijklmnop"],.tup [.str "3",.str "qrstuvwxyz"]]=WO.ltPv LS1:=by kernel_rfl
theorem lp2:PV.lst [.tup [.str "0",.str "a"],.tup [.str "5",.str "bnc"],.tup [.str "9",.str "rol"],.tup [.str "*",.str "dey"]]=WO.ltPv LS2:=by kernel_rfl
theorem letters (cell:Int):∃ ls,Ls ls/\zef [.int cell]=some (WO.ltPv ls):=by
 have m:=zdj (a:=cell) (b:=3) (by decide)
 by_cases h1:cell % 3=1
 ·refine ⟨LS1,.inr (.inl rfl),zam rfl ?_⟩
  rw [← lp1]
  simp [zdg,PU.start,m,h1]
 ·by_cases h2:cell % 3=2
  ·refine ⟨LS2,.inr (.inr rfl),zam rfl ?_⟩
   rw [← lp2]
   simp [zdg,PU.start,m,h2]
  ·refine ⟨LS0,.inl rfl,zam rfl ?_⟩
   rw [← lp0]
   simp [zdg,PU.start,m,h1,h2]
def E8:List (Nat × W):=[(0,[97,110,110]),(1,[97,110,110,97]),(2,[98,111]),(3,[98,111,98]),(4,[99,121,100]),(5,[108,101,101]),(6,[108,101,101,100]),(7,[114,111,101])]
def e8 (p:Nat × W):PV:=.tup [.int p.1,.str (mkS p.2)]
theorem e8_eq:znu (.lst [.str "ann",.str "anna",.str "bo",.str "bob",.str "cyd",.str "lee",.str "leed",.str "roe"])=some (E8.map e8):=by kernel_rfl
theorem e8_w:E8.map (·.2)=W8:=by decide +kernel
theorem e8_lt:∀ p∈E8,p.1 < 8:=by decide +kernel
theorem ztz (cs:List W) (c:W) (s:Nat) (h1:1<=s) (h2:s<=c.length) (hs:many cs (c.take s)=1) (hf:∀ i,1<=i->i < s->many cs (c.take i)≠1):own cs c=c.take s:=by
 unfold own
 cases e:(List.range (c.length - 1)).find? (fun i=>decide (many cs (c.take (i + 1))=1)) with
 | some i =>
  obtain ⟨p1,p2,p3⟩:=List.find?_range_eq_some.mp e
  have p1:many cs (c.take (i + 1))=1:=by simpa using p1
  have hi:i + 1=s:=by
   rcases Nat.lt_trichotomy (i + 1) s with h | h | h
   ·exact absurd p1 (hf _ (by omega) h)
   ·exact h
   ·have:=p3 (s - 1) (by omega)
    rw [show s - 1 + 1=s by omega] at this
    simp [hs] at this
  show c.take (i + 1)=c.take s
  rw [hi]
 | none =>
  have p:=List.find?_range_eq_none.mp e
  have hsl:s=c.length:=by
   rcases Nat.lt_or_ge s c.length with h | h
   ·have:=p (s - 1) (by omega)
    rw [show s - 1 + 1=s by omega] at this
    simp [hs] at this
   ·omega
  rw [hsl,List.take_length]
theorem zos {cs:List W} (nd:cs.Nodup) {c:W} (hc:c∈cs) (p:W) (hp:p <+: c):many cs p=1 ↔ ∀ d∈cs,p <+: d->d=c:=by
 unfold many
 constructor
 ·intro h d hd hpd
  have m1:c∈cs.filter (pre p):=List.mem_filter.mpr ⟨hc,zfg.mpr hp⟩
  have m2:d∈cs.filter (pre p):=List.mem_filter.mpr ⟨hd,zfg.mpr hpd⟩
  generalize cs.filter (pre p)=l at h m1 m2
  match l,h,m1,m2 with
  | [a],_,m1,m2=>rw [List.mem_singleton.mp m1,List.mem_singleton.mp m2]
 ·intro h
  rw [zp0 nd hc fun y hy=>⟨fun z=>h y hy (zfg.mp z),fun z=>by rw [z];exact zfg.mpr hp⟩]
  rfl
theorem zn5 {c d:W} {s:Nat} (hs:s<=c.length):d.take s=c.take s ↔ c.take s <+: d:=by
 constructor
 ·intro h
  rw [← h]
  exact List.take_prefix _ _
 ·intro h
  have:=List.prefix_iff_eq_take.mp h
  rw [List.length_take,Nat.min_eq_left hs] at this
  exact this.symm
theorem in_bls (l:List Bool):gIn (.bl true) (.lst (l.map .bl))=some (.bl (l.any id)):=by
 have e:gIn (.bl true) (.lst (l.map .bl))=if isSc (.bl true)=true/\(l.map PV.bl).all isSc=true then some (.bl (inV (scV (.bl true)) ((l.map PV.bl).map scV))) else none:=rfl
 rw [e,if_pos ⟨rfl,by simp [isSc]⟩]
 congr 2
 unfold inV eqV
 rw [List.map_map,List.any_map]
 congr 1
 funext b
 cases b <;> simp [scV]
theorem zqp (w:W) (t:Nat) (hl:w.length<=1000):gSlA (.str (mkS w)) none (some (t:Int))=some (.str (mkS (w.take t))):=by
 rw [zs8 _ _ (by rw [zc4];omega),zjm]
theorem zt3 (a b:W):gEq (.str (mkS a)) (.str (mkS b))=some (.bl (decide (a=b))):=by
 rw [zn2]
 congr 2
 exact decide_eq_decide.mpr ⟨fun z=>mkS_inj z,fun z=>by rw [z]⟩
def cdD (ls:WO.Lts) (wt:List (W × Str)):PV:=.dct (wt.map fun p=>.inr (mkS p.1)) (wt.map fun p=>enc (cdH ls p.1))
section
variable {H : PV} {ls : WO.Lts} (hL : gIx H (.str "letters") = some (WO.ltPv ls)) (hl : Ls ls)
include hL hl
theorem codes3 (T:PV) (D t:Sl) (w x:W) (tg c:Nat) (hw:w∈W8) (hc:c∈w) (hx:x.length<=900) (tt:Sl):zen [.val H,.val T,D,.val (enc w),tt,.val (.str (mkS x)),.val (WO.sg c)]=.ok (.next [.val H,.val T,D,.val (enc w),tt,.val (.str (mkS (x++[(WO.keyL ls c).getD 0]))),.val (WO.sg c)]):=by
 have cf:=zfd (enc:=fun l:Nat × List Nat=>PV.tup [WO.sg l.1,.str (mkS l.2)]) (h:=tupT 2 (zau (zao 0) (zau (zao 1) nilT))) (t:=zf2) (fe:=zgf) (ρ:=[.no,.no,.val (WO.sg c)]) (fun l=>decide (c∈l.2)) (fun l=>WO.sg l.1) ls fun l hlm=>by
  have e:=WO.in_one c l.2
  refine ⟨[.val (WO.sg l.1),.val (.str (mkS l.2)),.val (WO.sg c)],rfl,?_,fun _=>?_⟩
  ·simp [zf2,e]
  ·simp [zgf]
 have one:=ls_one hl w hw c hc
 have e1:(ls.filter fun l=>decide (c∈l.2)).map (fun l=>WO.sg l.1)=[WO.sg ((WO.keyL ls c).getD 0)]:=by
  have:=congrArg (List.map WO.sg) one
  rw [List.map_map] at this
  exact this
 rw [e1] at cf
 have ei:zfi (WO.ltPv ls)=some (ls.map fun l=>PV.tup [WO.sg l.1,.str (mkS l.2)]):=rfl
 have ad:gAdd (.str (mkS x)) (WO.sg ((WO.keyL ls c).getD 0))=some (.str (mkS (x++[(WO.keyL ls c).getD 0]))):=zeo x _ (by omega)
 have a0:∀ g:PV,gIx (.lst [g]) (.int 0)=some g:=fun g=>rfl
 generalize (WO.keyL ls c).getD 0=key at *
 generalize mkS (x++[key])=XX at *
 generalize WO.sg key=G at *
 generalize (ls.map fun l=>PV.tup [WO.sg l.1,.str (mkS l.2)])=LM at *
 generalize WO.ltPv ls=LL at *
 generalize enc w=EW at *
 simp [zen,hL,ei,zlc,List.replicate,cf,a0,ad]
theorem codes4 (T:PV) (ks:List Key) (ps:List PV) (w:W) (t:Str) (hw:w∈W8) (hk:ks.length < 1000) (hn:(.inr (mkS w):Key) ∉ ks) (a b:Sl):∃ a' b',zem [.val H,.val T,.own (.dct ks ps),.val (enc w),.val (.str t),a,b]=.ok (.next [.val H,.val T,.own (.dct (ks++[.inr (mkS w)]) (ps++[enc (cdH ls w)])),.val (enc w),.val (.str t),a',b']):=by
 have hlen:=zqd w hw
 obtain ⟨ρ',f1,b',rfl⟩:=forM (enc:=WO.sg) (xs:=w) (h:=zao 6) (g:=zen) (ρ:=[.val H,.val T,.own (.dct ks ps),.val (enc w),.val (.str t),.val (.str ""),b])
  (I:=fun pre ρ=>∃ b,ρ=[.val H,.val T,.own (.dct ks ps),.val (enc w),.val (.str t),.val (.str (mkS (cdW ls pre))),b]) ⟨b,by rw [zd3];rfl⟩ (by
   rintro pre x post ρ hx ⟨b,rfl⟩
   have hpl:pre.length<=4:=by
    have:=congrArg List.length hx
    rw [List.length_append] at this
    omega
   have e:=codes3 hL hl T (.own (.dct ks ps)) .no w (cdW ls pre) 0 x hw (by rw [hx];simp) (by simp [cdW];omega) (.val (.str t))
   have ec:cdW ls (pre++[x])=cdW ls pre++[(WO.keyL ls x).getD 0]:=by simp [cdW]
   exact ⟨_,_,zin _,.inl e,.val (WO.sg x),by rw [ec]⟩)
 have hash:("#":Str)=mkS [35]:=by decide +kernel
 have ad:gAdd (.str (mkS (cdW ls w))) (.str "#")=some (enc (cdH ls w)):=by
  rw [hash,zju (by simp [cdW];omega),zj4]
  rfl
 have ei:zfi (enc w)=some (w.map WO.sg):=WO.it_mk w
 have pn:=zlm (ps:=ps) (v:=enc (cdH ls w)) hn
 have tk:zf1 (enc w)=some (.inr (mkS w)):=rfl
 have z:ks.length < 16777216:=by omega
 refine ⟨.val (.str (mkS (cdW ls w))),b',?_⟩
 generalize w.map WO.sg=WS at *
 generalize enc (cdH ls w)=EC at *
 generalize enc w=EW at *
 simp [zem,ei,f1,ad,tk,z,pn]
theorem codes (wt:List (W × Str)) (hw:∀ p∈wt,p.1∈W8) (nd:(wt.map (·.1)).Nodup) (hn:wt.length<=100):zdx [H,wtPv wt]=some (cdD ls wt):=by
 obtain ⟨ρ',f1,a,b,c,d,rfl⟩:=forM (enc:=fun p:W × Str=>PV.tup [.str (mkS p.1),.str p.2]) (xs:=wt) (h:=tupT 2 (zau (zao 3) (zau (zao 4) nilT))) (g:=zem) (ρ:=[.val H,.val (wtPv wt),.own (.dct [] []),.no,.no,.no,.no])
  (I:=fun pre ρ=>∃ a b c d,ρ=[.val H,.val (wtPv wt),.own (cdD ls pre),a,b,c,d]) ⟨.no,.no,.no,.no,rfl⟩ (by
   rintro pre p post ρ hx ⟨a,b,c,d,rfl⟩
   have hpl:pre.length<=100:=by
    have:=congrArg List.length hx
    rw [List.length_append] at this
    omega
   have hnk:(.inr (mkS p.1):Key) ∉ pre.map fun p=>(.inr (mkS p.1):Key):=fun z=>by
    obtain ⟨q,hq,e⟩:=List.mem_map.mp z
    have e:=mkS_inj (Sum.inr.inj e)
    rw [hx,List.map_append,List.map_cons] at nd
    have:=(List.nodup_append.mp nd).2.2 q.1 (List.mem_map.mpr ⟨q,hq,rfl⟩) p.1 (by simp)
    exact this e
   obtain ⟨a',b',e⟩:=codes4 hL hl (wtPv wt) (pre.map fun p=>(.inr (mkS p.1):Key)) (pre.map fun p=>enc (cdH ls p.1)) p.1 p.2 (hw p (by rw [hx];simp)) (by simp;omega) hnk c d
   refine ⟨[.val H,.val (wtPv wt),.own (cdD ls pre),.val (enc p.1),.val (.str p.2),c,d],_,rfl,.inl e,.val (enc p.1),.val (.str p.2),a',b',?_⟩
   unfold cdD
   rw [List.map_append,List.map_append]
   rfl)
 refine zam rfl ?_
 have ei:zfi (wtPv wt)=some (wt.map fun p:W × Str=>PV.tup [.str (mkS p.1),.str p.2]):=rfl
 generalize (wt.map fun p:W × Str=>PV.tup [.str (mkS p.1),.str p.2])=WL at *
 generalize wtPv wt=WP at *
 generalize cdD ls wt=CD at *
 simp [zhs,PU.start,ei,f1]
end
section
variable {ls : WO.Lts} (hl : Ls ls) (wt : List (W × Str)) (hw : ∀ p ∈ wt, p.1 ∈ W8) (nd : (wt.map (·.1)).Nodup) (hn : wt.length ≤ 100) (w : W) (hm : w ∈ wt.map (·.1))
def hits (ls:WO.Lts) (wt:List (W × Str)) (w:W) (s:Nat):List Bool:=((wt.filter fun p=>decide (p.1≠w)).map fun p=>decide ((cdH ls p.1).take s=(cdH ls w).take s))
include hl hw
omit hw in
theorem zss {a b:W} (ha:a∈W8) (hb:b∈W8) (e:cdH ls a=cdH ls b):a=b:=zh8 (cdH ls) W8 (ls_nd hl) a ha b hb e
omit hl in
theorem zl3 {a:W} (ha:a∈W8):(cdH ls a).length<=5/\1<=(cdH ls a).length:=by
 have:=zqd a ha
 have h3:(cdH ls a).length=a.length + 1:=by simp [cdH,cdW]
 omega
theorem zxl (nd:(wt.map (·.1)).Nodup):((wt.map (·.1)).map (cdH ls)).Nodup:=by
 have h:∀ l:List W,l.Nodup->(∀ x∈l,x∈W8)->(l.map (cdH ls)).Nodup:=by
  intro l
  induction l with
  | nil=>intro _ _;simp
  | cons a l ih =>
   intro h1 h2
   rw [List.map_cons,List.nodup_cons]
   rw [List.nodup_cons] at h1
   refine ⟨fun z=>?_,ih h1.2 fun x hx=>h2 x (List.mem_cons_of_mem _ hx)⟩
   obtain ⟨b,hb,e⟩:=List.mem_map.mp z
   have:=zss hl (h2 b (List.mem_cons_of_mem _ hb)) (h2 a List.mem_cons_self) e
   subst this
   exact h1.1 hb
 exact h _ nd fun x hx=>by obtain ⟨p,hp,rfl⟩:=List.mem_map.mp hx;exact hw p hp
theorem cs_co:∀ c∈(wt.map (·.1)).map (cdH ls),Code c:=fun c hc=>by
 obtain ⟨x,hx,rfl⟩:=List.mem_map.mp hc
 obtain ⟨p,hp,rfl⟩:=List.mem_map.mp hx
 exact zvl (ls_no hl) (zu9 hl p.1 (hw p hp))
include hn hm nd
theorem zur (s:Nat):zeh (zao 0) zbm zbn [.no,.val (enc (cdH ls w)),.val (cdD ls wt),.val (.int s),.val (enc w)] ((wt.map (·.1)).map enc)=.ok ((hits ls wt w s).map .bl):=by
 have hw8:w∈W8:=by obtain ⟨p,hp,rfl⟩:=List.mem_map.mp hm;exact hw p hp
 have h:=zfd (enc:=fun p:W × Str=>enc p.1) (h:=zao 0) (t:=zbm) (fe:=zbn) (ρ:=[.no,.val (enc (cdH ls w)),.val (cdD ls wt),.val (.int s),.val (enc w)]) (fun p=>decide (p.1≠w)) (fun p=>.bl (decide ((cdH ls p.1).take s=(cdH ls w).take s))) wt fun p hp=>by
  have gd:gIx (cdD ls wt) (enc p.1)=some (enc (cdH ls p.1)):=zmb wt (·.1) (fun p=>enc (cdH ls p.1)) nd hp
  have s1:gSlA (enc (cdH ls p.1)) none (some (s:Int))=some (.str (mkS ((cdH ls p.1).take s))):=zqp (cdH ls p.1) s (by have:=zl3 (ls:=ls) (wt:=wt) hw (hw p hp);omega)
  have s2:gSlA (enc (cdH ls w)) none (some (s:Int))=some (.str (mkS ((cdH ls w).take s))):=zqp (cdH ls w) s (by have:=zl3 (ls:=ls) (wt:=wt) hw hw8;omega)
  have eq:=zt3 ((cdH ls p.1).take s) ((cdH ls w).take s)
  have ne:gNe (enc p.1) (enc w)=some (.bl (decide (p.1≠w))):=by
   unfold enc
   rw [zld]
   congr 2
   by_cases h:p.1=w
   ·simp [h]
   ·have:¬ mkS p.1=mkS w:=fun z=>h (mkS_inj z)
    simp [h,this]
  refine ⟨_,zin _,?_,fun _=>?_⟩
  ·simp [zbm,ne]
  ·generalize cdD ls wt=CD at *
   generalize enc p.1=EP at *
   generalize enc (cdH ls p.1)=E1 at *
   generalize enc (cdH ls w)=E2 at *
   simp [zbn,gd,s1,s2,eq]
 unfold hits
 rw [List.map_map,List.map_map]
 exact h
theorem zoy (s:Nat) (h1:1<=s) (h2:s<=(cdH ls w).length):(hits ls wt w s).any id=false ↔ many ((wt.map (·.1)).map (cdH ls)) ((cdH ls w).take s)=1:=by
 have hw8:w∈W8:=by obtain ⟨p,hp,rfl⟩:=List.mem_map.mp hm;exact hw p hp
 rw [zos (zxl hl wt hw nd) (List.mem_map.mpr ⟨w,hm,rfl⟩) _ (List.take_prefix _ _)]
 unfold hits
 rw [List.any_map,List.any_eq_false]
 constructor
 ·intro h d hd hp
  obtain ⟨x,hx,rfl⟩:=List.mem_map.mp hd
  obtain ⟨p,hpm,rfl⟩:=List.mem_map.mp hx
  by_cases hpw:p.1=w
  ·rw [hpw]
  ·exfalso
   exact h p (List.mem_filter.mpr ⟨hpm,by simpa using hpw⟩) (decide_eq_true ((zn5 h2).mpr hp))
 ·intro h p hp z
  obtain ⟨hp1,hp2⟩:=List.mem_filter.mp hp
  have hp2:p.1≠w:=by simpa using hp2
  have:=h (cdH ls p.1) (List.mem_map.mpr ⟨p.1,List.mem_map.mpr ⟨p,hp1,rfl⟩,rfl⟩) ((zn5 h2).mp (of_decide_eq_true z))
  exact hp2 (zss hl (hw p hp1) hw8 this)
theorem beginning:zbe [cdD ls wt,enc w]=some (enc (own ((wt.map (·.1)).map (cdH ls)) (cdH ls w))):=by
 have hw8:w∈W8:=by obtain ⟨p,hp,rfl⟩:=List.mem_map.mp hm;exact hw p hp
 obtain ⟨lk,hcl⟩:=zl3 (ls:=ls) (wt:=wt) hw hw8
 have hcm:cdH ls w∈(wt.map (·.1)).map (cdH ls):=List.mem_map.mpr ⟨w,hm,rfl⟩
 have full:many ((wt.map (·.1)).map (cdH ls)) ((cdH ls w).take (cdH ls w).length)=1:=by
  rw [zos (zxl hl wt hw nd) hcm _ (List.take_prefix _ _),List.take_length]
  intro d hd hp
  exact (zo8 (cs_co hl wt hw _ hcm) (cs_co hl wt hw d hd) hp).symm
 have ik:zfi (cdD ls wt)=some ((wt.map (·.1)).map enc):=by
  show some ((wt.map fun p=>(.inr (mkS p.1):Key)).map keyP)=_
  rw [List.map_map,List.map_map]
  rfl
 have tst:∀ s:Nat,truF (bin2 (kB true) (zih (itF (getV 0)) (zao 0) zbm zbn 1 [2,0,3,1]) gIn) [.val (cdD ls wt),.val (enc w),.val (enc (cdH ls w)),.val (.int s)]=.ok ((hits ls wt w s).any id):=fun s=>by
  have c:=zur hl wt hw nd hn w hm s
  have i:=in_bls (hits ls wt w s)
  have z:((hits ls wt w s).map PV.bl).length<=16777216:=by
   unfold hits
   rw [List.length_map,List.length_map]
   have:=List.length_filter_le (fun p:W × Str=>decide (p.1≠w)) wt
   omega
  generalize (hits ls wt w s).any id=B at *
  generalize (hits ls wt w s).map PV.bl=HB at *
  generalize (wt.map (·.1)).map enc=KE at *
  generalize cdD ls wt=CD at *
  generalize enc (cdH ls w)=EC at *
  generalize enc w=EW at *
  simp [ik,zlc,List.replicate,c,z,i]
 obtain ⟨ρ',w1,s,rfl,hs⟩:=zuy (t:=truF (bin2 (kB true) (zih (itF (getV 0)) (zao 0) zbm zbn 1 [2,0,3,1]) gIn)) (g:=zdz)
  (fun m ρ=>∃ s:Nat,ρ=[.val (cdD ls wt),.val (enc w),.val (enc (cdH ls w)),.val (.int s)]/\1<=s/\s + m=(cdH ls w).length/\∀ i,1<=i->i < s->many ((wt.map (·.1)).map (cdH ls)) ((cdH ls w).take i)≠1)
  (fun ρ=>∃ s:Nat,ρ=[.val (cdD ls wt),.val (enc w),.val (enc (cdH ls w)),.val (.int s)]/\own ((wt.map (·.1)).map (cdH ls)) (cdH ls w)=(cdH ls w).take s) (by
   rintro m ρ ⟨s,rfl,h1,h2,h3⟩
   have ts:=tst s
   cases hb:(hits ls wt w s).any id with
   | false =>
    rw [hb] at ts
    exact .inl ⟨ts,s,rfl,ztz _ _ s h1 (by omega) ((zoy hl wt hw nd hn w hm s h1 (by omega)).mp hb) h3⟩
   | true =>
    rw [hb] at ts
    have hne:many ((wt.map (·.1)).map (cdH ls)) ((cdH ls w).take s)≠1:=fun z=>by
     have:=(zoy hl wt hw nd hn w hm s h1 (by omega)).mpr z
     rw [this] at hb
     cases hb
    have hlt:s < (cdH ls w).length:=by
     rcases Nat.lt_or_ge s (cdH ls w).length with h | h
     ·exact h
     ·exfalso
      have:s=(cdH ls w).length:=by omega
      rw [this] at hne
      exact hne full
    refine .inr (.inl ⟨ts,m - 1,[.val (cdD ls wt),.val (enc w),.val (enc (cdH ls w)),.val (.int (s + 1:Nat))],by omega,.inl ?_,s + 1,rfl,by omega,by omega,fun i hi1 hi2=>?_⟩)
    ·simp [zdz]
    ·rcases Nat.lt_or_ge i s with h | h
     ·exact h3 i hi1 h
     ·have:i=s:=by omega
      subst this
      exact hne) 300 ((cdH ls w).length - 1) [.val (cdD ls wt),.val (enc w),.val (enc (cdH ls w)),.val (.int 1)] (by omega) ⟨1,rfl,by omega,by omega,fun i h1 h2=>by omega⟩
 refine zam rfl ?_
 have s2:gSlA (enc (cdH ls w)) none (some (s:Int))=some (enc ((cdH ls w).take s)):=zqp (cdH ls w) s (by omega)
 obtain ⟨p,hp,ep⟩:=List.mem_map.mp hm
 have gd:gIx (cdD ls wt) (enc p.1)=some (enc (cdH ls p.1)):=zmb wt (·.1) (fun p=>enc (cdH ls p.1)) nd hp
 have ep:p.1=w:=ep
 rw [ep] at gd
 rw [hs]
 generalize enc ((cdH ls w).take s)=ER at *
 generalize cdD ls wt=CD at *
 generalize enc (cdH ls w)=EC at *
 generalize enc w=EW at *
 simp [ze0,PU.start,gd,w1,s2]
end
theorem zlv (n:Int):∃ m:Int,zc8 [.int n]=some (.int m):=by
 have d4:gDiv (.int n) (.int 4)=some (.int (n / 4)):=znc ⟨by decide,by decide⟩
 have m4:gMod (.int n) (.int 4)=some (.int (n % 4)):=zdj (by decide)
 have m3:gMod (.int (n / 4)) (.int 3)=some (.int (n / 4 % 3)):=zdj (by decide)
 have m2:gMod (.int (n / 4)) (.int 2)=some (.int (n / 4 % 2)):=zdj (by decide)
 have m9:gMod (.int (n / 4)) (.int 9)=some (.int (n / 4 % 9)):=zdj (by decide)
 obtain ⟨x,e⟩:∃ x:Int,atI [PV.int (n / 4 % 3),.int (n / 4 % 3),.int (n / 4 % 2),.int (n / 4 % 9)] (n % 4)=some (.int x):=by
  obtain ⟨k,hk,hk4⟩:∃ k:Nat,n % 4=(k:Int)/\k < 4:=⟨(n % 4).toNat,by omega,by omega⟩
  rw [hk]
  match k,hk4 with
  | 0,_=>exact ⟨_,za6 (n:=0) rfl rfl⟩
  | 1,_=>exact ⟨_,za6 (n:=1) rfl rfl⟩
  | 2,_=>exact ⟨_,za6 (n:=2) rfl rfl⟩
  | 3,_=>exact ⟨_,za6 (n:=3) rfl rfl⟩
 refine ⟨1 + x,zam rfl ?_⟩
 simp [zi1,PU.start,d4,m4,m3,m2,m9,e]
def K12:List Nat:=[48,49,50,51,52,53,54,55,56,57,42,35]
def E12:List (Nat × Nat):=[(0,48),(1,49),(2,50),(3,51),(4,52),(5,53),(6,54),(7,55),(8,56),(9,57),(10,42),(11,35)]
def e12 (p:Nat × Nat):PV:=.tup [.int p.1,WO.sg p.2]
theorem e12_eq:znu (.str "0123456789*#")=some (E12.map e12):=by kernel_rfl
theorem e12_w:E12.map (·.2)=K12:=by decide
theorem e12_lt:∀ p∈E12,p.1 < 12:=by decide
theorem zvf:K12.Nodup:=by decide
def pvk (p:Nat × Str):PV:=.tup [WO.sg p.1,.str p.2]
def mk2 (p:Nat × Str):Str × Str:=(⟨#[p.1]⟩,p.2)
theorem zop (ks:List (Nat × Str)):(ks.map mk2).map pv2=ks.map pvk:=by rw [List.map_map];rfl
def mw2 (p:W × Str):Str × Str:=(mkS p.1,p.2)
theorem zu8 (wt:List (W × Str)):PV.tup ((wt.map mw2).map pv2)=wtPv wt:=by rw [List.map_map];rfl
def RW (nms:List Str):Room->Prop
 | .menu _ ks wr wa=>(∃ kt:List (Nat × Str),ks=kt.map mk2/\List.Sublist (kt.map (·.1)) K12/\∀ k∈kt,k.2="back"\/k.2∈nms)/\wr.2∈nms/\wa.2∈nms
 | .names _ ws wr wa=>(∃ wt:List (W × Str),ws=wt.map mw2/\List.Sublist (wt.map (·.1)) W8/\wt≠[]/\∀ p∈wt,p.2∈nms)/\wr.2∈nms/\wa.2∈nms
 | _=>True
section
variable (nms : List Str) (hn : nms.length = 9)
include hn
theorem at9 (z:Int):∃ x∈nms,atI (nms.map PV.str) (z % 9)=some (.str x):=by
 obtain ⟨x,hx,e⟩:=zpc nms z (by omega)
 rw [hn] at e
 exact ⟨x,hx,e⟩
theorem at11 (z:Int):∃ x:Str,(x="back"\/x∈nms)/\atI (nms.map PV.str++[.str "back",.str "back"]) (z % 11)=some (.str x):=by
 have hl:(nms++[Str.ofString "back",Str.ofString "back"]).length=11:=by simp [hn]
 obtain ⟨x,hx,e⟩:=zpc (nms++[Str.ofString "back",Str.ofString "back"]) z (by omega)
 rw [hl,List.map_append] at e
 refine ⟨x,?_,e⟩
 rcases List.mem_append.mp hx with h | h
 ·exact .inr h
 ·simp only [List.mem_cons,List.not_mem_nil,or_false,or_self] at h
  exact .inl h
theorem menu (t:Str) (cell:Int):∃ (ks:List (Str × Str)) (wr wa:Int × Str),RW nms (.menu t ks wr wa)/\zha [.lst (nms.map .str),.str t,.int cell]=some (Room.menu t ks wr wa).pv:=by
 obtain ⟨ls,l1,l2,el⟩:=numbers cell 30 (by omega)
 have el:zax [.int cell,.int 30]=some (.lst (ls.map .int)):=el
 have ad:gAdd (.lst (nms.map .str)) (.lst [.str "back",.str "back"])=some (.lst (nms.map .str++[.str "back",.str "back"])):=zhz (by simp [hn])
 obtain ⟨ρ',f1,kt,a,b,rfl,h1,h2⟩:=forM (enc:=e12) (xs:=E12) (h:=tupT 2 (zau (zao 5) (zau (zao 6) nilT))) (g:=zfe) (ρ:=[.val (.lst (nms.map .str)),.val (.str t),.val (.int cell),.val (.lst (ls.map .int)),.own (.lst []),.no,.no,.no])
  (I:=fun pre ρ=>∃ (kt:List (Nat × Str)) (a b:Sl),ρ=[.val (.lst (nms.map .str)),.val (.str t),.val (.int cell),.val (.lst (ls.map .int)),.own (.lst (kt.map pvk)),a,b,.no]/\List.Sublist (kt.map (·.1)) (pre.map (·.2))/\∀ k∈kt,k.2="back"\/k.2∈nms) ⟨[],.no,.no,rfl,List.Sublist.refl _,by simp⟩ (by
   rintro pre p post ρ hx ⟨kt,a,b,rfl,h1,h2⟩
   have hp:p.1 < 12:=e12_lt p (by rw [hx];simp)
   have hE:E12.length=12:=rfl
   have hkl:kt.length<=12:=by
    have e1:=h1.length_le
    have e2:=congrArg List.length hx
    rw [List.length_append] at e2
    simp at e1
    omega
   have i1:=zb7 ls p.1 (by omega)
   have i2:=zb7 ls (p.1 + 12) (by omega)
   have n2:((p.1 + 12:Nat):Int)=(p.1:Int) + 12:=by omega
   rw [n2] at i2
   generalize ls[p.1]=x at i1
   generalize ls[p.1 + 12]=y at i2
   obtain ⟨tg,ht,et⟩:=at11 nms hn y
   have m3:gMod (.int x) (.int 3)=some (.int (x % 3)):=zdj (by decide)
   have m11:gMod (.int y) (.int 11)=some (.int (y % 11)):=zdj (by decide)
   have z:(kt.map pvk).length < 16777216:=by simp;omega
   by_cases g1:0 < x % 3
   ·refine ⟨[.val (.lst (nms.map .str)),.val (.str t),.val (.int cell),.val (.lst (ls.map .int)),.own (.lst (kt.map pvk)),.val (.int p.1),.val (WO.sg p.2),.no],[.val (.lst (nms.map .str)),.val (.str t),.val (.int cell),.val (.lst (ls.map .int)),.own (.lst ((kt++[(p.2,tg)]).map pvk)),.val (.int p.1),.val (WO.sg p.2),.no],rfl,.inl ?_,kt++[(p.2,tg)],_,_,rfl,?_,?_⟩
    ·rw [List.map_append]
     generalize kt.map pvk=KT at *
     generalize nms.map PV.str=NN at *
     simp [zfe,i1,i2,m3,m11,g1,ad,et,z,pvk]
    ·rw [List.map_append,List.map_append]
     exact List.Sublist.append h1 (List.Sublist.refl _)
    ·intro k hk
     rcases List.mem_append.mp hk with hk | hk
     ·exact h2 k hk
     ·rw [List.mem_singleton.mp hk];exact ht
   ·refine ⟨[.val (.lst (nms.map .str)),.val (.str t),.val (.int cell),.val (.lst (ls.map .int)),.own (.lst (kt.map pvk)),.val (.int p.1),.val (WO.sg p.2),.no],[.val (.lst (nms.map .str)),.val (.str t),.val (.int cell),.val (.lst (ls.map .int)),.own (.lst (kt.map pvk)),.val (.int p.1),.val (WO.sg p.2),.no],rfl,.inl ?_,kt,_,_,rfl,?_,h2⟩
    ·simp [zfe,i1,m3,g1]
    ·rw [List.map_append]
     exact List.Sublist.trans h1 (List.sublist_append_left _ _))
 rw [e12_w] at h1
 have i24:atI (ls.map PV.int) 24=some (.int ls[24]):=zb7 ls 24 (by omega)
 have i25:atI (ls.map PV.int) 25=some (.int ls[25]):=zb7 ls 25 (by omega)
 have i26:atI (ls.map PV.int) 26=some (.int ls[26]):=zb7 ls 26 (by omega)
 have i27:atI (ls.map PV.int) 27=some (.int ls[27]):=zb7 ls 27 (by omega)
 generalize ls[24]=y1 at i24
 generalize ls[25]=y2 at i25
 generalize ls[26]=y3 at i26
 generalize ls[27]=y4 at i27
 obtain ⟨m1,em1⟩:=zlv y1
 obtain ⟨m2,em2⟩:=zlv y3
 obtain ⟨x1,hx1,e1⟩:=at9 nms hn y2
 obtain ⟨x2,hx2,e2⟩:=at9 nms hn y4
 have q1:gMod (.int y2) (.int 9)=some (.int (y2 % 9)):=zdj (by decide)
 have q2:gMod (.int y4) (.int 9)=some (.int (y4 % 9)):=zdj (by decide)
 refine ⟨kt.map mk2,(m1,x1),(m2,x2),⟨⟨kt,rfl,h1,h2⟩,hx1,hx2⟩,zam rfl ?_⟩
 have pv:(Room.menu t (kt.map mk2) (m1,x1) (m2,x2)).pv=.tup [.str "menu",.str t,.tup (kt.map pvk),.tup [.int m1,.str x1],.tup [.int m2,.str x2]]:=by rw [← zop];rfl
 rw [pv]
 have ee:=e12_eq
 generalize E12.map e12=EE at *
 generalize nms.map PV.str=NN at *
 generalize ls.map PV.int=LN at *
 generalize kt.map pvk=KT at *
 simp [zi0,PU.start,el,ee,f1,i24,em1,i25,q1,e1,i26,em2,i27,q2,e2]
theorem nroom (cell:Int):∃ (ws:List (Str × Str)) (wr wa:Int × Str),RW nms (.names "Spell a name" ws wr wa)/\zbr [.lst (nms.map .str),.int cell]=some (Room.names "Spell a name" ws wr wa).pv:=by
 obtain ⟨ls,l1,l2,el⟩:=numbers cell 14 (by omega)
 have el:zax [.int cell,.int 14]=some (.lst (ls.map .int)):=el
 obtain ⟨ρ',f1,wt,a,b,rfl,h1,h2,h3⟩:=forM (enc:=e8) (xs:=E8) (h:=tupT 2 (zau (zao 4) (zau (zao 5) nilT))) (g:=zbg) (ρ:=[.val (.lst (nms.map .str)),.val (.int cell),.val (.lst (ls.map .int)),.own (.lst []),.no,.no,.no])
  (I:=fun pre ρ=>∃ (wt:List (W × Str)) (a b:Sl),ρ=[.val (.lst (nms.map .str)),.val (.int cell),.val (.lst (ls.map .int)),.own (.lst (wt.map fun p=>.tup [.str (mkS p.1),.str p.2])),a,b,.no]/\List.Sublist (wt.map (·.1)) (pre.map (·.2))/\(∀ p∈wt,p.2∈nms)/\wt.length<=5) ⟨[],.no,.no,rfl,List.Sublist.refl _,by simp,by simp⟩ (by
   rintro pre p post ρ hx ⟨wt,a,b,rfl,h1,h2,h3⟩
   have hp:p.1 < 8:=e8_lt p (by rw [hx];simp)
   have i1:=zb7 ls p.1 (by omega)
   generalize ls[p.1]=x at i1
   have d2:gDiv (.int x) (.int 2)=some (.int (x / 2)):=znc ⟨by decide,by decide⟩
   obtain ⟨tg,ht,et⟩:=at9 nms hn (x / 2)
   have m2:gMod (.int x) (.int 2)=some (.int (x % 2)):=zdj (by decide)
   have m9:gMod (.int (x / 2)) (.int 9)=some (.int (x / 2 % 9)):=zdj (by decide)
   have z:(wt.map fun p:W × Str=>PV.tup [.str (mkS p.1),.str p.2]).length < 16777216:=by simp;omega
   have gl:gLen (.lst (wt.map fun p:W × Str=>PV.tup [.str (mkS p.1),.str p.2]))=some (.int wt.length):=by simp
   have ap:(wt++[(p.2,tg)]).map (fun p:W × Str=>PV.tup [.str (mkS p.1),.str p.2])=wt.map (fun p:W × Str=>PV.tup [.str (mkS p.1),.str p.2])++[.tup [.str (mkS p.2),.str tg]]:=by simp
   by_cases g1:x % 2=1
   ·by_cases g2:(wt.length:Int) < 5
    ·refine ⟨[.val (.lst (nms.map .str)),.val (.int cell),.val (.lst (ls.map .int)),.own (.lst (wt.map fun p=>.tup [.str (mkS p.1),.str p.2])),.val (.int p.1),.val (.str (mkS p.2)),.no],[.val (.lst (nms.map .str)),.val (.int cell),.val (.lst (ls.map .int)),.own (.lst ((wt++[(p.2,tg)]).map fun p=>.tup [.str (mkS p.1),.str p.2])),.val (.int p.1),.val (.str (mkS p.2)),.no],rfl,.inl ?_,wt++[(p.2,tg)],_,_,rfl,?_,?_,by simp;omega⟩
     ·rw [ap]
      generalize (wt.map fun p:W × Str=>PV.tup [.str (mkS p.1),.str p.2])=WT at *
      generalize nms.map PV.str=NN at *
      simp [zbg,i1,m2,g1,gl,g2,d2,m9,et,z]
     ·rw [List.map_append,List.map_append]
      exact List.Sublist.append h1 (List.Sublist.refl _)
     ·intro k hk
      rcases List.mem_append.mp hk with hk | hk
      ·exact h2 k hk
      ·rw [List.mem_singleton.mp hk];exact ht
    ·refine ⟨[.val (.lst (nms.map .str)),.val (.int cell),.val (.lst (ls.map .int)),.own (.lst (wt.map fun p=>.tup [.str (mkS p.1),.str p.2])),.val (.int p.1),.val (.str (mkS p.2)),.no],[.val (.lst (nms.map .str)),.val (.int cell),.val (.lst (ls.map .int)),.own (.lst (wt.map fun p=>.tup [.str (mkS p.1),.str p.2])),.val (.int p.1),.val (.str (mkS p.2)),.no],rfl,.inl ?_,wt,_,_,rfl,?_,h2,h3⟩
     ·generalize (wt.map fun p:W × Str=>PV.tup [.str (mkS p.1),.str p.2])=WT at *
      simp [zbg,i1,m2,g1,gl,g2]
     ·rw [List.map_append]
      exact List.Sublist.trans h1 (List.sublist_append_left _ _)
   ·refine ⟨[.val (.lst (nms.map .str)),.val (.int cell),.val (.lst (ls.map .int)),.own (.lst (wt.map fun p=>.tup [.str (mkS p.1),.str p.2])),.val (.int p.1),.val (.str (mkS p.2)),.no],[.val (.lst (nms.map .str)),.val (.int cell),.val (.lst (ls.map .int)),.own (.lst (wt.map fun p=>.tup [.str (mkS p.1),.str p.2])),.val (.int p.1),.val (.str (mkS p.2)),.no],rfl,.inl ?_,wt,_,_,rfl,?_,h2,h3⟩
    ·generalize (wt.map fun p:W × Str=>PV.tup [.str (mkS p.1),.str p.2])=WT at *
     simp [zbg,i1,m2,g1]
    ·rw [List.map_append]
     exact List.Sublist.trans h1 (List.sublist_append_left _ _))
 rw [e8_w] at h1
 have i9:atI (ls.map PV.int) 9=some (.int ls[9]):=zb7 ls 9 (by omega)
 have i10:atI (ls.map PV.int) 10=some (.int ls[10]):=zb7 ls 10 (by omega)
 have i11:atI (ls.map PV.int) 11=some (.int ls[11]):=zb7 ls 11 (by omega)
 have i12:atI (ls.map PV.int) 12=some (.int ls[12]):=zb7 ls 12 (by omega)
 generalize ls[9]=y1 at i9
 generalize ls[10]=y2 at i10
 generalize ls[11]=y3 at i11
 generalize ls[12]=y4 at i12
 obtain ⟨m1,em1⟩:=zlv y1
 obtain ⟨m2,em2⟩:=zlv y3
 obtain ⟨x1,hx1,e1⟩:=at9 nms hn y2
 obtain ⟨x2,hx2,e2⟩:=at9 nms hn y4
 have q1:gMod (.int y2) (.int 9)=some (.int (y2 % 9)):=zdj (by decide)
 have q2:gMod (.int y4) (.int 9)=some (.int (y4 % 9)):=zdj (by decide)
 have a6:atI (nms.map PV.str) 6=some (.str nms[6]):=at_i nms 6 (by omega)
 have ee:=e8_eq
 have fin:∀ (wt':List (W × Str)),List.Sublist (wt'.map (·.1)) W8->wt'≠[]->(∀ p∈wt',p.2∈nms)->(∃ (ws:List (Str × Str)) (wr wa:Int × Str),RW nms (.names "Spell a name" ws wr wa)/\(Room.names "Spell a name" ws wr wa).pv=.tup [.str "names",.str "Spell a name",.tup (wt'.map fun p=>.tup [.str (mkS p.1),.str p.2]),.tup [.int m1,.str x1],.tup [.int m2,.str x2]]):=fun wt' g1 g2 g3 =>
  ⟨wt'.map mw2,(m1,x1),(m2,x2),⟨⟨wt',rfl,g1,g2,g3⟩,hx1,hx2⟩,by
   have:=zu8 wt'
   show PV.tup [.str "names",.str "Spell a name",.tup ((wt'.map mw2).map pv2),_,_]=_
   rw [this]
   rfl⟩
 cases wt with
 | nil =>
  obtain ⟨ws,wr,wa,g1,g2⟩:=fin [([108,101,101],nms[6])] (by show List.Sublist [[108,101,101]] W8;decide +kernel) (by simp) (by
   intro p hp
   rw [List.mem_singleton.mp hp]
   exact List.getElem_mem _)
  refine ⟨ws,wr,wa,g1,zam rfl ?_⟩
  rw [g2]
  have le:(PV.str "lee")=.str (mkS [108,101,101]):=by kernel_rfl
  generalize E8.map e8=EE at *
  generalize nms.map PV.str=NN at *
  generalize ls.map PV.int=LN at *
  simp [zb5,PU.start,el,ee,f1,a6,i9,em1,i10,q1,e1,i11,em2,i12,q2,e2]
  exact PV.str.inj le
 | cons p wt =>
  obtain ⟨ws,wr,wa,g1,g2⟩:=fin (p::wt) h1 (by simp) h2
  refine ⟨ws,wr,wa,g1,zam rfl ?_⟩
  rw [g2]
  have gl:gLen (.lst ((p::wt).map fun p:W × Str=>PV.tup [.str (mkS p.1),.str p.2]))=some (.int (wt.length + 1)):=by simp
  have hl:¬ ((wt.length:Int) + 1=0):=by omega
  generalize ((p::wt).map fun p:W × Str=>PV.tup [.str (mkS p.1),.str p.2])=WT at *
  generalize E8.map e8=EE at *
  generalize nms.map PV.str=NN at *
  generalize ls.map PV.int=LN at *
  simp [zb5,PU.start,el,ee,f1,gl,hl,i9,em1,i10,q1,e1,i11,em2,i12,q2,e2]
end
def Fit (nms ord:List Str) (r:Str × Room):Prop:=∃ (k:Nat) (hk:k < ord.length),ord[k]=r.1/\(∀ sp l,r.2=.hours sp l->l∈ord.drop (k + 1)/\∀ s∈sp,s.2.2∈ord.drop (k + 1))/\RW nms r.2
structure Good (nms ord:List Str) (rs:FA.Rooms):Prop where
 ok:∀ r∈rs,Fit nms ord r
 nd:(rs.map (·.1)).Nodup
theorem zjc (nms:List Str) (rs:FA.Rooms) (k:Str) (r:Room) (ord:List Str) (g:Good nms ord rs) (hr:Fit nms ord (k,r)):Good nms ord (putR rs k r)/\(putR rs k r).length<=rs.length + 1:=by
 obtain ⟨a,b,c⟩:=zwe (rs:=rs) (k:=k) (r:=r) (Fit nms ord) g.ok (fun x e1 e2=>by have:x=(k,r):=Prod.ext e1 e2;rw [this];exact hr) g.nd
 exact ⟨⟨a,b⟩,c⟩
theorem zgm (rs:FA.Rooms):zaj rs=.dct (rs.map fun r=>.inr r.1) (rs.map fun r=>r.2.pv):=rfl
theorem zsp (nms ord:List Str) (rs:FA.Rooms) (nd:ord.Nodup) (g:Good nms ord rs) (hall:∀ x∈ord,x∈FA.names rs) (hour:Int):∀ (n k:Nat) (hk:k < ord.length),ord.length - k<=n->∃ y r,comeGo rs hour n ord[k]=some y/\FA.lookR rs y=some r/\y∈ord/\∀ sp l,r≠.hours sp l
 | 0,k,hk,h=>by omega
 | n + 1,k,hk,h=>by
  obtain ⟨r,hr⟩:=FA.look_some rs ord[k] (hall _ (List.getElem_mem hk))
  obtain ⟨k',hk',e,ht,_⟩:=g.ok _ (znn rs _ r hr)
  have ek:k'=k:=(List.getElem_inj nd).mp e
  subst ek
  unfold comeGo
  rw [hr]
  by_cases hh:∃ sp l,r=.hours sp l
  ·obtain ⟨sp,l,rfl⟩:=hh
   obtain ⟨h1,h2⟩:=ht sp l rfl
   have hin:FA.handOf sp l hour∈ord.drop (k' + 1):=by
    unfold FA.handOf
    cases e:sp.find? (FA.holds hour) with
    | none=>exact h1
    | some s=>exact h2 s (List.mem_of_find?_eq_some e)
   obtain ⟨j,hj,e2⟩:=List.getElem_of_mem hin
   rw [List.length_drop] at hj
   rw [List.getElem_drop] at e2
   dsimp only
   rw [← e2]
   exact zsp nms ord rs nd g hall hour n (k' + 1 + j) (by omega) (by omega)
  ·refine ⟨ord[k'],r,?_,hr,List.getElem_mem _,fun sp l e=>hh ⟨sp,l,e⟩⟩
   cases r with
   | hours sp l=>exact absurd ⟨sp,l,rfl⟩ hh
   | _=>rfl
structure HG (h:House) (ls:WO.Lts) (nms ord:List Str):Prop where
 nd:ord.Nodup
 ol:ord.length=9
 g:Good nms ord h.rooms
 all:∀ x∈ord,x∈FA.names h.rooms
 nm:∀ x∈nms,x∈ord
 mn:∀ x∈ord,x∈nms
 nb:∀ x∈nms,x≠"back"/\x≠""
 fst:h.first∈nms
 sl:Ls ls
 lets:gIx h.pv (.str "letters")=some (WO.ltPv ls)
 rl:h.rooms.length<=20
def ltS (ls:WO.Lts):List (Str × Str):=ls.map fun l=>(⟨#[l.1]⟩,mkS l.2)
theorem ltS_pv (ls:WO.Lts):PV.lst ((ltS ls).map pv2)=WO.ltPv ls:=by
 unfold ltS WO.ltPv
 rw [List.map_map]
 rfl
theorem house (ns:List Int) (hns:ns.length<=9):∃ (h:House) (ls:WO.Lts) (nms ord:List Str),HG h ls nms ord/\ze1 [.lst (ns.map .int)]=some h.pv:=by
 have c0:zan [PV.lst (ns.map PV.int),PV.int 0]=some (PV.int (ns.getD 0 0)):=zgg ns 0
 have c3:zan [PV.lst (ns.map PV.int),PV.int 3]=some (PV.int (ns.getD 3 0)):=zgg ns 3
 have c4:zan [PV.lst (ns.map PV.int),PV.int 4]=some (PV.int (ns.getD 4 0)):=zgg ns 4
 have c5:zan [PV.lst (ns.map PV.int),PV.int 5]=some (PV.int (ns.getD 5 0)):=zgg ns 5
 have c6:zan [PV.lst (ns.map PV.int),PV.int 6]=some (PV.int (ns.getD 6 0)):=zgg ns 6
 have c7:zan [PV.lst (ns.map PV.int),PV.int 7]=some (PV.int (ns.getD 7 0)):=zgg ns 7
 have c8:zan [PV.lst (ns.map PV.int),PV.int 8]=some (PV.int (ns.getD 8 0)):=zgg ns 8
 have cc:∀ i:Nat,zan [PV.lst (ns.map PV.int),PV.int i]=some (PV.int (ns.getD i 0)):=zgg ns
 generalize ns.getD 0 0=z0 at c0
 generalize ns.getD 3 0=z3 at c3
 generalize ns.getD 4 0=z4 at c4
 generalize ns.getD 5 0=z5 at c5
 generalize ns.getD 6 0=z6 at c6
 generalize ns.getD 7 0=z7 at c7
 generalize ns.getD 8 0=z8 at c8
 obtain ⟨nms,hnl,hnd,hnb,en⟩:=names z0
 obtain ⟨ls,hls,elt⟩:=letters z8
 obtain ⟨ws3,wr3,wa3,rw3,er3⟩:=nroom nms hnl z3
 obtain ⟨ws4,wr4,wa4,rw4,er4⟩:=nroom nms hnl (z4 + 104729)
 have hmenu:=fun (t:Str) (cell:Int)=>menu nms hnl t cell
 obtain ⟨n0,n1,n2,n3,n4,n5,n6,n7,n8,rfl⟩:∃ n0 n1 n2 n3 n4 n5 n6 n7 n8,nms=[n0,n1,n2,n3,n4,n5,n6,n7,n8]:=by
  match nms,hnl with
  | [a,b,c,d,e,f,g,h,i],_=>exact ⟨a,b,c,d,e,f,g,h,i,rfl⟩
 obtain ⟨ord,hord⟩:∃ ord,ord=[n4,n5,n8,n0,n1,n2,n3,n6,n7]:=⟨_,rfl⟩
 have hperm:∀ x,x∈[n0,n1,n2,n3,n4,n5,n6,n7,n8] ↔ x∈ord:=fun x=>by
  rw [hord]
  simp only [List.mem_cons,List.not_mem_nil,or_false]
  constructor
  ·rintro (h | h | h | h | h | h | h | h | h) <;> simp [h]
  ·rintro (h | h | h | h | h | h | h | h | h) <;> simp [h]
 have hond:ord.Nodup:=by
  rw [hord]
  have pm:List.Perm [n0,n1,n2,n3,n4,n5,n6,n7,n8] [n4,n5,n8,n0,n1,n2,n3,n6,n7]:=by
   have p1:List.Perm ([n0,n1,n2,n3]++[n4,n5]++[n6,n7]++[n8]) ([n4,n5]++[n8]++[n0,n1,n2,n3]++[n6,n7]):=by
    refine List.Perm.trans (List.perm_append_comm (l₁:=[n0,n1,n2,n3]++[n4,n5]++[n6,n7]) (l₂:=[n8])) ?_
    refine List.Perm.trans (List.Perm.append_left [n8] (List.Perm.append_right [n6,n7] (List.perm_append_comm (l₁:=[n0,n1,n2,n3]) (l₂:=[n4,n5])))) ?_
    show List.Perm (([n8]++[n4,n5])++([n0,n1,n2,n3]++[n6,n7])) (([n4,n5]++[n8])++([n0,n1,n2,n3]++[n6,n7]))
    exact List.Perm.append_right _ List.perm_append_comm
   exact p1
  exact pm.nodup_iff.mp hnd
 obtain ⟨nms,hnms⟩:∃ nms,nms=[n0,n1,n2,n3,n4,n5,n6,n7,n8]:=⟨_,rfl⟩
 have plain:∀ (x:Str) (r:Room),x∈ord->(∀ sp l,r≠.hours sp l)->RW nms r->Fit nms ord (x,r):=fun x r hx hr hw=>by
  obtain ⟨k,hk,e⟩:=List.getElem_of_mem hx
  exact ⟨k,hk,e,fun sp l e=>absurd e (hr sp l),hw⟩
 have om:∀ x∈[n0,n1,n2,n3,n4,n5,n6,n7,n8],x∈ord:=fun x hx=>(hperm x).mp hx
 have menus:∃ (rs:FA.Rooms) (a:Sl),Good nms ord rs/\rs.length<=2/\(n0∈FA.names rs/\n1∈FA.names rs)/\forF (zao 3) zek (zcj 0 2) [.val (.lst (ns.map .int)),.val (.lst ([n0,n1,n2,n3,n4,n5,n6,n7,n8].map .str)),.own (.dct [] []),.no,.no]=.ok (.next [.val (.lst (ns.map .int)),.val (.lst ([n0,n1,n2,n3,n4,n5,n6,n7,n8].map .str)),.own (zaj rs),a,.no]):=by
  obtain ⟨ρ',f1,rs,a,rfl,g,hl,hm⟩:=forR (n:=2) (lo:=0) (h:=zao 3) (g:=zek) (ρ:=[.val (.lst (ns.map .int)),.val (.lst ([n0,n1,n2,n3,n4,n5,n6,n7,n8].map .str)),.own (.dct [] []),.no,.no])
   (I:=fun i ρ=>∃ rs a,ρ=[.val (.lst (ns.map .int)),.val (.lst ([n0,n1,n2,n3,n4,n5,n6,n7,n8].map .str)),.own (zaj rs),a,.no]/\Good nms ord rs/\rs.length<=i/\∀ j,j < i->∀ hj:j < 9,[n0,n1,n2,n3,n4,n5,n6,n7,n8][j]∈FA.names rs) ⟨[],.no,rfl,⟨by simp,by simp⟩,by simp,fun j hj=>by omega⟩ (by
    rintro i ρ hi ⟨rs,a,rfl,g,hl,hm⟩
    have e3:=at_i [n0,n1,n2,n3,n4,n5,n6,n7,n8] i (by simp;omega)
    have hx:[n0,n1,n2,n3,n4,n5,n6,n7,n8][i]'(by simp;omega)∈[n0,n1,n2,n3,n4,n5,n6,n7,n8]:=List.getElem_mem _
    obtain ⟨t,et⟩:∃ t:Str,atI [PV.str "Hello",PV.str "Press 1."] (i:Int)=some (.str t):=by
     match i,hi with
     | 0,_=>exact ⟨_,by simp;rfl⟩
     | 1,_=>exact ⟨_,by simp;rfl⟩
    have ci:=cc (1 + i)
    have n1':((1 + i:Nat):Int)=1 + (i:Int):=by omega
    rw [n1'] at ci
    generalize ns.getD (1 + i) 0=u at ci
    have mu:gMul (.int 7919) (.int i)=some (.int (7919 * (i:Int))):=zpe (.inl (by decide))
    obtain ⟨ks,wr,wa,rw1,em⟩:=hmenu t (u + 7919 * (i:Int))
    rw [← hnms] at rw1
    obtain ⟨g',l'⟩:=zjc nms rs _ (.menu t ks wr wa) ord g (plain _ _ (om _ hx) (fun _ _ e=>by cases e) rw1)
    have p:=zgp rs ([n0,n1,n2,n3,n4,n5,n6,n7,n8][i]'(by simp;omega)) (.menu t ks wr wa)
    have z1:rs.length < 16777216:=by omega
    rw [Int.zero_add]
    refine ⟨_,[.val (.lst (ns.map .int)),.val (.lst ([n0,n1,n2,n3,n4,n5,n6,n7,n8].map .str)),.own (zaj (putR rs ([n0,n1,n2,n3,n4,n5,n6,n7,n8][i]'(by simp;omega)) (.menu t ks wr wa))),.val (.int i),.no],rfl,.inl ?_,_,_,rfl,g',by omega,fun j hj hj8=>?_⟩
    ·generalize (Room.menu t ks wr wa).pv=RP at *
     generalize ([n0,n1,n2,n3,n4,n5,n6,n7,n8][i]'(by simp;omega))=nk at *
     generalize ([n0,n1,n2,n3,n4,n5,n6,n7,n8].map PV.str)=N at *
     simp [zek,e3,et,ci,mu,em,zgm rs,z1,p]
    ·rw [zgv]
     by_cases hji:j=i
     ·subst hji;exact .inr rfl
     ·exact .inl (hm j (by omega) hj8))
  exact ⟨rs,a,g,hl,⟨hm 0 (by omega) (by omega),hm 1 (by omega) (by omega)⟩,f1⟩
 obtain ⟨rs,a,g,hl,⟨hm0,hm1⟩,f1⟩:=menus
 obtain ⟨sp4,l4,s4,t4,eh4⟩:=hours [n0,n1,n2,n3,n5,n6,n7,n8] z5 (by simp)
 obtain ⟨sp5,l5,s5,t5,eh5⟩:=hours [n0,n1,n2,n3,n6,n7,n8] (z6 + 31) (by simp)
 obtain ⟨sp8,l8,s8,t8,eh8⟩:=hours [n0,n1,n2,n3,n6,n7] (z5 / 7 + 5) (by simp)
 have dr4:∀ x∈[n0,n1,n2,n3,n5,n6,n7,n8],x∈ord.drop 1:=fun x hx=>by
  rw [hord]
  simp only [List.drop_succ_cons,List.drop_zero,List.mem_cons,List.not_mem_nil,or_false] at hx ⊢
  rcases hx with h | h | h | h | h | h | h | h <;> simp [h]
 have dr5:∀ x∈[n0,n1,n2,n3,n6,n7,n8],x∈ord.drop 2:=fun x hx=>by
  rw [hord]
  simp only [List.drop_succ_cons,List.drop_zero,List.mem_cons,List.not_mem_nil,or_false] at hx ⊢
  rcases hx with h | h | h | h | h | h | h <;> simp [h]
 have dr8:∀ x∈[n0,n1,n2,n3,n6,n7],x∈ord.drop 3:=fun x hx=>by
  rw [hord]
  simp only [List.drop_succ_cons,List.drop_zero,List.mem_cons,List.not_mem_nil,or_false] at hx ⊢
  rcases hx with h | h | h | h | h | h <;> simp [h]
 have ol:ord.length=9:=by rw [hord];rfl
 have fit4:Fit nms ord (n4,.hours sp4 l4):=⟨0,by omega,by simp [hord],fun sp l e=>by cases e;exact ⟨dr4 _ t4,fun s hs=>dr4 _ (s4 s hs)⟩,trivial⟩
 have fit5:Fit nms ord (n5,.hours sp5 l5):=⟨1,by omega,by simp [hord],fun sp l e=>by cases e;exact ⟨dr5 _ t5,fun s hs=>dr5 _ (s5 s hs)⟩,trivial⟩
 have fit8:Fit nms ord (n8,.hours sp8 l8):=⟨2,by omega,by simp [hord],fun sp l e=>by cases e;exact ⟨dr8 _ t8,fun s hs=>dr8 _ (s8 s hs)⟩,trivial⟩
 rw [← hnms] at rw3 rw4
 obtain ⟨g2,l2'⟩:=zjc nms rs n2 (.names "Spell a name" ws3 wr3 wa3) ord g (plain _ _ (om _ (by simp)) (fun _ _ e=>by cases e) rw3)
 have p2:=zgp rs n2 (.names "Spell a name" ws3 wr3 wa3)
 obtain ⟨r2,hr2⟩:∃ r2,r2=putR rs n2 (.names "Spell a name" ws3 wr3 wa3):=⟨_,rfl⟩
 rw [← hr2] at g2 l2' p2
 obtain ⟨g3,l3'⟩:=zjc nms r2 n3 (.names "Spell a name" ws4 wr4 wa4) ord g2 (plain _ _ (om _ (by simp)) (fun _ _ e=>by cases e) rw4)
 have p3:=zgp r2 n3 (.names "Spell a name" ws4 wr4 wa4)
 obtain ⟨r3,hr3⟩:∃ r3,r3=putR r2 n3 (.names "Spell a name" ws4 wr4 wa4):=⟨_,rfl⟩
 rw [← hr3] at g3 l3' p3
 obtain ⟨g4,l4'⟩:=zjc nms r3 n4 (.hours sp4 l4) ord g3 fit4
 have p4:=zgp r3 n4 (.hours sp4 l4)
 obtain ⟨r4,hr4⟩:∃ r4,r4=putR r3 n4 (.hours sp4 l4):=⟨_,rfl⟩
 rw [← hr4] at g4 l4' p4
 obtain ⟨g5,l5'⟩:=zjc nms r4 n5 (.hours sp5 l5) ord g4 fit5
 have p5:=zgp r4 n5 (.hours sp5 l5)
 obtain ⟨r5,hr5⟩:∃ r5,r5=putR r4 n5 (.hours sp5 l5):=⟨_,rfl⟩
 rw [← hr5] at g5 l5' p5
 obtain ⟨g8,l8'⟩:=zjc nms r5 n8 (.hours sp8 l8) ord g5 fit8
 have p8:=zgp r5 n8 (.hours sp8 l8)
 obtain ⟨r8,hr8⟩:∃ r8,r8=putR r5 n8 (.hours sp8 l8):=⟨_,rfl⟩
 rw [← hr8] at g8 l8' p8
 obtain ⟨g6,l6'⟩:=zjc nms r8 n6 (.hand "Ann here") ord g8 (plain _ _ (om _ (by simp)) (fun _ _ e=>by cases e) trivial)
 have p6:=zgp r8 n6 (.hand "Ann here")
 obtain ⟨r6,hr6⟩:∃ r6,r6=putR r8 n6 (.hand "Ann here"):=⟨_,rfl⟩
 rw [← hr6] at g6 l6' p6
 obtain ⟨g7,l7'⟩:=zjc nms r6 n7 (.fin "Good bye") ord g6 (plain _ _ (om _ (by simp)) (fun _ _ e=>by cases e) trivial)
 have p7:=zgp r6 n7 (.fin "Good bye")
 obtain ⟨r7,hr7⟩:∃ r7,r7=putR r6 n7 (.fin "Good bye"):=⟨_,rfl⟩
 rw [← hr7] at g7 l7' p7
 have hall:∀ x∈ord,x∈FA.names r7:=fun x hx=>by
  rw [hr7,zgv,hr6,zgv,hr8,zgv,hr5,zgv,hr4,zgv,hr3,zgv,hr2,zgv]
  rw [hord] at hx
  simp only [List.mem_cons,List.not_mem_nil,or_false] at hx
  rcases hx with rfl | rfl | rfl | rfl | rfl | rfl | rfl | rfl | rfl
  ·exact .inl (.inl (.inl (.inl (.inr rfl))))
  ·exact .inl (.inl (.inl (.inr rfl)))
  ·exact .inl (.inl (.inr rfl))
  ·exact .inl (.inl (.inl (.inl (.inl (.inl (.inl hm0))))))
  ·exact .inl (.inl (.inl (.inl (.inl (.inl (.inl hm1))))))
  ·exact .inl (.inl (.inl (.inl (.inl (.inl (.inr rfl))))))
  ·exact .inl (.inl (.inl (.inl (.inl (.inr rfl)))))
  ·exact .inl (.inr rfl)
  ·exact .inr rfl
 have m9:gMod (.int z7) (.int 9)=some (.int (z7 % 9)):=zdj (by decide)
 obtain ⟨fi,fst,hfst,ef1,ef2⟩:∃ (fi:Int) (fst:Str),fst∈[n0,n1,n2,n3,n4,n5,n6,n7,n8]/\atI [PV.int 0,.int 1,.int 2,.int 3,.int 4,.int 0,.int 3,.int 1,.int 6] (z7 % 9)=some (.int fi)/\atI ([n0,n1,n2,n3,n4,n5,n6,n7,n8].map PV.str) fi=some (.str fst):=by
  obtain ⟨k,hk,hk9⟩:∃ k:Nat,z7 % 9=(k:Int)/\k < 9:=⟨(z7 % 9).toNat,by omega,by omega⟩
  rw [hk]
  match k,hk9 with
  | 0,_=>exact ⟨0,n0,by simp,za6 (n:=0) rfl rfl,za6 (n:=0) rfl rfl⟩
  | 1,_=>exact ⟨1,n1,by simp,za6 (n:=1) rfl rfl,za6 (n:=1) rfl rfl⟩
  | 2,_=>exact ⟨2,n2,by simp,za6 (n:=2) rfl rfl,za6 (n:=2) rfl rfl⟩
  | 3,_=>exact ⟨3,n3,by simp,za6 (n:=3) rfl rfl,za6 (n:=3) rfl rfl⟩
  | 4,_=>exact ⟨4,n4,by simp,za6 (n:=4) rfl rfl,za6 (n:=4) rfl rfl⟩
  | 5,_=>exact ⟨0,n0,by simp,za6 (n:=5) rfl rfl,za6 (n:=0) rfl rfl⟩
  | 6,_=>exact ⟨3,n3,by simp,za6 (n:=6) rfl rfl,za6 (n:=3) rfl rfl⟩
  | 7,_=>exact ⟨1,n1,by simp,za6 (n:=7) rfl rfl,za6 (n:=1) rfl rfl⟩
  | 8,_=>exact ⟨6,n6,by simp,za6 (n:=8) rfl rfl,za6 (n:=6) rfl rfl⟩
 have uH:House.pv ⟨fst,ltS ls,r7⟩=.dct [.inr "first",.inr "letters",.inr "rooms"] [.str fst,WO.ltPv ls,zaj r7]:=by rw [← ltS_pv];rfl
 refine ⟨⟨fst,ltS ls,r7⟩,ls,nms,ord,⟨hond,ol,g7,hall,fun x hx=>om x (by rw [← hnms];exact hx),fun x hx=>by rw [hnms];exact (hperm x).mpr hx,by rw [hnms];exact hnb,by rw [hnms];exact hfst,hls,by rw [uH];simp,by show r7.length<=20;omega⟩,zam rfl ?_⟩
 rw [uH]
 have q6:(Room.hand "Ann here").pv=.tup [.str "hand",.str "Ann here"]:=rfl
 have q7:(Room.fin "Good bye").pv=.tup [.str "end",.str "Good bye"]:=rfl
 rw [q6] at p6
 rw [q7] at p7
 generalize hH2:(Room.names "Spell a name" ws3 wr3 wa3).pv=H2 at *
 generalize hH3:(Room.names "Spell a name" ws4 wr4 wa4).pv=H3 at *
 generalize hH4:(Room.hours sp4 l4).pv=H4 at *
 generalize hH5:(Room.hours sp5 l5).pv=H5 at *
 generalize hH8:(Room.hours sp8 l8).pv=H8 at *
 have u2:rs.length < 16777216:=by omega
 have u3:r2.length < 16777216:=by omega
 have u4:r3.length < 16777216:=by omega
 have u5:r4.length < 16777216:=by omega
 have u8:r5.length < 16777216:=by omega
 have u6:r8.length < 16777216:=by omega
 have u7:r6.length < 16777216:=by omega
 have a2:atI ([n0,n1,n2,n3,n4,n5,n6,n7,n8].map PV.str) 2=some (.str n2):=za6 (n:=2) rfl rfl
 have a3:atI ([n0,n1,n2,n3,n4,n5,n6,n7,n8].map PV.str) 3=some (.str n3):=za6 (n:=3) rfl rfl
 have a4:atI ([n0,n1,n2,n3,n4,n5,n6,n7,n8].map PV.str) 4=some (.str n4):=za6 (n:=4) rfl rfl
 have a5:atI ([n0,n1,n2,n3,n4,n5,n6,n7,n8].map PV.str) 5=some (.str n5):=za6 (n:=5) rfl rfl
 have a6:atI ([n0,n1,n2,n3,n4,n5,n6,n7,n8].map PV.str) 6=some (.str n6):=za6 (n:=6) rfl rfl
 have a7:atI ([n0,n1,n2,n3,n4,n5,n6,n7,n8].map PV.str) 7=some (.str n7):=za6 (n:=7) rfl rfl
 have a8:atI ([n0,n1,n2,n3,n4,n5,n6,n7,n8].map PV.str) 8=some (.str n8):=za6 (n:=8) rfl rfl
 have k4:cutP ([n0,n1,n2,n3,n4,n5,n6,n7,n8].map PV.str) none (some 4)=[.str n0,.str n1,.str n2,.str n3]:=rfl
 have k5:cutP ([n0,n1,n2,n3,n4,n5,n6,n7,n8].map PV.str) (some 5) none=[.str n5,.str n6,.str n7,.str n8]:=rfl
 have k6:cutP ([n0,n1,n2,n3,n4,n5,n6,n7,n8].map PV.str) (some 6) none=[.str n6,.str n7,.str n8]:=rfl
 have k68:cutP ([n0,n1,n2,n3,n4,n5,n6,n7,n8].map PV.str) (some 6) (some 8)=[.str n6,.str n7]:=rfl
 have ad4:gAdd (.lst [.str n0,.str n1,.str n2,.str n3]) (.lst [.str n5,.str n6,.str n7,.str n8])=some (.lst [.str n0,.str n1,.str n2,.str n3,.str n5,.str n6,.str n7,.str n8]):=zhz (by simp)
 have ad5:gAdd (.lst [.str n0,.str n1,.str n2,.str n3]) (.lst [.str n6,.str n7,.str n8])=some (.lst [.str n0,.str n1,.str n2,.str n3,.str n6,.str n7,.str n8]):=zhz (by simp)
 have ad8:gAdd (.lst [.str n0,.str n1,.str n2,.str n3]) (.lst [.str n6,.str n7])=some (.lst [.str n0,.str n1,.str n2,.str n3,.str n6,.str n7]):=zhz (by simp)
 have eh4:zb6 [.lst [.str n0,.str n1,.str n2,.str n3,.str n5,.str n6,.str n7,.str n8],.int z5]=some H4:=eh4
 have eh5:zb6 [.lst [.str n0,.str n1,.str n2,.str n3,.str n6,.str n7,.str n8],.int (z6 + 31)]=some H5:=eh5
 have eh8:zb6 [.lst [.str n0,.str n1,.str n2,.str n3,.str n6,.str n7],.int (z5 / 7 + 5)]=some H8:=eh8
 have d7:gDiv (.int z5) (.int 7)=some (.int (z5 / 7)):=znc ⟨by decide,by decide⟩
 generalize hLL:WO.ltPv ls=LL at *
 clear hLL
 clear uH hall hmenu plain om hperm hnb hnd
 generalize ([n0,n1,n2,n3,n4,n5,n6,n7,n8].map PV.str)=N at *
 have v_r:rngP (.int 2)=.ok (zcj 0 2):=zpd (by decide) (by decide)
 simp [zhq,PU.start,c0,en,v_r]
 rw [f1]
 simp [a2,c3,er3,zgm rs,u2,p2]
 simp [zgm r2,u3,a3,c4,er4,p3]
 simp [zgm r3,u4,k4,k5,ad4,c5,eh4,a4,p4]
 simp [zgm r4,u5,k4,k6,ad5,c6,eh5,a5,p5]
 simp [zgm r5,u8,k4,k68,ad8,c5,d7,eh8,a8,p8]
 simp [zgm r8,u6,a6,p6]
 simp [zgm r6,u7,a7,p7]
 simp [c7,m9,ef1,ef2,c8,elt,zhd,putP]
def sT (r b:Str) (w v:Int) (t:W):PV:=.tup [.str r,.str b,.int w,.int v,.str (mkS t)]
theorem zru (x:Int × Int × Str) (l:List (Int × Int × Str)) (last:Str) (hour:Int):FA.handOf (x::l) last hour=if FA.holds hour x=true then x.2.2 else FA.handOf l last hour:=by
 unfold FA.handOf
 by_cases h:FA.holds hour x=true
 ·rw [List.find?_cons_of_pos h,if_pos h]
 ·rw [List.find?_cons_of_neg h,if_neg h]
theorem zm4 (H:PV) (rs:FA.Rooms) (hR:gIx H (.str "rooms")=some (zaj rs)) (hour:Int) (bk:PV):∀ (n N:Nat) (x y:Str) (r:Room) (a b c:Sl),n<=N->comeGo rs hour n x=some y->FA.lookR rs x=some r->∃ r' a' b' c',
  whF (truF (bin2 (bin2 (getV 4) (kI 0) gIx) (kS "hours") gEq)) zff N [.val H,.val (.int hour),.val (.str x),.val bk,.val r.pv,a,b,c]=.ok (.next [.val H,.val (.int hour),.val (.str y),.val bk,r',a',b',c'])
 | 0,N,x,y,_,_,_,_,h,e,_=>by cases e
 | n + 1,0,x,y,_,_,_,_,h,e,_=>by omega
 | n + 1,N + 1,x,y,r,a,b,c,h,e,hr=>by
  unfold comeGo at e
  unfold whF
  rw [hr] at e
  cases r with
  | hours sp l =>
   have er:(Room.hours sp l).pv=.tup [.str "hours",.tup (sp.map pv3),.str l]:=rfl
   rw [er]
   have t:truF (bin2 (bin2 (getV 4) (kI 0) gIx) (kS "hours") gEq) [.val H,.val (.int hour),.val (.str x),.val bk,.val (.tup [.str "hours",.tup (sp.map pv3),.str l]),a,b,c]=.ok true:=by simp
   obtain ⟨ρ',f1,a',b',c',rfl⟩:=forM (enc:=pv3) (xs:=sp.reverse) (h:=tupT 3 (zau (zao 5) (zau (zao 6) (zau (zao 7) nilT)))) (g:=zda) (ρ:=[.val H,.val (.int hour),.val (.str l),.val bk,.val (.tup [.str "hours",.tup (sp.map pv3),.str l]),a,b,c])
    (I:=fun pre ρ=>∃ a b c,ρ=[.val H,.val (.int hour),.val (.str (FA.handOf pre.reverse l hour)),.val bk,.val (.tup [.str "hours",.tup (sp.map pv3),.str l]),a,b,c]) ⟨a,b,c,rfl⟩ (by
     rintro pre s post ρ hx ⟨a,b,c,rfl⟩
     refine ⟨[.val H,.val (.int hour),.val (.str (FA.handOf pre.reverse l hour)),.val bk,.val (.tup [.str "hours",.tup (sp.map pv3),.str l]),.val (.int s.1),.val (.int s.2.1),.val (.str s.2.2)],[.val H,.val (.int hour),.val (.str (FA.handOf (pre++[s]).reverse l hour)),.val bk,.val (.tup [.str "hours",.tup (sp.map pv3),.str l]),.val (.int s.1),.val (.int s.2.1),.val (.str s.2.2)],rfl,.inl ?_,_,_,_,rfl⟩
     rw [List.reverse_append]
     show zda _=.ok (.next [_,_,.val (.str (FA.handOf (s::pre.reverse) l hour)),_,_,_,_,_])
     rw [zru]
     unfold FA.holds
     by_cases h1:s.1<=hour
     ·by_cases h2:hour < s.2.1
      ·simp [zda,h1,h2]
      ·simp [zda,h1,h2]
     ·simp [zda,h1])
   rw [List.reverse_reverse] at f1
   have hy:∃ r2,FA.lookR rs (FA.handOf sp l hour)=some r2:=by
    cases hq:FA.lookR rs (FA.handOf sp l hour) with
    | some r2=>exact ⟨r2,rfl⟩
    | none =>
     exfalso
     replace e:comeGo rs hour n (FA.handOf sp l hour)=some y:=e
     cases n with
     | zero=>cases e
     | succ n=>unfold comeGo at e;rw [hq] at e;cases e
   obtain ⟨r2,hr2⟩:=hy
   have n2:=FA.ix_rooms rs (FA.handOf sp l hour)
   rw [hr2] at n2
   have n2:gIx (zaj rs) (.str (FA.handOf sp l hour))=some r2.pv:=n2
   have bb:zff [.val H,.val (.int hour),.val (.str x),.val bk,.val (.tup [.str "hours",.tup (sp.map pv3),.str l]),a,b,c]=.ok (.next [.val H,.val (.int hour),.val (.str (FA.handOf sp l hour)),.val bk,.val r2.pv,a',b',c']):=by
    rw [List.map_reverse] at f1
    simp [zff]
    rw [f1]
    simp [hR,n2]
   simp only [t,R.ok_bind,if_true,bb]
   exact zm4 H rs hR hour bk n N _ y r2 _ _ _ (by omega) e hr2
  | menu t ks wr wa =>
   have n3:gIx (Room.menu t ks wr wa).pv (.int 0)=some (.str "menu"):=rfl
   have t:truF (bin2 (bin2 (getV 4) (kI 0) gIx) (kS "hours") gEq) [.val H,.val (.int hour),.val (.str x),.val bk,.val (Room.menu t ks wr wa).pv,a,b,c]=.ok false:=by simp [n3]
   cases e
   simp only [t,R.ok_bind,Bool.false_eq_true,if_false]
   exact ⟨_,_,_,_,rfl⟩
  | names t ks wr wa =>
   have n3:gIx (Room.names t ks wr wa).pv (.int 0)=some (.str "names"):=rfl
   have t:truF (bin2 (bin2 (getV 4) (kI 0) gIx) (kS "hours") gEq) [.val H,.val (.int hour),.val (.str x),.val bk,.val (Room.names t ks wr wa).pv,a,b,c]=.ok false:=by simp [n3]
   cases e
   simp only [t,R.ok_bind,Bool.false_eq_true,if_false]
   exact ⟨_,_,_,_,rfl⟩
  | hand t =>
   have n3:gIx (Room.hand t).pv (.int 0)=some (.str "hand"):=rfl
   have t:truF (bin2 (bin2 (getV 4) (kI 0) gIx) (kS "hours") gEq) [.val H,.val (.int hour),.val (.str x),.val bk,.val (Room.hand t).pv,a,b,c]=.ok false:=by simp [n3]
   cases e
   simp only [t,R.ok_bind,Bool.false_eq_true,if_false]
   exact ⟨_,_,_,_,rfl⟩
  | fin t =>
   have n3:gIx (Room.fin t).pv (.int 0)=some (.str "end"):=rfl
   have t:truF (bin2 (bin2 (getV 4) (kI 0) gIx) (kS "hours") gEq) [.val H,.val (.int hour),.val (.str x),.val bk,.val (Room.fin t).pv,a,b,c]=.ok false:=by simp [n3]
   cases e
   simp only [t,R.ok_bind,Bool.false_eq_true,if_false]
   exact ⟨_,_,_,_,rfl⟩
theorem lcome (H:PV) (rs:FA.Rooms) (hR:gIx H (.str "rooms")=some (zaj rs)) (hour:Int) (n:Nat) (x y b:Str) (r:Room) (hn:n<=300) (e:comeGo rs hour n x=some y) (hr:FA.lookR rs x=some r):za5 [H,.int hour,.str x,.str b]=some (sT y b 0 0 []):=by
 refine zam rfl ?_
 have n2:=FA.ix_rooms rs x
 rw [hr] at n2
 have n2:gIx (zaj rs) (.str x)=some r.pv:=n2
 obtain ⟨r',a,b',c,k⟩:=zm4 H rs hR hour (.str b) n 300 x y r .no .no .no hn e hr
 have em:=zd3
 have u:sT y b 0 0 []=.tup [.str y,.str b,.int 0,.int 0,.str ""]:=by unfold sT;rw [← em]
 rw [u]
 simp [zi2,PU.start,hR,n2,k]
def beg (ls:WO.Lts) (wt:List (W × Str)) (w:W):W:=own ((wt.map (·.1)).map (cdH ls)) (cdH ls w)
def TY (ls:WO.Lts):Room->W->Prop
 | .menu ..,t=>t=[]
 | .names _ ws _ _,t=>∀ wt:List (W × Str),ws=wt.map mw2->(t=[]\/∃ p∈wt,t <+: beg ls wt p.1/\t≠beg ls wt p.1)
 | _,_=>True
theorem zn4 (ls:WO.Lts) (r:Room):TY ls r []:=by
 cases r with
 | menu=>exact rfl
 | names=>exact fun _ _=>.inl rfl
 | _=>exact trivial
structure OK (h:House) (ls:WO.Lts) (nms:List Str) (r b:Str) (room:Room) (t:W):Prop where
 lk:FA.lookR h.rooms r=some room
 nh:∀ sp l,room≠.hours sp l
 rn:r∈nms
 bn:b=""\/b∈nms
 tl:t.length<=50
 ty:TY ls room t
section
variable {h : House} {ls : WO.Lts} {nms ord : List Str} (hg : HG h ls nms ord) (hour : Int)
include hg
theorem hRo:gIx h.pv (.str "rooms")=some (zaj h.rooms):=by simp [House.pv]
theorem cm (x:Str) (hx:x∈nms):∃ y room,comeGo h.rooms hour 20 x=some y/\∀ b:Str,(b=""\/b∈nms)->OK h ls nms y b room []:=by
 obtain ⟨k,hk,ek⟩:=List.getElem_of_mem (hg.nm x hx)
 obtain ⟨y,r,ey,hr,hy,hh⟩:=zsp nms ord h.rooms hg.nd hg.g hg.all hour 20 k hk (by have:=hg.ol;omega)
 rw [ek] at ey
 exact ⟨y,r,ey,fun b hb=>⟨hr,hh,hg.mn y hy,hb,by simp,zn4 ls r⟩⟩
theorem arr (x:Str) (hx:x∈nms) (b:Str) (hb:b=""\/b∈nms):∃ y room,OK h ls nms y b room []/\zcb [h.pv,.int hour,.str x,.str b]=some (sT y b 0 0 [])/\za5 [h.pv,.int hour,.str x,.str b]=some (sT y b 0 0 []):=by
 obtain ⟨y,room,e,ok⟩:=cm hg hour x hx
 obtain ⟨r0,hr0⟩:=FA.look_some h.rooms x (hg.all x (hg.nm x hx))
 refine ⟨y,room,ok b hb,?_,lcome h.pv h.rooms (hRo hg) hour 20 x y b r0 (by omega) e hr0⟩
 have k:=zxq h.pv h.rooms (hRo hg) hour 20 x y (by omega) e
 refine zam rfl ?_
 have em:=zd3
 have u:sT y b 0 0 []=.tup [.str y,.str b,.int 0,.int 0,.str ""]:=by unfold sT;rw [← em]
 rw [u]
 simp [zkc,PU.start,k]
theorem wrong (r b:Str) (w v:Int) (t:W) (room:Room) (ok:OK h ls nms r b room t) (m:Int) (x:Str) (h3:gIx room.pv (.int 3)=some (.tup [.int m,.str x])) (hx:x∈nms) :
  ∃ r' b' w' v' room',OK h ls nms r' b' room' []/\zbx [h.pv,.int hour,sT r b w v t]=some (sT r' b' w' v' [])/\zbw [h.pv,.int hour,sT r b w v t,.int 0]=some (sT r' b' w' v' []):=by
 have n2:=FA.ix_rooms h.rooms r
 rw [ok.lk] at n2
 have n2:gIx (zaj h.rooms) (.str r)=some room.pv:=n2
 have hR:=hRo hg
 have em:=zd3
 have u:∀ r b w v,sT r b w v []=.tup [.str r,.str b,.int w,.int v,.str ""]:=fun r b w v=>by unfold sT;rw [← em]
 by_cases hw:w + 1=m
 ·obtain ⟨y,room',ok',e1,e2⟩:=arr hg hour x hx r (.inr ok.rn)
  refine ⟨y,r,0,0,room',ok',zam rfl ?_,zam rfl ?_⟩
  ·unfold sT at e1 ⊢
   generalize mkS t=T at *
   generalize room.pv=RP at *
   generalize zaj h.rooms=RM at *
   generalize h.pv=H at *
   simp [zd1,PU.start,hR,n2,h3,hw,e1]
  ·unfold sT at e2 ⊢
   generalize mkS t=T at *
   generalize room.pv=RP at *
   generalize zaj h.rooms=RM at *
   generalize h.pv=H at *
   simp [zdv,PU.start,znm,hR,n2,h3,hw,e2]
 ·refine ⟨r,b,w + 1,v,room,⟨ok.lk,ok.nh,ok.rn,ok.bn,by simp,zn4 ls room⟩,zam rfl ?_,zam rfl ?_⟩
  ·rw [u]
   unfold sT
   generalize mkS t=T at *
   generalize room.pv=RP at *
   generalize zaj h.rooms=RM at *
   generalize h.pv=H at *
   simp [zd1,PU.start,hR,n2,h3,hw]
  ·rw [u]
   unfold sT
   generalize mkS t=T at *
   generalize room.pv=RP at *
   generalize zaj h.rooms=RM at *
   generalize h.pv=H at *
   simp [zdv,PU.start,znm,hR,n2,h3,hw]
theorem wait (r b:Str) (w v:Int) (t:W) (room:Room) (ok:OK h ls nms r b room t) (m:Int) (x:Str) (h3:gIx room.pv (.int 4)=some (.tup [.int m,.str x])) (hx:x∈nms) :
  ∃ r' b' w' v' room',OK h ls nms r' b' room' []/\zif [h.pv,.int hour,sT r b w v t]=some (sT r' b' w' v' [])/\zbw [h.pv,.int hour,sT r b w v t,.int 1]=some (sT r' b' w' v' []):=by
 have n2:=FA.ix_rooms h.rooms r
 rw [ok.lk] at n2
 have n2:gIx (zaj h.rooms) (.str r)=some room.pv:=n2
 have hR:=hRo hg
 have em:=zd3
 have u:∀ r b w v,sT r b w v []=.tup [.str r,.str b,.int w,.int v,.str ""]:=fun r b w v=>by unfold sT;rw [← em]
 by_cases hw:v + 1=m
 ·obtain ⟨y,room',ok',e1,e2⟩:=arr hg hour x hx r (.inr ok.rn)
  refine ⟨y,r,0,0,room',ok',zam rfl ?_,zam rfl ?_⟩
  ·unfold sT at e1 ⊢
   generalize mkS t=T at *
   generalize room.pv=RP at *
   generalize zaj h.rooms=RM at *
   generalize h.pv=H at *
   simp [zia,PU.start,hR,n2,h3,hw,e1]
  ·unfold sT at e2 ⊢
   generalize mkS t=T at *
   generalize room.pv=RP at *
   generalize zaj h.rooms=RM at *
   generalize h.pv=H at *
   simp [zdv,PU.start,znm,hR,n2,h3,hw,e2]
 ·refine ⟨r,b,w,v + 1,room,⟨ok.lk,ok.nh,ok.rn,ok.bn,by simp,zn4 ls room⟩,zam rfl ?_,zam rfl ?_⟩
  ·rw [u]
   unfold sT
   generalize mkS t=T at *
   generalize room.pv=RP at *
   generalize zaj h.rooms=RM at *
   generalize h.pv=H at *
   simp [zia,PU.start,hR,n2,h3,hw]
  ·rw [u]
   unfold sT
   generalize mkS t=T at *
   generalize room.pv=RP at *
   generalize zaj h.rooms=RM at *
   generalize h.pv=H at *
   simp [zdv,PU.start,znm,hR,n2,h3,hw]
end
theorem zys (a b:Nat):gEq (WO.sg a) (WO.sg b)=some (.bl (decide (a=b))):=by
 unfold WO.sg
 rw [zn2]
 congr 2
 exact decide_eq_decide.mpr ⟨fun e=>by injection e with e;injection e with e;injection e,fun e=>by rw [e]⟩
theorem w_sg:PV.str "w"=WO.sg 119:=by kernel_rfl
theorem sg_w (c:Nat):gEq (WO.sg c) (.str "w")=some (.bl (decide (c=119))):=by rw [w_sg,zys]
theorem zlw (k:Str):gIn (.str k) (.lst [.str "hand",.str "end"])=some (.bl (decide (k∈[Str.ofString "hand",Str.ofString "end"]))):=zrs k ["hand","end"]
section
variable {h : House} {ls : WO.Lts} {nms ord : List Str} (hg : HG h ls nms ord) (hour : Int)
theorem zvz (r b:Str) (w v:Int) (t:W) (S D X:PV) (h1:za3 [h.pv,.str r]=some D) (h2:zc0 [h.pv,.int hour,D,sT r b w v t,S]=some X):zo1 [h.pv,.int hour,sT r b w v t,S]=some X:=by
 have s0:gIx (sT r b w v t) (.int 0)=some (.str r):=rfl
 generalize sT r b w v t=S at *
 refine zam rfl ?_
 simp [zrv,PU.start,s0,h1,h2]
include hg
theorem zth (r b:Str) (room:Room) (t:W) (ok:OK h ls nms r b room t):RW nms room:=by
 obtain ⟨_,_,_,_,hw⟩:=hg.g.ok _ (znn h.rooms r room ok.lk)
 exact hw
structure Both (h:House) (ls:WO.Lts) (nms:List Str) (hour:Int) (D:PV) (st:PV) (c:Nat) (r' b':Str) (w' v':Int) (t':W) (room':Room):Prop where
 ok:OK h ls nms r' b' room' t'
 fo:zc0 [h.pv,.int hour,D,st,WO.sg c]=some (sT r' b' w' v' t')
 la:zev [h.pv,.int hour,st,WO.sg c]=some (sT r' b' w' v' t')
theorem zpb (r b:Str) (w v:Int) (t:W) (room:Room) (ok:OK h ls nms r b room t) (c:Nat) (k:Str) (h0:gIx room.pv (.int 0)=some (.str k)) (hk:k="hand"\/k="end") (D:PV):Both h ls nms hour D (sT r b w v t) c r b w v t room:=by
 have n2:=FA.ix_rooms h.rooms r
 rw [ok.lk] at n2
 have n2:gIx (zaj h.rooms) (.str r)=some room.pv:=n2
 have hR:=hRo hg
 have s0:gIx (sT r b w v t) (.int 0)=some (.str r):=rfl
 have ki:=zlw k
 refine ⟨ok,zam rfl ?_,zam rfl ?_⟩
 ·generalize sT r b w v t=S at *
  generalize room.pv=RP at *
  generalize zaj h.rooms=RM at *
  generalize h.pv=H at *
  rcases hk with rfl | rfl
  ·simp [zfb,PU.start,s0,hR,n2,h0]
  ·simp [zfb,PU.start,s0,hR,n2,h0]
 ·have hm:k∈[Str.ofString "hand",Str.ofString "end"]:=by rcases hk with rfl | rfl <;> simp
  rw [decide_eq_true hm] at ki
  generalize sT r b w v t=S at *
  generalize room.pv=RP at *
  generalize zaj h.rooms=RM at *
  generalize h.pv=H at *
  simp [zdw,PU.start,s0,hR,n2,h0,ki]
theorem zvn (r b:Str) (w v:Int) (t:W) (room:Room) (ok:OK h ls nms r b room t) (k:Str) (h0:gIx room.pv (.int 0)=some (.str k)) (hk:k="menu"\/k="names") (m:Int) (x:Str) (h4:gIx room.pv (.int 4)=some (.tup [.int m,.str x])) (hx:x∈nms) (D:PV):∃ r' b' w' v' t' room',Both h ls nms hour D (sT r b w v t) 119 r' b' w' v' t' room':=by
 obtain ⟨r',b',w',v',room',ok',e1,e2⟩:=wait hg hour r b w v t room ok m x h4 hx
 have n2:=FA.ix_rooms h.rooms r
 rw [ok.lk] at n2
 have n2:gIx (zaj h.rooms) (.str r)=some room.pv:=n2
 have hR:=hRo hg
 have s0:gIx (sT r b w v t) (.int 0)=some (.str r):=rfl
 have ki:=zlw k
 have q:=sg_w 119
 have cw:c_WAIT=.str "w":=rfl
 refine ⟨r',b',w',v',[],room',ok',zam rfl ?_,zam rfl ?_⟩
 ·generalize sT r b w v t=S at *
  generalize sT r' b' w' v' []=S' at *
  generalize room.pv=RP at *
  generalize zaj h.rooms=RM at *
  generalize h.pv=H at *
  generalize WO.sg 119=G at *
  rcases hk with rfl | rfl
  ·simp [zfb,PU.start,s0,hR,n2,h0,cw,q,e1]
  ·simp [zfb,PU.start,s0,hR,n2,h0,cw,q,e1]
 ·have hm:k ∉ [Str.ofString "hand",Str.ofString "end"]:=by rcases hk with rfl | rfl <;> simp
  rw [decide_eq_false hm] at ki
  generalize sT r b w v t=S at *
  generalize sT r' b' w' v' []=S' at *
  generalize room.pv=RP at *
  generalize zaj h.rooms=RM at *
  generalize h.pv=H at *
  generalize WO.sg 119=G at *
  simp [zdw,PU.start,s0,hR,n2,h0,ki,q,e2]
theorem zkd (r b:Str) (w v:Int) (t:W) (room:Room) (ok:OK h ls nms r b room t) (k:Str) (h0:gIx room.pv (.int 0)=some (.str k)) (hk:k="menu"\/k="names") (D X:PV) (c:Nat) (hc:c≠119) (e:zeg [h.pv,.int hour,D,sT r b w v t,WO.sg c]=some X):zc0 [h.pv,.int hour,D,sT r b w v t,WO.sg c]=some X:=by
 have n2:=FA.ix_rooms h.rooms r
 rw [ok.lk] at n2
 have n2:gIx (zaj h.rooms) (.str r)=some room.pv:=n2
 have hR:=hRo hg
 have s0:gIx (sT r b w v t) (.int 0)=some (.str r):=rfl
 have q:=sg_w c
 rw [decide_eq_false hc] at q
 have cw:c_WAIT=.str "w":=rfl
 generalize sT r b w v t=S at *
 generalize room.pv=RP at *
 generalize zaj h.rooms=RM at *
 generalize h.pv=H at *
 generalize WO.sg c=G at *
 refine zam rfl ?_
 rcases hk with rfl | rfl
 ·simp [zfb,PU.start,s0,hR,n2,h0,cw,q,e]
 ·simp [zfb,PU.start,s0,hR,n2,h0,cw,q,e]
end
section
variable {h : House} {ls : WO.Lts} {nms ord : List Str} (hg : HG h ls nms ord) (hour : Int)
theorem zvc (r b:Str) (w v:Int) (t:W) (c:Nat) (ht:t.length<=100) (ks:List Key) (ps:List PV) (F:W->Option PV) (T:Tells ks ps F) (hF:F (t++[c])=none) (X:PV) (e:zbx [h.pv,.int hour,sT r b w v t]=some X):zeg [h.pv,.int hour,.dct ks ps,sT r b w v t,WO.sg c]=some X:=by
 have ad:gAdd (.str (mkS t)) (WO.sg c)=some (.str (mkS (t++[c]))):=zeo t c (by omega)
 have ni:=T.notIn (t++[c])
 rw [hF] at ni
 have ni:zhg (.str (mkS (t++[c]))) (.dct ks ps)=some (.bl true):=ni
 have s4:gIx (sT r b w v t) (.int 4)=some (.str (mkS t)):=rfl
 generalize sT r b w v t=S at *
 generalize PV.dct ks ps=D at *
 generalize WO.sg c=G at *
 generalize mkS (t++[c])=TT at *
 generalize h.pv=H at *
 refine zam rfl ?_
 simp [zgc,PU.start,s4,ad,ni,e]
theorem zw2 (r b:Str) (w v:Int) (t:W) (c:Nat) (ht:t.length<=100) (ks:List Key) (ps:List PV) (F:W->Option PV) (T:Tells ks ps F) (hF:F (t++[c])=some .non):zeg [h.pv,.int hour,.dct ks ps,sT r b w v t,WO.sg c]=some (sT r b w v (t++[c])):=by
 have ad:gAdd (.str (mkS t)) (WO.sg c)=some (.str (mkS (t++[c]))):=zeo t c (by omega)
 have ni:=T.notIn (t++[c])
 have ix:=T.ix (t++[c])
 rw [hF] at ni ix
 have ni:zhg (.str (mkS (t++[c]))) (.dct ks ps)=some (.bl false):=ni
 have s0:gIx (sT r b w v t) (.int 0)=some (.str r):=rfl
 have s1:gIx (sT r b w v t) (.int 1)=some (.str b):=rfl
 have s2:gIx (sT r b w v t) (.int 2)=some (.int w):=rfl
 have s3:gIx (sT r b w v t) (.int 3)=some (.int v):=rfl
 have s4:gIx (sT r b w v t) (.int 4)=some (.str (mkS t)):=rfl
 have q:gEq .non (.str "back")=some (.bl false):=rfl
 have n:gIsN .non .non=some (.bl true):=rfl
 generalize sT r b w v t=S at *
 generalize PV.dct ks ps=D at *
 generalize WO.sg c=G at *
 unfold sT
 generalize mkS (t++[c])=TT at *
 generalize h.pv=H at *
 refine zam rfl ?_
 simp [zgc,PU.start,s0,s1,s2,s3,s4,ad,ni,ix,q,n]
theorem zvd (r b:Str) (w v:Int) (t:W) (c:Nat) (ht:t.length<=100) (ks:List Key) (ps:List PV) (F:W->Option PV) (T:Tells ks ps F) (x:Str) (hF:F (t++[c])=some (.str x)) (h1:x≠"back") (h2:x≠"") (X:PV) (e:zcb [h.pv,.int hour,.str x,.str r]=some X):zeg [h.pv,.int hour,.dct ks ps,sT r b w v t,WO.sg c]=some X:=by
 have ad:gAdd (.str (mkS t)) (WO.sg c)=some (.str (mkS (t++[c]))):=zeo t c (by omega)
 have ni:=T.notIn (t++[c])
 have ix:=T.ix (t++[c])
 rw [hF] at ni ix
 have ni:zhg (.str (mkS (t++[c]))) (.dct ks ps)=some (.bl false):=ni
 have s0:gIx (sT r b w v t) (.int 0)=some (.str r):=rfl
 have s1:gIx (sT r b w v t) (.int 1)=some (.str b):=rfl
 have s4:gIx (sT r b w v t) (.int 4)=some (.str (mkS t)):=rfl
 have n:gIsN (.str x) .non=some (.bl false):=rfl
 generalize sT r b w v t=S at *
 generalize PV.dct ks ps=D at *
 generalize WO.sg c=G at *
 generalize mkS (t++[c])=TT at *
 generalize h.pv=H at *
 refine zam rfl ?_
 simp [zgc,PU.start,s0,s1,s4,ad,ni,ix,h1,h2,n,e]
theorem zt6 (r b:Str) (w v:Int) (t:W) (c:Nat) (ht:t.length<=100) (ks:List Key) (ps:List PV) (F:W->Option PV) (T:Tells ks ps F) (hF:F (t++[c])=some (.str "back")) (h2:b≠"") (X:PV) (e:zcb [h.pv,.int hour,.str b,.str r]=some X):zeg [h.pv,.int hour,.dct ks ps,sT r b w v t,WO.sg c]=some X:=by
 have ad:gAdd (.str (mkS t)) (WO.sg c)=some (.str (mkS (t++[c]))):=zeo t c (by omega)
 have ni:=T.notIn (t++[c])
 have ix:=T.ix (t++[c])
 rw [hF] at ni ix
 have ni:zhg (.str (mkS (t++[c]))) (.dct ks ps)=some (.bl false):=ni
 have s0:gIx (sT r b w v t) (.int 0)=some (.str r):=rfl
 have s1:gIx (sT r b w v t) (.int 1)=some (.str b):=rfl
 have s4:gIx (sT r b w v t) (.int 4)=some (.str (mkS t)):=rfl
 have n:gIsN (.str b) .non=some (.bl false):=rfl
 generalize sT r b w v t=S at *
 generalize PV.dct ks ps=D at *
 generalize WO.sg c=G at *
 generalize mkS (t++[c])=TT at *
 generalize h.pv=H at *
 refine zam rfl ?_
 simp [zgc,PU.start,s0,s1,s4,ad,ni,ix,h2,n,e]
theorem zno (r:Str) (w v:Int) (t:W) (c:Nat) (ht:t.length<=100) (ks:List Key) (ps:List PV) (F:W->Option PV) (T:Tells ks ps F) (hF:F (t++[c])=some (.str "back")) (X:PV) (e:zbx [h.pv,.int hour,sT r "" w v t]=some X):zeg [h.pv,.int hour,.dct ks ps,sT r "" w v t,WO.sg c]=some X:=by
 have ad:gAdd (.str (mkS t)) (WO.sg c)=some (.str (mkS (t++[c]))):=zeo t c (by omega)
 have ni:=T.notIn (t++[c])
 have ix:=T.ix (t++[c])
 rw [hF] at ni ix
 have ni:zhg (.str (mkS (t++[c]))) (.dct ks ps)=some (.bl false):=ni
 have s0:gIx (sT r "" w v t) (.int 0)=some (.str r):=rfl
 have s1:gIx (sT r "" w v t) (.int 1)=some (.str ""):=rfl
 have s4:gIx (sT r "" w v t) (.int 4)=some (.str (mkS t)):=rfl
 have n:gIsN (.str "") .non=some (.bl false):=rfl
 generalize sT r "" w v t=S at *
 generalize PV.dct ks ps=D at *
 generalize WO.sg c=G at *
 generalize mkS (t++[c])=TT at *
 generalize h.pv=H at *
 refine zam rfl ?_
 simp [zgc,PU.start,s0,s1,s4,ad,ni,ix,n,e]
def kw (kt:List (Nat × Str)):List (W × Str):=kt.map fun p=>([p.1],p.2)
def kF (kt:List (Nat × Str)) (p:W):Option PV:=((kw kt).find? fun q=>decide (q.1=p)).map fun q=>.str q.2
theorem zkt:∀ (wt:List (W × Str)),Tells (wt.map fun p=>.inr (mkS p.1)) (wt.map fun p=>.str p.2) fun p=>(wt.find? fun q=>decide (q.1=p)).map fun q=>.str q.2
 | []=>⟨rfl,fun p=>rfl⟩
 | q::wt=>⟨by simp,fun p=>by
   rw [List.map_cons,List.map_cons,zi7]
   by_cases h:q.1=p
   ·rw [if_pos (by rw [h]),List.find?_cons_of_pos (by simpa using h)]
    rfl
   ·rw [if_neg fun z=>h (mkS_inj (Sum.inr.inj z)),List.find?_cons_of_neg (by simpa using h)]
    exact (zkt wt).at_ p⟩
theorem zw0 (kt:List (Nat × Str)) (c:Nat):kF kt [c]=(kt.find? fun q=>decide (q.1=c)).map fun q=>.str q.2:=by
 unfold kF kw
 rw [List.find?_map,Option.map_map]
 have:((fun q:W × Str=>decide (q.1=[c])) ∘ fun p:Nat × Str=>([p.1],p.2))=fun q:Nat × Str=>decide (q.1=c):=by
  funext q
  simp
 rw [this]
 rfl
include hg in
theorem zmr (r b:Str) (room:Room) (tt:W) (ok:OK h ls nms r b room tt) (t:Str) (kt:List (Nat × Str)) (wr wa:Int × Str) (hr:room=.menu t (kt.map mk2) wr wa) (hs:List.Sublist (kt.map (·.1)) K12):za3 [h.pv,.str r]=some (wtD (kw kt)):=by
 have n2:=FA.ix_rooms h.rooms r
 rw [ok.lk,hr] at n2
 have n2:gIx (zaj h.rooms) (.str r)=some (.tup [.str "menu",.str t,.tup ((kt.map mk2).map pv2),.tup [.int wr.1,.str wr.2],.tup [.int wa.1,.str wa.2]]):=n2
 have hR:=hRo hg
 have e:PV.tup ((kt.map mk2).map pv2)=wtPv (kw kt):=by
  rw [zop]
  unfold wtPv kw
  rw [List.map_map]
  rfl
 have kl:kt.length<=12:=by
  have h1:=hs.length_le
  have h2:K12.length=12:=rfl
  rw [List.length_map] at h1
  omega
 have d:=zsg (kw kt) (by simp [kw];omega) (by
  unfold kw
  rw [List.map_map]
  have nd:=hs.nodup zvf
  have:(List.map ((fun x:W × Str=>x.1) ∘ fun p:Nat × Str=>([p.1],p.2)) kt)=(kt.map (·.1)).map (fun c=>[c]):=by rw [List.map_map];rfl
  rw [this]
  have inj:∀ l:List Nat,l.Nodup->(l.map fun c=>[c]).Nodup:=by
   intro l
   induction l with
   | nil=>intro _;simp
   | cons a l ih =>
    intro h1
    rw [List.nodup_cons] at h1
    rw [List.map_cons,List.nodup_cons]
    refine ⟨fun z=>?_,ih h1.2⟩
    obtain ⟨b,hb,e⟩:=List.mem_map.mp z
    have:b=a:=by simpa using e
    subst this
    exact h1.1 hb
  exact inj _ nd)
 rw [e] at n2
 generalize wtPv (kw kt)=KP at *
 generalize wtD (kw kt)=KD at *
 generalize zaj h.rooms=RM at *
 generalize h.pv=H at *
 refine zam rfl ?_
 simp [zdu,PU.start,hR,n2,d]
end
def goes (b:Str) (c:Nat) (q:Nat × Str):Bool:=decide (q.1=c) && (!decide (q.2=Str.ofString "back") || !decide (b=Str.ofString ""))
def zqk (b:Str) (q:Nat × Str):Str:=if q.2=Str.ofString "back" then b else q.2
theorem lm_go (H S R0:PV) (hour:Int) (r b:Str) (c:Nat) (s0:gIx S (.int 0)=some (.str r)) (s1:gIx S (.int 1)=some (.str b)) (X:PV):∀ (kt:List (Nat × Str)) (a d:Sl),
  (∀ q,kt.find? (goes b c)=some q->za5 [H,.int hour,.str (zqk b q),.str r]=some X) →
  ((∃ q,kt.find? (goes b c)=some q)->forF (tupT 2 (zau (zao 5) (zau (zao 6) nilT))) zbf (kt.map pvk) [.val H,.val (.int hour),.val S,.val (WO.sg c),.val R0,a,d]=.ok (.ret X)) ∧
  (kt.find? (goes b c)=none->∃ a' d',forF (tupT 2 (zau (zao 5) (zau (zao 6) nilT))) zbf (kt.map pvk) [.val H,.val (.int hour),.val S,.val (WO.sg c),.val R0,a,d]=.ok (.next [.val H,.val (.int hour),.val S,.val (WO.sg c),.val R0,a',d']))
 | [],a,d,_=>⟨fun ⟨q,e⟩=>(by cases e),fun _=>⟨a,d,rfl⟩⟩
 | p::kt,a,d,hX=>by
  have e:=zys p.1 c
  have tg:tupT 2 (zau (zao 5) (zau (zao 6) nilT)) (pvk p) [.val H,.val (.int hour),.val S,.val (WO.sg c),.val R0,a,d]=some [.val H,.val (.int hour),.val S,.val (WO.sg c),.val R0,.val (WO.sg p.1),.val (.str p.2)]:=rfl
  have nb:gNe (.str b) (.str "")=some (.bl (!decide (b=Str.ofString ""))):=zld _ _
  have nt:gNe (.str p.2) (.str "back")=some (.bl (!decide (p.2=Str.ofString "back"))):=zld _ _
  cases hp:goes b c p with
  | true =>
   have hf:(p::kt).find? (goes b c)=some p:=List.find?_cons_of_pos hp
   have hx:=hX p hf
   refine ⟨fun _=>?_,fun z=>by rw [hf] at z;cases z⟩
   rw [List.map_cons]
   unfold forF
   rw [tg]
   simp only [R.ofO_some,R.ok_bind]
   have hb:zbf [.val H,.val (.int hour),.val S,.val (WO.sg c),.val R0,.val (WO.sg p.1),.val (.str p.2)]=.ok (.ret X):=by
    unfold goes at hp
    rw [Bool.and_eq_true] at hp
    rw [hp.1] at e
    unfold zqk at hx
    by_cases ht:p.2=Str.ofString "back"
    ·rw [if_pos ht] at hx
     have hb:¬ b=Str.ofString "":=by
      intro z
      have:=hp.2
      rw [decide_eq_true ht,decide_eq_true z] at this
      cases this
     rw [decide_eq_true ht] at nt
     rw [decide_eq_false hb] at nb
     generalize WO.sg c=G at *
     generalize WO.sg p.1=G1 at *
     simp [zbf,e,nt,nb,s0,s1,hx]
    ·rw [if_neg ht] at hx
     rw [decide_eq_false ht] at nt
     generalize WO.sg c=G at *
     generalize WO.sg p.1=G1 at *
     simp [zbf,e,nt,s0,hx]
   rw [hb]
   rfl
  | false =>
   have hf:(p::kt).find? (goes b c)=kt.find? (goes b c):=List.find?_cons_of_neg (by rw [hp];decide)
   rw [hf] at hX
   obtain ⟨g1,g2⟩:=lm_go H S R0 hour r b c s0 s1 X kt (.val (WO.sg p.1)) (.val (.str p.2)) hX
   have hb:zbf [.val H,.val (.int hour),.val S,.val (WO.sg c),.val R0,.val (WO.sg p.1),.val (.str p.2)]=.ok (.next [.val H,.val (.int hour),.val S,.val (WO.sg c),.val R0,.val (WO.sg p.1),.val (.str p.2)]):=by
    unfold goes at hp
    by_cases hc:p.1=c
    ·rw [decide_eq_true hc] at e hp
     rw [Bool.true_and] at hp
     have h2:=Bool.or_eq_false_iff.mp hp
     rw [h2.1] at nt
     rw [h2.2] at nb
     generalize WO.sg c=G at *
     generalize WO.sg p.1=G1 at *
     simp [zbf,e,nt,nb,s1]
    ·rw [decide_eq_false hc] at e
     generalize WO.sg c=G at *
     generalize WO.sg p.1=G1 at *
     simp [zbf,e]
   have ef:forF (tupT 2 (zau (zao 5) (zau (zao 6) nilT))) zbf ((p::kt).map pvk) [.val H,.val (.int hour),.val S,.val (WO.sg c),.val R0,a,d]=forF (tupT 2 (zau (zao 5) (zau (zao 6) nilT))) zbf (kt.map pvk) [.val H,.val (.int hour),.val S,.val (WO.sg c),.val R0,.val (WO.sg p.1),.val (.str p.2)]:=by
    rw [List.map_cons]
    conv=>lhs;unfold forF
    rw [tg]
    simp only [R.ofO_some,R.ok_bind,hb]
   rw [ef,hf]
   exact ⟨g1,g2⟩
section
variable {h : House} {ls : WO.Lts} {nms ord : List Str} (hg : HG h ls nms ord) (hour : Int)
include hg
theorem lmenu (r b:Str) (w v:Int) (room:Room) (ok:OK h ls nms r b room []) (t:Str) (kt:List (Nat × Str)) (wr wa:Int × Str) (hr:room=.menu t (kt.map mk2) wr wa) (c:Nat) (hc:c≠119) (X:PV)
  (h1:∀ q,kt.find? (goes b c)=some q->za5 [h.pv,.int hour,.str (zqk b q),.str r]=some X)
  (h2:kt.find? (goes b c)=none->zbw [h.pv,.int hour,sT r b w v [],.int 0]=some X):zev [h.pv,.int hour,sT r b w v [],WO.sg c]=some X:=by
 have n2:=FA.ix_rooms h.rooms r
 rw [ok.lk,hr] at n2
 have n2:gIx (zaj h.rooms) (.str r)=some (.tup [.str "menu",.str t,.tup ((kt.map mk2).map pv2),.tup [.int wr.1,.str wr.2],.tup [.int wa.1,.str wa.2]]):=n2
 rw [zop] at n2
 have hR:=hRo hg
 have s0:gIx (sT r b w v []) (.int 0)=some (.str r):=rfl
 have s1:gIx (sT r b w v []) (.int 1)=some (.str b):=rfl
 have q:=sg_w c
 rw [decide_eq_false hc] at q
 have ki:=zlw "menu"
 have hm:Str.ofString "menu" ∉ [Str.ofString "hand",Str.ofString "end"]:=by simp
 rw [decide_eq_false hm] at ki
 have ei:zfi (.tup (kt.map pvk))=some (kt.map pvk):=rfl
 obtain ⟨R0,hR0⟩:∃ R0:PV,R0=.tup [.str "menu",.str t,.tup (kt.map pvk),.tup [.int wr.1,.str wr.2],.tup [.int wa.1,.str wa.2]]:=⟨_,rfl⟩
 have r0:gIx R0 (.int 0)=some (.str "menu"):=by rw [hR0];rfl
 have r2:gIx R0 (.int 2)=some (.tup (kt.map pvk)):=by rw [hR0];rfl
 rw [← hR0] at n2
 obtain ⟨g1,g2⟩:=lm_go h.pv (sT r b w v []) R0 hour r b c s0 s1 X kt .no .no h1
 refine zam rfl ?_
 cases hf:kt.find? (goes b c) with
 | some p =>
  have g1:=g1 ⟨p,hf⟩
  generalize sT r b w v []=S at *
  generalize zaj h.rooms=RM at *
  generalize h.pv=H at *
  generalize WO.sg c=G at *
  generalize kt.map pvk=KP at *
  simp [zdw,PU.start,s0,hR,n2,r0,ki,q,r2,ei,g1]
 | none =>
  obtain ⟨a',d',g2⟩:=g2 hf
  have h2:=h2 hf
  generalize sT r b w v []=S at *
  generalize zaj h.rooms=RM at *
  generalize h.pv=H at *
  generalize WO.sg c=G at *
  generalize kt.map pvk=KP at *
  simp [zdw,PU.start,s0,hR,n2,r0,ki,q,r2,ei,g2,h2]
theorem zsu (r b:Str) (w v:Int) (room:Room) (tt:W) (ok:OK h ls nms r b room tt) (t:Str) (ks:List (Str × Str)) (wr wa:Int × Str) (hr:room=.menu t ks wr wa) (c:Nat) (hc:c≠119):∃ D r' b' w' v' t' room',za3 [h.pv,.str r]=some D/\Both h ls nms hour D (sT r b w v tt) c r' b' w' v' t' room':=by
 have hw:=zth hg r b room tt ok
 rw [hr] at hw
 obtain ⟨⟨kt,rfl,hs,ht⟩,hwr,hwa⟩:=hw
 have tt0:tt=[]:=by have:=ok.ty;rw [hr] at this;exact this
 subst tt0
 have ew:=zmr hg r b room [] ok t kt wr wa hr hs
 have TL:=zkt (kw kt)
 have TLf:∀ c,((kw kt).find? fun q=>decide (q.1=[c])).map (fun q=>PV.str q.2)=(kt.find? fun q=>decide (q.1=c)).map fun q=>.str q.2:=zw0 kt
 have h0:gIx room.pv (.int 0)=some (.str "menu"):=by rw [hr];rfl
 have h3:gIx room.pv (.int 3)=some (.tup [.int wr.1,.str wr.2]):=by rw [hr];rfl
 obtain ⟨r1,b1,w1,v1,room1,ok1,e1,e2⟩:=wrong hg hour r b w v [] room ok wr.1 wr.2 h3 hwr
 have inj:∀ p q:Nat × Str,p∈kt->q∈kt->p.1=q.1->p=q:=fun p q hp hq e=>zh8 (fun x:Nat × Str=>x.1) kt (hs.nodup zvf) p hp q hq e
 cases hf:kt.find? fun q=>decide (q.1=c) with
 | none =>
  refine ⟨_,r1,b1,w1,v1,[],room1,ew,ok1,zkd hg hour r b w v [] room ok "menu" h0 (.inl rfl) _ _ c hc ?_,?_⟩
  ·exact zvc hour r b w v [] c (by simp) _ _ _ TL (by show ((kw kt).find? fun q=>decide (q.1=[c])).map (fun q=>PV.str q.2)=none;rw [TLf,hf];rfl) _ e1
  ·refine lmenu hg hour r b w v room ok t kt wr wa hr c hc _ (fun q hq=>?_) (fun _=>e2)
   exfalso
   have m:=List.mem_of_find?_eq_some hq
   have g:=List.find?_some hq
   unfold goes at g
   rw [Bool.and_eq_true] at g
   have:=List.find?_eq_none.mp hf q m
   exact this g.1
 | some p =>
  have pm:=List.mem_of_find?_eq_some hf
  have pc:p.1=c:=by have:=List.find?_some hf;simpa using this
  have hF:((kw kt).find? fun q=>decide (q.1=[]++[c])).map (fun q=>PV.str q.2)=some (.str p.2):=by
   show ((kw kt).find? fun q=>decide (q.1=[c])).map (fun q=>PV.str q.2)=_
   rw [TLf,hf]
   rfl
  have only:∀ q,kt.find? (goes b c)=some q->q=p:=fun q hq=>by
   have m:=List.mem_of_find?_eq_some hq
   have g:=List.find?_some hq
   unfold goes at g
   rw [Bool.and_eq_true] at g
   exact inj q p m pm (by rw [of_decide_eq_true g.1,pc])
  by_cases hb:p.2=Str.ofString "back"
  ·by_cases hbb:b=Str.ofString ""
   ·subst hbb
    rw [hb] at hF
    refine ⟨_,r1,b1,w1,v1,[],room1,ew,ok1,zkd hg hour r "" w v [] room ok "menu" h0 (.inl rfl) _ _ c hc ?_,?_⟩
    ·exact zno hour r w v [] c (by simp) _ _ _ TL hF _ e1
    ·refine lmenu hg hour r "" w v room ok t kt wr wa hr c hc _ (fun q hq=>?_) (fun _=>e2)
     exfalso
     have:=only q hq
     subst this
     have g:=List.find?_some hq
     unfold goes at g
     rw [decide_eq_true hb] at g
     simp at g
   ·have hbn:b∈nms:=ok.bn.resolve_left hbb
    obtain ⟨y,room2,ok2,a1,a2⟩:=arr hg hour b hbn r (.inr ok.rn)
    rw [hb] at hF
    refine ⟨_,y,r,0,0,[],room2,ew,ok2,zkd hg hour r b w v [] room ok "menu" h0 (.inl rfl) _ _ c hc ?_,?_⟩
    ·exact zt6 hour r b w v [] c (by simp) _ _ _ TL hF hbb _ a1
    ·refine lmenu hg hour r b w v room ok t kt wr wa hr c hc _ (fun q hq=>?_) (fun z=>?_)
     ·have:=only q hq
      subst this
      unfold zqk
      rw [if_pos hb]
      exact a2
     ·exfalso
      have:=List.find?_eq_none.mp z p pm
      apply this
      unfold goes
      rw [decide_eq_true pc,decide_eq_false hbb]
      simp
  ·have hpn:p.2∈nms:=(ht p pm).resolve_left hb
   obtain ⟨y,room2,ok2,a1,a2⟩:=arr hg hour p.2 hpn r (.inr ok.rn)
   refine ⟨_,y,r,0,0,[],room2,ew,ok2,zkd hg hour r b w v [] room ok "menu" h0 (.inl rfl) _ _ c hc ?_,?_⟩
   ·exact zvd hour r b w v [] c (by simp) _ _ _ TL p.2 hF hb (hg.nb p.2 hpn).2 _ a1
   ·refine lmenu hg hour r b w v room ok t kt wr wa hr c hc _ (fun q hq=>?_) (fun z=>?_)
    ·have:=only q hq
     subst this
     unfold zqk
     rw [if_neg hb]
     exact a2
    ·exfalso
     have:=List.find?_eq_none.mp z p pm
     apply this
     unfold goes
     rw [decide_eq_true pc,decide_eq_false hb]
     simp
end
structure WT (wt:List (W × Str)) (ls:WO.Lts) (nms:List Str):Prop where
 sb:List.Sublist (wt.map (·.1)) W8
 ne:wt≠[]
 tn:∀ p∈wt,p.2∈nms
 sl:Ls ls
section
variable {wt : List (W × Str)} {ls : WO.Lts} {nms : List Str} (k : WT wt ls nms)
include k
theorem WT.w8:∀ p∈wt,p.1∈W8:=fun p hp=>k.sb.subset (List.mem_map.mpr ⟨p,hp,rfl⟩)
theorem WT.nd:(wt.map (·.1)).Nodup:=k.sb.nodup w8_nd
theorem WT.len:wt.length<=8:=by
 have h1:=k.sb.length_le
 have h2:W8.length=8:=rfl
 rw [List.length_map] at h1
 omega
theorem WT.ok:∀ p∈wt,p.1.length<=12/\∀ c∈p.1,(WO.keyL ls c).isSome=true:=fun p hp=>⟨by have:=zqd p.1 (k.w8 p hp);omega,zu9 k.sl p.1 (k.w8 p hp)⟩
theorem WT.nc:(wt.map fun p=>cdH ls p.1).Nodup:=by
 have:=zxl k.sl wt k.w8 k.nd
 rw [List.map_map] at this
 exact this
theorem WT.bs:(∀ x∈bsOf ls wt,x.1≠[])/\∀ x∈bsOf ls wt,∀ y∈bsOf ls wt,x.1 <+: y.1->x=y:=⟨bs_ne,bs_pf (ls_no k.sl) (fun p hp=>(k.ok p hp).2) k.nc⟩
theorem WT.mem {p:W × Str} (hp:p∈wt):(beg ls wt p.1,p.2)∈bsOf ls wt:=List.mem_map.mpr ⟨p,hp,rfl⟩
theorem WT.inv {x:W × Str} (hx:x∈bsOf ls wt):∃ p∈wt,x=(beg ls wt p.1,p.2):=by
 obtain ⟨p,hp,rfl⟩:=List.mem_map.mp hx
 exact ⟨p,hp,rfl⟩
theorem WT.bl {p:W × Str} (hp:p∈wt):1<=(beg ls wt p.1).length/\(beg ls wt p.1).length<=5:=by
 have h1:=List.IsPrefix.length_le (zls ((wt.map (·.1)).map (cdH ls)) (cdH ls p.1))
 have h2:=(zl3 (ls:=ls) (wt:=wt) k.w8 (k.w8 p hp)).1
 have h4:=zq4 ((wt.map (·.1)).map (cdH ls)) (cdH ls p.1) (by simp [cdH])
 refine ⟨?_,by unfold beg;omega⟩
 cases e:beg ls wt p.1 with
 | nil=>exact absurd e h4
 | cons _ _=>simp
theorem WT.pf {p q:W × Str} (hp:p∈wt) (hq:q∈wt) (e:beg ls wt p.1 <+: beg ls wt q.1):beg ls wt p.1=beg ls wt q.1:=by
 have:=k.bs.2 _ (k.mem hp) _ (k.mem hq) e
 exact congrArg Prod.fst this
end
theorem zn6 (b ty:W):b.take ty.length=ty ↔ ty <+: b:=⟨fun e=>by rw [← e];exact List.take_prefix _ _,fun e=>(List.prefix_iff_eq_take.mp e).symm⟩
def fits (ls:WO.Lts) (wt:List (W × Str)) (ty:W) (q:W × Str):Bool:=decide ((beg ls wt q.1).take ty.length=ty)
theorem ln_go (H R0 C:PV) (hour:Int) (r b:Str) (w v:Int) (t ty:W) (G:PV) (ls:WO.Lts) (nms:List Str) (wt:List (W × Str)) (k:WT wt ls nms) (hty:ty.length<=100) (hC:C=cdD ls wt) (X:PV):∀ (l:List (W × Str)),(∀ q∈l,q∈wt)->∀ (a d e:Sl),
  (∀ q,l.find? (fits ls wt ty)=some q->(beg ls wt q.1=ty->za5 [H,.int hour,.str q.2,.str r]=some X)/\(beg ls wt q.1≠ty->X=sT r b w v ty)) →
  ((∃ q,l.find? (fits ls wt ty)=some q)->forF (tupT 2 (zau (zao 7) (zau (zao 8) nilT))) zbd (l.map fun p=>.tup [.str (mkS p.1),.str p.2]) [.val H,.val (.int hour),.val (sT r b w v t),.val G,.val R0,.val C,.val (.str (mkS ty)),a,d,e]=.ok (.ret X)) ∧
  (l.find? (fits ls wt ty)=none->∃ a' d' e',forF (tupT 2 (zau (zao 7) (zau (zao 8) nilT))) zbd (l.map fun p=>.tup [.str (mkS p.1),.str p.2]) [.val H,.val (.int hour),.val (sT r b w v t),.val G,.val R0,.val C,.val (.str (mkS ty)),a,d,e]=.ok (.next [.val H,.val (.int hour),.val (sT r b w v t),.val G,.val R0,.val C,.val (.str (mkS ty)),a',d',e']))
 | [],_,a,d,e,_=>⟨fun ⟨q,e⟩=>(by cases e),fun _=>⟨a,d,e,rfl⟩⟩
 | p::l,hl,a,d,ee,hX=>by
  have hp:=hl p List.mem_cons_self
  have eb:=beginning k.sl wt k.w8 k.nd (by have:=k.len;omega) p.1 (List.mem_map.mpr ⟨p,hp,rfl⟩)
  have eb:zbe [cdD ls wt,.str (mkS p.1)]=some (.str (mkS (beg ls wt p.1))):=eb
  rw [← hC] at eb
  have bl:=k.bl hp
  have q1:=zt3 (beg ls wt p.1) ty
  have q2:=zt3 ((beg ls wt p.1).take ty.length) ty
  have sl:=zqp (beg ls wt p.1) ty.length (by omega)
  have gl:gLen (.str (mkS ty))=some (.int ty.length):=by rw [zgl (by rw [zc4];omega),zc4]
  have s0:gIx (sT r b w v t) (.int 0)=some (.str r):=rfl
  have s4:gSlA (sT r b w v t) none (some 4)=some (.tup [.str r,.str b,.int w,.int v]):=rfl
  have tg:tupT 2 (zau (zao 7) (zau (zao 8) nilT)) (.tup [.str (mkS p.1),.str p.2]) [.val H,.val (.int hour),.val (sT r b w v t),.val G,.val R0,.val C,.val (.str (mkS ty)),a,d,ee]=some [.val H,.val (.int hour),.val (sT r b w v t),.val G,.val R0,.val C,.val (.str (mkS ty)),.val (.str (mkS p.1)),.val (.str p.2),ee]:=rfl
  cases hpf:fits ls wt ty p with
  | true =>
   have hf:(p::l).find? (fits ls wt ty)=some p:=List.find?_cons_of_pos hpf
   obtain ⟨x1,x2⟩:=hX p hf
   refine ⟨fun _=>?_,fun z=>by rw [hf] at z;cases z⟩
   rw [List.map_cons]
   unfold forF
   rw [tg]
   simp only [R.ofO_some,R.ok_bind]
   have hb:zbd [.val H,.val (.int hour),.val (sT r b w v t),.val G,.val R0,.val C,.val (.str (mkS ty)),.val (.str (mkS p.1)),.val (.str p.2),ee]=.ok (.ret X):=by
    unfold fits at hpf
    rw [hpf] at q2
    by_cases ht:beg ls wt p.1=ty
    ·rw [decide_eq_true ht] at q1
     have x1:=x1 ht
     clear x2 hf hX s4
     generalize sT r b w v t=S at *
     generalize mkS (beg ls wt p.1)=BB at *
     generalize mkS ty=TT at *
     simp [zbd,eb,q1,s0,x1]
    ·rw [decide_eq_false ht] at q1
     have x2:=x2 ht
     rw [x2]
     clear x1 x2 hf hX
     generalize hS:sT r b w v t=S at *
     unfold sT
     generalize mkS (beg ls wt p.1)=BB at *
     generalize mkS ty=TT at *
     generalize mkS ((beg ls wt p.1).take ty.length)=BT at *
     simp [zbd,eb,q1,gl,sl,q2,s4]
   rw [hb]
   rfl
  | false =>
   have hf:(p::l).find? (fits ls wt ty)=l.find? (fits ls wt ty):=List.find?_cons_of_neg (by rw [hpf];decide)
   rw [hf] at hX
   have hb:zbd [.val H,.val (.int hour),.val (sT r b w v t),.val G,.val R0,.val C,.val (.str (mkS ty)),.val (.str (mkS p.1)),.val (.str p.2),ee]=.ok (.next [.val H,.val (.int hour),.val (sT r b w v t),.val G,.val R0,.val C,.val (.str (mkS ty)),.val (.str (mkS p.1)),.val (.str p.2),.val (.str (mkS (beg ls wt p.1)))]):=by
    unfold fits at hpf
    rw [hpf] at q2
    have ht:¬ beg ls wt p.1=ty:=fun z=>by
     have:=of_decide_eq_false hpf
     exact this (by rw [z,List.take_length])
    rw [decide_eq_false ht] at q1
    clear hf hX s4
    generalize sT r b w v t=S at *
    generalize mkS (beg ls wt p.1)=BB at *
    generalize mkS ty=TT at *
    generalize mkS ((beg ls wt p.1).take ty.length)=BT at *
    simp [zbd,eb,q1,gl,sl,q2]
   obtain ⟨g1,g2⟩:=ln_go H R0 C hour r b w v t ty G ls nms wt k hty hC X l (fun q hq=>hl q (List.mem_cons_of_mem _ hq)) (.val (.str (mkS p.1))) (.val (.str p.2)) (.val (.str (mkS (beg ls wt p.1)))) hX
   have ef:forF (tupT 2 (zau (zao 7) (zau (zao 8) nilT))) zbd ((p::l).map fun p=>.tup [.str (mkS p.1),.str p.2]) [.val H,.val (.int hour),.val (sT r b w v t),.val G,.val R0,.val C,.val (.str (mkS ty)),a,d,ee]=forF (tupT 2 (zau (zao 7) (zau (zao 8) nilT))) zbd (l.map fun p=>.tup [.str (mkS p.1),.str p.2]) [.val H,.val (.int hour),.val (sT r b w v t),.val G,.val R0,.val C,.val (.str (mkS ty)),.val (.str (mkS p.1)),.val (.str p.2),.val (.str (mkS (beg ls wt p.1)))]:=by
    rw [List.map_cons]
    conv=>lhs;unfold forF
    rw [tg]
    simp only [R.ofO_some,R.ok_bind,hb]
   rw [ef,hf]
   exact ⟨g1,g2⟩
section
variable {h : House} {ls : WO.Lts} {nms ord : List Str} (hg : HG h ls nms ord) (hour : Int)
include hg
theorem zqt (r b:Str) (room:Room) (tt:W) (ok:OK h ls nms r b room tt) (t:Str) (wt:List (W × Str)) (wr wa:Int × Str) (hr:room=.names t (wt.map mw2) wr wa):gIx (zaj h.rooms) (.str r)=some (.tup [.str "names",.str t,wtPv wt,.tup [.int wr.1,.str wr.2],.tup [.int wa.1,.str wa.2]]):=by
 have n2:=FA.ix_rooms h.rooms r
 rw [ok.lk,hr] at n2
 rw [← zu8]
 exact n2
theorem lnames (r b:Str) (w v:Int) (room:Room) (tt:W) (ok:OK h ls nms r b room tt) (t:Str) (wt:List (W × Str)) (wr wa:Int × Str) (hr:room=.names t (wt.map mw2) wr wa) (k:WT wt ls nms) (c:Nat) (hc:c≠119) (X:PV)
  (h1:∀ q,wt.find? (fits ls wt (tt++[c]))=some q->(beg ls wt q.1=tt++[c]->za5 [h.pv,.int hour,.str q.2,.str r]=some X)/\(beg ls wt q.1≠tt++[c]->X=sT r b w v (tt++[c])))
  (h2:wt.find? (fits ls wt (tt++[c]))=none->zbw [h.pv,.int hour,sT r b w v tt,.int 0]=some X):zev [h.pv,.int hour,sT r b w v tt,WO.sg c]=some X:=by
 have n2:=zqt hg r b room tt ok t wt wr wa hr
 have hR:=hRo hg
 have s0:gIx (sT r b w v tt) (.int 0)=some (.str r):=rfl
 have s4:gIx (sT r b w v tt) (.int 4)=some (.str (mkS tt)):=rfl
 have q:=sg_w c
 rw [decide_eq_false hc] at q
 have ki:=zlw "names"
 have hm:Str.ofString "names" ∉ [Str.ofString "hand",Str.ofString "end"]:=by simp
 rw [decide_eq_false hm] at ki
 have ei:zfi (wtPv wt)=some (wt.map fun p=>.tup [.str (mkS p.1),.str p.2]):=rfl
 obtain ⟨R0,hR0⟩:∃ R0:PV,R0=.tup [.str "names",.str t,wtPv wt,.tup [.int wr.1,.str wr.2],.tup [.int wa.1,.str wa.2]]:=⟨_,rfl⟩
 have r0:gIx R0 (.int 0)=some (.str "names"):=by rw [hR0];rfl
 have r2:gIx R0 (.int 2)=some (wtPv wt):=by rw [hR0];rfl
 rw [← hR0] at n2
 have ec:=codes hg.lets k.sl wt k.w8 k.nd (by have:=k.len;omega)
 have ad:gAdd (.str (mkS tt)) (WO.sg c)=some (.str (mkS (tt++[c]))):=zeo tt c (by have:=ok.tl;omega)
 obtain ⟨CD,hCD⟩:∃ CD,CD=cdD ls wt:=⟨_,rfl⟩
 rw [← hCD] at ec
 obtain ⟨g1,g2⟩:=ln_go h.pv R0 CD hour r b w v tt (tt++[c]) (WO.sg c) ls nms wt k (by have:=ok.tl;simp;omega) hCD X wt (fun q hq=>hq) .no .no .no h1
 have lt:zgd [h.pv,.int hour,sT r b w v tt,WO.sg c]=some X:=by
  refine zam rfl ?_
  cases hf:wt.find? (fits ls wt (tt++[c])) with
  | some p =>
   have g1:=g1 ⟨p,hf⟩
   generalize sT r b w v tt=S at *
   generalize mkS (tt++[c])=TT at *
   generalize zaj h.rooms=RM at *
   generalize h.pv=H at *
   generalize WO.sg c=G at *
   generalize (wt.map fun p:W × Str=>PV.tup [.str (mkS p.1),.str p.2])=WL at *
   generalize wtPv wt=WP at *
   simp [zgb,PU.start,s0,s4,hR,n2,r2,ec,ad,ei,g1]
  | none =>
   obtain ⟨a',d',e',g2⟩:=g2 hf
   have h2:=h2 hf
   generalize sT r b w v tt=S at *
   generalize mkS (tt++[c])=TT at *
   generalize zaj h.rooms=RM at *
   generalize h.pv=H at *
   generalize WO.sg c=G at *
   generalize (wt.map fun p:W × Str=>PV.tup [.str (mkS p.1),.str p.2])=WL at *
   generalize wtPv wt=WP at *
   simp [zgb,PU.start,s0,s4,hR,n2,r2,ec,ad,ei,g2,h2]
 refine zam rfl ?_
 generalize sT r b w v tt=S at *
 generalize zaj h.rooms=RM at *
 generalize h.pv=H at *
 generalize WO.sg c=G at *
 simp [zdw,PU.start,s0,hR,n2,r0,ki,q,lt]
theorem zlu (r b:Str) (room:Room) (tt:W) (ok:OK h ls nms r b room tt) (t:Str) (ks:List (Str × Str)) (wr wa:Int × Str) (hr:room=.names t ks wr wa):∃ wt,ks=wt.map mw2/\WT wt ls nms/\wr.2∈nms/\wa.2∈nms:=by
 have hw:=zth hg r b room tt ok
 rw [hr] at hw
 obtain ⟨⟨wt,e,hs,hne,ht⟩,hwr,hwa⟩:=hw
 exact ⟨wt,e,⟨hs,hne,ht,hg.sl⟩,hwr,hwa⟩
theorem zh4 (r b:Str) (room:Room) (tt:W) (ok:OK h ls nms r b room tt) (t:Str) (wt:List (W × Str)) (wr wa:Int × Str) (hr:room=.names t (wt.map mw2) wr wa) (k:WT wt ls nms):∃ ks ps,Tells ks ps (Ways (bsOf ls wt))/\za3 [h.pv,.str r]=some (.dct ks ps):=by
 obtain ⟨ks,ps,tl,e⟩:=zt0 ls wt (by have:=k.len;omega) k.ok k.nd
 have d:=zsg wt (by have:=k.len;omega) k.nd
 have n2:=zqt hg r b room tt ok t wt wr wa hr
 have hR:=hRo hg
 have hL:=hg.lets
 refine ⟨ks,ps,tl,zam rfl ?_⟩
 generalize wtPv wt=WP at *
 generalize wtD wt=WD at *
 generalize WO.ltPv ls=LL at *
 generalize zaj h.rooms=RM at *
 generalize h.pv=H at *
 simp [zdu,PU.start,hR,n2,hL,d,e]
theorem zp6 (r b:Str) (w v:Int) (room:Room) (tt:W) (ok:OK h ls nms r b room tt) (t:Str) (ks:List (Str × Str)) (wr wa:Int × Str) (hr:room=.names t ks wr wa) (c:Nat) (hc:c≠119):∃ D r' b' w' v' t' room',za3 [h.pv,.str r]=some D/\Both h ls nms hour D (sT r b w v tt) c r' b' w' v' t' room':=by
 obtain ⟨wt,rfl,k,hwr,hwa⟩:=zlu hg r b room tt ok t ks wr wa hr
 obtain ⟨dk,dp,TL,ew⟩:=zh4 hg r b room tt ok t wt wr wa hr k
 have h0:gIx room.pv (.int 0)=some (.str "names"):=by rw [hr];rfl
 have h3:gIx room.pv (.int 3)=some (.tup [.int wr.1,.str wr.2]):=by rw [hr];rfl
 have tl:=ok.tl
 obtain ⟨b1,b2⟩:=k.bs
 cases hf:wt.find? (fits ls wt (tt++[c])) with
 | none =>
  obtain ⟨r1,bb1,w1,v1,room1,ok1,e1,e2⟩:=wrong hg hour r b w v tt room ok wr.1 wr.2 h3 hwr
  refine ⟨_,r1,bb1,w1,v1,[],room1,ew,ok1,zkd hg hour r b w v tt room ok "names" h0 (.inr rfl) _ _ c hc ?_,?_⟩
  ·refine zvc hour r b w v tt c (by omega) _ _ _ TL ?_ _ e1
   refine zqc b1 fun x hx _ hp=>?_
   obtain ⟨p,hp2,rfl⟩:=k.inv hx
   have:=List.find?_eq_none.mp hf p hp2
   exact this (decide_eq_true ((zn6 _ _).mpr hp))
  ·exact lnames hg hour r b w v room tt ok t wt wr wa hr k c hc _ (fun q hq=>by rw [hf] at hq;cases hq) (fun _=>e2)
 | some p =>
  have pm:=List.mem_of_find?_eq_some hf
  have pf:fits ls wt (tt++[c]) p=true:=List.find?_some hf
  have pp:(tt++[c]) <+: beg ls wt p.1:=(zn6 _ _).mp (of_decide_eq_true pf)
  by_cases hb:beg ls wt p.1=tt++[c]
  ·have hpn:=k.tn p pm
   obtain ⟨y,room2,ok2,a1,a2⟩:=arr hg hour p.2 hpn r (.inr ok.rn)
   refine ⟨_,y,r,0,0,[],room2,ew,ok2,zkd hg hour r b w v tt room ok "names" h0 (.inr rfl) _ _ c hc ?_,?_⟩
   ·refine zvd hour r b w v tt c (by omega) _ _ _ TL p.2 ?_ (hg.nb p.2 hpn).1 (hg.nb p.2 hpn).2 _ a1
    rw [← hb]
    exact zs5 b1 b2 (k.mem pm)
   ·exact lnames hg hour r b w v room tt ok t wt wr wa hr k c hc _ (fun q hq=>by rw [hf] at hq;cases hq;exact ⟨fun _=>a2,fun z=>absurd hb z⟩) (fun z=>by rw [hf] at z;cases z)
  ·have bl:=k.bl pm
   have ttl:=List.IsPrefix.length_le pp
   refine ⟨_,r,b,w,v,tt++[c],room,ew,⟨ok.lk,ok.nh,ok.rn,ok.bn,by omega,?_⟩,zkd hg hour r b w v tt room ok "names" h0 (.inr rfl) _ _ c hc ?_,?_⟩
   ·rw [hr]
    intro wt' e'
    have:wt'=wt:=by
     have inj:∀ (a b:List (W × Str)),a.map mw2=b.map mw2->a=b:=by
      intro a
      induction a with
      | nil=>intro b e;cases b with | nil=>rfl | cons _ _=>cases e
      | cons x a ih =>
       intro b e
       cases b with
       | nil=>cases e
       | cons y b =>
        rw [List.map_cons,List.map_cons] at e
        injection e with e1 e2
        have e3:x.1=y.1:=mkS_inj (show (mw2 x).1=(mw2 y).1 by rw [e1])
        have e4:x.2=y.2:=(show (mw2 x).2=(mw2 y).2 by rw [e1])
        rw [ih b e2,Prod.ext e3 e4]
     exact (inj wt wt' e').symm
    subst this
    exact .inr ⟨p,pm,pp,fun z=>hb z.symm⟩
   ·refine zw2 hour r b w v tt c (by omega) _ _ _ TL ?_
    exact zs4 b1 b2 (k.mem pm) (by simp) pp (fun z=>hb z.symm)
   ·exact lnames hg hour r b w v room tt ok t wt wr wa hr k c hc _ (fun q hq=>by rw [hf] at hq;cases hq;exact ⟨fun z=>absurd z hb,fun _=>rfl⟩) (fun z=>by rw [hf] at z;cases z)
theorem both (r b:Str) (w v:Int) (room:Room) (tt:W) (ok:OK h ls nms r b room tt) (c:Nat):∃ D r' b' w' v' t' room',za3 [h.pv,.str r]=some D/\Both h ls nms hour D (sT r b w v tt) c r' b' w' v' t' room':=by
 have n2:=FA.ix_rooms h.rooms r
 rw [ok.lk] at n2
 have n2:gIx (zaj h.rooms) (.str r)=some room.pv:=n2
 have hR:=hRo hg
 have plain:∀ k:Str,gIx room.pv (.int 0)=some (.str k)->¬ k="menu"->¬ k="names"->za3 [h.pv,.str r]=some (.dct [] []):=fun k h0 h1 h2=>by
  refine zam rfl ?_
  generalize room.pv=RP at *
  generalize zaj h.rooms=RM at *
  generalize h.pv=H at *
  simp [zdu,PU.start,hR,n2,h0,h1,h2]
 cases hroom:room with
 | hours sp l=>exact absurd hroom (ok.nh sp l)
 | menu t ks wr wa =>
  by_cases hc:c=119
  ·subst hc
   have hw:=zth hg r b room tt ok
   rw [hroom] at hw
   obtain ⟨⟨kt,rfl,hs,ht⟩,hwr,hwa⟩:=hw
   have ew:=zmr hg r b room tt ok t kt wr wa hroom hs
   obtain ⟨r',b',w',v',t',room',B⟩:=zvn hg hour r b w v tt room ok "menu" (by rw [hroom];rfl) (.inl rfl) wa.1 wa.2 (by rw [hroom];rfl) hwa (wtD (kw kt))
   exact ⟨_,r',b',w',v',t',room',ew,B⟩
  ·exact zsu hg hour r b w v room tt ok t ks wr wa hroom c hc
 | names t ks wr wa =>
  by_cases hc:c=119
  ·subst hc
   obtain ⟨wt,rfl,k,hwr,hwa⟩:=zlu hg r b room tt ok t ks wr wa hroom
   obtain ⟨dk,dp,TL,ew⟩:=zh4 hg r b room tt ok t wt wr wa hroom k
   obtain ⟨r',b',w',v',t',room',B⟩:=zvn hg hour r b w v tt room ok "names" (by rw [hroom];rfl) (.inr rfl) wa.1 wa.2 (by rw [hroom];rfl) hwa (.dct dk dp)
   exact ⟨_,r',b',w',v',t',room',ew,B⟩
  ·exact zp6 hg hour r b w v room tt ok t ks wr wa hroom c hc
 | hand t=>exact ⟨_,r,b,w,v,tt,room,plain "hand" (by rw [hroom];rfl) (by simp) (by simp),zpb hg hour r b w v tt room ok c "hand" (by rw [hroom];rfl) (.inl rfl) _⟩
 | fin t=>exact ⟨_,r,b,w,v,tt,room,plain "end" (by rw [hroom];rfl) (by simp) (by simp),zpb hg hour r b w v tt room ok c "end" (by rw [hroom];rfl) (.inr rfl) _⟩
end
def S13:List Nat:=[48,49,50,51,52,53,54,55,56,57,42,35,119]
theorem zyv:("0123456789*#w":Str)=mkS S13:=by decide +kernel
theorem zyw (z:Int):gIx (.str "0123456789*#w") (.int (z % 13))=some (WO.sg (S13.getD (z % 13).toNat 0)):=by
 rw [zyv]
 exact zlx S13 (z % 13) (by omega) (by show z % 13 < 13;omega) (by decide)
section
variable {h : House} {ls : WO.Lts} {nms ord : List Str} (hg : HG h ls nms ord) (hour : Int)
include hg
theorem sign (r b:Str) (w v:Int) (room:Room) (tt:W) (ok:OK h ls nms r b room tt) (cell:Int):∃ c:Nat,zfx [h.pv,sT r b w v tt,.int cell]=some (WO.sg c):=by
 have n2:=FA.ix_rooms h.rooms r
 rw [ok.lk] at n2
 have n2:gIx (zaj h.rooms) (.str r)=some room.pv:=n2
 have hR:=hRo hg
 have s0:gIx (sT r b w v tt) (.int 0)=some (.str r):=rfl
 have s4:gIx (sT r b w v tt) (.int 4)=some (.str (mkS tt)):=rfl
 have m3:gMod (.int cell) (.int 3)=some (.int (cell % 3)):=zdj (by decide)
 have d3:gDiv (.int cell) (.int 3)=some (.int (cell / 3)):=znc ⟨by decide,by decide⟩
 have m13:gMod (.int (cell / 3)) (.int 13)=some (.int (cell / 3 % 13)):=zdj (by decide)
 have sx:=zyw (cell / 3)
 generalize S13.getD (cell / 3 % 13).toNat 0=ch at sx
 have tl:=ok.tl
 have rest:∀ k:Str,gIx room.pv (.int 0)=some (.str k)->(¬ 0 < cell % 3\/(¬ k="menu"/\¬ k="names"))->∃ c:Nat,zfx [h.pv,sT r b w v tt,.int cell]=some (WO.sg c):=fun k h0 hk=>by
  refine ⟨ch,zam rfl ?_⟩
  generalize sT r b w v tt=S at *
  generalize room.pv=RP at *
  generalize zaj h.rooms=RM at *
  generalize h.pv=H at *
  generalize WO.sg ch=G at *
  rcases hk with hk | ⟨h1,h2⟩
  ·simp [zct,PU.start,s0,hR,n2,m3,hk,d3,m13,sx]
  ·by_cases hc:0 < cell % 3
   ·simp [zct,PU.start,s0,hR,n2,m3,hc,h0,h1,h2,d3,m13,sx]
   ·simp [zct,PU.start,s0,hR,n2,m3,hc,d3,m13,sx]
 by_cases hc:0 < cell % 3
 ·cases hroom:room with
  | hours sp l=>exact absurd hroom (ok.nh sp l)
  | hand t=>exact rest "hand" (by rw [hroom];rfl) (.inr ⟨by simp,by simp⟩)
  | fin t=>exact rest "end" (by rw [hroom];rfl) (.inr ⟨by simp,by simp⟩)
  | menu t ks wr wa =>
   have hw:=zth hg r b room tt ok
   rw [hroom] at hw
   obtain ⟨⟨kt,rfl,hs,ht⟩,hwr,hwa⟩:=hw
   rw [hroom] at n2
   have n2:gIx (zaj h.rooms) (.str r)=some (.tup [.str "menu",.str t,.tup ((kt.map mk2).map pv2),.tup [.int wr.1,.str wr.2],.tup [.int wa.1,.str wa.2]]):=n2
   rw [zop] at n2
   have gl:gLen (.tup (kt.map pvk))=some (.int kt.length):=by simp
   by_cases hk:kt=[]
   ·subst hk
    refine ⟨ch,zam rfl ?_⟩
    generalize sT r b w v tt=S at *
    generalize zaj h.rooms=RM at *
    generalize h.pv=H at *
    generalize WO.sg ch=G at *
    simp [zct,PU.start,s0,hR,n2,m3,hc,d3,m13,sx]
   ·have hk0:0 < kt.length:=List.length_pos_iff.mpr hk
    have hk1:(0:Int) < kt.length:=by omega
    obtain ⟨i,hi,hil⟩:∃ i:Nat,cell / 3 % (kt.length:Int)=(i:Int)/\i < kt.length:=by
     have h1:=Int.emod_nonneg (cell / 3) (b:=(kt.length:Int)) (by omega)
     have h2:=Int.emod_lt_of_pos (cell / 3) (b:=(kt.length:Int)) (by omega)
     exact ⟨(cell / 3 % (kt.length:Int)).toNat,by omega,by omega⟩
    have mm:gMod (.int (cell / 3)) (.int (kt.length:Int))=some (.int i):=by rw [zdj (by omega),hi]
    have ai:gIx (.tup (kt.map pvk)) (.int i)=some (pvk kt[i]):=za6 (n:=i) rfl (by rw [List.getElem?_map,List.getElem?_eq_getElem hil];rfl)
    have p0:gIx (pvk kt[i]) (.int 0)=some (WO.sg kt[i].1):=rfl
    refine ⟨kt[i].1,zam rfl ?_⟩
    have r2:∀ P:PV,gIx (.tup [.str "menu",.str t,P,.tup [.int wr.1,.str wr.2],.tup [.int wa.1,.str wa.2]]) (.int 2)=some P:=fun P=>rfl
    have r0:∀ P:PV,gIx (.tup [.str "menu",.str t,P,.tup [.int wr.1,.str wr.2],.tup [.int wa.1,.str wa.2]]) (.int 0)=some (.str "menu"):=fun P=>rfl
    generalize sT r b w v tt=S at *
    generalize zaj h.rooms=RM at *
    generalize h.pv=H at *
    generalize WO.sg kt[i].1=G1 at *
    generalize pvk kt[i]=PK at *
    generalize PV.tup (kt.map pvk)=KP at *
    have r2:=r2 KP
    have r0:=r0 KP
    generalize PV.tup [.str "menu",.str t,KP,.tup [.int wr.1,.str wr.2],.tup [.int wa.1,.str wa.2]]=R0 at *
    clear hi hil hk hk0
    generalize (kt.length:Int)=n at hk1 gl mm
    simp [zct,PU.start,s0,hR,n2,m3,hc,r0,r2,gl,hk1,d3,mm,ai,p0]
  | names t ks wr wa =>
   obtain ⟨wt,rfl,k,hwr,hwa⟩:=zlu hg r b room tt ok t ks wr wa hroom
   have n2:=zqt hg r b room tt ok t wt wr wa hroom
   have hk0:0 < wt.length:=List.length_pos_iff.mpr k.ne
   obtain ⟨i,hi,hil⟩:∃ i:Nat,cell / 3 % (wt.length:Int)=(i:Int)/\i < wt.length:=by
    have h1:=Int.emod_nonneg (cell / 3) (b:=(wt.length:Int)) (by omega)
    have h2:=Int.emod_lt_of_pos (cell / 3) (b:=(wt.length:Int)) (by omega)
    exact ⟨(cell / 3 % (wt.length:Int)).toNat,by omega,by omega⟩
   have mm:gMod (.int (cell / 3)) (.int (wt.length:Int))=some (.int i):=by rw [zdj (by omega),hi]
   have gl:gLen (wtPv wt)=some (.int wt.length):=by
    show some (PV.int ((wt.map fun p:W × Str=>PV.tup [.str (mkS p.1),.str p.2]).length:Int))=_
    rw [List.length_map]
   have ai:gIx (wtPv wt) (.int i)=some (.tup [.str (mkS wt[i].1),.str wt[i].2]):=za6 (n:=i) rfl (by rw [List.getElem?_map,List.getElem?_eq_getElem hil];rfl)
   have pm:wt[i]∈wt:=List.getElem_mem hil
   generalize wt[i]=p at ai pm
   have ec:=codes hg.lets k.sl wt k.w8 k.nd (by have:=k.len;omega)
   have eb:=beginning k.sl wt k.w8 k.nd (by have:=k.len;omega) p.1 (List.mem_map.mpr ⟨p,pm,rfl⟩)
   have eb:zbe [cdD ls wt,.str (mkS p.1)]=some (.str (mkS (beg ls wt p.1))):=eb
   have bl:=k.bl pm
   have q2:=zt3 ((beg ls wt p.1).take tt.length) tt
   have sl:=zqp (beg ls wt p.1) tt.length (by omega)
   have lt:gLen (.str (mkS tt))=some (.int tt.length):=by rw [zgl (by rw [zc4];omega),zc4]
   have r2:∀ P:PV,gIx (.tup [.str "names",.str t,P,.tup [.int wr.1,.str wr.2],.tup [.int wa.1,.str wa.2]]) (.int 2)=some P:=fun P=>rfl
   have r0:∀ P:PV,gIx (.tup [.str "names",.str t,P,.tup [.int wr.1,.str wr.2],.tup [.int wa.1,.str wa.2]]) (.int 0)=some (.str "names"):=fun P=>rfl
   have p0:gIx (.tup [.str (mkS p.1),.str p.2]) (.int 0)=some (.str (mkS p.1)):=rfl
   by_cases ht:(beg ls wt p.1).take tt.length=tt
   ·have hlt:tt.length < (beg ls wt p.1).length:=by
     rcases Nat.lt_or_ge tt.length (beg ls wt p.1).length with z | z
     ·exact z
     ·exfalso
      have e:beg ls wt p.1=tt:=by rw [← ht,List.take_of_length_le z]
      have ty:=ok.ty
      rw [hroom] at ty
      rcases ty wt rfl with ty | ⟨q,hq,t1,t2⟩
      ·rw [ty] at e
       rw [e] at bl
       simp at bl
      ·rw [← e] at t1 t2
       exact t2 (k.pf pm hq t1)
    rw [decide_eq_true ht] at q2
    have ix:=zlx (beg ls wt p.1) tt.length (by omega) (by omega) (by omega)
    have ix:gIx (.str (mkS (beg ls wt p.1))) (.int tt.length)=some (WO.sg ((beg ls wt p.1).getD ((tt.length:Int)).toNat 0)):=ix
    refine ⟨(beg ls wt p.1).getD ((tt.length:Int)).toNat 0,zam rfl ?_⟩
    generalize WO.sg ((beg ls wt p.1).getD ((tt.length:Int)).toNat 0)=G1 at *
    generalize sT r b w v tt=S at *
    generalize zaj h.rooms=RM at *
    generalize h.pv=H at *
    generalize mkS (beg ls wt p.1)=BB at *
    generalize mkS ((beg ls wt p.1).take tt.length)=BT at *
    generalize mkS tt=TT at *
    generalize cdD ls wt=CD at *
    generalize PV.tup [.str (mkS p.1),.str p.2]=PP at *
    generalize wtPv wt=KP at *
    have r2:=r2 KP
    have r0:=r0 KP
    generalize PV.tup [.str "names",.str t,KP,.tup [.int wr.1,.str wr.2],.tup [.int wa.1,.str wa.2]]=R0 at *
    simp [zct,PU.start,s0,s4,hR,n2,m3,hc,r0,r2,ec,gl,d3,mm,ai,p0,eb,lt,sl,q2,ix]
   ·rw [decide_eq_false ht] at q2
    refine ⟨ch,zam rfl ?_⟩
    generalize sT r b w v tt=S at *
    generalize zaj h.rooms=RM at *
    generalize h.pv=H at *
    generalize mkS (beg ls wt p.1)=BB at *
    generalize mkS ((beg ls wt p.1).take tt.length)=BT at *
    generalize mkS tt=TT at *
    generalize cdD ls wt=CD at *
    generalize PV.tup [.str (mkS p.1),.str p.2]=PP at *
    generalize wtPv wt=KP at *
    have r2:=r2 KP
    have r0:=r0 KP
    generalize PV.tup [.str "names",.str t,KP,.tup [.int wr.1,.str wr.2],.tup [.int wa.1,.str wa.2]]=R0 at *
    generalize WO.sg ch=G at *
    simp [zct,PU.start,s0,s4,hR,n2,m3,hc,r0,r2,ec,gl,d3,mm,ai,p0,eb,lt,sl,q2,m13,sx]
 ·cases hroom:room with
  | hours sp l=>exact absurd hroom (ok.nh sp l)
  | hand t=>exact rest "hand" (by rw [hroom];rfl) (.inl hc)
  | fin t=>exact rest "end" (by rw [hroom];rfl) (.inl hc)
  | menu t ks wr wa=>exact rest "menu" (by rw [hroom];rfl) (.inl hc)
  | names t ks wr wa=>exact rest "names" (by rw [hroom];rfl) (.inl hc)
theorem zvs:∃ WD,zc9 [h.pv]=some WD/\∀ r b room tt,OK h ls nms r b room tt->∀ D,za3 [h.pv,.str r]=some D->gIx WD (.str r)=some D:=by
 have room_ex:∀ n∈FA.names h.rooms,∃ D,za3 [h.pv,.str n]=some D:=fun n hn=>by
  obtain ⟨room,hr⟩:=FA.look_some h.rooms n hn
  by_cases hh:∃ sp l,room=.hours sp l
  ·obtain ⟨sp,l,rfl⟩:=hh
   have n2:=FA.ix_rooms h.rooms n
   rw [hr] at n2
   have n2:gIx (zaj h.rooms) (.str n)=some (.tup [.str "hours",.tup (sp.map pv3),.str l]):=n2
   have hR:=hRo hg
   generalize zaj h.rooms=RM at *
   generalize h.pv=H at *
   exact ⟨.dct [] [],zam rfl (by simp [zdu,PU.start,hR,n2])⟩
  ·obtain ⟨k,hk,e,_,_⟩:=hg.g.ok _ (znn h.rooms n room hr)
   have ok:OK h ls nms n "" room []:=⟨hr,fun sp l z=>hh ⟨sp,l,z⟩,hg.mn n (by have:ord[k]=n:=e;rw [← this];exact List.getElem_mem hk),.inl rfl,by simp,zn4 ls room⟩
   obtain ⟨D,_,_,_,_,_,_,e,_⟩:=both hg 0 n "" 0 0 room [] ok 48
   exact ⟨D,e⟩
 obtain ⟨ks,ps,e,g⟩:=zxb h.pv h.rooms (hRo hg) (by have:=hg.rl;omega) (fun n=>(za3 [h.pv,.str n]).getD .non) fun n hn=>by
  obtain ⟨D,e⟩:=room_ex n hn
  rw [e]
  rfl
 refine ⟨_,e,fun r b room tt ok D hD=>?_⟩
 rw [g r (hg.all r (hg.nm r ok.rn)),hD]
 rfl
end
def zs6 (WD st:PV):Option PV:=(gIx st (.int 0)).bind fun n=>gIx WD n
def trS (H:PV) (hour:Int) (WD:PV):PV->List Nat->Option (List PV)
 | st,[]=>some [st]
 | st,c::r=>(zs6 WD st).bind fun D=>(zc0 [H,.int hour,D,st,WO.sg c]).bind fun st'=>(trS H hour WD st' r).map (st::·)
theorem zqj (H:PV) (hour:Int) (WD D:PV) (c:Nat) (s1 s2:PV) (h0:zs6 WD s1=some D) (h:zc0 [H,.int hour,D,s1,WO.sg c]=some s2):∀ (r:List Nat) (st:PV) (L:List PV),trS H hour WD st r=some (L++[s1])->trS H hour WD st (r++[c])=some (L++[s1]++[s2])
 | [],st,L,e=>by
  have e:[st]=L++[s1]:=Option.some.inj e
  cases L with
  | nil =>
   have:st=s1:=by simpa using e
   subst this
   simp [trS,h0,h]
  | cons x L=>simp at e
 | x::r,st,L,e=>by
  unfold trS at e
  obtain ⟨D',e0,e'⟩:=Option.bind_eq_some_iff.mp e
  obtain ⟨s',e1,e2⟩:=Option.bind_eq_some_iff.mp e'
  obtain ⟨T,e3,e4⟩:=Option.map_eq_some_iff.mp e2
  show (zs6 WD st).bind (fun D=>(zc0 [H,.int hour,D,st,WO.sg x]).bind (fun st'=>(trS H hour WD st' (r++[c])).map (st::·)))=_
  rw [e0]
  show (zc0 [H,.int hour,D',st,WO.sg x]).bind (fun st'=>(trS H hour WD st' (r++[c])).map (st::·))=_
  rw [e1]
  show (trS H hour WD s' (r++[c])).map (st::·)=_
  cases L with
  | nil =>
   exfalso
   have:st::T=[s1]:=e4
   have hT:T=[]:=by simpa using (List.cons.inj this).2
   subst hT
   cases r with
   | nil=>cases e3
   | cons y r =>
    unfold trS at e3
    obtain ⟨_,_,e3⟩:=Option.bind_eq_some_iff.mp e3
    obtain ⟨_,_,e3⟩:=Option.bind_eq_some_iff.mp e3
    obtain ⟨_,_,e3⟩:=Option.map_eq_some_iff.mp e3
    cases e3
  | cons y L =>
   have e5:=List.cons.inj (show st::T=y::(L++[s1]) from e4)
   rw [← e5.1]
   rw [e5.2] at e3
   rw [zqj H hour WD D c s1 s2 h0 h r s' L e3]
   rfl
theorem zxv (L:List PV) (st:PV):gIx (.lst (L++[st])) (.int (-1))=some st:=by
 show atI (L++[st]) (-1)=some st
 have e:ixN (L++[st]).length (-1)=some L.length:=by
  rw [List.length_append,List.length_singleton]
  unfold ixN
  rw [if_neg (by omega)]
  first
   | (rw [if_pos (by omega)];congr 1;omega)
   | (simp;omega)
   | simp
 unfold atI
 rw [e]
 simp
theorem zl8 (H:PV) (hour:Int) (WD z row:PV):∀ (r:List Nat) (st:PV) (L T:List PV) (a:Sl),trS H hour WD st r=some T->L.length + r.length<=1000->∃ a',forF (zao 6) zgh (r.map WO.sg) [.val H,.val (.int hour),.val z,.val row,.val WD,.own (.lst (L++[st])),a]=.ok (.next [.val H,.val (.int hour),.val z,.val row,.val WD,.own (.lst (L++T)),a'])
 | [],st,L,T,a,e,_=>by cases e;exact ⟨a,rfl⟩
 | c::r,st,L,T,a,e,hl=>by
  rw [List.length_cons] at hl
  unfold trS at e
  obtain ⟨D,e0,e'⟩:=Option.bind_eq_some_iff.mp e
  obtain ⟨s',e1,e2⟩:=Option.bind_eq_some_iff.mp e'
  obtain ⟨T',e3,rfl⟩:=Option.map_eq_some_iff.mp e2
  obtain ⟨n,g1,g2⟩:=Option.bind_eq_some_iff.mp e0
  have e0:zao 6 (WO.sg c) [.val H,.val (.int hour),.val z,.val row,.val WD,.own (.lst (L++[st])),a]=some [.val H,.val (.int hour),.val z,.val row,.val WD,.own (.lst (L++[st])),.val (WO.sg c)]:=rfl
  have hz:(L++[st]).length < 16777216:=by rw [List.length_append,List.length_singleton];omega
  have b1:zgh [.val H,.val (.int hour),.val z,.val row,.val WD,.own (.lst (L++[st])),.val (WO.sg c)]=.ok (.next [.val H,.val (.int hour),.val z,.val row,.val WD,.own (.lst ((L++[st])++[s'])),.val (WO.sg c)]):=by
   have l:=zxv L st
   have ng:gNeg (.int 1)=some (.int (-1)):=rfl
   generalize L++[st]=LS at *
   generalize WO.sg c=G at *
   simp [zgh,ng,l,g1,g2,e1,hz]
  rw [List.map_cons]
  unfold forF
  rw [e0]
  simp only [R.ofO_some,R.ok_bind,b1]
  obtain ⟨a',f⟩:=zl8 H hour WD z row r s' (L++[st]) T' (.val (WO.sg c)) e3 (by rw [List.length_append,List.length_singleton];omega)
  refine ⟨a',?_⟩
  rw [f]
  simp
theorem zs7 (H:PV) (hour:Int) (WD s0:PV) (T:List PV) (r:List Nat) (hW:zc9 [H]=some WD) (hb:zhu [H,.int hour]=some s0) (e:trS H hour WD s0 r=some T) (hl:r.length<=1000):zmz [H,.int hour,.str (mkS r)]=some (.lst T):=by
 obtain ⟨a,f⟩:=zl8 H hour WD s0 (.str (mkS r)) r s0 [] T .no e (by simpa using hl)
 have ei:zfi (.str (mkS r))=some (r.map WO.sg):=WO.it_mk r
 simp only [List.nil_append] at f
 generalize r.map WO.sg=RS at *
 generalize mkS r=MR at *
 have wo:zid [H,.int hour,s0,.str MR]=some (.lst T):=by
  refine ztg rfl ?_
  simp [zj9,PU.start,hW,ei]
  rw [f]
  simp
 refine zam rfl ?_
 simp [zvg,PU.start,hb,wo]
theorem zqs (r b:Str) (w v:Int) (t:W):flat (sT r b w v t)=true/\pdep (sT r b w v t)<=3:=by simp [sT,flat,flats,pdep,pdeps]
theorem zyt (r b:Str) (w v:Int) (t:W):gNe (sT r b w v t) (sT r b w v t)=some (.bl false):=by
 have e:gNe (sT r b w v t) (sT r b w v t)=if pdeps [.str r,.str b,.int w,.int v,.str (mkS t)]<=60 then (zd9 [.str r,.str b,.int w,.int v,.str (mkS t)] [.str r,.str b,.int w,.int v,.str (mkS t)]).map fun b=>.bl (!b) else none:=rfl
 rw [e,if_pos (by simp [pdep,pdeps]),zfv _ (by simp [flat,flats])]
 rfl
theorem zym (a b:Str):gNe (.tup [.str a,.str b]) (.tup [.str a,.str b])=some (.bl false):=by
 have e:gNe (.tup [.str a,.str b]) (.tup [.str a,.str b])=if pdeps [.str a,.str b]<=60 then (zd9 [.str a,.str b] [.str a,.str b]).map fun b=>.bl (!b) else none:=rfl
 rw [e,if_pos (by simp [pdep,pdeps]),zfv _ (by simp [flat,flats])]
 rfl
def kindOf:Room->Str
 | .hand _=>"hand"
 | .fin _=>"end"
 | _=>"asked"
def zi8:Room->Str
 | .menu t ..=>t
 | .names t ..=>t
 | .hand t=>t
 | .fin t=>t
 | .hours ..=>""
theorem mk_in (k:Str):gIn (.str k) (.lst [.str "menu",.str "names"])=some (.bl (decide (k∈[Str.ofString "menu",Str.ofString "names"]))):=zrs k ["menu","names"]
section
variable {h : House} {ls : WO.Lts} {nms ord : List Str} (hg : HG h ls nms ord) (hour : Int)
include hg
theorem zuq:∃ y room,OK h ls nms y "" room []/\zhu [h.pv,.int hour]=some (sT y "" 0 0 [])/\za5 [h.pv,.int hour,.str h.first,.str ""]=some (sT y "" 0 0 []):=by
 obtain ⟨y,room,ok,e1,e2⟩:=arr hg hour h.first hg.fst "" (.inl rfl)
 refine ⟨y,room,ok,zam rfl ?_,e2⟩
 have hF:gIx h.pv (.str "first")=some (.str h.first):=by simp [House.pv]
 generalize h.pv=H at *
 simp [zns,PU.start,hF,e1]
theorem heard (r b:Str) (w v:Int) (room:Room) (tt:W) (ok:OK h ls nms r b room tt):zl1 [h.pv,sT r b w v tt]=some (.tup [.str (kindOf room),.str (zi8 room)]):=by
 refine zam rfl ?_
 have n2:=FA.ix_rooms h.rooms r
 rw [ok.lk] at n2
 have n2:gIx (zaj h.rooms) (.str r)=some room.pv:=n2
 have hR:=hRo hg
 have g0:gIx (sT r b w v tt) (.int 0)=some (.str r):=rfl
 have c:c_HEARD=.dct [.inr "menu",.inr "names",.inr "hand",.inr "end"] [.str "asked",.str "asked",.str "hand",.str "end"]:=rfl
 have nh:=ok.nh
 generalize sT r b w v tt=S at *
 generalize zaj h.rooms=RM at *
 generalize h.pv=H at *
 cases room with
 | hours sp l=>exact absurd rfl (nh sp l)
 | menu t ks wr wa =>
  have n2:gIx RM (.str r)=some (.tup [.str "menu",.str t,.tup (ks.map pv2),.tup [.int wr.1,.str wr.2],.tup [.int wa.1,.str wa.2]]):=n2
  simp [zi3,PU.start,hR,g0,n2,c,kindOf,zi8]
 | names t ks wr wa =>
  have n2:gIx RM (.str r)=some (.tup [.str "names",.str t,.tup (ks.map pv2),.tup [.int wr.1,.str wr.2],.tup [.int wa.1,.str wa.2]]):=n2
  simp [zi3,PU.start,hR,g0,n2,c,kindOf,zi8]
 | hand t =>
  have n2:gIx RM (.str r)=some (.tup [.str "hand",.str t]):=n2
  simp [zi3,PU.start,hR,g0,n2,c,kindOf,zi8]
 | fin t =>
  have n2:gIx RM (.str r)=some (.tup [.str "end",.str t]):=n2
  simp [zi3,PU.start,hR,g0,n2,c,kindOf,zi8]
end
theorem zt5 (ns:List Int):zr7 [.lst (ns.map .int)]=some (.bl true):=by
 refine zam rfl ?_
 have s1:cutP (ns.map PV.int) none (some 9)=(cutP ns none (some 9)).map .int:=zo7 .int ns none (some 9)
 have hl9:(cutP ns none (some 9)).length<=9:=by
  unfold cutP
  simp only [HT.sIx,List.length_take,List.length_drop]
  split <;> omega
 obtain ⟨h,ls,nms,ord,hg,eh⟩:=house (cutP ns none (some 9)) hl9
 have c9:zan [PV.lst (ns.map PV.int),PV.int 9]=some (PV.int (ns.getD 9 0)):=zgg ns 9
 generalize ns.getD 9 0=z9 at c9
 have m24:gMod (.int z9) (.int 24)=some (.int (z9 % 24)):=zdj (by decide)
 generalize z9 % 24=hour at m24
 obtain ⟨WD,hW,hWi⟩:=zvs hg
 obtain ⟨y0,room0,ok0,eb,ec⟩:=zuq hg hour
 have hF:gIx h.pv (.str "first")=some (.str h.first):=by simp [House.pv]
 have hR:=hRo hg
 have s2:cutP (ns.map PV.int) (some 10) (some 50)=(cutP ns (some 10) (some 50)).map .int:=zo7 .int ns (some 10) (some 50)
 have hcl:(cutP ns (some 10) (some 50)).length<=40:=by
  unfold cutP
  simp only [HT.sIx,List.length_take,List.length_drop]
  split <;> split <;> omega
 generalize cutP ns (some 10) (some 50)=cells at s2 hcl
 obtain ⟨ρ',f1,r,b,w,v,tt,room,L,row,x6,x7,x8,rfl,ok,tr,rl,fl⟩:=forM (enc:=PV.int) (xs:=cells) (h:=zao 6) (g:=znz) (ρ:=[.val (.lst (ns.map .int)),.val h.pv,.val (.int hour),.val (sT y0 "" 0 0 []),.own (.lst [sT y0 "" 0 0 []]),.val (.str ""),.no,.no,.no,.no,.no,.no])
  (I:=fun pre ρ=>∃ (r b:Str) (w v:Int) (tt:W) (room:Room) (L:List PV) (row:List Nat) (x6 x7 x8:Sl),ρ=[.val (.lst (ns.map .int)),.val h.pv,.val (.int hour),.val (sT r b w v tt),.own (.lst (L++[sT r b w v tt])),.val (.str (mkS row)),x6,x7,x8,.no,.no,.no]/\OK h ls nms r b room tt/\trS h.pv hour WD (sT y0 "" 0 0 []) row=some (L++[sT r b w v tt])/\(row.length=pre.length/\L.length=pre.length)/\∀ p∈L,flat p=true/\pdep p<=3)
  ⟨y0,"",0,0,[],room0,[],[],.no,.no,.no,by rw [zd3];rfl,ok0,rfl,⟨rfl,rfl⟩,by simp⟩ (by
   rintro pre x post ρ hx ⟨r,b,w,v,tt,room,L,row,x6,x7,x8,rfl,ok,tr,⟨rl,Ll⟩,fl⟩
   have hpl:pre.length<=40:=by
    have:=congrArg List.length hx
    rw [List.length_append] at this
    omega
   obtain ⟨c,es⟩:=sign hg r b w v room tt ok x
   obtain ⟨D,r',b',w',v',t',room',eD,B⟩:=both hg hour r b w v room tt ok c
   have st:=zvz hour r b w v tt (WO.sg c) D _ eD B.fo
   have nn:=zyt r' b' w' v' t'
   have la:=B.la
   have ad:gAdd (.str (mkS row)) (WO.sg c)=some (.str (mkS (row++[c]))):=zeo row c (by omega)
   have z:(L++[sT r b w v tt]).length < 16777216:=by rw [List.length_append,List.length_singleton];omega
   refine ⟨_,[.val (.lst (ns.map .int)),.val h.pv,.val (.int hour),.val (sT r' b' w' v' t'),.own (.lst (L++[sT r b w v tt]++[sT r' b' w' v' t'])),.val (.str (mkS (row++[c]))),.val (.int x),.val (WO.sg c),.val (sT r' b' w' v' t'),.no,.no,.no],zin _,.inl ?_,r',b',w',v',t',room',L++[sT r b w v tt],row++[c],_,_,_,rfl,B.ok,zqj h.pv hour WD D c _ _ (show zs6 WD (sT r b w v tt)=some D from hWi r b room tt ok D eD) B.fo row _ L tr,⟨by simp [rl],by simp [Ll]⟩,fun p hp=>?_⟩
   ·generalize L++[sT r b w v tt]=LS at *
    generalize sT r b w v tt=S at *
    generalize sT r' b' w' v' t'=S' at *
    generalize WO.sg c=G at *
    generalize h.pv=H at *
    simp [znz,es,la,st,nn,ad,z]
   ·rcases List.mem_append.mp hp with hp | hp
    ·exact fl p hp
    ·rw [List.mem_singleton.mp hp];exact zqs _ _ _ _ _)
 have ew:=zs7 h.pv hour WD (sT y0 "" 0 0 []) (L++[sT r b w v tt]) row hW eb tr (by omega)
 have fl2:∀ p∈L++[sT r b w v tt],flat p=true/\pdep p<=3:=fun p hp=>by
  rcases List.mem_append.mp hp with hp | hp
  ·exact fl p hp
  ·rw [List.mem_singleton.mp hp];exact zqs _ _ _ _ _
 have nes:gNe (.lst (L++[sT r b w v tt])) (.lst (L++[sT r b w v tt]))=some (.bl false):=zwy fl2
 have first:atI (L++[sT r b w v tt]) 0=some (sT y0 "" 0 0 []):=by
  have hd:∀ (rw_:List Nat) (st:PV) (T:List PV),trS h.pv hour WD st rw_=some T->T[0]?=some st:=by
   intro rw_ st T e
   cases rw_ with
   | nil=>cases e;rfl
   | cons c rr =>
    unfold trS at e
    obtain ⟨_,_,e⟩:=Option.bind_eq_some_iff.mp e
    obtain ⟨_,_,e⟩:=Option.bind_eq_some_iff.mp e
    obtain ⟨_,_,e⟩:=Option.map_eq_some_iff.mp e
    rw [← e]
    rfl
  exact za6 (n:=0) rfl (hd _ _ _ tr)
 have ne0:=zyt y0 "" 0 0 []
 have hh:=heard hg r b w v room tt ok
 have n2:=FA.ix_rooms h.rooms r
 rw [ok.lk] at n2
 have n2:gIx (zaj h.rooms) (.str r)=some room.pv:=n2
 have t0:gIx (sT r b w v tt) (.int 0)=some (.str r):=rfl
 have isl:gIsi "list" (.lst (L++[sT r b w v tt]))=some (.bl true):=rfl
 have tn:=zym (kindOf room) (zi8 room)
 have hrefl:=zpx h hg.g.nd
 have z:(L++[sT r b w v tt]).length < 16777216:=by rw [List.length_append,List.length_singleton];omega
 have nh:=ok.nh
 obtain ⟨k0,q0,qa⟩:∃ k0:Str,gIx room.pv (.int 0)=some (.str k0)/\((k0∈[Str.ofString "menu",Str.ofString "names"]/\kindOf room="asked")\/(k0 ∉ [Str.ofString "menu",Str.ofString "names"]/\kindOf room=k0)):=by
  cases room with
  | hours sp l=>exact absurd rfl (nh sp l)
  | menu t ks wr wa=>exact ⟨"menu",rfl,.inl ⟨by simp,rfl⟩⟩
  | names t ks wr wa=>exact ⟨"names",rfl,.inl ⟨by simp,rfl⟩⟩
  | hand t=>exact ⟨"hand",rfl,.inr ⟨by decide +kernel,rfl⟩⟩
  | fin t=>exact ⟨"end",rfl,.inr ⟨by decide +kernel,rfl⟩⟩
 have q1:gIx room.pv (.int 1)=some (.str (zi8 room)):=by
  cases room with
  | hours sp l=>exact absurd rfl (nh sp l)
  | _=>rfl
 have ki:=mk_in k0
 have ic:zfi (.lst (cells.map .int))=some (cells.map .int):=rfl
 have z1:(1:Nat)<=16777216:=by decide
 generalize cutP ns none (some 9)=nine at *
 generalize cells.map PV.int=CL at *
 generalize ns.map PV.int=NS at *
 generalize hS0:sT y0 "" 0 0 []=S0 at *
 generalize hLS:L++[sT r b w v tt]=LS at *
 generalize hS:sT r b w v tt=S at *
 generalize room.pv=RP at *
 generalize zi8 room=TX at *
 generalize zaj h.rooms=RM at *
 generalize h.pv=H at *
 generalize mkS row=RW' at *
 rcases qa with ⟨hk,qk⟩ | ⟨hk,qk⟩
 ·rw [qk] at hh tn
  rw [decide_eq_true hk] at ki
  simp [zrw,PU.start,s1,eh,c9,m24,hF,ec,s2,ic]
  rw [f1]
  simp [ew,isl,nes,eb,first,ne0,t0,hR,n2,q0,ki,z,hh,q1,tn,s1,eh,hrefl]
 ·rw [qk] at hh tn
  rw [decide_eq_false hk] at ki
  simp [zrw,PU.start,s1,eh,c9,m24,hF,ec,s2,ic]
  rw [f1]
  simp [ew,isl,nes,eb,first,ne0,t0,hR,n2,q0,ki,z,hh,q1,tn,s1,eh,hrefl]
end K22
end
section
namespace K22
open PySem PySem.Spec PyProof.Rows L2 PU
seal EV EO EN EA ET EW SV SVs TGt TGts TCt TCts EI ETs ED EOI
def top (i:Nat):Stmt:=PySem.Challenge.pw_menutree_k22_whole_calls_walked.main.body.getD i (.Pass ⟨0,0,0,0⟩)
structure Txt (w:World) (K:PySem.W.Frag) (mg:Str->Option Value):Prop where
 n_dict:mg "dict"=none
 n_enumerate:mg "enumerate"=none
 n_int:mg "int"=none
 n_isinstance:mg "isinstance"=none
 n_len:mg "len"=none
 n_list:mg "list"=none
 n_range:mg "range"=none
 n_reversed:mg "reversed"=none
 n_tuple:mg "tuple"=none
 n_zip:mg "zip"=none
 c_CODE_END:@Con ⟨w⟩ K mg "CODE_END" c_CODE_END
 c_HEARD:@Con ⟨w⟩ K mg "HEARD" c_HEARD
 c_WAIT:@Con ⟨w⟩ K mg "WAIT" c_WAIT
abbrev zg5:Stmt:=top 1
theorem zh1:FnScope ["room","hour","since","till","name"] ["room","hour"] (zae zg5):=⟨rfl,rfl,rfl,by decide +kernel,rfl,by decide +kernel,by decide +kernel⟩
theorem zjz {P:Program} {w:World} {K:PySem.W.Frag} {mg:Str->Option Value} {base:Heap} {f:Addr} {fd:FuncData} (T:Txt w K mg) (F:Fun K "handed" "handed" zg5 f fd) (hm:mg "handed"=some (.ref f)) (hb:Binds K fd ["room","hour"] []):@PF ⟨w⟩ P w K mg base 1 "handed" zjs :=
  letI:TW:=⟨w⟩
  zcq F zh1 hm hb (g:=zjq) fun cdv A outer s H E hr=>by
    have hu:=hr.units
    refine zad ?_ ?_
    ·refine zcf PassesOwn.never rfl ?_ ?_ ?_
     ·refine ze2 ?_
      refine zah (ixP hu) ?_ ?_ (fun _ _=>rfl)
      ·refine EV.o ?_
       exact ev_v 0
      ·refine EV.o ?_
       exact zab
     ·refine zgn rfl ?_
      refine za1 ?_ ?_
      ·exact zat 2 zh1.nd rfl (by first | exact Or.inl rfl | exact Or.inr rfl)
      ·refine za1 ?_ ?_
       ·exact zat 3 zh1.nd rfl (by first | exact Or.inl rfl | exact Or.inr rfl)
       ·refine za1 ?_ ?_
        ·exact zat 4 zh1.nd rfl (by first | exact Or.inl rfl | exact Or.inr rfl)
        ·exact zew
     ·refine zaf ?_
      refine zce ?_ ?_ ?_
      ·refine zo2 opLe opLt zrq zly ?_ ?_ ?_
       ·refine EV.o ?_
        exact ev_v 2
       ·refine EV.o ?_
        exact ev_v 1
       ·refine EV.o ?_
        exact ev_v 3
      ·refine zaf ?_
       refine zar ?_
       exact ev_v 4
      ·exact zaz
    ·refine zaf ?_
     refine zar ?_
     refine zah (ixP hu) ?_ ?_ (fun _ _=>rfl)
     ·refine EV.o ?_
      exact ev_v 0
     ·refine EV.o ?_
      exact zab
abbrev zfs:Stmt:=top 2
theorem zio:FnScope ["H","hour","name","come"] ["H","hour","name"] (zae zfs):=⟨rfl,rfl,rfl,by decide +kernel,rfl,by decide +kernel,by decide +kernel⟩
theorem ziu {P:Program} {w:World} {K:PySem.W.Frag} {mg:Str->Option Value} {base:Heap} {f:Addr} {fd:FuncData} (T:Txt w K mg) (F:Fun K "come_to" "come_to" zfs f fd) (hm:mg "come_to"=some (.ref f)) (hb:Binds K fd ["H","hour","name"] []) (zjz:@PF ⟨w⟩ P w K mg base 1 "handed" zjs):@PF ⟨w⟩ P w K mg base 2 "come_to" zie :=
  letI:TW:=⟨w⟩
  zcq F zio hm hb (g:=zka) fun cdv A outer s H E hr=>by
    have hu:=hr.units
    refine zad ?_ ?_
    ·refine zap 3 zio.nd rfl (by first | exact Or.inl rfl | exact Or.inr rfl) ?_
     exact ev_v 2
    ·refine zad ?_ ?_
     ·refine zlf 300 PassesOwn.never ?_ ?_
      ·refine zay (opEq hu) zbb ?_ ?_ (nomark _)
       ·refine EV.o ?_
        refine zah (ixP hu) ?_ ?_ (fun _ _=>rfl)
        ·refine EV.o ?_
         refine zah (ixP hu) ?_ ?_ (fun _ _=>rfl)
         ·refine EV.o ?_
          refine zah (ixP hu) ?_ ?_ (fun _ _=>rfl)
          ·refine EV.o ?_
           exact ev_v 0
          ·refine EV.o ?_
           exact zai
         ·refine EV.o ?_
          exact ev_v 3
        ·refine EV.o ?_
         exact zab
       ·refine EV.o ?_
        exact zai
      ·refine zaf ?_
       refine zap 3 zio.nd rfl (by first | exact Or.inl rfl | exact Or.inr rfl) ?_
       refine zak zjz (hr.mono (by decide)) rfl ?_
       refine zaa ?_ ?_
       ·refine zah (ixP hu) ?_ ?_ (fun _ _=>rfl)
        ·refine EV.o ?_
         refine zah (ixP hu) ?_ ?_ (fun _ _=>rfl)
         ·refine EV.o ?_
          exact ev_v 0
         ·refine EV.o ?_
          exact zai
        ·refine EV.o ?_
         exact ev_v 3
       ·refine zaa ?_ ?_
        ·exact ev_v 1
        ·exact zag
     ·refine zaf ?_
      refine zar ?_
      exact ev_v 3
abbrev zg4:Stmt:=top 6
theorem zjw:FnScope ["letters","letter","key","held"] ["letters","letter"] (zae zg4):=⟨rfl,rfl,rfl,by decide +kernel,rfl,by decide +kernel,by decide +kernel⟩
theorem zjy {P:Program} {w:World} {K:PySem.W.Frag} {mg:Str->Option Value} {base:Heap} {f:Addr} {fd:FuncData} (T:Txt w K mg) (F:Fun K "key_of" "key_of" zg4 f fd) (hm:mg "key_of"=some (.ref f)) (hb:Binds K fd ["letters","letter"] []):@PF ⟨w⟩ P w K mg base 1 "key_of" zjr :=
  letI:TW:=⟨w⟩
  zcq F zjw hm hb (g:=zjp) fun cdv A outer s H E hr=>by
    have hu:=hr.units
    refine zad ?_ ?_
    ·refine zcf PassesOwn.never rfl ?_ ?_ ?_
     ·refine ze2 ?_
      exact ev_v 0
     ·refine zgn rfl ?_
      refine za1 ?_ ?_
      ·exact zat 2 zjw.nd rfl (by first | exact Or.inl rfl | exact Or.inr rfl)
      ·refine za1 ?_ ?_
       ·exact zat 3 zjw.nd rfl (by first | exact Or.inl rfl | exact Or.inr rfl)
       ·exact zew
     ·refine zaf ?_
      refine zce ?_ ?_ ?_
      ·refine zay (opIn hu) ziz ?_ ?_ (by with_unfolding_all rfl)
       ·refine EV.o ?_
        exact ev_v 1
       ·refine EV.o ?_
        exact ev_v 3
      ·refine zaf ?_
       refine zar ?_
       exact ev_v 2
      ·exact zaz
    ·refine zaf ?_
     refine zar ?_
     exact zla
abbrev zez:Stmt:=top 5
theorem zkv:FnScope ["letters","word","keys"] ["letters","word"] (zae zez):=⟨rfl,rfl,rfl,by decide +kernel,rfl,by decide +kernel,by decide +kernel⟩
theorem ziv {P:Program} {w:World} {K:PySem.W.Frag} {mg:Str->Option Value} {base:Heap} {f:Addr} {fd:FuncData} (T:Txt w K mg) (F:Fun K "code_of" "code_of" zez f fd) (hm:mg "code_of"=some (.ref f)) (hb:Binds K fd ["letters","word"] []) (zjy:@PF ⟨w⟩ P w K mg base 1 "key_of" zjr):@PF ⟨w⟩ P w K mg base 2 "code_of" zg0 :=
  letI:TW:=⟨w⟩
  zcq F zkv hm hb (g:=zkb) fun cdv A outer s H E hr=>by
    have hu:=hr.units
    refine zad ?_ ?_
    ·refine zqm false 2 zkv.nd rfl (by first | exact Or.inl rfl | exact Or.inr rfl) (N':=["letter","letters"]) (nt:=1) (idx:=[0]) (show CompOk ["letters","word","keys"] (zae zez) _ ["letter","letters"] 1 [0] from ⟨rfl,by decide +kernel,by decide +kernel,by decide +kernel,rfl,by decide +kernel⟩) rfl ?_ ?_ ?_ ?_ ?_
     ·refine ze2 ?_
      exact ev_v 1
     ·intro _ _ _ _ _
      exact zhj 0 (show List.Nodup (["letter","letters"]:List Str) from by decide +kernel) rfl (by first | exact Or.inl rfl | exact Or.inr rfl)
     ·exact zga (by decide)
     ·intro _ _ _ _ _
      exact znt
     ·intro _ _ _ _ _
      refine zak zjy (hr.mono (by decide)) rfl ?_
      refine zaa ?_ ?_
      ·exact ev_v 1
      ·refine zaa ?_ ?_
       ·exact ev_v 0
       ·exact zag
    ·refine zaf ?_
     refine zar ?_
     refine ev_if ?_ ?_ ?_
     ·refine zay (opIn hu) ziz ?_ ?_ (by with_unfolding_all rfl)
      ·refine EV.o ?_
       exact zla
      ·refine EV.o ?_
       exact ev_v 2
     ·exact zla
     ·refine ev_m1 sJoin mJoin ?_ ?_
      ·exact zai
      ·refine EV.o ?_
       exact ev_v 2
abbrev zbh:Stmt:=top 8
theorem zb4:FnScope ["codes","counts","code","size"] ["codes"] (zae zbh):=⟨rfl,rfl,rfl,by decide +kernel,rfl,by decide +kernel,by decide +kernel⟩
theorem zc3 {P:Program} {w:World} {K:PySem.W.Frag} {mg:Str->Option Value} {base:Heap} {f:Addr} {fd:FuncData} (T:Txt w K mg) (F:Fun K "beginning_counts" "beginning_counts" zbh f fd) (hm:mg "beginning_counts"=some (.ref f)) (hb:Binds K fd ["codes"] []):@PF ⟨w⟩ P w K mg base 1 "beginning_counts" zbu :=
  letI:TW:=⟨w⟩
  zcq F zb4 hm hb (g:=zdh) fun cdv A outer s H E hr=>by
    have hu:=hr.units
    refine zad ?_ ?_
    ·refine ze7 1 zb4.nd rfl (by first | exact Or.inl rfl | exact Or.inr rfl) ?_
     exact zi4
    ·refine zad ?_ ?_
     ·refine zcf PassesOwn.never rfl ?_ ?_ ?_
      ·refine ze2 ?_
       exact ev_v 0
      ·exact zat 2 zb4.nd rfl (by first | exact Or.inl rfl | exact Or.inr rfl)
      ·refine zaf ?_
       refine zcf PassesOwn.never rfl ?_ ?_ ?_
       ·refine zkg rfl T.n_range ?_ ?_
        ·exact zab
        ·refine zal zcd ?_ ?_
         ·refine EV.o ?_
          refine zig cLen rfl T.n_len rfl ?_
          refine EV.o ?_
          exact ev_v 2
         ·refine EV.o ?_
          exact zab
       ·exact zat 3 zb4.nd rfl (by first | exact Or.inl rfl | exact Or.inr rfl)
       ·refine zaf ?_
        refine zfo 1 hu ?_ ?_
        ·refine zcl ?_ ?_ ?_
         ·refine EV.o ?_
          exact ev_v 2
         ·exact zb3
         ·refine zbo ?_
          exact ev_v 3
        ·refine zal zcd ?_ ?_
         ·refine EV.o ?_
          refine zxe ?_ ?_ ?_
          ·exact eo_v 1
          ·refine zcl ?_ ?_ ?_
           ·refine EV.o ?_
            exact ev_v 2
           ·exact zb3
           ·refine zbo ?_
            exact ev_v 3
          ·exact zab
         ·refine EV.o ?_
          exact zab
     ·refine zaf ?_
      refine SV.frz 1 ?_
      refine zar ?_
      exact ev_v 1
abbrev zb1:Stmt:=top 9
theorem zgj:FnScope ["code","counts","size"] ["code","counts"] (zae zb1):=⟨rfl,rfl,rfl,by decide +kernel,rfl,by decide +kernel,by decide +kernel⟩
theorem zec {P:Program} {w:World} {K:PySem.W.Frag} {mg:Str->Option Value} {base:Heap} {f:Addr} {fd:FuncData} (T:Txt w K mg) (F:Fun K "own_beginning" "own_beginning" zb1 f fd) (hm:mg "own_beginning"=some (.ref f)) (hb:Binds K fd ["code","counts"] []):@PF ⟨w⟩ P w K mg base 1 "own_beginning" zdi :=
  letI:TW:=⟨w⟩
  zcq F zgj hm hb (g:=zdf) fun cdv A outer s H E hr=>by
    have hu:=hr.units
    refine zad ?_ ?_
    ·refine zcf PassesOwn.never rfl ?_ ?_ ?_
     ·refine zkg rfl T.n_range ?_ ?_
      ·exact zab
      ·refine zig cLen rfl T.n_len rfl ?_
       refine EV.o ?_
       exact ev_v 0
     ·exact zat 2 zgj.nd rfl (by first | exact Or.inl rfl | exact Or.inr rfl)
     ·refine zaf ?_
      refine zce ?_ ?_ ?_
      ·refine zay (opEq hu) zbb ?_ ?_ (nomark _)
       ·refine EV.o ?_
        refine zah (ixP hu) ?_ ?_ (fun _ _=>rfl)
        ·refine EV.o ?_
         exact ev_v 1
        ·refine EV.o ?_
         refine zcl ?_ ?_ ?_
         ·refine EV.o ?_
          exact ev_v 0
         ·exact zb3
         ·refine zbo ?_
          exact ev_v 2
       ·refine EV.o ?_
        exact zab
      ·refine zaf ?_
       refine zar ?_
       refine zcl ?_ ?_ ?_
       ·refine EV.o ?_
        exact ev_v 0
       ·exact zb3
       ·refine zbo ?_
        exact ev_v 2
      ·exact zaz
    ·refine zaf ?_
     refine zar ?_
     exact ev_v 0
abbrev zb2:Stmt:=top 7
theorem zf5:FnScope ["letters","words","codes","counts"] ["letters","words"] (zae zb2):=⟨rfl,rfl,rfl,by decide +kernel,rfl,by decide +kernel,by decide +kernel⟩
theorem zf8 {P:Program} {w:World} {K:PySem.W.Frag} {mg:Str->Option Value} {base:Heap} {f:Addr} {fd:FuncData} (T:Txt w K mg) (F:Fun K "beginnings" "beginnings" zb2 f fd) (hm:mg "beginnings"=some (.ref f)) (hb:Binds K fd ["letters","words"] []) (ziv:@PF ⟨w⟩ P w K mg base 2 "code_of" zg0) (zc3:@PF ⟨w⟩ P w K mg base 1 "beginning_counts" zbu) (zec:@PF ⟨w⟩ P w K mg base 1 "own_beginning" zdi):@PF ⟨w⟩ P w K mg base 3 "beginnings" zea :=
  letI:TW:=⟨w⟩
  zcq F zf5 hm hb (g:=zgz) fun cdv A outer s H E hr=>by
    have hu:=hr.units
    refine zad ?_ ?_
    ·refine zqm false 2 zf5.nd rfl (by first | exact Or.inl rfl | exact Or.inr rfl) (N':=["word","letters"]) (nt:=1) (idx:=[0]) (show CompOk ["letters","words","codes","counts"] (zae zb2) _ ["word","letters"] 1 [0] from ⟨rfl,by decide +kernel,by decide +kernel,by decide +kernel,rfl,by decide +kernel⟩) rfl ?_ ?_ ?_ ?_ ?_
     ·refine ze2 ?_
      exact ev_v 1
     ·intro _ _ _ _ _
      exact zhj 0 (show List.Nodup (["word","letters"]:List Str) from by decide +kernel) rfl (by first | exact Or.inl rfl | exact Or.inr rfl)
     ·exact zga (by decide)
     ·intro _ _ _ _ _
      exact znt
     ·intro _ _ _ _ _
      refine zal zcd ?_ ?_
      ·refine EV.o ?_
       refine zak ziv (hr.mono (by decide)) rfl ?_
       refine zaa ?_ ?_
       ·exact ev_v 1
       ·refine zaa ?_ ?_
        ·exact ev_v 0
        ·exact zag
      ·refine EV.o ?_
       exact zr9 rfl T.c_CODE_END
    ·refine zad ?_ ?_
     ·refine zap 3 zf5.nd rfl (by first | exact Or.inl rfl | exact Or.inr rfl) ?_
      refine zak zc3 (hr.mono (by decide)) rfl ?_
      refine zaa ?_ ?_
      ·exact ev_v 2
      ·exact zag
     ·refine zaf ?_
      refine zar ?_
      refine EN.v ?_
      refine znv (N':=["word","code","counts"]) (nt:=2) (idx:=[3]) (show CompOk ["letters","words","codes","counts"] (zae zb2) _ ["word","code","counts"] 2 [3] from ⟨rfl,by decide +kernel,by decide +kernel,by decide +kernel,rfl,by decide +kernel⟩) rfl ?_ ?_ ?_ ?_ ?_
      ·refine ei_zip rfl T.n_zip ?_ ?_
       ·exact ev_v 1
       ·exact ev_v 2
      ·intro _ _ _ _ _
       refine zuz rfl ?_
       refine zjk ?_ ?_
       ·exact zhj 0 (show List.Nodup (["word","code","counts"]:List Str) from by decide +kernel) rfl (by first | exact Or.inl rfl | exact Or.inr rfl)
       ·refine zjk ?_ ?_
        ·exact zhj 1 (show List.Nodup (["word","code","counts"]:List Str) from by decide +kernel) rfl (by first | exact Or.inl rfl | exact Or.inr rfl)
        ·exact zql
      ·refine zra ?_
       refine zjo ?_ ?_
       ·exact zga (by decide)
       ·refine zjo ?_ ?_
        ·exact zga (by decide)
        ·exact zrb
      ·intro _ _ _ _ _
       exact znt
      ·intro _ _ _ _ _
       refine za9 ?_
       refine zaa ?_ ?_
       ·exact ev_v 0
       ·refine zaa ?_ ?_
        ·refine zak zec (hr.mono (by decide)) rfl ?_
         refine zaa ?_ ?_
         ·exact ev_v 1
         ·refine zaa ?_ ?_
          ·exact ev_v 2
          ·exact zag
        ·exact zag
abbrev zfu:Stmt:=top 14
theorem zpm:FnScope ["H","hour","name","back"] ["H","hour","name","back"] (zae zfu):=⟨rfl,rfl,rfl,by decide +kernel,rfl,by decide +kernel,by decide +kernel⟩
theorem zcr {P:Program} {w:World} {K:PySem.W.Frag} {mg:Str->Option Value} {base:Heap} {f:Addr} {fd:FuncData} (T:Txt w K mg) (F:Fun K "arrival" "arrival" zfu f fd) (hm:mg "arrival"=some (.ref f)) (hb:Binds K fd ["H","hour","name","back"] []) (ziu:@PF ⟨w⟩ P w K mg base 2 "come_to" zie):@PF ⟨w⟩ P w K mg base 3 "arrival" zcb :=
  letI:TW:=⟨w⟩
  zcq F zpm hm hb (g:=zkc) fun cdv A outer s H E hr=>by
    have hu:=hr.units
    refine zaf ?_
    refine zar ?_
    refine za9 ?_
    refine zaa ?_ ?_
    ·refine zak ziu (hr.mono (by decide)) rfl ?_
     refine zaa ?_ ?_
     ·exact ev_v 0
     ·refine zaa ?_ ?_
      ·exact ev_v 1
      ·refine zaa ?_ ?_
       ·exact ev_v 2
       ·exact zag
    ·refine zaa ?_ ?_
     ·exact ev_v 3
     ·refine zaa ?_ ?_
      ·exact zab
      ·refine zaa ?_ ?_
       ·exact zab
       ·refine zaa ?_ ?_
        ·exact zai
        ·exact zag
abbrev zis:Stmt:=top 13
theorem ztf:FnScope ["H","hour"] ["H","hour"] (zae zis):=⟨rfl,rfl,rfl,by decide +kernel,rfl,by decide +kernel,by decide +kernel⟩
theorem zh2 {P:Program} {w:World} {K:PySem.W.Frag} {mg:Str->Option Value} {base:Heap} {f:Addr} {fd:FuncData} (T:Txt w K mg) (F:Fun K "begin" "begin" zis f fd) (hm:mg "begin"=some (.ref f)) (hb:Binds K fd ["H","hour"] []) (zcr:@PF ⟨w⟩ P w K mg base 3 "arrival" zcb):@PF ⟨w⟩ P w K mg base 4 "begin" zhu :=
  letI:TW:=⟨w⟩
  zcq F ztf hm hb (g:=zns) fun cdv A outer s H E hr=>by
    have hu:=hr.units
    refine zaf ?_
    refine zar ?_
    refine zak zcr (hr.mono (by decide)) rfl ?_
    refine zaa ?_ ?_
    ·exact ev_v 0
    ·refine zaa ?_ ?_
     ·exact ev_v 1
     ·refine zaa ?_ ?_
      ·refine zah (ixP hu) ?_ ?_ (fun _ _=>rfl)
       ·refine EV.o ?_
        exact ev_v 0
       ·refine EV.o ?_
        exact zai
      ·refine zaa ?_ ?_
       ·exact zai
       ·exact zag
abbrev zcc:Stmt:=top 21
theorem zey:FnScope ["H","hour","state","bound","wrong"] ["H","hour","state"] (zae zcc):=⟨rfl,rfl,rfl,by decide +kernel,rfl,by decide +kernel,by decide +kernel⟩
theorem zdd {P:Program} {w:World} {K:PySem.W.Frag} {mg:Str->Option Value} {base:Heap} {f:Addr} {fd:FuncData} (T:Txt w K mg) (F:Fun K "by_wrong_key" "by_wrong_key" zcc f fd) (hm:mg "by_wrong_key"=some (.ref f)) (hb:Binds K fd ["H","hour","state"] []) (zcr:@PF ⟨w⟩ P w K mg base 3 "arrival" zcb):@PF ⟨w⟩ P w K mg base 4 "by_wrong_key" zbx :=
  letI:TW:=⟨w⟩
  zcq F zey hm hb (g:=zd1) fun cdv A outer s H E hr=>by
    have hu:=hr.units
    refine zad ?_ ?_
    ·refine zap 3 zey.nd rfl (by first | exact Or.inl rfl | exact Or.inr rfl) ?_
     refine zah (ixP hu) ?_ ?_ (fun _ _=>rfl)
     ·refine EV.o ?_
      refine zah (ixP hu) ?_ ?_ (fun _ _=>rfl)
      ·refine EV.o ?_
       refine zah (ixP hu) ?_ ?_ (fun _ _=>rfl)
       ·refine EV.o ?_
        exact ev_v 0
       ·refine EV.o ?_
        exact zai
      ·refine EV.o ?_
       refine zah (ixP hu) ?_ ?_ (fun _ _=>rfl)
       ·refine EV.o ?_
        exact ev_v 2
       ·refine EV.o ?_
        exact zab
     ·refine EV.o ?_
      exact zab
    ·refine zad ?_ ?_
     ·refine zap 4 zey.nd rfl (by first | exact Or.inl rfl | exact Or.inr rfl) ?_
      refine zal zcd ?_ ?_
      ·refine EV.o ?_
       refine zah (ixP hu) ?_ ?_ (fun _ _=>rfl)
       ·refine EV.o ?_
        exact ev_v 2
       ·refine EV.o ?_
        exact zab
      ·refine EV.o ?_
       exact zab
     ·refine zad ?_ ?_
      ·refine zce ?_ ?_ ?_
       ·refine zay (opEq hu) zbb ?_ ?_ (nomark _)
        ·refine EV.o ?_
         exact ev_v 4
        ·refine EV.o ?_
         refine zah (ixP hu) ?_ ?_ (fun _ _=>rfl)
         ·refine EV.o ?_
          exact ev_v 3
         ·refine EV.o ?_
          exact zab
       ·refine zaf ?_
        refine zar ?_
        refine zak zcr (hr.mono (by decide)) rfl ?_
        refine zaa ?_ ?_
        ·exact ev_v 0
        ·refine zaa ?_ ?_
         ·exact ev_v 1
         ·refine zaa ?_ ?_
          ·refine zah (ixP hu) ?_ ?_ (fun _ _=>rfl)
           ·refine EV.o ?_
            exact ev_v 3
           ·refine EV.o ?_
            exact zab
          ·refine zaa ?_ ?_
           ·refine zah (ixP hu) ?_ ?_ (fun _ _=>rfl)
            ·refine EV.o ?_
             exact ev_v 2
            ·refine EV.o ?_
             exact zab
           ·exact zag
       ·exact zaz
      ·refine zaf ?_
       refine zar ?_
       refine za9 ?_
       refine zaa ?_ ?_
       ·refine zah (ixP hu) ?_ ?_ (fun _ _=>rfl)
        ·refine EV.o ?_
         exact ev_v 2
        ·refine EV.o ?_
         exact zab
       ·refine zaa ?_ ?_
        ·refine zah (ixP hu) ?_ ?_ (fun _ _=>rfl)
         ·refine EV.o ?_
          exact ev_v 2
         ·refine EV.o ?_
          exact zab
        ·refine zaa ?_ ?_
         ·exact ev_v 4
         ·refine zaa ?_ ?_
          ·refine zah (ixP hu) ?_ ?_ (fun _ _=>rfl)
           ·refine EV.o ?_
            exact ev_v 2
           ·refine EV.o ?_
            exact zab
          ·refine zaa ?_ ?_
           ·exact zai
           ·exact zag
abbrev zg7:Stmt:=top 20
theorem zjx:FnScope ["H","hour","ways","state","key","typed","target"] ["H","hour","ways","state","key"] (zae zg7):=⟨rfl,rfl,rfl,by decide +kernel,rfl,by decide +kernel,by decide +kernel⟩
theorem zj0 {P:Program} {w:World} {K:PySem.W.Frag} {mg:Str->Option Value} {base:Heap} {f:Addr} {fd:FuncData} (T:Txt w K mg) (F:Fun K "by_key" "by_key" zg7 f fd) (hm:mg "by_key"=some (.ref f)) (hb:Binds K fd ["H","hour","ways","state","key"] []) (zdd:@PF ⟨w⟩ P w K mg base 4 "by_wrong_key" zbx) (zcr:@PF ⟨w⟩ P w K mg base 3 "arrival" zcb):@PF ⟨w⟩ P w K mg base 5 "by_key" zeg :=
  letI:TW:=⟨w⟩
  zcq F zjx hm hb (g:=zgc) fun cdv A outer s H E hr=>by
    have hu:=hr.units
    refine zad ?_ ?_
    ·refine zap 5 zjx.nd rfl (by first | exact Or.inl rfl | exact Or.inr rfl) ?_
     refine zal zcd ?_ ?_
     ·refine EV.o ?_
      refine zah (ixP hu) ?_ ?_ (fun _ _=>rfl)
      ·refine EV.o ?_
       exact ev_v 3
      ·refine EV.o ?_
       exact zab
     ·refine EV.o ?_
      exact ev_v 4
    ·refine zad ?_ ?_
     ·refine zce ?_ ?_ ?_
      ·refine zay (zwt hu) zpw ?_ ?_ (by with_unfolding_all rfl)
       ·refine EV.o ?_
        exact ev_v 5
       ·refine EV.o ?_
        exact ev_v 2
      ·refine zaf ?_
       refine zar ?_
       refine zak zdd (hr.mono (by decide)) rfl ?_
       refine zaa ?_ ?_
       ·exact ev_v 0
       ·refine zaa ?_ ?_
        ·exact ev_v 1
        ·refine zaa ?_ ?_
         ·exact ev_v 3
         ·exact zag
      ·exact zaz
     ·refine zad ?_ ?_
      ·refine zap 6 zjx.nd rfl (by first | exact Or.inl rfl | exact Or.inr rfl) ?_
       refine ev_if ?_ ?_ ?_
       ·refine zay (opEq hu) zbb ?_ ?_ (nomark _)
        ·refine EV.o ?_
         refine zah (ixP hu) ?_ ?_ (fun _ _=>rfl)
         ·refine EV.o ?_
          exact ev_v 2
         ·refine EV.o ?_
          exact ev_v 5
        ·refine EV.o ?_
         exact zai
       ·refine zah (ixP hu) ?_ ?_ (fun _ _=>rfl)
        ·refine EV.o ?_
         exact ev_v 3
        ·refine EV.o ?_
         exact zab
       ·refine zah (ixP hu) ?_ ?_ (fun _ _=>rfl)
        ·refine EV.o ?_
         exact ev_v 2
        ·refine EV.o ?_
         exact ev_v 5
      ·refine zad ?_ ?_
       ·refine zce ?_ ?_ ?_
        ·refine zay opIsN zub ?_ ?_ (nomark _)
         ·refine EV.o ?_
          exact ev_v 6
         ·refine EV.o ?_
          exact zla
        ·refine zaf ?_
         refine zar ?_
         refine za9 ?_
         refine zaa ?_ ?_
         ·refine zah (ixP hu) ?_ ?_ (fun _ _=>rfl)
          ·refine EV.o ?_
           exact ev_v 3
          ·refine EV.o ?_
           exact zab
         ·refine zaa ?_ ?_
          ·refine zah (ixP hu) ?_ ?_ (fun _ _=>rfl)
           ·refine EV.o ?_
            exact ev_v 3
           ·refine EV.o ?_
            exact zab
          ·refine zaa ?_ ?_
           ·refine zah (ixP hu) ?_ ?_ (fun _ _=>rfl)
            ·refine EV.o ?_
             exact ev_v 3
            ·refine EV.o ?_
             exact zab
           ·refine zaa ?_ ?_
            ·refine zah (ixP hu) ?_ ?_ (fun _ _=>rfl)
             ·refine EV.o ?_
              exact ev_v 3
             ·refine EV.o ?_
              exact zab
            ·refine zaa ?_ ?_
             ·exact ev_v 5
             ·exact zag
        ·exact zaz
       ·refine zad ?_ ?_
        ·refine zce ?_ ?_ ?_
         ·refine zay (opEq hu) zbb ?_ ?_ (nomark _)
          ·refine EV.o ?_
           exact ev_v 6
          ·refine EV.o ?_
           exact zai
         ·refine zaf ?_
          refine zar ?_
          refine zak zdd (hr.mono (by decide)) rfl ?_
          refine zaa ?_ ?_
          ·exact ev_v 0
          ·refine zaa ?_ ?_
           ·exact ev_v 1
           ·refine zaa ?_ ?_
            ·exact ev_v 3
            ·exact zag
         ·exact zaz
        ·refine zaf ?_
         refine zar ?_
         refine zak zcr (hr.mono (by decide)) rfl ?_
         refine zaa ?_ ?_
         ·exact ev_v 0
         ·refine zaa ?_ ?_
          ·exact ev_v 1
          ·refine zaa ?_ ?_
           ·exact ev_v 6
           ·refine zaa ?_ ?_
            ·refine zah (ixP hu) ?_ ?_ (fun _ _=>rfl)
             ·refine EV.o ?_
              exact ev_v 3
             ·refine EV.o ?_
              exact zab
            ·exact zag
abbrev zft:Stmt:=top 22
theorem ziq:FnScope ["H","hour","state","bound","waits"] ["H","hour","state"] (zae zft):=⟨rfl,rfl,rfl,by decide +kernel,rfl,by decide +kernel,by decide +kernel⟩
theorem ziw {P:Program} {w:World} {K:PySem.W.Frag} {mg:Str->Option Value} {base:Heap} {f:Addr} {fd:FuncData} (T:Txt w K mg) (F:Fun K "by_wait" "by_wait" zft f fd) (hm:mg "by_wait"=some (.ref f)) (hb:Binds K fd ["H","hour","state"] []) (zcr:@PF ⟨w⟩ P w K mg base 3 "arrival" zcb):@PF ⟨w⟩ P w K mg base 4 "by_wait" zif :=
  letI:TW:=⟨w⟩
  zcq F ziq hm hb (g:=zia) fun cdv A outer s H E hr=>by
    have hu:=hr.units
    refine zad ?_ ?_
    ·refine zap 3 ziq.nd rfl (by first | exact Or.inl rfl | exact Or.inr rfl) ?_
     refine zah (ixP hu) ?_ ?_ (fun _ _=>rfl)
     ·refine EV.o ?_
      refine zah (ixP hu) ?_ ?_ (fun _ _=>rfl)
      ·refine EV.o ?_
       refine zah (ixP hu) ?_ ?_ (fun _ _=>rfl)
       ·refine EV.o ?_
        exact ev_v 0
       ·refine EV.o ?_
        exact zai
      ·refine EV.o ?_
       refine zah (ixP hu) ?_ ?_ (fun _ _=>rfl)
       ·refine EV.o ?_
        exact ev_v 2
       ·refine EV.o ?_
        exact zab
     ·refine EV.o ?_
      exact zab
    ·refine zad ?_ ?_
     ·refine zap 4 ziq.nd rfl (by first | exact Or.inl rfl | exact Or.inr rfl) ?_
      refine zal zcd ?_ ?_
      ·refine EV.o ?_
       refine zah (ixP hu) ?_ ?_ (fun _ _=>rfl)
       ·refine EV.o ?_
        exact ev_v 2
       ·refine EV.o ?_
        exact zab
      ·refine EV.o ?_
       exact zab
     ·refine zad ?_ ?_
      ·refine zce ?_ ?_ ?_
       ·refine zay (opEq hu) zbb ?_ ?_ (nomark _)
        ·refine EV.o ?_
         exact ev_v 4
        ·refine EV.o ?_
         refine zah (ixP hu) ?_ ?_ (fun _ _=>rfl)
         ·refine EV.o ?_
          exact ev_v 3
         ·refine EV.o ?_
          exact zab
       ·refine zaf ?_
        refine zar ?_
        refine zak zcr (hr.mono (by decide)) rfl ?_
        refine zaa ?_ ?_
        ·exact ev_v 0
        ·refine zaa ?_ ?_
         ·exact ev_v 1
         ·refine zaa ?_ ?_
          ·refine zah (ixP hu) ?_ ?_ (fun _ _=>rfl)
           ·refine EV.o ?_
            exact ev_v 3
           ·refine EV.o ?_
            exact zab
          ·refine zaa ?_ ?_
           ·refine zah (ixP hu) ?_ ?_ (fun _ _=>rfl)
            ·refine EV.o ?_
             exact ev_v 2
            ·refine EV.o ?_
             exact zab
           ·exact zag
       ·exact zaz
      ·refine zaf ?_
       refine zar ?_
       refine za9 ?_
       refine zaa ?_ ?_
       ·refine zah (ixP hu) ?_ ?_ (fun _ _=>rfl)
        ·refine EV.o ?_
         exact ev_v 2
        ·refine EV.o ?_
         exact zab
       ·refine zaa ?_ ?_
        ·refine zah (ixP hu) ?_ ?_ (fun _ _=>rfl)
         ·refine EV.o ?_
          exact ev_v 2
         ·refine EV.o ?_
          exact zab
        ·refine zaa ?_ ?_
         ·refine zah (ixP hu) ?_ ?_ (fun _ _=>rfl)
          ·refine EV.o ?_
           exact ev_v 2
          ·refine EV.o ?_
           exact zab
         ·refine zaa ?_ ?_
          ·exact ev_v 4
          ·refine zaa ?_ ?_
           ·exact zai
           ·exact zag
abbrev zg6:Stmt:=top 19
theorem zmf:FnScope ["H","hour","ways","state","sign","kind"] ["H","hour","ways","state","sign"] (zae zg6):=⟨rfl,rfl,rfl,by decide +kernel,rfl,by decide +kernel,by decide +kernel⟩
theorem zgs {P:Program} {w:World} {K:PySem.W.Frag} {mg:Str->Option Value} {base:Heap} {f:Addr} {fd:FuncData} (T:Txt w K mg) (F:Fun K "follow" "follow" zg6 f fd) (hm:mg "follow"=some (.ref f)) (hb:Binds K fd ["H","hour","ways","state","sign"] []) (ziw:@PF ⟨w⟩ P w K mg base 4 "by_wait" zif) (zj0:@PF ⟨w⟩ P w K mg base 5 "by_key" zeg):@PF ⟨w⟩ P w K mg base 6 "follow" zc0 :=
  letI:TW:=⟨w⟩
  zcq F zmf hm hb (g:=zfb) fun cdv A outer s H E hr=>by
    have hu:=hr.units
    refine zad ?_ ?_
    ·refine zap 5 zmf.nd rfl (by first | exact Or.inl rfl | exact Or.inr rfl) ?_
     refine zah (ixP hu) ?_ ?_ (fun _ _=>rfl)
     ·refine EV.o ?_
      refine zah (ixP hu) ?_ ?_ (fun _ _=>rfl)
      ·refine EV.o ?_
       refine zah (ixP hu) ?_ ?_ (fun _ _=>rfl)
       ·refine EV.o ?_
        exact ev_v 0
       ·refine EV.o ?_
        exact zai
      ·refine EV.o ?_
       refine zah (ixP hu) ?_ ?_ (fun _ _=>rfl)
       ·refine EV.o ?_
        exact ev_v 3
       ·refine EV.o ?_
        exact zab
     ·refine EV.o ?_
      exact zab
    ·refine zad ?_ ?_
     ·refine zce ?_ ?_ ?_
      ·refine EW.et ?_
       refine zuh ?_ ?_
       ·refine zay (opEq hu) zbb ?_ ?_ (nomark _)
        ·refine EV.o ?_
         exact ev_v 5
        ·refine EV.o ?_
         exact zai
       ·refine zr8 ?_
        refine zay (opEq hu) zbb ?_ ?_ (nomark _)
        ·refine EV.o ?_
         exact ev_v 5
        ·refine EV.o ?_
         exact zai
      ·refine zaf ?_
       refine zar ?_
       exact ev_v 3
      ·exact zaz
     ·refine zad ?_ ?_
      ·refine zce ?_ ?_ ?_
       ·refine zay (opEq hu) zbb ?_ ?_ (nomark _)
        ·refine EV.o ?_
         exact ev_v 4
        ·refine EV.o ?_
         exact zr9 rfl T.c_WAIT
       ·refine zaf ?_
        refine zar ?_
        refine zak ziw (hr.mono (by decide)) rfl ?_
        refine zaa ?_ ?_
        ·exact ev_v 0
        ·refine zaa ?_ ?_
         ·exact ev_v 1
         ·refine zaa ?_ ?_
          ·exact ev_v 3
          ·exact zag
       ·exact zaz
      ·refine zaf ?_
       refine zar ?_
       refine zak zj0 (hr.mono (by decide)) rfl ?_
       refine zaa ?_ ?_
       ·exact ev_v 0
       ·refine zaa ?_ ?_
        ·exact ev_v 1
        ·refine zaa ?_ ?_
         ·exact ev_v 2
         ·refine zaa ?_ ?_
          ·exact ev_v 3
          ·refine zaa ?_ ?_
           ·exact ev_v 4
           ·exact zag
abbrev zc5:Stmt:=top 18
theorem zdc:FnScope ["letters","names","ways","word","beginning","size"] ["letters","names"] (zae zc5):=⟨rfl,rfl,rfl,by decide +kernel,rfl,by decide +kernel,by decide +kernel⟩
theorem zf6 {P:Program} {w:World} {K:PySem.W.Frag} {mg:Str->Option Value} {base:Heap} {f:Addr} {fd:FuncData} (T:Txt w K mg) (F:Fun K "names_ways" "names_ways" zc5 f fd) (hm:mg "names_ways"=some (.ref f)) (hb:Binds K fd ["letters","names"] []) (zf8:@PF ⟨w⟩ P w K mg base 3 "beginnings" zea):@PF ⟨w⟩ P w K mg base 4 "names_ways" zfc :=
  letI:TW:=⟨w⟩
  zcq F zdc hm hb (g:=zgx) fun cdv A outer s H E hr=>by
    have hu:=hr.units
    refine zad ?_ ?_
    ·refine ze7 2 zdc.nd rfl (by first | exact Or.inl rfl | exact Or.inr rfl) ?_
     exact zi4
    ·refine zad ?_ ?_
     ·refine zcf PassesOwn.never rfl ?_ ?_ ?_
      ·refine ze2 ?_
       refine zak zf8 (hr.mono (by decide)) rfl ?_
       refine zaa ?_ ?_
       ·exact ev_v 0
       ·refine zaa ?_ ?_
        ·refine EN.v ?_
         refine zxg cListA rfl T.n_list rfl ?_
         refine EV.o ?_
         exact ev_v 1
        ·exact zag
      ·refine zgn rfl ?_
       refine za1 ?_ ?_
       ·exact zat 3 zdc.nd rfl (by first | exact Or.inl rfl | exact Or.inr rfl)
       ·refine za1 ?_ ?_
        ·exact zat 4 zdc.nd rfl (by first | exact Or.inl rfl | exact Or.inr rfl)
        ·exact zew
      ·refine zad ?_ ?_
       ·refine zcf PassesOwn.never rfl ?_ ?_ ?_
        ·refine zkg rfl T.n_range ?_ ?_
         ·exact zab
         ·refine zig cLen rfl T.n_len rfl ?_
          refine EV.o ?_
          exact ev_v 4
        ·exact zat 5 zdc.nd rfl (by first | exact Or.inl rfl | exact Or.inr rfl)
        ·refine zaf ?_
         refine zfo 2 hu ?_ ?_
         ·refine zcl ?_ ?_ ?_
          ·refine EV.o ?_
           exact ev_v 4
          ·exact zb3
          ·refine zbo ?_
           exact ev_v 5
         ·exact zla
       ·refine zaf ?_
        refine zfo 2 hu ?_ ?_
        ·exact ev_v 4
        ·refine zah (ixP hu) ?_ ?_ (fun _ _=>rfl)
         ·refine EV.o ?_
          exact ev_v 1
         ·refine EV.o ?_
          exact ev_v 3
     ·refine zaf ?_
      refine SV.frz 2 ?_
      refine zar ?_
      exact ev_v 2
abbrev zdo:Stmt:=top 17
theorem zja:FnScope ["H","name","room"] ["H","name"] (zae zdo):=⟨rfl,rfl,rfl,by decide +kernel,rfl,by decide +kernel,by decide +kernel⟩
theorem zd6 {P:Program} {w:World} {K:PySem.W.Frag} {mg:Str->Option Value} {base:Heap} {f:Addr} {fd:FuncData} (T:Txt w K mg) (F:Fun K "room_ways" "room_ways" zdo f fd) (hm:mg "room_ways"=some (.ref f)) (hb:Binds K fd ["H","name"] []) (zf6:@PF ⟨w⟩ P w K mg base 4 "names_ways" zfc):@PF ⟨w⟩ P w K mg base 5 "room_ways" za3 :=
  letI:TW:=⟨w⟩
  zcq F zja hm hb (g:=zdu) fun cdv A outer s H E hr=>by
    have hu:=hr.units
    refine zad ?_ ?_
    ·refine zap 2 zja.nd rfl (by first | exact Or.inl rfl | exact Or.inr rfl) ?_
     refine zah (ixP hu) ?_ ?_ (fun _ _=>rfl)
     ·refine EV.o ?_
      refine zah (ixP hu) ?_ ?_ (fun _ _=>rfl)
      ·refine EV.o ?_
       exact ev_v 0
      ·refine EV.o ?_
       exact zai
     ·refine EV.o ?_
      exact ev_v 1
    ·refine zad ?_ ?_
     ·refine zce ?_ ?_ ?_
      ·refine zay (opEq hu) zbb ?_ ?_ (nomark _)
       ·refine EV.o ?_
        refine zah (ixP hu) ?_ ?_ (fun _ _=>rfl)
        ·refine EV.o ?_
         exact ev_v 2
        ·refine EV.o ?_
         exact zab
       ·refine EV.o ?_
        exact zai
      ·refine zaf ?_
       refine zar ?_
       refine EN.v ?_
       refine zxg zvm rfl T.n_dict rfl ?_
       refine EV.o ?_
       refine zah (ixP hu) ?_ ?_ (fun _ _=>rfl)
       ·refine EV.o ?_
        exact ev_v 2
       ·refine EV.o ?_
        exact zab
      ·exact zaz
     ·refine zad ?_ ?_
      ·refine zce ?_ ?_ ?_
       ·refine zay (opEq hu) zbb ?_ ?_ (nomark _)
        ·refine EV.o ?_
         refine zah (ixP hu) ?_ ?_ (fun _ _=>rfl)
         ·refine EV.o ?_
          exact ev_v 2
         ·refine EV.o ?_
          exact zab
        ·refine EV.o ?_
         exact zai
       ·refine zaf ?_
        refine zar ?_
        refine zak zf6 (hr.mono (by decide)) rfl ?_
        refine zaa ?_ ?_
        ·refine zah (ixP hu) ?_ ?_ (fun _ _=>rfl)
         ·refine EV.o ?_
          exact ev_v 0
         ·refine EV.o ?_
          exact zai
        ·refine zaa ?_ ?_
         ·refine EN.v ?_
          refine zxg zvm rfl T.n_dict rfl ?_
          refine EV.o ?_
          refine zah (ixP hu) ?_ ?_ (fun _ _=>rfl)
          ·refine EV.o ?_
           exact ev_v 2
          ·refine EV.o ?_
           exact zab
         ·exact zag
       ·exact zaz
      ·refine zaf ?_
       refine zar ?_
       refine EN.v ?_
       exact zi4
abbrev zkx:Stmt:=top 15
theorem zv4:FnScope ["H","hour","state","sign"] ["H","hour","state","sign"] (zae zkx):=⟨rfl,rfl,rfl,by decide +kernel,rfl,by decide +kernel,by decide +kernel⟩
theorem znh {P:Program} {w:World} {K:PySem.W.Frag} {mg:Str->Option Value} {base:Heap} {f:Addr} {fd:FuncData} (T:Txt w K mg) (F:Fun K "step" "step" zkx f fd) (hm:mg "step"=some (.ref f)) (hb:Binds K fd ["H","hour","state","sign"] []) (zgs:@PF ⟨w⟩ P w K mg base 6 "follow" zc0) (zd6:@PF ⟨w⟩ P w K mg base 5 "room_ways" za3):@PF ⟨w⟩ P w K mg base 7 "step" zo1 :=
  letI:TW:=⟨w⟩
  zcq F zv4 hm hb (g:=zrv) fun cdv A outer s H E hr=>by
    have hu:=hr.units
    refine zaf ?_
    refine zar ?_
    refine zak zgs (hr.mono (by decide)) rfl ?_
    refine zaa ?_ ?_
    ·exact ev_v 0
    ·refine zaa ?_ ?_
     ·exact ev_v 1
     ·refine zaa ?_ ?_
      ·refine zak zd6 (hr.mono (by decide)) rfl ?_
       refine zaa ?_ ?_
       ·exact ev_v 0
       ·refine zaa ?_ ?_
        ·refine zah (ixP hu) ?_ ?_ (fun _ _=>rfl)
         ·refine EV.o ?_
          exact ev_v 2
         ·refine EV.o ?_
          exact zab
        ·exact zag
      ·refine zaa ?_ ?_
       ·exact ev_v 2
       ·refine zaa ?_ ?_
        ·exact ev_v 3
        ·exact zag
abbrev zc6:Stmt:=top 16
theorem zf4:FnScope ["H","ways","name"] ["H"] (zae zc6):=⟨rfl,rfl,rfl,by decide +kernel,rfl,by decide +kernel,by decide +kernel⟩
theorem zf7 {P:Program} {w:World} {K:PySem.W.Frag} {mg:Str->Option Value} {base:Heap} {f:Addr} {fd:FuncData} (T:Txt w K mg) (F:Fun K "house_ways" "house_ways" zc6 f fd) (hm:mg "house_ways"=some (.ref f)) (hb:Binds K fd ["H"] []) (zd6:@PF ⟨w⟩ P w K mg base 5 "room_ways" za3):@PF ⟨w⟩ P w K mg base 6 "house_ways" zc9 :=
  letI:TW:=⟨w⟩
  zcq F zf4 hm hb (g:=zgy) fun cdv A outer s H E hr=>by
    have hu:=hr.units
    refine zad ?_ ?_
    ·refine ze7 1 zf4.nd rfl (by first | exact Or.inl rfl | exact Or.inr rfl) ?_
     exact zi4
    ·refine zad ?_ ?_
     ·refine zcf PassesOwn.never rfl ?_ ?_ ?_
      ·refine ze2 ?_
       refine zah (ixP hu) ?_ ?_ (fun _ _=>rfl)
       ·refine EV.o ?_
        exact ev_v 0
       ·refine EV.o ?_
        exact zai
      ·exact zat 2 zf4.nd rfl (by first | exact Or.inl rfl | exact Or.inr rfl)
      ·refine zaf ?_
       refine zfo 1 hu ?_ ?_
       ·exact ev_v 2
       ·refine zak zd6 (hr.mono (by decide)) rfl ?_
        refine zaa ?_ ?_
        ·exact ev_v 0
        ·refine zaa ?_ ?_
         ·exact ev_v 2
         ·exact zag
     ·refine zaf ?_
      refine SV.frz 1 ?_
      refine zar ?_
      exact ev_v 1
abbrev zfr:Stmt:=top 24
theorem zg3:FnScope ["H","hour","state","row","ways","states","sign"] ["H","hour","state","row"] (zae zfr):=⟨rfl,rfl,rfl,by decide +kernel,rfl,by decide +kernel,by decide +kernel⟩
theorem zit {P:Program} {w:World} {K:PySem.W.Frag} {mg:Str->Option Value} {base:Heap} {f:Addr} {fd:FuncData} (T:Txt w K mg) (F:Fun K "walk_on" "walk_on" zfr f fd) (hm:mg "walk_on"=some (.ref f)) (hb:Binds K fd ["H","hour","state","row"] []) (zf7:@PF ⟨w⟩ P w K mg base 6 "house_ways" zc9) (zgs:@PF ⟨w⟩ P w K mg base 6 "follow" zc0):@PFN ⟨w⟩ P w K mg base 7 "walk_on" zid :=
  letI:TW:=⟨w⟩
  zwn F zg3 hm hb (g:=zj9) fun cdv A outer s H E hr=>by
    have hu:=hr.units
    refine zle (zqq _ _) ?_ ?_
    ·refine zap 4 zg3.nd rfl (by first | exact Or.inl rfl | exact Or.inr rfl) ?_
     refine zak zf7 (hr.mono (by decide)) rfl ?_
     refine zaa ?_ ?_
     ·exact ev_v 0
     ·exact zag
    ·refine zle (zq3 _ _) ?_ ?_
     ·refine ze7 5 zg3.nd rfl (by first | exact Or.inl rfl | exact Or.inr rfl) ?_
      refine zdk ?_
      refine zaa ?_ ?_
      ·exact ev_v 2
      ·exact zag
     ·refine zle (zr0 (zsw _ _)) ?_ ?_
      ·refine zcf PassesOwn.never rfl ?_ ?_ ?_
       ·refine ze2 ?_
        exact ev_v 3
       ·exact zat 6 zg3.nd rfl (by first | exact Or.inl rfl | exact Or.inr rfl)
       ·refine zaf ?_
        refine zcw 5 rfl (by first | exact Or.inl rfl | exact Or.inr (Or.inl rfl)) ?_
        refine zak zgs (hr.mono (by decide)) rfl ?_
        refine zaa ?_ ?_
        ·exact ev_v 0
        ·refine zaa ?_ ?_
         ·exact ev_v 1
         ·refine zaa ?_ ?_
          ·refine zah (ixP hu) ?_ ?_ (fun _ _=>rfl)
           ·refine EV.o ?_
            exact ev_v 4
           ·refine EV.o ?_
            refine zah (ixP hu) ?_ ?_ (fun _ _=>rfl)
            ·refine EV.o ?_
             refine zah (ixP hu) ?_ ?_ (fun _ _=>rfl)
             ·exact eo_v 5
             ·refine EV.o ?_
              refine zvh ?_
              exact zab
            ·refine EV.o ?_
             exact zab
          ·refine zaa ?_ ?_
           ·refine zah (ixP hu) ?_ ?_ (fun _ _=>rfl)
            ·exact eo_v 5
            ·refine EV.o ?_
             refine zvh ?_
             exact zab
           ·refine zaa ?_ ?_
            ·exact ev_v 6
            ·exact zag
      ·exact ztd 5
abbrev zkw:Stmt:=top 23
theorem zv3:FnScope ["H","hour","row"] ["H","hour","row"] (zae zkw):=⟨rfl,rfl,rfl,by decide +kernel,rfl,by decide +kernel,by decide +kernel⟩
theorem zlo {P:Program} {w:World} {K:PySem.W.Frag} {mg:Str->Option Value} {base:Heap} {f:Addr} {fd:FuncData} (T:Txt w K mg) (F:Fun K "walk" "walk" zkw f fd) (hm:mg "walk"=some (.ref f)) (hb:Binds K fd ["H","hour","row"] []) (zit:@PFN ⟨w⟩ P w K mg base 7 "walk_on" zid) (zh2:@PF ⟨w⟩ P w K mg base 4 "begin" zhu):@PFN ⟨w⟩ P w K mg base 8 "walk" zmz :=
  letI:TW:=⟨w⟩
  zy5 F zv3 hm hb rfl fun cdv A outer s H E hr=>by
    have hu:=hr.units
    refine znw zit (hr.mono (by decide)) rfl ?_
    refine zaa ?_ ?_
    ·exact ev_v 0
    ·refine zaa ?_ ?_
     ·exact ev_v 1
     ·refine zaa ?_ ?_
      ·refine zak zh2 (hr.mono (by decide)) rfl ?_
       refine zaa ?_ ?_
       ·exact ev_v 0
       ·refine zaa ?_ ?_
        ·exact ev_v 1
        ·exact zag
      ·refine zaa ?_ ?_
       ·exact ev_v 2
       ·exact zag
abbrev zir:Stmt:=top 25
theorem zoc:FnScope ["H","state","room"] ["H","state"] (zae zir):=⟨rfl,rfl,rfl,by decide +kernel,rfl,by decide +kernel,by decide +kernel⟩
theorem zlp {P:Program} {w:World} {K:PySem.W.Frag} {mg:Str->Option Value} {base:Heap} {f:Addr} {fd:FuncData} (T:Txt w K mg) (F:Fun K "heard" "heard" zir f fd) (hm:mg "heard"=some (.ref f)) (hb:Binds K fd ["H","state"] []):@PF ⟨w⟩ P w K mg base 1 "heard" zl1 :=
  letI:TW:=⟨w⟩
  zcq F zoc hm hb (g:=zi3) fun cdv A outer s H E hr=>by
    have hu:=hr.units
    refine zad ?_ ?_
    ·refine zap 2 zoc.nd rfl (by first | exact Or.inl rfl | exact Or.inr rfl) ?_
     refine zah (ixP hu) ?_ ?_ (fun _ _=>rfl)
     ·refine EV.o ?_
      refine zah (ixP hu) ?_ ?_ (fun _ _=>rfl)
      ·refine EV.o ?_
       exact ev_v 0
      ·refine EV.o ?_
       exact zai
     ·refine EV.o ?_
      refine zah (ixP hu) ?_ ?_ (fun _ _=>rfl)
      ·refine EV.o ?_
       exact ev_v 1
      ·refine EV.o ?_
       exact zab
    ·refine zaf ?_
     refine zar ?_
     refine za9 ?_
     refine zaa ?_ ?_
     ·refine zah (ixP hu) ?_ ?_ (fun _ _=>rfl)
      ·refine EV.o ?_
       exact zr9 rfl T.c_HEARD
      ·refine EV.o ?_
       refine zah (ixP hu) ?_ ?_ (fun _ _=>rfl)
       ·refine EV.o ?_
        exact ev_v 2
       ·refine EV.o ?_
        exact zab
     ·refine zaa ?_ ?_
      ·refine zah (ixP hu) ?_ ?_ (fun _ _=>rfl)
       ·refine EV.o ?_
        exact ev_v 2
       ·refine EV.o ?_
        exact zab
      ·exact zag
abbrev zcp:Stmt:=top 27
theorem zkm:FnScope ["_law_script","_law_k"] ["_law_script","_law_k"] (zae zcp):=⟨rfl,rfl,rfl,by decide +kernel,rfl,by decide +kernel,by decide +kernel⟩
theorem zav {P:Program} {w:World} {K:PySem.W.Frag} {mg:Str->Option Value} {base:Heap} {f:Addr} {fd:FuncData} (T:Txt w K mg) (F:Fun K "_law_cell_at" "_law_cell_at" zcp f fd) (hm:mg "_law_cell_at"=some (.ref f)) (hb:Binds K fd ["_law_script","_law_k"] []):@PF ⟨w⟩ P w K mg base 1 "_law_cell_at" zan :=
  letI:TW:=⟨w⟩
  zcq F zkm hm hb (g:=zee) fun cdv A outer s H E hr=>by
    have hu:=hr.units
    refine zad ?_ ?_
    ·refine zce ?_ ?_ ?_
     ·refine zay opLt zly ?_ ?_ (nomark _)
      ·refine EV.o ?_
       exact ev_v 1
      ·refine EV.o ?_
       refine zig cLen rfl T.n_len rfl ?_
       refine EV.o ?_
       exact ev_v 0
     ·refine zaf ?_
      refine zar ?_
      refine zah (ixP hu) ?_ ?_ (fun _ _=>rfl)
      ·refine EV.o ?_
       exact ev_v 0
      ·refine EV.o ?_
       exact ev_v 1
     ·exact zaz
    ·refine zaf ?_
     refine zar ?_
     exact zab
abbrev zcn:Stmt:=top 28
theorem zbk:FnScope ["_law_cell","_law_many_here","_law_found","_law_number","_law_k"] ["_law_cell","_law_many_here"] (zae zcn):=⟨rfl,rfl,rfl,by decide +kernel,rfl,by decide +kernel,by decide +kernel⟩
theorem zbc {P:Program} {w:World} {K:PySem.W.Frag} {mg:Str->Option Value} {base:Heap} {f:Addr} {fd:FuncData} (T:Txt w K mg) (F:Fun K "_law_numbers" "_law_numbers" zcn f fd) (hm:mg "_law_numbers"=some (.ref f)) (hb:Binds K fd ["_law_cell","_law_many_here"] []):@PF ⟨w⟩ P w K mg base 1 "_law_numbers" zax :=
  letI:TW:=⟨w⟩
  zcq F zbk hm hb (g:=zed) fun cdv A outer s H E hr=>by
    have hu:=hr.units
    refine zad ?_ ?_
    ·refine ze7 2 zbk.nd rfl (by first | exact Or.inl rfl | exact Or.inr rfl) ?_
     refine zdk ?_
     exact zag
    ·refine zad ?_ ?_
     ·refine zap 3 zbk.nd rfl (by first | exact Or.inl rfl | exact Or.inr rfl) ?_
      refine zal zj3 ?_ ?_
      ·refine EV.o ?_
       exact ev_v 0
      ·refine EV.o ?_
       exact zab
     ·refine zad ?_ ?_
      ·refine zce ?_ ?_ ?_
       ·refine zay (opEq hu) zbb ?_ ?_ (nomark _)
        ·refine EV.o ?_
         refine zal zck ?_ ?_
         ·refine EV.o ?_
          exact ev_v 0
         ·refine EV.o ?_
          exact zab
        ·refine EV.o ?_
         exact zab
       ·refine zad ?_ ?_
        ·refine zcf PassesOwn.never rfl ?_ ?_ ?_
         ·refine zfy rfl T.n_range ?_
          exact ev_v 1
         ·exact zat 4 zbk.nd rfl (by first | exact Or.inl rfl | exact Or.inr rfl)
         ·refine zad ?_ ?_
          ·refine zcw 2 rfl (by first | exact Or.inl rfl | exact Or.inr (Or.inl rfl)) ?_
           refine zal zck ?_ ?_
           ·refine EV.o ?_
            exact ev_v 3
           ·refine EV.o ?_
            exact zab
          ·refine zaf ?_
           refine zap 3 zbk.nd rfl (by first | exact Or.inl rfl | exact Or.inr rfl) ?_
           refine zal zj3 ?_ ?_
           ·refine EV.o ?_
            exact ev_v 3
           ·refine EV.o ?_
            exact zab
        ·refine zaf ?_
         refine SV.frz 2 ?_
         refine zar ?_
         exact ev_v 2
       ·exact zaz
      ·refine zad ?_ ?_
       ·refine zap 3 zbk.nd rfl (by first | exact Or.inl rfl | exact Or.inr rfl) ?_
        refine zal zck ?_ ?_
        ·refine EV.o ?_
         exact ev_v 3
        ·refine EV.o ?_
         exact zab
       ·refine zad ?_ ?_
        ·refine zcf PassesOwn.never rfl ?_ ?_ ?_
         ·refine zfy rfl T.n_range ?_
          refine zal zcd ?_ ?_
          ·refine EV.o ?_
           exact ev_v 1
          ·refine EV.o ?_
           exact zab
         ·exact zat 4 zbk.nd rfl (by first | exact Or.inl rfl | exact Or.inr rfl)
         ·refine zad ?_ ?_
          ·refine zap 3 zbk.nd rfl (by first | exact Or.inl rfl | exact Or.inr rfl) ?_
           refine zal zck ?_ ?_
           ·refine EV.o ?_
            refine zal zmo ?_ ?_
            ·refine EV.o ?_
             refine zal zcd ?_ ?_
             ·refine EV.o ?_
              refine zal zcd ?_ ?_
              ·refine EV.o ?_
               exact ev_v 3
              ·refine EV.o ?_
               exact ev_v 4
             ·refine EV.o ?_
              exact zab
            ·refine EV.o ?_
             exact zab
           ·refine EV.o ?_
            exact zab
          ·refine zaf ?_
           refine zcw 2 rfl (by first | exact Or.inl rfl | exact Or.inr (Or.inl rfl)) ?_
           refine zal zck ?_ ?_
           ·refine EV.o ?_
            refine zal zmo ?_ ?_
            ·refine EV.o ?_
             exact ev_v 3
            ·refine EV.o ?_
             exact zab
           ·refine EV.o ?_
            exact zab
        ·refine zaf ?_
         refine zar ?_
         refine zd2 ?_ ?_ ?_
         ·exact eo_v 2
         ·refine zbo ?_
          exact zab
         ·exact zb3
abbrev zdr:Stmt:=top 29
theorem zbl:FnScope ["_law_cell","_law_letters_here","_law_some","_law_size","_law_at","_law_names_here","_law_turn","_law_name","_law_k"] ["_law_cell"] (zae zdr):=⟨rfl,rfl,rfl,by decide +kernel,rfl,by decide +kernel,by decide +kernel⟩
theorem zgr {P:Program} {w:World} {K:PySem.W.Frag} {mg:Str->Option Value} {base:Heap} {f:Addr} {fd:FuncData} (T:Txt w K mg) (F:Fun K "_law_names" "_law_names" zdr f fd) (hm:mg "_law_names"=some (.ref f)) (hb:Binds K fd ["_law_cell"] []) (zbc:@PF ⟨w⟩ P w K mg base 1 "_law_numbers" zax):@PF ⟨w⟩ P w K mg base 2 "_law_names" zge :=
  letI:TW:=⟨w⟩
  zcq F zbl hm hb (g:=zhp) fun cdv A outer s H E hr=>by
    have hu:=hr.units
    refine zad ?_ ?_
    ·refine zap 1 zbl.nd rfl (by first | exact Or.inl rfl | exact Or.inr rfl) ?_
     exact zai
    ·refine zad ?_ ?_
     ·refine zap 2 zbl.nd rfl (by first | exact Or.inl rfl | exact Or.inr rfl) ?_
      refine zak zbc (hr.mono (by decide)) rfl ?_
      refine zaa ?_ ?_
      ·exact ev_v 0
      ·refine zaa ?_ ?_
       ·exact zab
       ·exact zag
     ·refine zad ?_ ?_
      ·refine zap 3 zbl.nd rfl (by first | exact Or.inl rfl | exact Or.inr rfl) ?_
       refine zal zcd ?_ ?_
       ·refine EV.o ?_
        exact zab
       ·refine EV.o ?_
        refine zal zck ?_ ?_
        ·refine EV.o ?_
         refine zah (ixP hu) ?_ ?_ (fun _ _=>rfl)
         ·refine EV.o ?_
          exact ev_v 2
         ·refine EV.o ?_
          exact zab
        ·refine EV.o ?_
         exact zab
      ·refine zad ?_ ?_
       ·refine zap 4 zbl.nd rfl (by first | exact Or.inl rfl | exact Or.inr rfl) ?_
        refine zal zck ?_ ?_
        ·refine EV.o ?_
         refine zah (ixP hu) ?_ ?_ (fun _ _=>rfl)
         ·refine EV.o ?_
          exact ev_v 2
         ·refine EV.o ?_
          exact zab
        ·refine EV.o ?_
         exact ev_v 3
       ·refine zad ?_ ?_
        ·refine ze7 5 zbl.nd rfl (by first | exact Or.inl rfl | exact Or.inr rfl) ?_
         refine zdk ?_
         exact zag
        ·refine zad ?_ ?_
         ·refine zcf PassesOwn.never rfl ?_ ?_ ?_
          ·refine zfy rfl T.n_range ?_
           exact zab
          ·exact zat 6 zbl.nd rfl (by first | exact Or.inl rfl | exact Or.inr rfl)
          ·refine zad ?_ ?_
           ·refine zap 7 zbl.nd rfl (by first | exact Or.inl rfl | exact Or.inr rfl) ?_
            exact zai
           ·refine zad ?_ ?_
            ·refine zcf PassesOwn.never rfl ?_ ?_ ?_
             ·refine zfy rfl T.n_range ?_
              exact ev_v 3
             ·exact zat 8 zbl.nd rfl (by first | exact Or.inl rfl | exact Or.inr rfl)
             ·refine zaf ?_
              refine zap 7 zbl.nd rfl (by first | exact Or.inl rfl | exact Or.inr rfl) ?_
              refine zal zcd ?_ ?_
              ·refine EV.o ?_
               exact ev_v 7
              ·refine EV.o ?_
               refine zah (ixP hu) ?_ ?_ (fun _ _=>rfl)
               ·refine EV.o ?_
                exact ev_v 1
               ·refine EV.o ?_
                refine zal zck ?_ ?_
                ·refine EV.o ?_
                 refine zal zcd ?_ ?_
                 ·refine EV.o ?_
                  refine zah (ixP hu) ?_ ?_ (fun _ _=>rfl)
                  ·refine EV.o ?_
                   exact ev_v 2
                  ·refine EV.o ?_
                   exact ev_v 8
                 ·refine EV.o ?_
                  refine zal zmo ?_ ?_
                  ·refine EV.o ?_
                   refine zal zmo ?_ ?_
                   ·refine EV.o ?_
                    exact zab
                   ·refine EV.o ?_
                    exact ev_v 6
                  ·refine EV.o ?_
                   refine zui cInt rfl T.n_int rfl ?_
                   refine EV.o ?_
                   refine zsa (opEq hu) ?_ ?_ (nomark _)
                   ·refine EV.o ?_
                    exact ev_v 8
                   ·refine EV.o ?_
                    exact ev_v 4
                ·refine EV.o ?_
                 exact zab
            ·refine zaf ?_
             refine zcw 5 rfl (by first | exact Or.inl rfl | exact Or.inr (Or.inl rfl)) ?_
             exact ev_v 7
         ·refine zaf ?_
          refine SV.frz 5 ?_
          refine zar ?_
          exact ev_v 5
abbrev zes:Stmt:=top 30
theorem zne:FnScope ["_law_number"] ["_law_number"] (zae zes):=⟨rfl,rfl,rfl,by decide +kernel,rfl,by decide +kernel,by decide +kernel⟩
theorem zc2 {P:Program} {w:World} {K:PySem.W.Frag} {mg:Str->Option Value} {base:Heap} {f:Addr} {fd:FuncData} (T:Txt w K mg) (F:Fun K "_law_many" "_law_many" zes f fd) (hm:mg "_law_many"=some (.ref f)) (hb:Binds K fd ["_law_number"] []):@PF ⟨w⟩ P w K mg base 1 "_law_many" zc8 :=
  letI:TW:=⟨w⟩
  zcq F zne hm hb (g:=zi1) fun cdv A outer s H E hr=>by
    have hu:=hr.units
    refine zaf ?_
    refine zar ?_
    refine zal zcd ?_ ?_
    ·refine EV.o ?_
     exact zab
    ·refine EV.o ?_
     refine zah (ixP hu) ?_ ?_ (fun _ _=>rfl)
     ·refine EN.o ?_
      refine zdk ?_
      refine zaa ?_ ?_
      ·refine zal zck ?_ ?_
       ·refine EV.o ?_
        refine zal zj3 ?_ ?_
        ·refine EV.o ?_
         exact ev_v 0
        ·refine EV.o ?_
         exact zab
       ·refine EV.o ?_
        exact zab
      ·refine zaa ?_ ?_
       ·refine zal zck ?_ ?_
        ·refine EV.o ?_
         refine zal zj3 ?_ ?_
         ·refine EV.o ?_
          exact ev_v 0
         ·refine EV.o ?_
          exact zab
        ·refine EV.o ?_
         exact zab
       ·refine zaa ?_ ?_
        ·refine zal zck ?_ ?_
         ·refine EV.o ?_
          refine zal zj3 ?_ ?_
          ·refine EV.o ?_
           exact ev_v 0
          ·refine EV.o ?_
           exact zab
         ·refine EV.o ?_
          exact zab
        ·refine zaa ?_ ?_
         ·refine zal zck ?_ ?_
          ·refine EV.o ?_
           refine zal zj3 ?_ ?_
           ·refine EV.o ?_
            exact ev_v 0
           ·refine EV.o ?_
            exact zab
          ·refine EV.o ?_
           exact zab
         ·exact zag
     ·refine EV.o ?_
      refine zal zck ?_ ?_
      ·refine EV.o ?_
       exact ev_v 0
      ·refine EV.o ?_
       exact zab
abbrev zer:Stmt:=top 31
theorem zdn:FnScope ["_law_names_here","_law_text","_law_cell","_law_some","_law_keys","_law_k","_law_key","_law_wrong_here"] ["_law_names_here","_law_text","_law_cell"] (zae zer):=⟨rfl,rfl,rfl,by decide +kernel,rfl,by decide +kernel,by decide +kernel⟩
theorem zhm {P:Program} {w:World} {K:PySem.W.Frag} {mg:Str->Option Value} {base:Heap} {f:Addr} {fd:FuncData} (T:Txt w K mg) (F:Fun K "_law_menu" "_law_menu" zer f fd) (hm:mg "_law_menu"=some (.ref f)) (hb:Binds K fd ["_law_names_here","_law_text","_law_cell"] []) (zbc:@PF ⟨w⟩ P w K mg base 1 "_law_numbers" zax) (zc2:@PF ⟨w⟩ P w K mg base 1 "_law_many" zc8):@PF ⟨w⟩ P w K mg base 2 "_law_menu" zha :=
  letI:TW:=⟨w⟩
  zcq F zdn hm hb (g:=zi0) fun cdv A outer s H E hr=>by
    have hu:=hr.units
    refine zad ?_ ?_
    ·refine zap 3 zdn.nd rfl (by first | exact Or.inl rfl | exact Or.inr rfl) ?_
     refine zak zbc (hr.mono (by decide)) rfl ?_
     refine zaa ?_ ?_
     ·exact ev_v 2
     ·refine zaa ?_ ?_
      ·exact zab
      ·exact zag
    ·refine zad ?_ ?_
     ·refine ze7 4 zdn.nd rfl (by first | exact Or.inl rfl | exact Or.inr rfl) ?_
      refine zdk ?_
      exact zag
     ·refine zad ?_ ?_
      ·refine zcf PassesOwn.never rfl ?_ ?_ ?_
       ·refine zse rfl T.n_enumerate ?_
        exact zai
       ·refine zgn rfl ?_
        refine za1 ?_ ?_
        ·exact zat 5 zdn.nd rfl (by first | exact Or.inl rfl | exact Or.inr rfl)
        ·refine za1 ?_ ?_
         ·exact zat 6 zdn.nd rfl (by first | exact Or.inl rfl | exact Or.inr rfl)
         ·exact zew
       ·refine zaf ?_
        refine zce ?_ ?_ ?_
        ·refine zay opGt zlz ?_ ?_ (nomark _)
         ·refine EV.o ?_
          refine zal zck ?_ ?_
          ·refine EV.o ?_
           refine zah (ixP hu) ?_ ?_ (fun _ _=>rfl)
           ·refine EV.o ?_
            exact ev_v 3
           ·refine EV.o ?_
            exact ev_v 5
          ·refine EV.o ?_
           exact zab
         ·refine EV.o ?_
          exact zab
        ·refine zaf ?_
         refine zcw 4 rfl (by first | exact Or.inl rfl | exact Or.inr (Or.inl rfl)) ?_
         refine za9 ?_
         refine zaa ?_ ?_
         ·exact ev_v 6
         ·refine zaa ?_ ?_
          ·refine zah (ixP hu) ?_ ?_ (fun _ _=>rfl)
           ·refine EV.o ?_
            refine zal zcd ?_ ?_
            ·refine EV.o ?_
             exact ev_v 0
            ·refine EN.o ?_
             refine zdk ?_
             refine zaa ?_ ?_
             ·exact zai
             ·refine zaa ?_ ?_
              ·exact zai
              ·exact zag
           ·refine EV.o ?_
            refine zal zck ?_ ?_
            ·refine EV.o ?_
             refine zah (ixP hu) ?_ ?_ (fun _ _=>rfl)
             ·refine EV.o ?_
              exact ev_v 3
             ·refine EV.o ?_
              refine zal zcd ?_ ?_
              ·refine EV.o ?_
               exact ev_v 5
              ·refine EV.o ?_
               exact zab
            ·refine EV.o ?_
             exact zab
          ·exact zag
        ·exact zaz
      ·refine zad ?_ ?_
       ·refine zap 7 zdn.nd rfl (by first | exact Or.inl rfl | exact Or.inr rfl) ?_
        refine za9 ?_
        refine zaa ?_ ?_
        ·refine zak zc2 (hr.mono (by decide)) rfl ?_
         refine zaa ?_ ?_
         ·refine zah (ixP hu) ?_ ?_ (fun _ _=>rfl)
          ·refine EV.o ?_
           exact ev_v 3
          ·refine EV.o ?_
           exact zab
         ·exact zag
        ·refine zaa ?_ ?_
         ·refine zah (ixP hu) ?_ ?_ (fun _ _=>rfl)
          ·refine EV.o ?_
           exact ev_v 0
          ·refine EV.o ?_
           refine zal zck ?_ ?_
           ·refine EV.o ?_
            refine zah (ixP hu) ?_ ?_ (fun _ _=>rfl)
            ·refine EV.o ?_
             exact ev_v 3
            ·refine EV.o ?_
             exact zab
           ·refine EV.o ?_
            exact zab
         ·exact zag
       ·refine zaf ?_
        refine zar ?_
        refine za9 ?_
        refine zaa ?_ ?_
        ·exact zai
        ·refine zaa ?_ ?_
         ·exact ev_v 1
         ·refine zaa ?_ ?_
          ·refine zui zst rfl T.n_tuple rfl ?_
           exact eo_v 4
          ·refine zaa ?_ ?_
           ·exact ev_v 7
           ·refine zaa ?_ ?_
            ·refine za9 ?_
             refine zaa ?_ ?_
             ·refine zak zc2 (hr.mono (by decide)) rfl ?_
              refine zaa ?_ ?_
              ·refine zah (ixP hu) ?_ ?_ (fun _ _=>rfl)
               ·refine EV.o ?_
                exact ev_v 3
               ·refine EV.o ?_
                exact zab
              ·exact zag
             ·refine zaa ?_ ?_
              ·refine zah (ixP hu) ?_ ?_ (fun _ _=>rfl)
               ·refine EV.o ?_
                exact ev_v 0
               ·refine EV.o ?_
                refine zal zck ?_ ?_
                ·refine EV.o ?_
                 refine zah (ixP hu) ?_ ?_ (fun _ _=>rfl)
                 ·refine EV.o ?_
                  exact ev_v 3
                 ·refine EV.o ?_
                  exact zab
                ·refine EV.o ?_
                 exact zab
              ·exact zag
            ·exact zag
abbrev zco:Stmt:=top 32
theorem zd0:FnScope ["_law_cell","_law_some"] ["_law_cell"] (zae zco):=⟨rfl,rfl,rfl,by decide +kernel,rfl,by decide +kernel,by decide +kernel⟩
theorem zfh {P:Program} {w:World} {K:PySem.W.Frag} {mg:Str->Option Value} {base:Heap} {f:Addr} {fd:FuncData} (T:Txt w K mg) (F:Fun K "_law_letters" "_law_letters" zco f fd) (hm:mg "_law_letters"=some (.ref f)) (hb:Binds K fd ["_law_cell"] []):@PF ⟨w⟩ P w K mg base 1 "_law_letters" zef :=
  letI:TW:=⟨w⟩
  zcq F zd0 hm hb (g:=zdg) fun cdv A outer s H E hr=>by
    have hu:=hr.units
    refine zad ?_ ?_
    ·refine zap 1 zd0.nd rfl (by first | exact Or.inl rfl | exact Or.inr rfl) ?_
     refine EN.v ?_
     refine zdk ?_
     refine zaa ?_ ?_
     ·refine za9 ?_
      refine zaa ?_ ?_
      ·exact zai
      ·refine zaa ?_ ?_
       ·exact zai
       ·exact zag
     ·refine zaa ?_ ?_
      ·refine za9 ?_
       refine zaa ?_ ?_
       ·exact zai
       ·refine zaa ?_ ?_
        ·exact zai
        ·exact zag
      ·refine zaa ?_ ?_
       ·refine za9 ?_
        refine zaa ?_ ?_
        ·exact zai
        ·refine zaa ?_ ?_
         ·exact zai
         ·exact zag
       ·refine zaa ?_ ?_
        ·refine za9 ?_
         refine zaa ?_ ?_
         ·exact zai
         ·refine zaa ?_ ?_
          ·exact zai
          ·exact zag
        ·refine zaa ?_ ?_
         ·refine za9 ?_
          refine zaa ?_ ?_
          ·exact zai
          ·refine zaa ?_ ?_
           ·exact zai
           ·exact zag
         ·refine zaa ?_ ?_
          ·refine za9 ?_
           refine zaa ?_ ?_
           ·exact zai
           ·refine zaa ?_ ?_
            ·exact zai
            ·exact zag
          ·refine zaa ?_ ?_
           ·refine za9 ?_
            refine zaa ?_ ?_
            ·exact zai
            ·refine zaa ?_ ?_
             ·exact zai
             ·exact zag
           ·exact zag
    ·refine zad ?_ ?_
     ·refine zce ?_ ?_ ?_
      ·refine zay (opEq hu) zbb ?_ ?_ (nomark _)
       ·refine EV.o ?_
        refine zal zck ?_ ?_
        ·refine EV.o ?_
         exact ev_v 0
        ·refine EV.o ?_
         exact zab
       ·refine EV.o ?_
        exact zab
      ·refine zaf ?_
       refine zap 1 zd0.nd rfl (by first | exact Or.inl rfl | exact Or.inr rfl) ?_
       refine EN.v ?_
       refine zdk ?_
       refine zaa ?_ ?_
       ·refine za9 ?_
        refine zaa ?_ ?_
        ·exact zai
        ·refine zaa ?_ ?_
         ·exact zai
         ·exact zag
       ·refine zaa ?_ ?_
        ·refine za9 ?_
         refine zaa ?_ ?_
         ·exact zai
         ·refine zaa ?_ ?_
          ·exact zai
          ·exact zag
        ·refine zaa ?_ ?_
         ·refine za9 ?_
          refine zaa ?_ ?_
          ·exact zai
          ·refine zaa ?_ ?_
           ·exact zai
           ·exact zag
         ·exact zag
      ·exact zaz
     ·refine zad ?_ ?_
      ·refine zce ?_ ?_ ?_
       ·refine zay (opEq hu) zbb ?_ ?_ (nomark _)
        ·refine EV.o ?_
         refine zal zck ?_ ?_
         ·refine EV.o ?_
          exact ev_v 0
         ·refine EV.o ?_
          exact zab
        ·refine EV.o ?_
         exact zab
       ·refine zaf ?_
        refine zap 1 zd0.nd rfl (by first | exact Or.inl rfl | exact Or.inr rfl) ?_
        refine EN.v ?_
        refine zdk ?_
        refine zaa ?_ ?_
        ·refine za9 ?_
         refine zaa ?_ ?_
         ·exact zai
         ·refine zaa ?_ ?_
          ·exact zai
          ·exact zag
        ·refine zaa ?_ ?_
         ·refine za9 ?_
          refine zaa ?_ ?_
          ·exact zai
          ·refine zaa ?_ ?_
           ·exact zai
           ·exact zag
         ·refine zaa ?_ ?_
          ·refine za9 ?_
           refine zaa ?_ ?_
           ·exact zai
           ·refine zaa ?_ ?_
            ·exact zai
            ·exact zag
          ·refine zaa ?_ ?_
           ·refine za9 ?_
            refine zaa ?_ ?_
            ·exact zai
            ·refine zaa ?_ ?_
             ·exact zai
             ·exact zag
           ·exact zag
       ·exact zaz
      ·refine zaf ?_
       refine zar ?_
       exact ev_v 1
abbrev zba:Stmt:=top 33
theorem za7:FnScope ["_law_names_here","_law_cell","_law_some","_law_words","_law_k","_law_word","_law_wrong_here"] ["_law_names_here","_law_cell"] (zae zba):=⟨rfl,rfl,rfl,by decide +kernel,rfl,by decide +kernel,by decide +kernel⟩
theorem zby {P:Program} {w:World} {K:PySem.W.Frag} {mg:Str->Option Value} {base:Heap} {f:Addr} {fd:FuncData} (T:Txt w K mg) (F:Fun K "_law_room_of_names" "_law_room_of_names" zba f fd) (hm:mg "_law_room_of_names"=some (.ref f)) (hb:Binds K fd ["_law_names_here","_law_cell"] []) (zbc:@PF ⟨w⟩ P w K mg base 1 "_law_numbers" zax) (zc2:@PF ⟨w⟩ P w K mg base 1 "_law_many" zc8):@PF ⟨w⟩ P w K mg base 2 "_law_room_of_names" zbr :=
  letI:TW:=⟨w⟩
  zcq F za7 hm hb (g:=zb5) fun cdv A outer s H E hr=>by
    have hu:=hr.units
    refine zad ?_ ?_
    ·refine zap 2 za7.nd rfl (by first | exact Or.inl rfl | exact Or.inr rfl) ?_
     refine zak zbc (hr.mono (by decide)) rfl ?_
     refine zaa ?_ ?_
     ·exact ev_v 1
     ·refine zaa ?_ ?_
      ·exact zab
      ·exact zag
    ·refine zad ?_ ?_
     ·refine ze7 3 za7.nd rfl (by first | exact Or.inl rfl | exact Or.inr rfl) ?_
      refine zdk ?_
      exact zag
     ·refine zad ?_ ?_
      ·refine zcf PassesOwn.never rfl ?_ ?_ ?_
       ·refine zse rfl T.n_enumerate ?_
        refine EN.v ?_
        refine zdk ?_
        refine zaa ?_ ?_
        ·exact zai
        ·refine zaa ?_ ?_
         ·exact zai
         ·refine zaa ?_ ?_
          ·exact zai
          ·refine zaa ?_ ?_
           ·exact zai
           ·refine zaa ?_ ?_
            ·exact zai
            ·refine zaa ?_ ?_
             ·exact zai
             ·refine zaa ?_ ?_
              ·exact zai
              ·refine zaa ?_ ?_
               ·exact zai
               ·exact zag
       ·refine zgn rfl ?_
        refine za1 ?_ ?_
        ·exact zat 4 za7.nd rfl (by first | exact Or.inl rfl | exact Or.inr rfl)
        ·refine za1 ?_ ?_
         ·exact zat 5 za7.nd rfl (by first | exact Or.inl rfl | exact Or.inr rfl)
         ·exact zew
       ·refine zaf ?_
        refine zce ?_ ?_ ?_
        ·refine EW.et ?_
         refine zk9 ?_ ?_
         ·refine zay (opEq hu) zbb ?_ ?_ (nomark _)
          ·refine EV.o ?_
           refine zal zck ?_ ?_
           ·refine EV.o ?_
            refine zah (ixP hu) ?_ ?_ (fun _ _=>rfl)
            ·refine EV.o ?_
             exact ev_v 2
            ·refine EV.o ?_
             exact ev_v 4
           ·refine EV.o ?_
            exact zab
          ·refine EV.o ?_
           exact zab
         ·refine zke ?_
          refine zay opLt zly ?_ ?_ (nomark _)
          ·refine EV.o ?_
           refine zig cLen rfl T.n_len rfl ?_
           exact eo_v 3
          ·refine EV.o ?_
           exact zab
        ·refine zaf ?_
         refine zcw 3 rfl (by first | exact Or.inl rfl | exact Or.inr (Or.inl rfl)) ?_
         refine za9 ?_
         refine zaa ?_ ?_
         ·exact ev_v 5
         ·refine zaa ?_ ?_
          ·refine zah (ixP hu) ?_ ?_ (fun _ _=>rfl)
           ·refine EV.o ?_
            exact ev_v 0
           ·refine EV.o ?_
            refine zal zck ?_ ?_
            ·refine EV.o ?_
             refine zal zj3 ?_ ?_
             ·refine EV.o ?_
              refine zah (ixP hu) ?_ ?_ (fun _ _=>rfl)
              ·refine EV.o ?_
               exact ev_v 2
              ·refine EV.o ?_
               exact ev_v 4
             ·refine EV.o ?_
              exact zab
            ·refine EV.o ?_
             exact zab
          ·exact zag
        ·exact zaz
      ·refine zad ?_ ?_
       ·refine zce ?_ ?_ ?_
        ·refine zay (opEq hu) zbb ?_ ?_ (nomark _)
         ·refine EV.o ?_
          refine zig cLen rfl T.n_len rfl ?_
          exact eo_v 3
         ·refine EV.o ?_
          exact zab
        ·refine zaf ?_
         refine zcw 3 rfl (by first | exact Or.inl rfl | exact Or.inr (Or.inl rfl)) ?_
         refine za9 ?_
         refine zaa ?_ ?_
         ·exact zai
         ·refine zaa ?_ ?_
          ·refine zah (ixP hu) ?_ ?_ (fun _ _=>rfl)
           ·refine EV.o ?_
            exact ev_v 0
           ·refine EV.o ?_
            exact zab
          ·exact zag
        ·exact zaz
       ·refine zad ?_ ?_
        ·refine zap 6 za7.nd rfl (by first | exact Or.inl rfl | exact Or.inr rfl) ?_
         refine za9 ?_
         refine zaa ?_ ?_
         ·refine zak zc2 (hr.mono (by decide)) rfl ?_
          refine zaa ?_ ?_
          ·refine zah (ixP hu) ?_ ?_ (fun _ _=>rfl)
           ·refine EV.o ?_
            exact ev_v 2
           ·refine EV.o ?_
            exact zab
          ·exact zag
         ·refine zaa ?_ ?_
          ·refine zah (ixP hu) ?_ ?_ (fun _ _=>rfl)
           ·refine EV.o ?_
            exact ev_v 0
           ·refine EV.o ?_
            refine zal zck ?_ ?_
            ·refine EV.o ?_
             refine zah (ixP hu) ?_ ?_ (fun _ _=>rfl)
             ·refine EV.o ?_
              exact ev_v 2
             ·refine EV.o ?_
              exact zab
            ·refine EV.o ?_
             exact zab
          ·exact zag
        ·refine zaf ?_
         refine zar ?_
         refine za9 ?_
         refine zaa ?_ ?_
         ·exact zai
         ·refine zaa ?_ ?_
          ·exact zai
          ·refine zaa ?_ ?_
           ·refine zui zst rfl T.n_tuple rfl ?_
            exact eo_v 3
           ·refine zaa ?_ ?_
            ·exact ev_v 6
            ·refine zaa ?_ ?_
             ·refine za9 ?_
              refine zaa ?_ ?_
              ·refine zak zc2 (hr.mono (by decide)) rfl ?_
               refine zaa ?_ ?_
               ·refine zah (ixP hu) ?_ ?_ (fun _ _=>rfl)
                ·refine EV.o ?_
                 exact ev_v 2
                ·refine EV.o ?_
                 exact zab
               ·exact zag
              ·refine zaa ?_ ?_
               ·refine zah (ixP hu) ?_ ?_ (fun _ _=>rfl)
                ·refine EV.o ?_
                 exact ev_v 0
                ·refine EV.o ?_
                 refine zal zck ?_ ?_
                 ·refine EV.o ?_
                  refine zah (ixP hu) ?_ ?_ (fun _ _=>rfl)
                  ·refine EV.o ?_
                   exact ev_v 2
                  ·refine EV.o ?_
                   exact zab
                 ·refine EV.o ?_
                  exact zab
               ·exact zag
             ·exact zag
abbrev zdt:Stmt:=top 34
theorem zd5:FnScope ["_law_targets","_law_cell","_law_some","_law_spans","_law_k","_law_low"] ["_law_targets","_law_cell"] (zae zdt):=⟨rfl,rfl,rfl,by decide +kernel,rfl,by decide +kernel,by decide +kernel⟩
theorem zd7 {P:Program} {w:World} {K:PySem.W.Frag} {mg:Str->Option Value} {base:Heap} {f:Addr} {fd:FuncData} (T:Txt w K mg) (F:Fun K "_law_hours" "_law_hours" zdt f fd) (hm:mg "_law_hours"=some (.ref f)) (hb:Binds K fd ["_law_targets","_law_cell"] []) (zbc:@PF ⟨w⟩ P w K mg base 1 "_law_numbers" zax):@PF ⟨w⟩ P w K mg base 2 "_law_hours" zb6 :=
  letI:TW:=⟨w⟩
  zcq F zd5 hm hb (g:=zhr) fun cdv A outer s H E hr=>by
    have hu:=hr.units
    refine zad ?_ ?_
    ·refine zap 2 zd5.nd rfl (by first | exact Or.inl rfl | exact Or.inr rfl) ?_
     refine zak zbc (hr.mono (by decide)) rfl ?_
     refine zaa ?_ ?_
     ·exact ev_v 1
     ·refine zaa ?_ ?_
      ·exact zab
      ·exact zag
    ·refine zad ?_ ?_
     ·refine ze7 3 zd5.nd rfl (by first | exact Or.inl rfl | exact Or.inr rfl) ?_
      refine zdk ?_
      exact zag
     ·refine zad ?_ ?_
      ·refine zcf PassesOwn.never rfl ?_ ?_ ?_
       ·refine zfy rfl T.n_range ?_
        refine zal zck ?_ ?_
        ·refine EV.o ?_
         refine zah (ixP hu) ?_ ?_ (fun _ _=>rfl)
         ·refine EV.o ?_
          exact ev_v 2
         ·refine EV.o ?_
          exact zab
        ·refine EV.o ?_
         exact zab
       ·exact zat 4 zd5.nd rfl (by first | exact Or.inl rfl | exact Or.inr rfl)
       ·refine zad ?_ ?_
        ·refine zap 5 zd5.nd rfl (by first | exact Or.inl rfl | exact Or.inr rfl) ?_
         refine zal zck ?_ ?_
         ·refine EV.o ?_
          refine zah (ixP hu) ?_ ?_ (fun _ _=>rfl)
          ·refine EV.o ?_
           exact ev_v 2
          ·refine EV.o ?_
           refine zal zcd ?_ ?_
           ·refine EV.o ?_
            refine zal zmo ?_ ?_
            ·refine EV.o ?_
             exact zab
            ·refine EV.o ?_
             exact ev_v 4
           ·refine EV.o ?_
            exact zab
         ·refine EV.o ?_
          exact zab
        ·refine zaf ?_
         refine zcw 3 rfl (by first | exact Or.inl rfl | exact Or.inr (Or.inl rfl)) ?_
         refine za9 ?_
         refine zaa ?_ ?_
         ·exact ev_v 5
         ·refine zaa ?_ ?_
          ·refine zal zcd ?_ ?_
           ·refine EV.o ?_
            refine zal zcd ?_ ?_
            ·refine EV.o ?_
             exact ev_v 5
            ·refine EV.o ?_
             exact zab
           ·refine EV.o ?_
            refine zal zck ?_ ?_
            ·refine EV.o ?_
             refine zah (ixP hu) ?_ ?_ (fun _ _=>rfl)
             ·refine EV.o ?_
              exact ev_v 2
             ·refine EV.o ?_
              refine zal zcd ?_ ?_
              ·refine EV.o ?_
               refine zal zmo ?_ ?_
               ·refine EV.o ?_
                exact zab
               ·refine EV.o ?_
                exact ev_v 4
              ·refine EV.o ?_
               exact zab
            ·refine EV.o ?_
             refine zal opSub ?_ ?_
             ·refine EV.o ?_
              exact zab
             ·refine EV.o ?_
              exact ev_v 5
          ·refine zaa ?_ ?_
           ·refine zah (ixP hu) ?_ ?_ (fun _ _=>rfl)
            ·refine EV.o ?_
             exact ev_v 0
            ·refine EV.o ?_
             refine zal zck ?_ ?_
             ·refine EV.o ?_
              refine zah (ixP hu) ?_ ?_ (fun _ _=>rfl)
              ·refine EV.o ?_
               exact ev_v 2
              ·refine EV.o ?_
               refine zal zcd ?_ ?_
               ·refine EV.o ?_
                refine zal zmo ?_ ?_
                ·refine EV.o ?_
                 exact zab
                ·refine EV.o ?_
                 exact ev_v 4
               ·refine EV.o ?_
                exact zab
             ·refine EV.o ?_
              refine zig cLen rfl T.n_len rfl ?_
              refine EV.o ?_
              exact ev_v 0
           ·exact zag
      ·refine zaf ?_
       refine zar ?_
       refine za9 ?_
       refine zaa ?_ ?_
       ·exact zai
       ·refine zaa ?_ ?_
        ·refine zui zst rfl T.n_tuple rfl ?_
         exact eo_v 3
        ·refine zaa ?_ ?_
         ·refine zah (ixP hu) ?_ ?_ (fun _ _=>rfl)
          ·refine EV.o ?_
           exact ev_v 0
          ·refine EV.o ?_
           refine zal zck ?_ ?_
           ·refine EV.o ?_
            refine zah (ixP hu) ?_ ?_ (fun _ _=>rfl)
            ·refine EV.o ?_
             exact ev_v 2
            ·refine EV.o ?_
             exact zab
           ·refine EV.o ?_
            refine zig cLen rfl T.n_len rfl ?_
            refine EV.o ?_
            exact ev_v 0
         ·exact zag
abbrev zds:Stmt:=top 35
theorem zd4:FnScope ["_law_cells","_law_names_here","_law_rooms","_law_k","_law_first"] ["_law_cells"] (zae zds):=⟨rfl,rfl,rfl,by decide +kernel,rfl,by decide +kernel,by decide +kernel⟩
theorem zfa {P:Program} {w:World} {K:PySem.W.Frag} {mg:Str->Option Value} {base:Heap} {f:Addr} {fd:FuncData} (T:Txt w K mg) (F:Fun K "_law_house" "_law_house" zds f fd) (hm:mg "_law_house"=some (.ref f)) (hb:Binds K fd ["_law_cells"] []) (zgr:@PF ⟨w⟩ P w K mg base 2 "_law_names" zge) (zav:@PF ⟨w⟩ P w K mg base 1 "_law_cell_at" zan) (zhm:@PF ⟨w⟩ P w K mg base 2 "_law_menu" zha) (zby:@PF ⟨w⟩ P w K mg base 2 "_law_room_of_names" zbr) (zd7:@PF ⟨w⟩ P w K mg base 2 "_law_hours" zb6) (zfh:@PF ⟨w⟩ P w K mg base 1 "_law_letters" zef):@PF ⟨w⟩ P w K mg base 3 "_law_house" ze1 :=
  letI:TW:=⟨w⟩
  zcq F zd4 hm hb (g:=zhq) fun cdv A outer s H E hr=>by
    have hu:=hr.units
    refine zad ?_ ?_
    ·refine zap 1 zd4.nd rfl (by first | exact Or.inl rfl | exact Or.inr rfl) ?_
     refine zak zgr (hr.mono (by decide)) rfl ?_
     refine zaa ?_ ?_
     ·refine zak zav (hr.mono (by decide)) rfl ?_
      refine zaa ?_ ?_
      ·exact ev_v 0
      ·refine zaa ?_ ?_
       ·exact zab
       ·exact zag
     ·exact zag
    ·refine zad ?_ ?_
     ·refine ze7 2 zd4.nd rfl (by first | exact Or.inl rfl | exact Or.inr rfl) ?_
      exact zi4
     ·refine zad ?_ ?_
      ·refine zcf PassesOwn.never rfl ?_ ?_ ?_
       ·refine zfy rfl T.n_range ?_
        exact zab
       ·exact zat 3 zd4.nd rfl (by first | exact Or.inl rfl | exact Or.inr rfl)
       ·refine zaf ?_
        refine zfo 2 hu ?_ ?_
        ·refine zah (ixP hu) ?_ ?_ (fun _ _=>rfl)
         ·refine EV.o ?_
          exact ev_v 1
         ·refine EV.o ?_
          exact ev_v 3
        ·refine zak zhm (hr.mono (by decide)) rfl ?_
         refine zaa ?_ ?_
         ·exact ev_v 1
         ·refine zaa ?_ ?_
          ·refine zah (ixP hu) ?_ ?_ (fun _ _=>rfl)
           ·refine EN.o ?_
            refine zdk ?_
            refine zaa ?_ ?_
            ·exact zai
            ·refine zaa ?_ ?_
             ·exact zai
             ·exact zag
           ·refine EV.o ?_
            exact ev_v 3
          ·refine zaa ?_ ?_
           ·refine zal zcd ?_ ?_
            ·refine EV.o ?_
             refine zak zav (hr.mono (by decide)) rfl ?_
             refine zaa ?_ ?_
             ·exact ev_v 0
             ·refine zaa ?_ ?_
              ·refine zal zcd ?_ ?_
               ·refine EV.o ?_
                exact zab
               ·refine EV.o ?_
                exact ev_v 3
              ·exact zag
            ·refine EV.o ?_
             refine zal zmo ?_ ?_
             ·refine EV.o ?_
              exact zab
             ·refine EV.o ?_
              exact ev_v 3
           ·exact zag
      ·refine zad ?_ ?_
       ·refine zfo 2 hu ?_ ?_
        ·refine zah (ixP hu) ?_ ?_ (fun _ _=>rfl)
         ·refine EV.o ?_
          exact ev_v 1
         ·refine EV.o ?_
          exact zab
        ·refine zak zby (hr.mono (by decide)) rfl ?_
         refine zaa ?_ ?_
         ·exact ev_v 1
         ·refine zaa ?_ ?_
          ·refine zak zav (hr.mono (by decide)) rfl ?_
           refine zaa ?_ ?_
           ·exact ev_v 0
           ·refine zaa ?_ ?_
            ·exact zab
            ·exact zag
          ·exact zag
       ·refine zad ?_ ?_
        ·refine zfo 2 hu ?_ ?_
         ·refine zah (ixP hu) ?_ ?_ (fun _ _=>rfl)
          ·refine EV.o ?_
           exact ev_v 1
          ·refine EV.o ?_
           exact zab
         ·refine zak zby (hr.mono (by decide)) rfl ?_
          refine zaa ?_ ?_
          ·exact ev_v 1
          ·refine zaa ?_ ?_
           ·refine zal zcd ?_ ?_
            ·refine EV.o ?_
             refine zak zav (hr.mono (by decide)) rfl ?_
             refine zaa ?_ ?_
             ·exact ev_v 0
             ·refine zaa ?_ ?_
              ·exact zab
              ·exact zag
            ·refine EV.o ?_
             exact zab
           ·exact zag
        ·refine zad ?_ ?_
         ·refine zfo 2 hu ?_ ?_
          ·refine zah (ixP hu) ?_ ?_ (fun _ _=>rfl)
           ·refine EV.o ?_
            exact ev_v 1
           ·refine EV.o ?_
            exact zab
          ·refine zak zd7 (hr.mono (by decide)) rfl ?_
           refine zaa ?_ ?_
           ·refine zal zcd ?_ ?_
            ·refine EV.o ?_
             refine zd2 ?_ ?_ ?_
             ·refine EV.o ?_
              exact ev_v 1
             ·exact zb3
             ·refine zbo ?_
              exact zab
            ·refine EV.o ?_
             refine zd2 ?_ ?_ ?_
             ·refine EV.o ?_
              exact ev_v 1
             ·refine zbo ?_
              exact zab
             ·exact zb3
           ·refine zaa ?_ ?_
            ·refine zak zav (hr.mono (by decide)) rfl ?_
             refine zaa ?_ ?_
             ·exact ev_v 0
             ·refine zaa ?_ ?_
              ·exact zab
              ·exact zag
            ·exact zag
         ·refine zad ?_ ?_
          ·refine zfo 2 hu ?_ ?_
           ·refine zah (ixP hu) ?_ ?_ (fun _ _=>rfl)
            ·refine EV.o ?_
             exact ev_v 1
            ·refine EV.o ?_
             exact zab
           ·refine zak zd7 (hr.mono (by decide)) rfl ?_
            refine zaa ?_ ?_
            ·refine zal zcd ?_ ?_
             ·refine EV.o ?_
              refine zd2 ?_ ?_ ?_
              ·refine EV.o ?_
               exact ev_v 1
              ·exact zb3
              ·refine zbo ?_
               exact zab
             ·refine EV.o ?_
              refine zd2 ?_ ?_ ?_
              ·refine EV.o ?_
               exact ev_v 1
              ·refine zbo ?_
               exact zab
              ·exact zb3
            ·refine zaa ?_ ?_
             ·refine zal zcd ?_ ?_
              ·refine EV.o ?_
               refine zak zav (hr.mono (by decide)) rfl ?_
               refine zaa ?_ ?_
               ·exact ev_v 0
               ·refine zaa ?_ ?_
                ·exact zab
                ·exact zag
              ·refine EV.o ?_
               exact zab
             ·exact zag
          ·refine zad ?_ ?_
           ·refine zfo 2 hu ?_ ?_
            ·refine zah (ixP hu) ?_ ?_ (fun _ _=>rfl)
             ·refine EV.o ?_
              exact ev_v 1
             ·refine EV.o ?_
              exact zab
            ·refine zak zd7 (hr.mono (by decide)) rfl ?_
             refine zaa ?_ ?_
             ·refine zal zcd ?_ ?_
              ·refine EV.o ?_
               refine zd2 ?_ ?_ ?_
               ·refine EV.o ?_
                exact ev_v 1
               ·exact zb3
               ·refine zbo ?_
                exact zab
              ·refine EV.o ?_
               refine zd2 ?_ ?_ ?_
               ·refine EV.o ?_
                exact ev_v 1
               ·refine zbo ?_
                exact zab
               ·refine zbo ?_
                exact zab
             ·refine zaa ?_ ?_
              ·refine zal zcd ?_ ?_
               ·refine EV.o ?_
                refine zal zj3 ?_ ?_
                ·refine EV.o ?_
                 refine zak zav (hr.mono (by decide)) rfl ?_
                 refine zaa ?_ ?_
                 ·exact ev_v 0
                 ·refine zaa ?_ ?_
                  ·exact zab
                  ·exact zag
                ·refine EV.o ?_
                 exact zab
               ·refine EV.o ?_
                exact zab
              ·exact zag
           ·refine zad ?_ ?_
            ·refine zfo 2 hu ?_ ?_
             ·refine zah (ixP hu) ?_ ?_ (fun _ _=>rfl)
              ·refine EV.o ?_
               exact ev_v 1
              ·refine EV.o ?_
               exact zab
             ·refine za9 ?_
              refine zaa ?_ ?_
              ·exact zai
              ·refine zaa ?_ ?_
               ·exact zai
               ·exact zag
            ·refine zad ?_ ?_
             ·refine zfo 2 hu ?_ ?_
              ·refine zah (ixP hu) ?_ ?_ (fun _ _=>rfl)
               ·refine EV.o ?_
                exact ev_v 1
               ·refine EV.o ?_
                exact zab
              ·refine za9 ?_
               refine zaa ?_ ?_
               ·exact zai
               ·refine zaa ?_ ?_
                ·exact zai
                ·exact zag
             ·refine zad ?_ ?_
              ·refine zap 4 zd4.nd rfl (by first | exact Or.inl rfl | exact Or.inr rfl) ?_
               refine zah (ixP hu) ?_ ?_ (fun _ _=>rfl)
               ·refine EV.o ?_
                exact ev_v 1
               ·refine EV.o ?_
                refine zah (ixP hu) ?_ ?_ (fun _ _=>rfl)
                ·refine EN.o ?_
                 refine zdk ?_
                 refine zaa ?_ ?_
                 ·exact zab
                 ·refine zaa ?_ ?_
                  ·exact zab
                  ·refine zaa ?_ ?_
                   ·exact zab
                   ·refine zaa ?_ ?_
                    ·exact zab
                    ·refine zaa ?_ ?_
                     ·exact zab
                     ·refine zaa ?_ ?_
                      ·exact zab
                      ·refine zaa ?_ ?_
                       ·exact zab
                       ·refine zaa ?_ ?_
                        ·exact zab
                        ·refine zaa ?_ ?_
                         ·exact zab
                         ·exact zag
                ·refine EV.o ?_
                 refine zal zck ?_ ?_
                 ·refine EV.o ?_
                  refine zak zav (hr.mono (by decide)) rfl ?_
                  refine zaa ?_ ?_
                  ·exact ev_v 0
                  ·refine zaa ?_ ?_
                   ·exact zab
                   ·exact zag
                 ·refine EV.o ?_
                  exact zab
              ·refine zaf ?_
               refine SV.frz 2 ?_
               refine zar ?_
               refine EN.v ?_
               refine zxh ?_
               refine znx ?_ ?_ ?_
               ·exact zai
               ·exact ev_v 4
               ·refine znx ?_ ?_ ?_
                ·exact zai
                ·refine zak zfh (hr.mono (by decide)) rfl ?_
                 refine zaa ?_ ?_
                 ·refine zak zav (hr.mono (by decide)) rfl ?_
                  refine zaa ?_ ?_
                  ·exact ev_v 0
                  ·refine zaa ?_ ?_
                   ·exact zab
                   ·exact zag
                 ·exact zag
                ·refine znx ?_ ?_ ?_
                 ·exact zai
                 ·exact ev_v 2
                 ·exact ed_nil
abbrev zet:Stmt:=top 36
theorem zch:FnScope ["_law_house_here","_law_hour","_law_name","_law_back","_law_room","_law_low","_law_high","_law_target"] ["_law_house_here","_law_hour","_law_name","_law_back"] (zae zet):=⟨rfl,rfl,rfl,by decide +kernel,rfl,by decide +kernel,by decide +kernel⟩
theorem zbv {P:Program} {w:World} {K:PySem.W.Frag} {mg:Str->Option Value} {base:Heap} {f:Addr} {fd:FuncData} (T:Txt w K mg) (F:Fun K "_law_come" "_law_come" zet f fd) (hm:mg "_law_come"=some (.ref f)) (hb:Binds K fd ["_law_house_here","_law_hour","_law_name","_law_back"] []):@PF ⟨w⟩ P w K mg base 1 "_law_come" za5 :=
  letI:TW:=⟨w⟩
  zcq F zch hm hb (g:=zi2) fun cdv A outer s H E hr=>by
    have hu:=hr.units
    refine zad ?_ ?_
    ·refine zap 4 zch.nd rfl (by first | exact Or.inl rfl | exact Or.inr rfl) ?_
     refine zah (ixP hu) ?_ ?_ (fun _ _=>rfl)
     ·refine EV.o ?_
      refine zah (ixP hu) ?_ ?_ (fun _ _=>rfl)
      ·refine EV.o ?_
       exact ev_v 0
      ·refine EV.o ?_
       exact zai
     ·refine EV.o ?_
      exact ev_v 2
    ·refine zad ?_ ?_
     ·refine zlf 300 PassesOwn.never ?_ ?_
      ·refine zay (opEq hu) zbb ?_ ?_ (nomark _)
       ·refine EV.o ?_
        refine zah (ixP hu) ?_ ?_ (fun _ _=>rfl)
        ·refine EV.o ?_
         exact ev_v 4
        ·refine EV.o ?_
         exact zab
       ·refine EV.o ?_
        exact zai
      ·refine zad ?_ ?_
       ·refine zap 2 zch.nd rfl (by first | exact Or.inl rfl | exact Or.inr rfl) ?_
        refine zah (ixP hu) ?_ ?_ (fun _ _=>rfl)
        ·refine EV.o ?_
         exact ev_v 4
        ·refine EV.o ?_
         exact zab
       ·refine zad ?_ ?_
        ·refine zcf PassesOwn.never rfl ?_ ?_ ?_
         ·refine zxi rfl T.n_reversed ?_
          refine zah (ixP hu) ?_ ?_ (fun _ _=>rfl)
          ·refine EV.o ?_
           exact ev_v 4
          ·refine EV.o ?_
           exact zab
         ·refine zgn rfl ?_
          refine za1 ?_ ?_
          ·exact zat 5 zch.nd rfl (by first | exact Or.inl rfl | exact Or.inr rfl)
          ·refine za1 ?_ ?_
           ·exact zat 6 zch.nd rfl (by first | exact Or.inl rfl | exact Or.inr rfl)
           ·refine za1 ?_ ?_
            ·exact zat 7 zch.nd rfl (by first | exact Or.inl rfl | exact Or.inr rfl)
            ·exact zew
         ·refine zaf ?_
          refine zce ?_ ?_ ?_
          ·refine zo2 opLe opLt zrq zly ?_ ?_ ?_
           ·refine EV.o ?_
            exact ev_v 5
           ·refine EV.o ?_
            exact ev_v 1
           ·refine EV.o ?_
            exact ev_v 6
          ·refine zaf ?_
           refine zap 2 zch.nd rfl (by first | exact Or.inl rfl | exact Or.inr rfl) ?_
           exact ev_v 7
          ·exact zaz
        ·refine zaf ?_
         refine zap 4 zch.nd rfl (by first | exact Or.inl rfl | exact Or.inr rfl) ?_
         refine zah (ixP hu) ?_ ?_ (fun _ _=>rfl)
         ·refine EV.o ?_
          refine zah (ixP hu) ?_ ?_ (fun _ _=>rfl)
          ·refine EV.o ?_
           exact ev_v 0
          ·refine EV.o ?_
           exact zai
         ·refine EV.o ?_
          exact ev_v 2
     ·refine zaf ?_
      refine zar ?_
      refine za9 ?_
      refine zaa ?_ ?_
      ·exact ev_v 2
      ·refine zaa ?_ ?_
       ·exact ev_v 3
       ·refine zaa ?_ ?_
        ·exact zab
        ·refine zaa ?_ ?_
         ·exact zab
         ·refine zaa ?_ ?_
          ·exact zai
          ·exact zag
abbrev zc1:Stmt:=top 37
theorem zci:FnScope ["_law_house_here","_law_words","_law_codes_here","_law_word","_law_target","_law_code","_law_letter"] ["_law_house_here","_law_words"] (zae zc1):=⟨rfl,rfl,rfl,by decide +kernel,rfl,by decide +kernel,by decide +kernel⟩
theorem zd8 {P:Program} {w:World} {K:PySem.W.Frag} {mg:Str->Option Value} {base:Heap} {f:Addr} {fd:FuncData} (T:Txt w K mg) (F:Fun K "_law_codes" "_law_codes" zc1 f fd) (hm:mg "_law_codes"=some (.ref f)) (hb:Binds K fd ["_law_house_here","_law_words"] []):@PF ⟨w⟩ P w K mg base 1 "_law_codes" zdx :=
  letI:TW:=⟨w⟩
  zcq F zci hm hb (g:=zhs) fun cdv A outer s H E hr=>by
    have hu:=hr.units
    refine zad ?_ ?_
    ·refine ze7 2 zci.nd rfl (by first | exact Or.inl rfl | exact Or.inr rfl) ?_
     exact zi4
    ·refine zad ?_ ?_
     ·refine zcf PassesOwn.never rfl ?_ ?_ ?_
      ·refine ze2 ?_
       exact ev_v 1
      ·refine zgn rfl ?_
       refine za1 ?_ ?_
       ·exact zat 3 zci.nd rfl (by first | exact Or.inl rfl | exact Or.inr rfl)
       ·refine za1 ?_ ?_
        ·exact zat 4 zci.nd rfl (by first | exact Or.inl rfl | exact Or.inr rfl)
        ·exact zew
      ·refine zad ?_ ?_
       ·refine zap 5 zci.nd rfl (by first | exact Or.inl rfl | exact Or.inr rfl) ?_
        exact zai
       ·refine zad ?_ ?_
        ·refine zcf PassesOwn.never rfl ?_ ?_ ?_
         ·refine ze2 ?_
          exact ev_v 3
         ·exact zat 6 zci.nd rfl (by first | exact Or.inl rfl | exact Or.inr rfl)
         ·refine zaf ?_
          refine zap 5 zci.nd rfl (by first | exact Or.inl rfl | exact Or.inr rfl) ?_
          refine zal zcd ?_ ?_
          ·refine EV.o ?_
           exact ev_v 5
          ·refine EV.o ?_
           refine zah (ixP hu) ?_ ?_ (fun _ _=>rfl)
           ·refine EN.o ?_
            refine znv (N':=["_law_key","_law_told","_law_letter"]) (nt:=2) (idx:=[6]) (show CompOk ["_law_house_here","_law_words","_law_codes_here","_law_word","_law_target","_law_code","_law_letter"] (zae zc1) _ ["_law_key","_law_told","_law_letter"] 2 [6] from ⟨rfl,by decide +kernel,by decide +kernel,by decide +kernel,rfl,by decide +kernel⟩) rfl ?_ ?_ ?_ ?_ ?_
            ·refine ze2 ?_
             refine zah (ixP hu) ?_ ?_ (fun _ _=>rfl)
             ·refine EV.o ?_
              exact ev_v 0
             ·refine EV.o ?_
              exact zai
            ·intro _ _ _ _ _
             refine zuz rfl ?_
             refine zjk ?_ ?_
             ·exact zhj 0 (show List.Nodup (["_law_key","_law_told","_law_letter"]:List Str) from by decide +kernel) rfl (by first | exact Or.inl rfl | exact Or.inr rfl)
             ·refine zjk ?_ ?_
              ·exact zhj 1 (show List.Nodup (["_law_key","_law_told","_law_letter"]:List Str) from by decide +kernel) rfl (by first | exact Or.inl rfl | exact Or.inr rfl)
              ·exact zql
            ·refine zra ?_
             refine zjo ?_ ?_
             ·exact zga (by decide)
             ·refine zjo ?_ ?_
              ·exact zga (by decide)
              ·exact zrb
            ·intro _ _ _ _ _
             refine zsb ?_
             refine zay (opIn hu) ziz ?_ ?_ (by with_unfolding_all rfl)
             ·refine EV.o ?_
              exact ev_v 2
             ·refine EV.o ?_
              exact ev_v 1
            ·intro _ _ _ _ _
             exact ev_v 0
           ·refine EV.o ?_
            exact zab
        ·refine zaf ?_
         refine zfo 2 hu ?_ ?_
         ·exact ev_v 3
         ·refine zal zcd ?_ ?_
          ·refine EV.o ?_
           exact ev_v 5
          ·refine EV.o ?_
           exact zai
     ·refine zaf ?_
      refine SV.frz 2 ?_
      refine zar ?_
      exact ev_v 2
abbrev zbp:Stmt:=top 38
theorem zcz:FnScope ["_law_codes_here","_law_word","_law_code","_law_size"] ["_law_codes_here","_law_word"] (zae zbp):=⟨rfl,rfl,rfl,by decide +kernel,rfl,by decide +kernel,by decide +kernel⟩
theorem zb8 {P:Program} {w:World} {K:PySem.W.Frag} {mg:Str->Option Value} {base:Heap} {f:Addr} {fd:FuncData} (T:Txt w K mg) (F:Fun K "_law_beginning" "_law_beginning" zbp f fd) (hm:mg "_law_beginning"=some (.ref f)) (hb:Binds K fd ["_law_codes_here","_law_word"] []):@PF ⟨w⟩ P w K mg base 1 "_law_beginning" zbe :=
  letI:TW:=⟨w⟩
  zcq F zcz hm hb (g:=ze0) fun cdv A outer s H E hr=>by
    have hu:=hr.units
    refine zad ?_ ?_
    ·refine zap 2 zcz.nd rfl (by first | exact Or.inl rfl | exact Or.inr rfl) ?_
     refine zah (ixP hu) ?_ ?_ (fun _ _=>rfl)
     ·refine EV.o ?_
      exact ev_v 0
     ·refine EV.o ?_
      exact ev_v 1
    ·refine zad ?_ ?_
     ·refine zap 3 zcz.nd rfl (by first | exact Or.inl rfl | exact Or.inr rfl) ?_
      exact zab
     ·refine zad ?_ ?_
      ·refine zlf 300 PassesOwn.never ?_ ?_
       ·refine zay (opIn hu) ziz ?_ ?_ (by with_unfolding_all rfl)
        ·refine EV.o ?_
         exact zuj
        ·refine EN.o ?_
         refine znv (N':=["_law_other","_law_code","_law_codes_here","_law_size","_law_word"]) (nt:=1) (idx:=[2,0,3,1]) (show CompOk ["_law_codes_here","_law_word","_law_code","_law_size"] (zae zbp) _ ["_law_other","_law_code","_law_codes_here","_law_size","_law_word"] 1 [2,0,3,1] from ⟨rfl,by decide +kernel,by decide +kernel,by decide +kernel,rfl,by decide +kernel⟩) rfl ?_ ?_ ?_ ?_ ?_
         ·refine ze2 ?_
          exact ev_v 0
         ·intro _ _ _ _ _
          exact zhj 0 (show List.Nodup (["_law_other","_law_code","_law_codes_here","_law_size","_law_word"]:List Str) from by decide +kernel) rfl (by first | exact Or.inl rfl | exact Or.inr rfl)
         ·exact zga (by decide)
         ·intro _ _ _ _ _
          refine zsb ?_
          refine zay (opNe hu) zgw ?_ ?_ (nomark _)
          ·refine EV.o ?_
           exact ev_v 0
          ·refine EV.o ?_
           exact ev_v 4
         ·intro _ _ _ _ _
          refine zsa (opEq hu) ?_ ?_ (nomark _)
          ·refine EV.o ?_
           refine zcl ?_ ?_ ?_
           ·refine EV.o ?_
            refine zah (ixP hu) ?_ ?_ (fun _ _=>rfl)
            ·refine EV.o ?_
             exact ev_v 2
            ·refine EV.o ?_
             exact ev_v 0
           ·exact zb3
           ·refine zbo ?_
            exact ev_v 3
          ·refine EV.o ?_
           refine zcl ?_ ?_ ?_
           ·refine EV.o ?_
            exact ev_v 1
           ·exact zb3
           ·refine zbo ?_
            exact ev_v 3
       ·refine zaf ?_
        refine zap 3 zcz.nd rfl (by first | exact Or.inl rfl | exact Or.inr rfl) ?_
        refine zal zcd ?_ ?_
        ·refine EV.o ?_
         exact ev_v 3
        ·refine EV.o ?_
         exact zab
      ·refine zaf ?_
       refine zar ?_
       refine zcl ?_ ?_ ?_
       ·refine EV.o ?_
        exact ev_v 2
       ·exact zb3
       ·refine zbo ?_
        exact ev_v 3
abbrev zdp:Stmt:=top 39
theorem zbt:FnScope ["_law_house_here","_law_hour","_law_state","_law_at","_law_name","_law_back","_law_wrong_here","_law_waits","_law_typed_here","_law_counts","_law_many_here","_law_target"] ["_law_house_here","_law_hour","_law_state","_law_at"] (zae zdp):=⟨rfl,rfl,rfl,by decide +kernel,rfl,by decide +kernel,by decide +kernel⟩
theorem zc7 {P:Program} {w:World} {K:PySem.W.Frag} {mg:Str->Option Value} {base:Heap} {f:Addr} {fd:FuncData} (T:Txt w K mg) (F:Fun K "_law_wrong" "_law_wrong" zdp f fd) (hm:mg "_law_wrong"=some (.ref f)) (hb:Binds K fd ["_law_house_here","_law_hour","_law_state","_law_at"] []) (zbv:@PF ⟨w⟩ P w K mg base 1 "_law_come" za5):@PF ⟨w⟩ P w K mg base 2 "_law_wrong" zbw :=
  letI:TW:=⟨w⟩
  zcq F zbt hm hb (g:=zdv) fun cdv A outer s H E hr=>by
    have hu:=hr.units
    refine zad ?_ ?_
    ·refine zmc ?_ ?_
     ·exact ev_v 2
     ·refine zgn rfl ?_
      refine za1 ?_ ?_
      ·exact zat 4 zbt.nd rfl (by first | exact Or.inl rfl | exact Or.inr rfl)
      ·refine za1 ?_ ?_
       ·exact zat 5 zbt.nd rfl (by first | exact Or.inl rfl | exact Or.inr rfl)
       ·refine za1 ?_ ?_
        ·exact zat 6 zbt.nd rfl (by first | exact Or.inl rfl | exact Or.inr rfl)
        ·refine za1 ?_ ?_
         ·exact zat 7 zbt.nd rfl (by first | exact Or.inl rfl | exact Or.inr rfl)
         ·refine za1 ?_ ?_
          ·exact zat 8 zbt.nd rfl (by first | exact Or.inl rfl | exact Or.inr rfl)
          ·exact zew
    ·refine zad ?_ ?_
     ·refine ze7 9 zbt.nd rfl (by first | exact Or.inl rfl | exact Or.inr rfl) ?_
      refine zdk ?_
      refine zaa ?_ ?_
      ·exact ev_v 6
      ·refine zaa ?_ ?_
       ·exact ev_v 7
       ·exact zag
     ·refine zad ?_ ?_
      ·refine zvy 9 ?_ ?_
       ·exact ev_v 3
       ·refine zal zcd ?_ ?_
        ·refine EV.o ?_
         refine zah (ixP hu) ?_ ?_ (fun _ _=>rfl)
         ·exact eo_v 9
         ·refine EV.o ?_
          exact ev_v 3
        ·refine EV.o ?_
         exact zab
      ·refine zad ?_ ?_
       ·refine zmc ?_ ?_
        ·refine zah (ixP hu) ?_ ?_ (fun _ _=>rfl)
         ·refine EV.o ?_
          refine zah (ixP hu) ?_ ?_ (fun _ _=>rfl)
          ·refine EV.o ?_
           refine zah (ixP hu) ?_ ?_ (fun _ _=>rfl)
           ·refine EV.o ?_
            exact ev_v 0
           ·refine EV.o ?_
            exact zai
          ·refine EV.o ?_
           exact ev_v 4
         ·refine EV.o ?_
          refine zal zcd ?_ ?_
          ·refine EV.o ?_
           exact zab
          ·refine EV.o ?_
           exact ev_v 3
        ·refine zgn rfl ?_
         refine za1 ?_ ?_
         ·exact zat 10 zbt.nd rfl (by first | exact Or.inl rfl | exact Or.inr rfl)
         ·refine za1 ?_ ?_
          ·exact zat 11 zbt.nd rfl (by first | exact Or.inl rfl | exact Or.inr rfl)
          ·exact zew
       ·refine zad ?_ ?_
        ·refine zce ?_ ?_ ?_
         ·refine zay (opEq hu) zbb ?_ ?_ (nomark _)
          ·refine EV.o ?_
           refine zah (ixP hu) ?_ ?_ (fun _ _=>rfl)
           ·exact eo_v 9
           ·refine EV.o ?_
            exact ev_v 3
          ·refine EV.o ?_
           exact ev_v 10
         ·refine zaf ?_
          refine zar ?_
          refine zak zbv (hr.mono (by decide)) rfl ?_
          refine zaa ?_ ?_
          ·exact ev_v 0
          ·refine zaa ?_ ?_
           ·exact ev_v 1
           ·refine zaa ?_ ?_
            ·exact ev_v 11
            ·refine zaa ?_ ?_
             ·exact ev_v 4
             ·exact zag
         ·exact zaz
        ·refine zaf ?_
         refine zar ?_
         refine za9 ?_
         refine zaa ?_ ?_
         ·exact ev_v 4
         ·refine zaa ?_ ?_
          ·exact ev_v 5
          ·refine zaa ?_ ?_
           ·refine zah (ixP hu) ?_ ?_ (fun _ _=>rfl)
            ·exact eo_v 9
            ·refine EV.o ?_
             exact zab
           ·refine zaa ?_ ?_
            ·refine zah (ixP hu) ?_ ?_ (fun _ _=>rfl)
             ·exact eo_v 9
             ·refine EV.o ?_
              exact zab
            ·refine zaa ?_ ?_
             ·exact zai
             ·exact zag
abbrev zdq:Stmt:=top 40
theorem zcg:FnScope ["_law_house_here","_law_hour","_law_state","_law_sign_here","_law_room","_law_codes_here","_law_typed_here","_law_word","_law_target","_law_start"] ["_law_house_here","_law_hour","_law_state","_law_sign_here"] (zae zdq):=⟨rfl,rfl,rfl,by decide +kernel,rfl,by decide +kernel,by decide +kernel⟩
theorem zgq {P:Program} {w:World} {K:PySem.W.Frag} {mg:Str->Option Value} {base:Heap} {f:Addr} {fd:FuncData} (T:Txt w K mg) (F:Fun K "_law_typed" "_law_typed" zdq f fd) (hm:mg "_law_typed"=some (.ref f)) (hb:Binds K fd ["_law_house_here","_law_hour","_law_state","_law_sign_here"] []) (zd8:@PF ⟨w⟩ P w K mg base 1 "_law_codes" zdx) (zb8:@PF ⟨w⟩ P w K mg base 1 "_law_beginning" zbe) (zbv:@PF ⟨w⟩ P w K mg base 1 "_law_come" za5) (zc7:@PF ⟨w⟩ P w K mg base 2 "_law_wrong" zbw):@PF ⟨w⟩ P w K mg base 3 "_law_typed" zgd :=
  letI:TW:=⟨w⟩
  zcq F zcg hm hb (g:=zgb) fun cdv A outer s H E hr=>by
    have hu:=hr.units
    refine zad ?_ ?_
    ·refine zap 4 zcg.nd rfl (by first | exact Or.inl rfl | exact Or.inr rfl) ?_
     refine zah (ixP hu) ?_ ?_ (fun _ _=>rfl)
     ·refine EV.o ?_
      refine zah (ixP hu) ?_ ?_ (fun _ _=>rfl)
      ·refine EV.o ?_
       exact ev_v 0
      ·refine EV.o ?_
       exact zai
     ·refine EV.o ?_
      refine zah (ixP hu) ?_ ?_ (fun _ _=>rfl)
      ·refine EV.o ?_
       exact ev_v 2
      ·refine EV.o ?_
       exact zab
    ·refine zad ?_ ?_
     ·refine zap 5 zcg.nd rfl (by first | exact Or.inl rfl | exact Or.inr rfl) ?_
      refine zak zd8 (hr.mono (by decide)) rfl ?_
      refine zaa ?_ ?_
      ·exact ev_v 0
      ·refine zaa ?_ ?_
       ·refine zah (ixP hu) ?_ ?_ (fun _ _=>rfl)
        ·refine EV.o ?_
         exact ev_v 4
        ·refine EV.o ?_
         exact zab
       ·exact zag
     ·refine zad ?_ ?_
      ·refine zap 6 zcg.nd rfl (by first | exact Or.inl rfl | exact Or.inr rfl) ?_
       refine zal zcd ?_ ?_
       ·refine EV.o ?_
        refine zah (ixP hu) ?_ ?_ (fun _ _=>rfl)
        ·refine EV.o ?_
         exact ev_v 2
        ·refine EV.o ?_
         exact zab
       ·refine EV.o ?_
        exact ev_v 3
      ·refine zad ?_ ?_
       ·refine zcf PassesOwn.never rfl ?_ ?_ ?_
        ·refine ze2 ?_
         refine zah (ixP hu) ?_ ?_ (fun _ _=>rfl)
         ·refine EV.o ?_
          exact ev_v 4
         ·refine EV.o ?_
          exact zab
        ·refine zgn rfl ?_
         refine za1 ?_ ?_
         ·exact zat 7 zcg.nd rfl (by first | exact Or.inl rfl | exact Or.inr rfl)
         ·refine za1 ?_ ?_
          ·exact zat 8 zcg.nd rfl (by first | exact Or.inl rfl | exact Or.inr rfl)
          ·exact zew
        ·refine zad ?_ ?_
         ·refine zap 9 zcg.nd rfl (by first | exact Or.inl rfl | exact Or.inr rfl) ?_
          refine zak zb8 (hr.mono (by decide)) rfl ?_
          refine zaa ?_ ?_
          ·exact ev_v 5
          ·refine zaa ?_ ?_
           ·exact ev_v 7
           ·exact zag
         ·refine zad ?_ ?_
          ·refine zce ?_ ?_ ?_
           ·refine zay (opEq hu) zbb ?_ ?_ (nomark _)
            ·refine EV.o ?_
             exact ev_v 9
            ·refine EV.o ?_
             exact ev_v 6
           ·refine zaf ?_
            refine zar ?_
            refine zak zbv (hr.mono (by decide)) rfl ?_
            refine zaa ?_ ?_
            ·exact ev_v 0
            ·refine zaa ?_ ?_
             ·exact ev_v 1
             ·refine zaa ?_ ?_
              ·exact ev_v 8
              ·refine zaa ?_ ?_
               ·refine zah (ixP hu) ?_ ?_ (fun _ _=>rfl)
                ·refine EV.o ?_
                 exact ev_v 2
                ·refine EV.o ?_
                 exact zab
               ·exact zag
           ·exact zaz
          ·refine zaf ?_
           refine zce ?_ ?_ ?_
           ·refine zay (opEq hu) zbb ?_ ?_ (nomark _)
            ·refine EV.o ?_
             refine zcl ?_ ?_ ?_
             ·refine EV.o ?_
              exact ev_v 9
             ·exact zb3
             ·refine zbo ?_
              refine zig cLen rfl T.n_len rfl ?_
              refine EV.o ?_
              exact ev_v 6
            ·refine EV.o ?_
             exact ev_v 6
           ·refine zaf ?_
            refine zar ?_
            refine zal zcd ?_ ?_
            ·refine EV.o ?_
             refine zcl ?_ ?_ ?_
             ·refine EV.o ?_
              exact ev_v 2
             ·exact zb3
             ·refine zbo ?_
              exact zab
            ·refine EV.o ?_
             refine za9 ?_
             refine zaa ?_ ?_
             ·exact ev_v 6
             ·exact zag
           ·exact zaz
       ·refine zaf ?_
        refine zar ?_
        refine zak zc7 (hr.mono (by decide)) rfl ?_
        refine zaa ?_ ?_
        ·exact ev_v 0
        ·refine zaa ?_ ?_
         ·exact ev_v 1
         ·refine zaa ?_ ?_
          ·exact ev_v 2
          ·refine zaa ?_ ?_
           ·exact zab
           ·exact zag
abbrev zep:Stmt:=top 41
theorem zf3:FnScope ["_law_house_here","_law_hour","_law_state","_law_sign_here","_law_room","_law_key","_law_target"] ["_law_house_here","_law_hour","_law_state","_law_sign_here"] (zae zep):=⟨rfl,rfl,rfl,by decide +kernel,rfl,by decide +kernel,by decide +kernel⟩
theorem zhk {P:Program} {w:World} {K:PySem.W.Frag} {mg:Str->Option Value} {base:Heap} {f:Addr} {fd:FuncData} (T:Txt w K mg) (F:Fun K "_law_step" "_law_step" zep f fd) (hm:mg "_law_step"=some (.ref f)) (hb:Binds K fd ["_law_house_here","_law_hour","_law_state","_law_sign_here"] []) (zc7:@PF ⟨w⟩ P w K mg base 2 "_law_wrong" zbw) (zgq:@PF ⟨w⟩ P w K mg base 3 "_law_typed" zgd) (zbv:@PF ⟨w⟩ P w K mg base 1 "_law_come" za5):@PF ⟨w⟩ P w K mg base 4 "_law_step" zev :=
  letI:TW:=⟨w⟩
  zcq F zf3 hm hb (g:=zdw) fun cdv A outer s H E hr=>by
    have hu:=hr.units
    refine zad ?_ ?_
    ·refine zap 4 zf3.nd rfl (by first | exact Or.inl rfl | exact Or.inr rfl) ?_
     refine zah (ixP hu) ?_ ?_ (fun _ _=>rfl)
     ·refine EV.o ?_
      refine zah (ixP hu) ?_ ?_ (fun _ _=>rfl)
      ·refine EV.o ?_
       exact ev_v 0
      ·refine EV.o ?_
       exact zai
     ·refine EV.o ?_
      refine zah (ixP hu) ?_ ?_ (fun _ _=>rfl)
      ·refine EV.o ?_
       exact ev_v 2
      ·refine EV.o ?_
       exact zab
    ·refine zad ?_ ?_
     ·refine zce ?_ ?_ ?_
      ·refine zay (opIn hu) ziz ?_ ?_ (by with_unfolding_all rfl)
       ·refine EV.o ?_
        refine zah (ixP hu) ?_ ?_ (fun _ _=>rfl)
        ·refine EV.o ?_
         exact ev_v 4
        ·refine EV.o ?_
         exact zab
       ·refine EN.o ?_
        refine zdk ?_
        refine zaa ?_ ?_
        ·exact zai
        ·refine zaa ?_ ?_
         ·exact zai
         ·exact zag
      ·refine zaf ?_
       refine zar ?_
       exact ev_v 2
      ·exact zaz
     ·refine zad ?_ ?_
      ·refine zce ?_ ?_ ?_
       ·refine zay (opEq hu) zbb ?_ ?_ (nomark _)
        ·refine EV.o ?_
         exact ev_v 3
        ·refine EV.o ?_
         exact zai
       ·refine zaf ?_
        refine zar ?_
        refine zak zc7 (hr.mono (by decide)) rfl ?_
        refine zaa ?_ ?_
        ·exact ev_v 0
        ·refine zaa ?_ ?_
         ·exact ev_v 1
         ·refine zaa ?_ ?_
          ·exact ev_v 2
          ·refine zaa ?_ ?_
           ·exact zab
           ·exact zag
       ·exact zaz
      ·refine zad ?_ ?_
       ·refine zce ?_ ?_ ?_
        ·refine zay (opEq hu) zbb ?_ ?_ (nomark _)
         ·refine EV.o ?_
          refine zah (ixP hu) ?_ ?_ (fun _ _=>rfl)
          ·refine EV.o ?_
           exact ev_v 4
          ·refine EV.o ?_
           exact zab
         ·refine EV.o ?_
          exact zai
        ·refine zaf ?_
         refine zar ?_
         refine zak zgq (hr.mono (by decide)) rfl ?_
         refine zaa ?_ ?_
         ·exact ev_v 0
         ·refine zaa ?_ ?_
          ·exact ev_v 1
          ·refine zaa ?_ ?_
           ·exact ev_v 2
           ·refine zaa ?_ ?_
            ·exact ev_v 3
            ·exact zag
        ·exact zaz
       ·refine zad ?_ ?_
        ·refine zcf PassesOwn.never rfl ?_ ?_ ?_
         ·refine ze2 ?_
          refine zah (ixP hu) ?_ ?_ (fun _ _=>rfl)
          ·refine EV.o ?_
           exact ev_v 4
          ·refine EV.o ?_
           exact zab
         ·refine zgn rfl ?_
          refine za1 ?_ ?_
          ·exact zat 5 zf3.nd rfl (by first | exact Or.inl rfl | exact Or.inr rfl)
          ·refine za1 ?_ ?_
           ·exact zat 6 zf3.nd rfl (by first | exact Or.inl rfl | exact Or.inr rfl)
           ·exact zew
         ·refine zad ?_ ?_
          ·refine zce ?_ ?_ ?_
           ·refine EW.et ?_
            refine zk9 ?_ ?_
            ·refine zay (opEq hu) zbb ?_ ?_ (nomark _)
             ·refine EV.o ?_
              exact ev_v 5
             ·refine EV.o ?_
              exact ev_v 3
            ·refine zke ?_
             refine zay (opNe hu) zgw ?_ ?_ (nomark _)
             ·refine EV.o ?_
              exact ev_v 6
             ·refine EV.o ?_
              exact zai
           ·refine zaf ?_
            refine zar ?_
            refine zak zbv (hr.mono (by decide)) rfl ?_
            refine zaa ?_ ?_
            ·exact ev_v 0
            ·refine zaa ?_ ?_
             ·exact ev_v 1
             ·refine zaa ?_ ?_
              ·exact ev_v 6
              ·refine zaa ?_ ?_
               ·refine zah (ixP hu) ?_ ?_ (fun _ _=>rfl)
                ·refine EV.o ?_
                 exact ev_v 2
                ·refine EV.o ?_
                 exact zab
               ·exact zag
           ·exact zaz
          ·refine zaf ?_
           refine zce ?_ ?_ ?_
           ·refine EW.et ?_
            refine zk9 ?_ ?_
            ·refine zay (opEq hu) zbb ?_ ?_ (nomark _)
             ·refine EV.o ?_
              exact ev_v 5
             ·refine EV.o ?_
              exact ev_v 3
            ·refine zke ?_
             refine zay (opNe hu) zgw ?_ ?_ (nomark _)
             ·refine EV.o ?_
              refine zah (ixP hu) ?_ ?_ (fun _ _=>rfl)
              ·refine EV.o ?_
               exact ev_v 2
              ·refine EV.o ?_
               exact zab
             ·refine EV.o ?_
              exact zai
           ·refine zaf ?_
            refine zar ?_
            refine zak zbv (hr.mono (by decide)) rfl ?_
            refine zaa ?_ ?_
            ·exact ev_v 0
            ·refine zaa ?_ ?_
             ·exact ev_v 1
             ·refine zaa ?_ ?_
              ·refine zah (ixP hu) ?_ ?_ (fun _ _=>rfl)
               ·refine EV.o ?_
                exact ev_v 2
               ·refine EV.o ?_
                exact zab
              ·refine zaa ?_ ?_
               ·refine zah (ixP hu) ?_ ?_ (fun _ _=>rfl)
                ·refine EV.o ?_
                 exact ev_v 2
                ·refine EV.o ?_
                 exact zab
               ·exact zag
           ·exact zaz
        ·refine zaf ?_
         refine zar ?_
         refine zak zc7 (hr.mono (by decide)) rfl ?_
         refine zaa ?_ ?_
         ·exact ev_v 0
         ·refine zaa ?_ ?_
          ·exact ev_v 1
          ·refine zaa ?_ ?_
           ·exact ev_v 2
           ·refine zaa ?_ ?_
            ·exact zab
            ·exact zag
abbrev zeq:Stmt:=top 42
theorem zdm:FnScope ["_law_house_here","_law_state","_law_cell","_law_signs","_law_room","_law_codes_here","_law_word","_law_start"] ["_law_house_here","_law_state","_law_cell"] (zae zeq):=⟨rfl,rfl,rfl,by decide +kernel,rfl,by decide +kernel,by decide +kernel⟩
theorem zhl {P:Program} {w:World} {K:PySem.W.Frag} {mg:Str->Option Value} {base:Heap} {f:Addr} {fd:FuncData} (T:Txt w K mg) (F:Fun K "_law_sign" "_law_sign" zeq f fd) (hm:mg "_law_sign"=some (.ref f)) (hb:Binds K fd ["_law_house_here","_law_state","_law_cell"] []) (zd8:@PF ⟨w⟩ P w K mg base 1 "_law_codes" zdx) (zb8:@PF ⟨w⟩ P w K mg base 1 "_law_beginning" zbe):@PF ⟨w⟩ P w K mg base 2 "_law_sign" zfx :=
  letI:TW:=⟨w⟩
  zcq F zdm hm hb (g:=zct) fun cdv A outer s H E hr=>by
    have hu:=hr.units
    refine zad ?_ ?_
    ·refine zap 3 zdm.nd rfl (by first | exact Or.inl rfl | exact Or.inr rfl) ?_
     exact zai
    ·refine zad ?_ ?_
     ·refine zap 4 zdm.nd rfl (by first | exact Or.inl rfl | exact Or.inr rfl) ?_
      refine zah (ixP hu) ?_ ?_ (fun _ _=>rfl)
      ·refine EV.o ?_
       refine zah (ixP hu) ?_ ?_ (fun _ _=>rfl)
       ·refine EV.o ?_
        exact ev_v 0
       ·refine EV.o ?_
        exact zai
      ·refine EV.o ?_
       refine zah (ixP hu) ?_ ?_ (fun _ _=>rfl)
       ·refine EV.o ?_
        exact ev_v 1
       ·refine EV.o ?_
        exact zab
     ·refine zad ?_ ?_
      ·refine zce ?_ ?_ ?_
       ·refine EW.et ?_
        refine zk9 ?_ ?_
        ·refine zay opGt zlz ?_ ?_ (nomark _)
         ·refine EV.o ?_
          refine zal zck ?_ ?_
          ·refine EV.o ?_
           exact ev_v 2
          ·refine EV.o ?_
           exact zab
         ·refine EV.o ?_
          exact zab
        ·refine zk9 ?_ ?_
         ·refine zay (opEq hu) zbb ?_ ?_ (nomark _)
          ·refine EV.o ?_
           refine zah (ixP hu) ?_ ?_ (fun _ _=>rfl)
           ·refine EV.o ?_
            exact ev_v 4
           ·refine EV.o ?_
            exact zab
          ·refine EV.o ?_
           exact zai
         ·refine zke ?_
          refine zay opGt zlz ?_ ?_ (nomark _)
          ·refine EV.o ?_
           refine zig cLen rfl T.n_len rfl ?_
           refine EV.o ?_
           refine zah (ixP hu) ?_ ?_ (fun _ _=>rfl)
           ·refine EV.o ?_
            exact ev_v 4
           ·refine EV.o ?_
            exact zab
          ·refine EV.o ?_
           exact zab
       ·refine zaf ?_
        refine zar ?_
        refine zah (ixP hu) ?_ ?_ (fun _ _=>rfl)
        ·refine EV.o ?_
         refine zah (ixP hu) ?_ ?_ (fun _ _=>rfl)
         ·refine EV.o ?_
          refine zah (ixP hu) ?_ ?_ (fun _ _=>rfl)
          ·refine EV.o ?_
           exact ev_v 4
          ·refine EV.o ?_
           exact zab
         ·refine EV.o ?_
          refine zal zck ?_ ?_
          ·refine EV.o ?_
           refine zal zj3 ?_ ?_
           ·refine EV.o ?_
            exact ev_v 2
           ·refine EV.o ?_
            exact zab
          ·refine EV.o ?_
           refine zig cLen rfl T.n_len rfl ?_
           refine EV.o ?_
           refine zah (ixP hu) ?_ ?_ (fun _ _=>rfl)
           ·refine EV.o ?_
            exact ev_v 4
           ·refine EV.o ?_
            exact zab
        ·refine EV.o ?_
         exact zab
       ·exact zaz
      ·refine zad ?_ ?_
       ·refine zce ?_ ?_ ?_
        ·refine EW.et ?_
         refine zk9 ?_ ?_
         ·refine zay opGt zlz ?_ ?_ (nomark _)
          ·refine EV.o ?_
           refine zal zck ?_ ?_
           ·refine EV.o ?_
            exact ev_v 2
           ·refine EV.o ?_
            exact zab
          ·refine EV.o ?_
           exact zab
         ·refine zke ?_
          refine zay (opEq hu) zbb ?_ ?_ (nomark _)
          ·refine EV.o ?_
           refine zah (ixP hu) ?_ ?_ (fun _ _=>rfl)
           ·refine EV.o ?_
            exact ev_v 4
           ·refine EV.o ?_
            exact zab
          ·refine EV.o ?_
           exact zai
        ·refine zad ?_ ?_
         ·refine zap 5 zdm.nd rfl (by first | exact Or.inl rfl | exact Or.inr rfl) ?_
          refine zak zd8 (hr.mono (by decide)) rfl ?_
          refine zaa ?_ ?_
          ·exact ev_v 0
          ·refine zaa ?_ ?_
           ·refine zah (ixP hu) ?_ ?_ (fun _ _=>rfl)
            ·refine EV.o ?_
             exact ev_v 4
            ·refine EV.o ?_
             exact zab
           ·exact zag
         ·refine zad ?_ ?_
          ·refine zap 6 zdm.nd rfl (by first | exact Or.inl rfl | exact Or.inr rfl) ?_
           refine zah (ixP hu) ?_ ?_ (fun _ _=>rfl)
           ·refine EV.o ?_
            refine zah (ixP hu) ?_ ?_ (fun _ _=>rfl)
            ·refine EV.o ?_
             refine zah (ixP hu) ?_ ?_ (fun _ _=>rfl)
             ·refine EV.o ?_
              exact ev_v 4
             ·refine EV.o ?_
              exact zab
            ·refine EV.o ?_
             refine zal zck ?_ ?_
             ·refine EV.o ?_
              refine zal zj3 ?_ ?_
              ·refine EV.o ?_
               exact ev_v 2
              ·refine EV.o ?_
               exact zab
             ·refine EV.o ?_
              refine zig cLen rfl T.n_len rfl ?_
              refine EV.o ?_
              refine zah (ixP hu) ?_ ?_ (fun _ _=>rfl)
              ·refine EV.o ?_
               exact ev_v 4
              ·refine EV.o ?_
               exact zab
           ·refine EV.o ?_
            exact zab
          ·refine zad ?_ ?_
           ·refine zap 7 zdm.nd rfl (by first | exact Or.inl rfl | exact Or.inr rfl) ?_
            refine zak zb8 (hr.mono (by decide)) rfl ?_
            refine zaa ?_ ?_
            ·exact ev_v 5
            ·refine zaa ?_ ?_
             ·exact ev_v 6
             ·exact zag
           ·refine zaf ?_
            refine zce ?_ ?_ ?_
            ·refine zay (opEq hu) zbb ?_ ?_ (nomark _)
             ·refine EV.o ?_
              refine zcl ?_ ?_ ?_
              ·refine EV.o ?_
               exact ev_v 7
              ·exact zb3
              ·refine zbo ?_
               refine zig cLen rfl T.n_len rfl ?_
               refine EV.o ?_
               refine zah (ixP hu) ?_ ?_ (fun _ _=>rfl)
               ·refine EV.o ?_
                exact ev_v 1
               ·refine EV.o ?_
                exact zab
             ·refine EV.o ?_
              refine zah (ixP hu) ?_ ?_ (fun _ _=>rfl)
              ·refine EV.o ?_
               exact ev_v 1
              ·refine EV.o ?_
               exact zab
            ·refine zaf ?_
             refine zar ?_
             refine zah (ixP hu) ?_ ?_ (fun _ _=>rfl)
             ·refine EV.o ?_
              exact ev_v 7
             ·refine EV.o ?_
              refine zig cLen rfl T.n_len rfl ?_
              refine EV.o ?_
              refine zah (ixP hu) ?_ ?_ (fun _ _=>rfl)
              ·refine EV.o ?_
               exact ev_v 1
              ·refine EV.o ?_
               exact zab
            ·exact zaz
        ·exact zaz
       ·refine zaf ?_
        refine zar ?_
        refine zah (ixP hu) ?_ ?_ (fun _ _=>rfl)
        ·refine EV.o ?_
         exact ev_v 3
        ·refine EV.o ?_
         refine zal zck ?_ ?_
         ·refine EV.o ?_
          refine zal zj3 ?_ ?_
          ·refine EV.o ?_
           exact ev_v 2
          ·refine EV.o ?_
           exact zab
         ·refine EV.o ?_
          exact zab
abbrev zll:Stmt:=top 43
theorem zex:FnScope ["_law_script","_law_house_here","_law_hour","_law_state","_law_states","_law_row","_law_cell","_law_sign_here","_law_after","_law_found","_law_room","_law_kind"] ["_law_script"] (zae zll):=⟨rfl,rfl,rfl,by decide +kernel,rfl,by decide +kernel,by decide +kernel⟩
theorem ok_law {P:Program} {w:World} {K:PySem.W.Frag} {mg:Str->Option Value} {base:Heap} {f:Addr} {fd:FuncData} (T:Txt w K mg) (F:Fun K "law" "law" zll f fd) (zfa:@PF ⟨w⟩ P w K mg base 3 "_law_house" ze1) (zav:@PF ⟨w⟩ P w K mg base 1 "_law_cell_at" zan) (zbv:@PF ⟨w⟩ P w K mg base 1 "_law_come" za5) (zhl:@PF ⟨w⟩ P w K mg base 2 "_law_sign" zfx) (zhk:@PF ⟨w⟩ P w K mg base 4 "_law_step" zev) (znh:@PF ⟨w⟩ P w K mg base 7 "step" zo1) (zlo:@PFN ⟨w⟩ P w K mg base 8 "walk" zmz) (zh2:@PF ⟨w⟩ P w K mg base 4 "begin" zhu) (zlp:@PF ⟨w⟩ P w K mg base 1 "heard" zl1):FnOk P w K mg base CX0 9 f fd ["_law_script"] (@spP ⟨w⟩ K 1 zr7) :=
  letI:TW:=⟨w⟩
  have main:FnOk P w K mg base CX0 (8 + 1) f fd ["_law_script"] (spP K 1 (runF 1 12 zrw)):=by
    refine ok_of (N:=["_law_script","_law_house_here","_law_hour","_law_state","_law_states","_law_row","_law_cell","_law_sign_here","_law_after","_law_found","_law_room","_law_kind"]) (ps:=["_law_script"]) (k:=8) (g:=zrw) F zex ?_
    intro cdv A outer s H E hr
    have hu:=hr.units
    refine zad ?_ ?_
    ·refine zap 1 zex.nd rfl (by first | exact Or.inl rfl | exact Or.inr rfl) ?_
     refine zak zfa (hr.mono (by decide)) rfl ?_
     refine zaa ?_ ?_
     ·refine zd2 ?_ ?_ ?_
      ·refine EV.o ?_
       exact ev_v 0
      ·exact zb3
      ·refine zbo ?_
       exact zab
     ·exact zag
    ·refine zad ?_ ?_
     ·refine zap 2 zex.nd rfl (by first | exact Or.inl rfl | exact Or.inr rfl) ?_
      refine zal zck ?_ ?_
      ·refine EV.o ?_
       refine zak zav (hr.mono (by decide)) rfl ?_
       refine zaa ?_ ?_
       ·exact ev_v 0
       ·refine zaa ?_ ?_
        ·exact zab
        ·exact zag
      ·refine EV.o ?_
       exact zab
     ·refine zad ?_ ?_
      ·refine zap 3 zex.nd rfl (by first | exact Or.inl rfl | exact Or.inr rfl) ?_
       refine zak zbv (hr.mono (by decide)) rfl ?_
       refine zaa ?_ ?_
       ·exact ev_v 1
       ·refine zaa ?_ ?_
        ·exact ev_v 2
        ·refine zaa ?_ ?_
         ·refine zah (ixP hu) ?_ ?_ (fun _ _=>rfl)
          ·refine EV.o ?_
           exact ev_v 1
          ·refine EV.o ?_
           exact zai
         ·refine zaa ?_ ?_
          ·exact zai
          ·exact zag
      ·refine zad ?_ ?_
       ·refine ze7 4 zex.nd rfl (by first | exact Or.inl rfl | exact Or.inr rfl) ?_
        refine zdk ?_
        refine zaa ?_ ?_
        ·exact ev_v 3
        ·exact zag
       ·refine zad ?_ ?_
        ·refine zap 5 zex.nd rfl (by first | exact Or.inl rfl | exact Or.inr rfl) ?_
         exact zai
        ·refine zad ?_ ?_
         ·refine zcf PassesOwn.never rfl ?_ ?_ ?_
          ·refine ze2 ?_
           refine zd2 ?_ ?_ ?_
           ·refine EV.o ?_
            exact ev_v 0
           ·refine zbo ?_
            exact zab
           ·refine zbo ?_
            exact zab
          ·exact zat 6 zex.nd rfl (by first | exact Or.inl rfl | exact Or.inr rfl)
          ·refine zad ?_ ?_
           ·refine zap 7 zex.nd rfl (by first | exact Or.inl rfl | exact Or.inr rfl) ?_
            refine zak zhl (hr.mono (by decide)) rfl ?_
            refine zaa ?_ ?_
            ·exact ev_v 1
            ·refine zaa ?_ ?_
             ·exact ev_v 3
             ·refine zaa ?_ ?_
              ·exact ev_v 6
              ·exact zag
           ·refine zad ?_ ?_
            ·refine zap 8 zex.nd rfl (by first | exact Or.inl rfl | exact Or.inr rfl) ?_
             refine zak zhk (hr.mono (by decide)) rfl ?_
             refine zaa ?_ ?_
             ·exact ev_v 1
             ·refine zaa ?_ ?_
              ·exact ev_v 2
              ·refine zaa ?_ ?_
               ·exact ev_v 3
               ·refine zaa ?_ ?_
                ·exact ev_v 7
                ·exact zag
            ·refine zad ?_ ?_
             ·refine zce ?_ ?_ ?_
              ·refine zay (opNe hu) zgw ?_ ?_ (nomark _)
               ·refine EV.o ?_
                refine zak znh (hr.mono (by decide)) rfl ?_
                refine zaa ?_ ?_
                ·exact ev_v 1
                ·refine zaa ?_ ?_
                 ·exact ev_v 2
                 ·refine zaa ?_ ?_
                  ·exact ev_v 3
                  ·refine zaa ?_ ?_
                   ·exact ev_v 7
                   ·exact zag
               ·refine EV.o ?_
                exact ev_v 8
              ·refine zaf ?_
               refine zar ?_
               exact zuj
              ·exact zaz
             ·refine zad ?_ ?_
              ·refine zap 5 zex.nd rfl (by first | exact Or.inl rfl | exact Or.inr rfl) ?_
               refine zal zcd ?_ ?_
               ·refine EV.o ?_
                exact ev_v 5
               ·refine EV.o ?_
                exact ev_v 7
              ·refine zad ?_ ?_
               ·refine zap 3 zex.nd rfl (by first | exact Or.inl rfl | exact Or.inr rfl) ?_
                exact ev_v 8
               ·refine zaf ?_
                refine zcw 4 rfl (by first | exact Or.inl rfl | exact Or.inr (Or.inl rfl)) ?_
                exact ev_v 3
         ·refine zad ?_ ?_
          ·refine ze7 9 zex.nd rfl (by first | exact Or.inl rfl | exact Or.inr rfl) ?_
           refine znw zlo (hr.mono (by decide)) rfl ?_
           refine zaa ?_ ?_
           ·exact ev_v 1
           ·refine zaa ?_ ?_
            ·exact ev_v 2
            ·refine zaa ?_ ?_
             ·exact ev_v 5
             ·exact zag
          ·refine zad ?_ ?_
           ·refine zce ?_ ?_ ?_
            ·refine EW.et ?_
             refine zuh ?_ ?_
             ·refine et_not ?_
              refine zuk ?_
              refine EV.o ?_
              refine ev_isi zua rfl T.n_isinstance rfl T.n_list (by decide +kernel) ?_
              exact eo_v 9
             ·refine zuh ?_ ?_
              ·refine zay (opNe hu) zgw ?_ ?_ (nomark _)
               ·exact eo_v 9
               ·exact eo_v 4
              ·refine zr8 ?_
               refine zay (opNe hu) zgw ?_ ?_ (nomark _)
               ·refine EV.o ?_
                refine zak zh2 (hr.mono (by decide)) rfl ?_
                refine zaa ?_ ?_
                ·exact ev_v 1
                ·refine zaa ?_ ?_
                 ·exact ev_v 2
                 ·exact zag
               ·refine EV.o ?_
                refine zah (ixP hu) ?_ ?_ (fun _ _=>rfl)
                ·exact eo_v 4
                ·refine EV.o ?_
                 exact zab
            ·refine zaf ?_
             refine zar ?_
             exact zuj
            ·exact zaz
           ·refine zad ?_ ?_
            ·refine zap 10 zex.nd rfl (by first | exact Or.inl rfl | exact Or.inr rfl) ?_
             refine zah (ixP hu) ?_ ?_ (fun _ _=>rfl)
             ·refine EV.o ?_
              refine zah (ixP hu) ?_ ?_ (fun _ _=>rfl)
              ·refine EV.o ?_
               exact ev_v 1
              ·refine EV.o ?_
               exact zai
             ·refine EV.o ?_
              refine zah (ixP hu) ?_ ?_ (fun _ _=>rfl)
              ·refine EV.o ?_
               exact ev_v 3
              ·refine EV.o ?_
               exact zab
            ·refine zad ?_ ?_
             ·refine zap 11 zex.nd rfl (by first | exact Or.inl rfl | exact Or.inr rfl) ?_
              refine zah (ixP hu) ?_ ?_ (fun _ _=>rfl)
              ·refine EV.o ?_
               exact ev_v 10
              ·refine EV.o ?_
               exact zab
             ·refine zad ?_ ?_
              ·refine zce ?_ ?_ ?_
               ·refine zay (opIn hu) ziz ?_ ?_ (by with_unfolding_all rfl)
                ·refine EV.o ?_
                 exact ev_v 11
                ·refine EN.o ?_
                 refine zdk ?_
                 refine zaa ?_ ?_
                 ·exact zai
                 ·refine zaa ?_ ?_
                  ·exact zai
                  ·exact zag
               ·refine zaf ?_
                refine zap 11 zex.nd rfl (by first | exact Or.inl rfl | exact Or.inr rfl) ?_
                exact zai
               ·exact zaz
              ·refine zad ?_ ?_
               ·refine zcw 9 rfl (by first | exact Or.inl rfl | exact Or.inr (Or.inl rfl)) ?_
                exact zla
               ·refine zad ?_ ?_
                ·refine zce ?_ ?_ ?_
                 ·refine EW.et ?_
                  refine zuh ?_ ?_
                  ·refine zay (opNe hu) zgw ?_ ?_ (nomark _)
                   ·refine EV.o ?_
                    refine zak zlp (hr.mono (by decide)) rfl ?_
                    refine zaa ?_ ?_
                    ·exact ev_v 1
                    ·refine zaa ?_ ?_
                     ·exact ev_v 3
                     ·exact zag
                   ·refine EV.o ?_
                    refine za9 ?_
                    refine zaa ?_ ?_
                    ·exact ev_v 11
                    ·refine zaa ?_ ?_
                     ·refine zah (ixP hu) ?_ ?_ (fun _ _=>rfl)
                      ·refine EV.o ?_
                       exact ev_v 10
                      ·refine EV.o ?_
                       exact zab
                     ·exact zag
                  ·refine zr8 ?_
                   refine zay (opNe hu) zgw ?_ ?_ (nomark _)
                   ·refine EN.o ?_
                    refine znw zlo (hr.mono (by decide)) rfl ?_
                    refine zaa ?_ ?_
                    ·exact ev_v 1
                    ·refine zaa ?_ ?_
                     ·exact ev_v 2
                     ·refine zaa ?_ ?_
                      ·exact ev_v 5
                      ·exact zag
                   ·exact eo_v 4
                 ·refine zaf ?_
                  refine zar ?_
                  exact zuj
                 ·exact zaz
                ·refine zaf ?_
                 refine zar ?_
                 refine zsa (opEq hu) ?_ ?_ (nomark _)
                 ·refine EV.o ?_
                  exact ev_v 1
                 ·refine EV.o ?_
                  refine zak zfa (hr.mono (by decide)) rfl ?_
                  refine zaa ?_ ?_
                  ·refine zd2 ?_ ?_ ?_
                   ·refine EV.o ?_
                    exact ev_v 0
                   ·exact zb3
                   ·refine zbo ?_
                    exact zab
                  ·exact zag
  main
theorem all_mk {l:PySem.W.OpenLaw} {w:World} {K:PySem.W.Frag} {h:Heap} {mg:Str->Option Value} {fa:Addr} (X:K.In h) (G:h.Ns mainGlobals mg) (hfa:mg "law"=some (.ref fa))
  {f0:Addr} {od0 an0:Option Addr} {sl0:Array (Option Value)} {oc0 kV0 dc0 pm0 cd0 ct0:Value} (a0:PySem.W.nsIn K mainGlobals "handed"=some (some (.ref f0))) (l0:K.lookup f0=some ⟨oc0,od0,.func (PySem.W.fnOf "handed" "handed" (zas zg5) (zaq zg5) (zae zg5) .none kV0 dc0 pm0 an0 cd0 ct0),sl0⟩) (c0:PySem.W.codeIn K cd0 "handed"=true) (k0:PySem.W.keepIn K (.ref f0)=true)
  {f1:Addr} {od1 an1:Option Addr} {sl1:Array (Option Value)} {oc1 kV1 dc1 pm1 cd1 ct1:Value} (a1:PySem.W.nsIn K mainGlobals "come_to"=some (some (.ref f1))) (l1:K.lookup f1=some ⟨oc1,od1,.func (PySem.W.fnOf "come_to" "come_to" (zas zfs) (zaq zfs) (zae zfs) .none kV1 dc1 pm1 an1 cd1 ct1),sl1⟩) (c1:PySem.W.codeIn K cd1 "come_to"=true) (k1:PySem.W.keepIn K (.ref f1)=true)
  {f2:Addr} {od2 an2:Option Addr} {sl2:Array (Option Value)} {oc2 kV2 dc2 pm2 cd2 ct2:Value} (a2:PySem.W.nsIn K mainGlobals "key_of"=some (some (.ref f2))) (l2:K.lookup f2=some ⟨oc2,od2,.func (PySem.W.fnOf "key_of" "key_of" (zas zg4) (zaq zg4) (zae zg4) .none kV2 dc2 pm2 an2 cd2 ct2),sl2⟩) (c2:PySem.W.codeIn K cd2 "key_of"=true) (k2:PySem.W.keepIn K (.ref f2)=true)
  {f3:Addr} {od3 an3:Option Addr} {sl3:Array (Option Value)} {oc3 kV3 dc3 pm3 cd3 ct3:Value} (a3:PySem.W.nsIn K mainGlobals "code_of"=some (some (.ref f3))) (l3:K.lookup f3=some ⟨oc3,od3,.func (PySem.W.fnOf "code_of" "code_of" (zas zez) (zaq zez) (zae zez) .none kV3 dc3 pm3 an3 cd3 ct3),sl3⟩) (c3:PySem.W.codeIn K cd3 "code_of"=true) (k3:PySem.W.keepIn K (.ref f3)=true)
  {f4:Addr} {od4 an4:Option Addr} {sl4:Array (Option Value)} {oc4 kV4 dc4 pm4 cd4 ct4:Value} (a4:PySem.W.nsIn K mainGlobals "beginning_counts"=some (some (.ref f4))) (l4:K.lookup f4=some ⟨oc4,od4,.func (PySem.W.fnOf "beginning_counts" "beginning_counts" (zas zbh) (zaq zbh) (zae zbh) .none kV4 dc4 pm4 an4 cd4 ct4),sl4⟩) (c4:PySem.W.codeIn K cd4 "beginning_counts"=true) (k4:PySem.W.keepIn K (.ref f4)=true)
  {f5:Addr} {od5 an5:Option Addr} {sl5:Array (Option Value)} {oc5 kV5 dc5 pm5 cd5 ct5:Value} (a5:PySem.W.nsIn K mainGlobals "own_beginning"=some (some (.ref f5))) (l5:K.lookup f5=some ⟨oc5,od5,.func (PySem.W.fnOf "own_beginning" "own_beginning" (zas zb1) (zaq zb1) (zae zb1) .none kV5 dc5 pm5 an5 cd5 ct5),sl5⟩) (c5:PySem.W.codeIn K cd5 "own_beginning"=true) (k5:PySem.W.keepIn K (.ref f5)=true)
  {f6:Addr} {od6 an6:Option Addr} {sl6:Array (Option Value)} {oc6 kV6 dc6 pm6 cd6 ct6:Value} (a6:PySem.W.nsIn K mainGlobals "beginnings"=some (some (.ref f6))) (l6:K.lookup f6=some ⟨oc6,od6,.func (PySem.W.fnOf "beginnings" "beginnings" (zas zb2) (zaq zb2) (zae zb2) .none kV6 dc6 pm6 an6 cd6 ct6),sl6⟩) (c6:PySem.W.codeIn K cd6 "beginnings"=true) (k6:PySem.W.keepIn K (.ref f6)=true)
  {f7:Addr} {od7 an7:Option Addr} {sl7:Array (Option Value)} {oc7 kV7 dc7 pm7 cd7 ct7:Value} (a7:PySem.W.nsIn K mainGlobals "arrival"=some (some (.ref f7))) (l7:K.lookup f7=some ⟨oc7,od7,.func (PySem.W.fnOf "arrival" "arrival" (zas zfu) (zaq zfu) (zae zfu) .none kV7 dc7 pm7 an7 cd7 ct7),sl7⟩) (c7:PySem.W.codeIn K cd7 "arrival"=true) (k7:PySem.W.keepIn K (.ref f7)=true)
  {f8:Addr} {od8 an8:Option Addr} {sl8:Array (Option Value)} {oc8 kV8 dc8 pm8 cd8 ct8:Value} (a8:PySem.W.nsIn K mainGlobals "begin"=some (some (.ref f8))) (l8:K.lookup f8=some ⟨oc8,od8,.func (PySem.W.fnOf "begin" "begin" (zas zis) (zaq zis) (zae zis) .none kV8 dc8 pm8 an8 cd8 ct8),sl8⟩) (c8:PySem.W.codeIn K cd8 "begin"=true) (k8:PySem.W.keepIn K (.ref f8)=true)
  {f9:Addr} {od9 an9:Option Addr} {sl9:Array (Option Value)} {oc9 kV9 dc9 pm9 cd9 ct9:Value} (a9:PySem.W.nsIn K mainGlobals "by_wrong_key"=some (some (.ref f9))) (l9:K.lookup f9=some ⟨oc9,od9,.func (PySem.W.fnOf "by_wrong_key" "by_wrong_key" (zas zcc) (zaq zcc) (zae zcc) .none kV9 dc9 pm9 an9 cd9 ct9),sl9⟩) (c9:PySem.W.codeIn K cd9 "by_wrong_key"=true) (k9:PySem.W.keepIn K (.ref f9)=true)
  {f10:Addr} {od10 an10:Option Addr} {sl10:Array (Option Value)} {oc10 kV10 dc10 pm10 cd10 ct10:Value} (a10:PySem.W.nsIn K mainGlobals "by_key"=some (some (.ref f10))) (l10:K.lookup f10=some ⟨oc10,od10,.func (PySem.W.fnOf "by_key" "by_key" (zas zg7) (zaq zg7) (zae zg7) .none kV10 dc10 pm10 an10 cd10 ct10),sl10⟩) (c10:PySem.W.codeIn K cd10 "by_key"=true) (k10:PySem.W.keepIn K (.ref f10)=true)
  {f11:Addr} {od11 an11:Option Addr} {sl11:Array (Option Value)} {oc11 kV11 dc11 pm11 cd11 ct11:Value} (a11:PySem.W.nsIn K mainGlobals "by_wait"=some (some (.ref f11))) (l11:K.lookup f11=some ⟨oc11,od11,.func (PySem.W.fnOf "by_wait" "by_wait" (zas zft) (zaq zft) (zae zft) .none kV11 dc11 pm11 an11 cd11 ct11),sl11⟩) (c11:PySem.W.codeIn K cd11 "by_wait"=true) (k11:PySem.W.keepIn K (.ref f11)=true)
  {f12:Addr} {od12 an12:Option Addr} {sl12:Array (Option Value)} {oc12 kV12 dc12 pm12 cd12 ct12:Value} (a12:PySem.W.nsIn K mainGlobals "follow"=some (some (.ref f12))) (l12:K.lookup f12=some ⟨oc12,od12,.func (PySem.W.fnOf "follow" "follow" (zas zg6) (zaq zg6) (zae zg6) .none kV12 dc12 pm12 an12 cd12 ct12),sl12⟩) (c12:PySem.W.codeIn K cd12 "follow"=true) (k12:PySem.W.keepIn K (.ref f12)=true)
  {f13:Addr} {od13 an13:Option Addr} {sl13:Array (Option Value)} {oc13 kV13 dc13 pm13 cd13 ct13:Value} (a13:PySem.W.nsIn K mainGlobals "names_ways"=some (some (.ref f13))) (l13:K.lookup f13=some ⟨oc13,od13,.func (PySem.W.fnOf "names_ways" "names_ways" (zas zc5) (zaq zc5) (zae zc5) .none kV13 dc13 pm13 an13 cd13 ct13),sl13⟩) (c13:PySem.W.codeIn K cd13 "names_ways"=true) (k13:PySem.W.keepIn K (.ref f13)=true)
  {f14:Addr} {od14 an14:Option Addr} {sl14:Array (Option Value)} {oc14 kV14 dc14 pm14 cd14 ct14:Value} (a14:PySem.W.nsIn K mainGlobals "room_ways"=some (some (.ref f14))) (l14:K.lookup f14=some ⟨oc14,od14,.func (PySem.W.fnOf "room_ways" "room_ways" (zas zdo) (zaq zdo) (zae zdo) .none kV14 dc14 pm14 an14 cd14 ct14),sl14⟩) (c14:PySem.W.codeIn K cd14 "room_ways"=true) (k14:PySem.W.keepIn K (.ref f14)=true)
  {f15:Addr} {od15 an15:Option Addr} {sl15:Array (Option Value)} {oc15 kV15 dc15 pm15 cd15 ct15:Value} (a15:PySem.W.nsIn K mainGlobals "step"=some (some (.ref f15))) (l15:K.lookup f15=some ⟨oc15,od15,.func (PySem.W.fnOf "step" "step" (zas zkx) (zaq zkx) (zae zkx) .none kV15 dc15 pm15 an15 cd15 ct15),sl15⟩) (c15:PySem.W.codeIn K cd15 "step"=true) (k15:PySem.W.keepIn K (.ref f15)=true)
  {f16:Addr} {od16 an16:Option Addr} {sl16:Array (Option Value)} {oc16 kV16 dc16 pm16 cd16 ct16:Value} (a16:PySem.W.nsIn K mainGlobals "house_ways"=some (some (.ref f16))) (l16:K.lookup f16=some ⟨oc16,od16,.func (PySem.W.fnOf "house_ways" "house_ways" (zas zc6) (zaq zc6) (zae zc6) .none kV16 dc16 pm16 an16 cd16 ct16),sl16⟩) (c16:PySem.W.codeIn K cd16 "house_ways"=true) (k16:PySem.W.keepIn K (.ref f16)=true)
  {f17:Addr} {od17 an17:Option Addr} {sl17:Array (Option Value)} {oc17 kV17 dc17 pm17 cd17 ct17:Value} (a17:PySem.W.nsIn K mainGlobals "walk_on"=some (some (.ref f17))) (l17:K.lookup f17=some ⟨oc17,od17,.func (PySem.W.fnOf "walk_on" "walk_on" (zas zfr) (zaq zfr) (zae zfr) .none kV17 dc17 pm17 an17 cd17 ct17),sl17⟩) (c17:PySem.W.codeIn K cd17 "walk_on"=true) (k17:PySem.W.keepIn K (.ref f17)=true)
  {f18:Addr} {od18 an18:Option Addr} {sl18:Array (Option Value)} {oc18 kV18 dc18 pm18 cd18 ct18:Value} (a18:PySem.W.nsIn K mainGlobals "walk"=some (some (.ref f18))) (l18:K.lookup f18=some ⟨oc18,od18,.func (PySem.W.fnOf "walk" "walk" (zas zkw) (zaq zkw) (zae zkw) .none kV18 dc18 pm18 an18 cd18 ct18),sl18⟩) (c18:PySem.W.codeIn K cd18 "walk"=true) (k18:PySem.W.keepIn K (.ref f18)=true)
  {f19:Addr} {od19 an19:Option Addr} {sl19:Array (Option Value)} {oc19 kV19 dc19 pm19 cd19 ct19:Value} (a19:PySem.W.nsIn K mainGlobals "heard"=some (some (.ref f19))) (l19:K.lookup f19=some ⟨oc19,od19,.func (PySem.W.fnOf "heard" "heard" (zas zir) (zaq zir) (zae zir) .none kV19 dc19 pm19 an19 cd19 ct19),sl19⟩) (c19:PySem.W.codeIn K cd19 "heard"=true) (k19:PySem.W.keepIn K (.ref f19)=true)
  {f20:Addr} {od20 an20:Option Addr} {sl20:Array (Option Value)} {oc20 kV20 dc20 pm20 cd20 ct20:Value} (a20:PySem.W.nsIn K mainGlobals "_law_cell_at"=some (some (.ref f20))) (l20:K.lookup f20=some ⟨oc20,od20,.func (PySem.W.fnOf "_law_cell_at" "_law_cell_at" (zas zcp) (zaq zcp) (zae zcp) .none kV20 dc20 pm20 an20 cd20 ct20),sl20⟩) (c20:PySem.W.codeIn K cd20 "_law_cell_at"=true) (k20:PySem.W.keepIn K (.ref f20)=true)
  {f21:Addr} {od21 an21:Option Addr} {sl21:Array (Option Value)} {oc21 kV21 dc21 pm21 cd21 ct21:Value} (a21:PySem.W.nsIn K mainGlobals "_law_numbers"=some (some (.ref f21))) (l21:K.lookup f21=some ⟨oc21,od21,.func (PySem.W.fnOf "_law_numbers" "_law_numbers" (zas zcn) (zaq zcn) (zae zcn) .none kV21 dc21 pm21 an21 cd21 ct21),sl21⟩) (c21:PySem.W.codeIn K cd21 "_law_numbers"=true) (k21:PySem.W.keepIn K (.ref f21)=true)
  {f22:Addr} {od22 an22:Option Addr} {sl22:Array (Option Value)} {oc22 kV22 dc22 pm22 cd22 ct22:Value} (a22:PySem.W.nsIn K mainGlobals "_law_names"=some (some (.ref f22))) (l22:K.lookup f22=some ⟨oc22,od22,.func (PySem.W.fnOf "_law_names" "_law_names" (zas zdr) (zaq zdr) (zae zdr) .none kV22 dc22 pm22 an22 cd22 ct22),sl22⟩) (c22:PySem.W.codeIn K cd22 "_law_names"=true) (k22:PySem.W.keepIn K (.ref f22)=true)
  {f23:Addr} {od23 an23:Option Addr} {sl23:Array (Option Value)} {oc23 kV23 dc23 pm23 cd23 ct23:Value} (a23:PySem.W.nsIn K mainGlobals "_law_many"=some (some (.ref f23))) (l23:K.lookup f23=some ⟨oc23,od23,.func (PySem.W.fnOf "_law_many" "_law_many" (zas zes) (zaq zes) (zae zes) .none kV23 dc23 pm23 an23 cd23 ct23),sl23⟩) (c23:PySem.W.codeIn K cd23 "_law_many"=true) (k23:PySem.W.keepIn K (.ref f23)=true)
  {f24:Addr} {od24 an24:Option Addr} {sl24:Array (Option Value)} {oc24 kV24 dc24 pm24 cd24 ct24:Value} (a24:PySem.W.nsIn K mainGlobals "_law_menu"=some (some (.ref f24))) (l24:K.lookup f24=some ⟨oc24,od24,.func (PySem.W.fnOf "_law_menu" "_law_menu" (zas zer) (zaq zer) (zae zer) .none kV24 dc24 pm24 an24 cd24 ct24),sl24⟩) (c24:PySem.W.codeIn K cd24 "_law_menu"=true) (k24:PySem.W.keepIn K (.ref f24)=true)
  {f25:Addr} {od25 an25:Option Addr} {sl25:Array (Option Value)} {oc25 kV25 dc25 pm25 cd25 ct25:Value} (a25:PySem.W.nsIn K mainGlobals "_law_letters"=some (some (.ref f25))) (l25:K.lookup f25=some ⟨oc25,od25,.func (PySem.W.fnOf "_law_letters" "_law_letters" (zas zco) (zaq zco) (zae zco) .none kV25 dc25 pm25 an25 cd25 ct25),sl25⟩) (c25:PySem.W.codeIn K cd25 "_law_letters"=true) (k25:PySem.W.keepIn K (.ref f25)=true)
  {f26:Addr} {od26 an26:Option Addr} {sl26:Array (Option Value)} {oc26 kV26 dc26 pm26 cd26 ct26:Value} (a26:PySem.W.nsIn K mainGlobals "_law_room_of_names"=some (some (.ref f26))) (l26:K.lookup f26=some ⟨oc26,od26,.func (PySem.W.fnOf "_law_room_of_names" "_law_room_of_names" (zas zba) (zaq zba) (zae zba) .none kV26 dc26 pm26 an26 cd26 ct26),sl26⟩) (c26:PySem.W.codeIn K cd26 "_law_room_of_names"=true) (k26:PySem.W.keepIn K (.ref f26)=true)
  {f27:Addr} {od27 an27:Option Addr} {sl27:Array (Option Value)} {oc27 kV27 dc27 pm27 cd27 ct27:Value} (a27:PySem.W.nsIn K mainGlobals "_law_hours"=some (some (.ref f27))) (l27:K.lookup f27=some ⟨oc27,od27,.func (PySem.W.fnOf "_law_hours" "_law_hours" (zas zdt) (zaq zdt) (zae zdt) .none kV27 dc27 pm27 an27 cd27 ct27),sl27⟩) (c27:PySem.W.codeIn K cd27 "_law_hours"=true) (k27:PySem.W.keepIn K (.ref f27)=true)
  {f28:Addr} {od28 an28:Option Addr} {sl28:Array (Option Value)} {oc28 kV28 dc28 pm28 cd28 ct28:Value} (a28:PySem.W.nsIn K mainGlobals "_law_house"=some (some (.ref f28))) (l28:K.lookup f28=some ⟨oc28,od28,.func (PySem.W.fnOf "_law_house" "_law_house" (zas zds) (zaq zds) (zae zds) .none kV28 dc28 pm28 an28 cd28 ct28),sl28⟩) (c28:PySem.W.codeIn K cd28 "_law_house"=true) (k28:PySem.W.keepIn K (.ref f28)=true)
  {f29:Addr} {od29 an29:Option Addr} {sl29:Array (Option Value)} {oc29 kV29 dc29 pm29 cd29 ct29:Value} (a29:PySem.W.nsIn K mainGlobals "_law_come"=some (some (.ref f29))) (l29:K.lookup f29=some ⟨oc29,od29,.func (PySem.W.fnOf "_law_come" "_law_come" (zas zet) (zaq zet) (zae zet) .none kV29 dc29 pm29 an29 cd29 ct29),sl29⟩) (c29:PySem.W.codeIn K cd29 "_law_come"=true) (k29:PySem.W.keepIn K (.ref f29)=true)
  {f30:Addr} {od30 an30:Option Addr} {sl30:Array (Option Value)} {oc30 kV30 dc30 pm30 cd30 ct30:Value} (a30:PySem.W.nsIn K mainGlobals "_law_codes"=some (some (.ref f30))) (l30:K.lookup f30=some ⟨oc30,od30,.func (PySem.W.fnOf "_law_codes" "_law_codes" (zas zc1) (zaq zc1) (zae zc1) .none kV30 dc30 pm30 an30 cd30 ct30),sl30⟩) (c30:PySem.W.codeIn K cd30 "_law_codes"=true) (k30:PySem.W.keepIn K (.ref f30)=true)
  {f31:Addr} {od31 an31:Option Addr} {sl31:Array (Option Value)} {oc31 kV31 dc31 pm31 cd31 ct31:Value} (a31:PySem.W.nsIn K mainGlobals "_law_beginning"=some (some (.ref f31))) (l31:K.lookup f31=some ⟨oc31,od31,.func (PySem.W.fnOf "_law_beginning" "_law_beginning" (zas zbp) (zaq zbp) (zae zbp) .none kV31 dc31 pm31 an31 cd31 ct31),sl31⟩) (c31:PySem.W.codeIn K cd31 "_law_beginning"=true) (k31:PySem.W.keepIn K (.ref f31)=true)
  {f32:Addr} {od32 an32:Option Addr} {sl32:Array (Option Value)} {oc32 kV32 dc32 pm32 cd32 ct32:Value} (a32:PySem.W.nsIn K mainGlobals "_law_wrong"=some (some (.ref f32))) (l32:K.lookup f32=some ⟨oc32,od32,.func (PySem.W.fnOf "_law_wrong" "_law_wrong" (zas zdp) (zaq zdp) (zae zdp) .none kV32 dc32 pm32 an32 cd32 ct32),sl32⟩) (c32:PySem.W.codeIn K cd32 "_law_wrong"=true) (k32:PySem.W.keepIn K (.ref f32)=true)
  {f33:Addr} {od33 an33:Option Addr} {sl33:Array (Option Value)} {oc33 kV33 dc33 pm33 cd33 ct33:Value} (a33:PySem.W.nsIn K mainGlobals "_law_typed"=some (some (.ref f33))) (l33:K.lookup f33=some ⟨oc33,od33,.func (PySem.W.fnOf "_law_typed" "_law_typed" (zas zdq) (zaq zdq) (zae zdq) .none kV33 dc33 pm33 an33 cd33 ct33),sl33⟩) (c33:PySem.W.codeIn K cd33 "_law_typed"=true) (k33:PySem.W.keepIn K (.ref f33)=true)
  {f34:Addr} {od34 an34:Option Addr} {sl34:Array (Option Value)} {oc34 kV34 dc34 pm34 cd34 ct34:Value} (a34:PySem.W.nsIn K mainGlobals "_law_step"=some (some (.ref f34))) (l34:K.lookup f34=some ⟨oc34,od34,.func (PySem.W.fnOf "_law_step" "_law_step" (zas zep) (zaq zep) (zae zep) .none kV34 dc34 pm34 an34 cd34 ct34),sl34⟩) (c34:PySem.W.codeIn K cd34 "_law_step"=true) (k34:PySem.W.keepIn K (.ref f34)=true)
  {f35:Addr} {od35 an35:Option Addr} {sl35:Array (Option Value)} {oc35 kV35 dc35 pm35 cd35 ct35:Value} (a35:PySem.W.nsIn K mainGlobals "_law_sign"=some (some (.ref f35))) (l35:K.lookup f35=some ⟨oc35,od35,.func (PySem.W.fnOf "_law_sign" "_law_sign" (zas zeq) (zaq zeq) (zae zeq) .none kV35 dc35 pm35 an35 cd35 ct35),sl35⟩) (c35:PySem.W.codeIn K cd35 "_law_sign"=true) (k35:PySem.W.keepIn K (.ref f35)=true)
  {f36:Addr} {od36 an36:Option Addr} {sl36:Array (Option Value)} {oc36 kV36 dc36 pm36 cd36 ct36:Value} (a36:PySem.W.nsIn K mainGlobals "law"=some (some (.ref f36))) (l36:K.lookup f36=some ⟨oc36,od36,.func (PySem.W.fnOf "law" "law" (zas zll) (zaq zll) (zae zll) .none kV36 dc36 pm36 an36 cd36 ct36),sl36⟩) (c36:PySem.W.codeIn K cd36 "law"=true) (k36:PySem.W.keepIn K (.ref f36)=true)
  (z_dict:PySem.W.nsIn K mainGlobals "dict"=some none)
  (z_enumerate:PySem.W.nsIn K mainGlobals "enumerate"=some none)
  (z_int:PySem.W.nsIn K mainGlobals "int"=some none)
  (z_isinstance:PySem.W.nsIn K mainGlobals "isinstance"=some none)
  (z_len:PySem.W.nsIn K mainGlobals "len"=some none)
  (z_list:PySem.W.nsIn K mainGlobals "list"=some none)
  (z_range:PySem.W.nsIn K mainGlobals "range"=some none)
  (z_reversed:PySem.W.nsIn K mainGlobals "reversed"=some none)
  (z_tuple:PySem.W.nsIn K mainGlobals "tuple"=some none)
  (z_zip:PySem.W.nsIn K mainGlobals "zip"=some none)
  (c_CODE_END:@Con ⟨w⟩ K mg "CODE_END" c_CODE_END)
  (c_HEARD:@Con ⟨w⟩ K mg "HEARD" c_HEARD)
  (c_WAIT:@Con ⟨w⟩ K mg "WAIT" c_WAIT)
  : ∃ fd:FuncData,(∀ (s:Shared) (v:Value),BindsTo s fd ⟨[v],[]⟩ [("_law_script",v)])/\∀ base:Heap,K.In base->base.Ns mainGlobals mg->FnOk l.prog w K mg base CX0 9 fa fd ["_law_script"] (@spP ⟨w⟩ K 1 zr7):=by
 have e:=hfa.symm.trans (PySem.W.mg_of X G a36)
 cases e
 have T:Txt w K mg:=⟨PySem.W.mg_none_of X G z_dict,PySem.W.mg_none_of X G z_enumerate,PySem.W.mg_none_of X G z_int,PySem.W.mg_none_of X G z_isinstance,PySem.W.mg_none_of X G z_len,PySem.W.mg_none_of X G z_list,PySem.W.mg_none_of X G z_range,PySem.W.mg_none_of X G z_reversed,PySem.W.mg_none_of X G z_tuple,PySem.W.mg_none_of X G z_zip,c_CODE_END,c_HEARD,c_WAIT⟩
 have F0:=za8 (st:=zg5) l0 c0 k0
 have b0:=F0.binds (ps:=["room","hour"]) fun _ _ _ _ _ _ us hl=>match us,hl with | [_,_],_=>rfl
 have F1:=za8 (st:=zfs) l1 c1 k1
 have b1:=F1.binds (ps:=["H","hour","name"]) fun _ _ _ _ _ _ us hl=>match us,hl with | [_,_,_],_=>rfl
 have F2:=za8 (st:=zg4) l2 c2 k2
 have b2:=F2.binds (ps:=["letters","letter"]) fun _ _ _ _ _ _ us hl=>match us,hl with | [_,_],_=>rfl
 have F3:=za8 (st:=zez) l3 c3 k3
 have b3:=F3.binds (ps:=["letters","word"]) fun _ _ _ _ _ _ us hl=>match us,hl with | [_,_],_=>rfl
 have F4:=za8 (st:=zbh) l4 c4 k4
 have b4:=F4.binds (ps:=["codes"]) fun _ _ _ _ _ _ us hl=>match us,hl with | [_],_=>rfl
 have F5:=za8 (st:=zb1) l5 c5 k5
 have b5:=F5.binds (ps:=["code","counts"]) fun _ _ _ _ _ _ us hl=>match us,hl with | [_,_],_=>rfl
 have F6:=za8 (st:=zb2) l6 c6 k6
 have b6:=F6.binds (ps:=["letters","words"]) fun _ _ _ _ _ _ us hl=>match us,hl with | [_,_],_=>rfl
 have F7:=za8 (st:=zfu) l7 c7 k7
 have b7:=F7.binds (ps:=["H","hour","name","back"]) fun _ _ _ _ _ _ us hl=>match us,hl with | [_,_,_,_],_=>rfl
 have F8:=za8 (st:=zis) l8 c8 k8
 have b8:=F8.binds (ps:=["H","hour"]) fun _ _ _ _ _ _ us hl=>match us,hl with | [_,_],_=>rfl
 have F9:=za8 (st:=zcc) l9 c9 k9
 have b9:=F9.binds (ps:=["H","hour","state"]) fun _ _ _ _ _ _ us hl=>match us,hl with | [_,_,_],_=>rfl
 have F10:=za8 (st:=zg7) l10 c10 k10
 have b10:=F10.binds (ps:=["H","hour","ways","state","key"]) fun _ _ _ _ _ _ us hl=>match us,hl with | [_,_,_,_,_],_=>rfl
 have F11:=za8 (st:=zft) l11 c11 k11
 have b11:=F11.binds (ps:=["H","hour","state"]) fun _ _ _ _ _ _ us hl=>match us,hl with | [_,_,_],_=>rfl
 have F12:=za8 (st:=zg6) l12 c12 k12
 have b12:=F12.binds (ps:=["H","hour","ways","state","sign"]) fun _ _ _ _ _ _ us hl=>match us,hl with | [_,_,_,_,_],_=>rfl
 have F13:=za8 (st:=zc5) l13 c13 k13
 have b13:=F13.binds (ps:=["letters","names"]) fun _ _ _ _ _ _ us hl=>match us,hl with | [_,_],_=>rfl
 have F14:=za8 (st:=zdo) l14 c14 k14
 have b14:=F14.binds (ps:=["H","name"]) fun _ _ _ _ _ _ us hl=>match us,hl with | [_,_],_=>rfl
 have F15:=za8 (st:=zkx) l15 c15 k15
 have b15:=F15.binds (ps:=["H","hour","state","sign"]) fun _ _ _ _ _ _ us hl=>match us,hl with | [_,_,_,_],_=>rfl
 have F16:=za8 (st:=zc6) l16 c16 k16
 have b16:=F16.binds (ps:=["H"]) fun _ _ _ _ _ _ us hl=>match us,hl with | [_],_=>rfl
 have F17:=za8 (st:=zfr) l17 c17 k17
 have b17:=F17.binds (ps:=["H","hour","state","row"]) fun _ _ _ _ _ _ us hl=>match us,hl with | [_,_,_,_],_=>rfl
 have F18:=za8 (st:=zkw) l18 c18 k18
 have b18:=F18.binds (ps:=["H","hour","row"]) fun _ _ _ _ _ _ us hl=>match us,hl with | [_,_,_],_=>rfl
 have F19:=za8 (st:=zir) l19 c19 k19
 have b19:=F19.binds (ps:=["H","state"]) fun _ _ _ _ _ _ us hl=>match us,hl with | [_,_],_=>rfl
 have F20:=za8 (st:=zcp) l20 c20 k20
 have b20:=F20.binds (ps:=["_law_script","_law_k"]) fun _ _ _ _ _ _ us hl=>match us,hl with | [_,_],_=>rfl
 have F21:=za8 (st:=zcn) l21 c21 k21
 have b21:=F21.binds (ps:=["_law_cell","_law_many_here"]) fun _ _ _ _ _ _ us hl=>match us,hl with | [_,_],_=>rfl
 have F22:=za8 (st:=zdr) l22 c22 k22
 have b22:=F22.binds (ps:=["_law_cell"]) fun _ _ _ _ _ _ us hl=>match us,hl with | [_],_=>rfl
 have F23:=za8 (st:=zes) l23 c23 k23
 have b23:=F23.binds (ps:=["_law_number"]) fun _ _ _ _ _ _ us hl=>match us,hl with | [_],_=>rfl
 have F24:=za8 (st:=zer) l24 c24 k24
 have b24:=F24.binds (ps:=["_law_names_here","_law_text","_law_cell"]) fun _ _ _ _ _ _ us hl=>match us,hl with | [_,_,_],_=>rfl
 have F25:=za8 (st:=zco) l25 c25 k25
 have b25:=F25.binds (ps:=["_law_cell"]) fun _ _ _ _ _ _ us hl=>match us,hl with | [_],_=>rfl
 have F26:=za8 (st:=zba) l26 c26 k26
 have b26:=F26.binds (ps:=["_law_names_here","_law_cell"]) fun _ _ _ _ _ _ us hl=>match us,hl with | [_,_],_=>rfl
 have F27:=za8 (st:=zdt) l27 c27 k27
 have b27:=F27.binds (ps:=["_law_targets","_law_cell"]) fun _ _ _ _ _ _ us hl=>match us,hl with | [_,_],_=>rfl
 have F28:=za8 (st:=zds) l28 c28 k28
 have b28:=F28.binds (ps:=["_law_cells"]) fun _ _ _ _ _ _ us hl=>match us,hl with | [_],_=>rfl
 have F29:=za8 (st:=zet) l29 c29 k29
 have b29:=F29.binds (ps:=["_law_house_here","_law_hour","_law_name","_law_back"]) fun _ _ _ _ _ _ us hl=>match us,hl with | [_,_,_,_],_=>rfl
 have F30:=za8 (st:=zc1) l30 c30 k30
 have b30:=F30.binds (ps:=["_law_house_here","_law_words"]) fun _ _ _ _ _ _ us hl=>match us,hl with | [_,_],_=>rfl
 have F31:=za8 (st:=zbp) l31 c31 k31
 have b31:=F31.binds (ps:=["_law_codes_here","_law_word"]) fun _ _ _ _ _ _ us hl=>match us,hl with | [_,_],_=>rfl
 have F32:=za8 (st:=zdp) l32 c32 k32
 have b32:=F32.binds (ps:=["_law_house_here","_law_hour","_law_state","_law_at"]) fun _ _ _ _ _ _ us hl=>match us,hl with | [_,_,_,_],_=>rfl
 have F33:=za8 (st:=zdq) l33 c33 k33
 have b33:=F33.binds (ps:=["_law_house_here","_law_hour","_law_state","_law_sign_here"]) fun _ _ _ _ _ _ us hl=>match us,hl with | [_,_,_,_],_=>rfl
 have F34:=za8 (st:=zep) l34 c34 k34
 have b34:=F34.binds (ps:=["_law_house_here","_law_hour","_law_state","_law_sign_here"]) fun _ _ _ _ _ _ us hl=>match us,hl with | [_,_,_,_],_=>rfl
 have F35:=za8 (st:=zeq) l35 c35 k35
 have b35:=F35.binds (ps:=["_law_house_here","_law_state","_law_cell"]) fun _ _ _ _ _ _ us hl=>match us,hl with | [_,_,_],_=>rfl
 have F36:=za8 (st:=zll) l36 c36 k36
 refine ⟨PySem.W.fnOf "law" "law" (zas zll) (zaq zll) (zae zll) .none kV36 dc36 pm36 an36 cd36 ct36,fun s v=>.of_eq rfl,fun base _ _=>?_⟩
 have p_handed:=zjz (P:=l.prog) (base:=base) T F0 (PySem.W.mg_of X G a0) b0
 have p_come_to:=ziu (P:=l.prog) (base:=base) T F1 (PySem.W.mg_of X G a1) b1 p_handed
 have p_key_of:=zjy (P:=l.prog) (base:=base) T F2 (PySem.W.mg_of X G a2) b2
 have p_code_of:=ziv (P:=l.prog) (base:=base) T F3 (PySem.W.mg_of X G a3) b3 p_key_of
 have p_beginning_counts:=zc3 (P:=l.prog) (base:=base) T F4 (PySem.W.mg_of X G a4) b4
 have p_own_beginning:=zec (P:=l.prog) (base:=base) T F5 (PySem.W.mg_of X G a5) b5
 have p_beginnings:=zf8 (P:=l.prog) (base:=base) T F6 (PySem.W.mg_of X G a6) b6 p_code_of p_beginning_counts p_own_beginning
 have p_arrival:=zcr (P:=l.prog) (base:=base) T F7 (PySem.W.mg_of X G a7) b7 p_come_to
 have p_begin:=zh2 (P:=l.prog) (base:=base) T F8 (PySem.W.mg_of X G a8) b8 p_arrival
 have p_by_wrong_key:=zdd (P:=l.prog) (base:=base) T F9 (PySem.W.mg_of X G a9) b9 p_arrival
 have p_by_key:=zj0 (P:=l.prog) (base:=base) T F10 (PySem.W.mg_of X G a10) b10 p_by_wrong_key p_arrival
 have p_by_wait:=ziw (P:=l.prog) (base:=base) T F11 (PySem.W.mg_of X G a11) b11 p_arrival
 have p_follow:=zgs (P:=l.prog) (base:=base) T F12 (PySem.W.mg_of X G a12) b12 p_by_wait p_by_key
 have p_names_ways:=zf6 (P:=l.prog) (base:=base) T F13 (PySem.W.mg_of X G a13) b13 p_beginnings
 have p_room_ways:=zd6 (P:=l.prog) (base:=base) T F14 (PySem.W.mg_of X G a14) b14 p_names_ways
 have p_step:=znh (P:=l.prog) (base:=base) T F15 (PySem.W.mg_of X G a15) b15 p_follow p_room_ways
 have p_house_ways:=zf7 (P:=l.prog) (base:=base) T F16 (PySem.W.mg_of X G a16) b16 p_room_ways
 have p_walk_on:=zit (P:=l.prog) (base:=base) T F17 (PySem.W.mg_of X G a17) b17 p_house_ways p_follow
 have p_walk:=zlo (P:=l.prog) (base:=base) T F18 (PySem.W.mg_of X G a18) b18 p_walk_on p_begin
 have p_heard:=zlp (P:=l.prog) (base:=base) T F19 (PySem.W.mg_of X G a19) b19
 have p_law_cell_at:=zav (P:=l.prog) (base:=base) T F20 (PySem.W.mg_of X G a20) b20
 have p_law_numbers:=zbc (P:=l.prog) (base:=base) T F21 (PySem.W.mg_of X G a21) b21
 have p_law_names:=zgr (P:=l.prog) (base:=base) T F22 (PySem.W.mg_of X G a22) b22 p_law_numbers
 have p_law_many:=zc2 (P:=l.prog) (base:=base) T F23 (PySem.W.mg_of X G a23) b23
 have p_law_menu:=zhm (P:=l.prog) (base:=base) T F24 (PySem.W.mg_of X G a24) b24 p_law_numbers p_law_many
 have p_law_letters:=zfh (P:=l.prog) (base:=base) T F25 (PySem.W.mg_of X G a25) b25
 have p_law_room_of_names:=zby (P:=l.prog) (base:=base) T F26 (PySem.W.mg_of X G a26) b26 p_law_numbers p_law_many
 have p_law_hours:=zd7 (P:=l.prog) (base:=base) T F27 (PySem.W.mg_of X G a27) b27 p_law_numbers
 have p_law_house:=zfa (P:=l.prog) (base:=base) T F28 (PySem.W.mg_of X G a28) b28 p_law_names p_law_cell_at p_law_menu p_law_room_of_names p_law_hours p_law_letters
 have p_law_come:=zbv (P:=l.prog) (base:=base) T F29 (PySem.W.mg_of X G a29) b29
 have p_law_codes:=zd8 (P:=l.prog) (base:=base) T F30 (PySem.W.mg_of X G a30) b30
 have p_law_beginning:=zb8 (P:=l.prog) (base:=base) T F31 (PySem.W.mg_of X G a31) b31
 have p_law_wrong:=zc7 (P:=l.prog) (base:=base) T F32 (PySem.W.mg_of X G a32) b32 p_law_come
 have p_law_typed:=zgq (P:=l.prog) (base:=base) T F33 (PySem.W.mg_of X G a33) b33 p_law_codes p_law_beginning p_law_come p_law_wrong
 have p_law_step:=zhk (P:=l.prog) (base:=base) T F34 (PySem.W.mg_of X G a34) b34 p_law_wrong p_law_typed p_law_come
 have p_law_sign:=zhl (P:=l.prog) (base:=base) T F35 (PySem.W.mg_of X G a35) b35 p_law_codes p_law_beginning
 exact ok_law T F36 p_law_house p_law_cell_at p_law_come p_law_sign p_law_step p_step p_walk p_begin p_heard
theorem walk {l:PySem.W.OpenLaw} {q:Program} {loose:List Str} {XP:(Str->Option Value)->Heap->Prop} {YP:World->Heap->Prop} {d:DefRec} {K:Params->PySem.W.Frag} (hn:l.most=some 63) (hdf:d.params.defaults=[])
  (hY:∀ (w:World) (h:Heap),YP w h->(K w.params).In h)
  (F:∀ (w:World) (mg:Str->Option Value) (fa:Addr) (h:Heap),(K w.params).In h->h.Ns mainGlobals mg->mg d.name=some (.ref fa) →
   ∃ fd:FuncData,(∀ (s:Shared) (u:Value),BindsTo s fd ⟨[u],[]⟩ [("_law_script",u)])/\∀ base:Heap,(K w.params).In base->base.Ns mainGlobals mg->FnOk l.prog w (K w.params) mg base CX0 9 fa fd ["_law_script"] (@spP ⟨w⟩ (K w.params) 1 zr7)) :
  PySem.W.WalkO q loose XP YP l.row.toRowW d [] (fun f vs=>PySem.call f vs) :=
 L2.walk_ofF (n:=63) (k:=9) (x:="_law_script") (CX:=fun _=>CX0) (sp:=fun w=>@spP ⟨w⟩ (K w.params) 1 zr7) hn (by decide) hdf ⟨rfl,by decide,by decide⟩ hY F
  (fun w _ a ns hl _ hS=>letI:TW:=⟨w⟩;⟨rfl,_,_,zpl hS,zt5 ns,fun v _ _ r=>r⟩) fun _ _ _ _ _ z=>z
end K22
end
open PySem PySem.W PyProof.Rows
def PySem.W.Fast.tw4322438185431023087:Nat:=0
def PySem.W.Fast.tw11291369478875842966:Nat:=0
def PySem.W.Fast.tw17118824873070672746:Nat:=0
def PySem.W.Fast.tw14496527936984668787:Nat:=0
def PySem.W.Fast.tw9361553102443288747:Nat:=0
def PySem.W.Fast.tw12982099035216359348:Nat:=0
def PySem.W.Fast.tw8070545555505541176:Nat:=0
def PySem.W.Fast.tw5076703712534504565:Nat:=0
set_option maxRecDepth 100000 in
set_option maxHeartbeats 0 in
theorem PySem.Challenge.cw_menutree_k22_whole_calls_walked_holds : PySem.Challenge.rw_menutree_k22_whole_calls_walked.Holds := by
 w_on;o_law;k_head;(case hw=>w_witness2)
 k_fill
 refine K22.walk (l:=PySem.Challenge.rw_menutree_k22_whole_calls_walked) rfl rfl (fun w h Y=>PySem.W.kIn_of Y) ?F
 case F =>
  intro w mg fa h KX G hmg
  refine' K22.all_mk KX G hmg ?a0 ?l0 ?c0 ?k0 ?a1 ?l1 ?c1 ?k1 ?a2 ?l2 ?c2 ?k2 ?a3 ?l3 ?c3 ?k3 ?a4 ?l4 ?c4 ?k4 ?a5 ?l5 ?c5 ?k5 ?a6 ?l6 ?c6 ?k6 ?a7 ?l7 ?c7 ?k7 ?a8 ?l8 ?c8 ?k8 ?a9 ?l9 ?c9 ?k9 ?a10 ?l10 ?c10 ?k10 ?a11 ?l11 ?c11 ?k11 ?a12 ?l12 ?c12 ?k12 ?a13 ?l13 ?c13 ?k13 ?a14 ?l14 ?c14 ?k14 ?a15 ?l15 ?c15 ?k15 ?a16 ?l16 ?c16 ?k16 ?a17 ?l17 ?c17 ?k17 ?a18 ?l18 ?c18 ?k18 ?a19 ?l19 ?c19 ?k19 ?a20 ?l20 ?c20 ?k20 ?a21 ?l21 ?c21 ?k21 ?a22 ?l22 ?c22 ?k22 ?a23 ?l23 ?c23 ?k23 ?a24 ?l24 ?c24 ?k24 ?a25 ?l25 ?c25 ?k25 ?a26 ?l26 ?c26 ?k26 ?a27 ?l27 ?c27 ?k27 ?a28 ?l28 ?c28 ?k28 ?a29 ?l29 ?c29 ?k29 ?a30 ?l30 ?c30 ?k30 ?a31 ?l31 ?c31 ?k31 ?a32 ?l32 ?c32 ?k32 ?a33 ?l33 ?c33 ?k33 ?a34 ?l34 ?c34 ?k34 ?a35 ?l35 ?c35 ?k35 ?a36 ?l36 ?c36 ?k36 ?z_dict ?z_enumerate ?z_int ?z_isinstance ?z_len ?z_list ?z_range ?z_reversed ?z_tuple ?z_zip ?q_CODE_END ?q_HEARD ?q_WAIT
  (case a0=>k_is)
  (case l0=>k_is)
  (case c0=>k_is)
  (case k0=>k_is)
  (case a1=>k_is)
  (case l1=>k_is)
  (case c1=>k_is)
  (case k1=>k_is)
  (case a2=>k_is)
  (case l2=>k_is)
  (case c2=>k_is)
  (case k2=>k_is)
  (case a3=>k_is)
  (case l3=>k_is)
  (case c3=>k_is)
  (case k3=>k_is)
  (case a4=>k_is)
  (case l4=>k_is)
  (case c4=>k_is)
  (case k4=>k_is)
  (case a5=>k_is)
  (case l5=>k_is)
  (case c5=>k_is)
  (case k5=>k_is)
  (case a6=>k_is)
  (case l6=>k_is)
  (case c6=>k_is)
  (case k6=>k_is)
  (case a7=>k_is)
  (case l7=>k_is)
  (case c7=>k_is)
  (case k7=>k_is)
  (case a8=>k_is)
  (case l8=>k_is)
  (case c8=>k_is)
  (case k8=>k_is)
  (case a9=>k_is)
  (case l9=>k_is)
  (case c9=>k_is)
  (case k9=>k_is)
  (case a10=>k_is)
  (case l10=>k_is)
  (case c10=>k_is)
  (case k10=>k_is)
  (case a11=>k_is)
  (case l11=>k_is)
  (case c11=>k_is)
  (case k11=>k_is)
  (case a12=>k_is)
  (case l12=>k_is)
  (case c12=>k_is)
  (case k12=>k_is)
  (case a13=>k_is)
  (case l13=>k_is)
  (case c13=>k_is)
  (case k13=>k_is)
  (case a14=>k_is)
  (case l14=>k_is)
  (case c14=>k_is)
  (case k14=>k_is)
  (case a15=>k_is)
  (case l15=>k_is)
  (case c15=>k_is)
  (case k15=>k_is)
  (case a16=>k_is)
  (case l16=>k_is)
  (case c16=>k_is)
  (case k16=>k_is)
  (case a17=>k_is)
  (case l17=>k_is)
  (case c17=>k_is)
  (case k17=>k_is)
  (case a18=>k_is)
  (case l18=>k_is)
  (case c18=>k_is)
  (case k18=>k_is)
  (case a19=>k_is)
  (case l19=>k_is)
  (case c19=>k_is)
  (case k19=>k_is)
  (case a20=>k_is)
  (case l20=>k_is)
  (case c20=>k_is)
  (case k20=>k_is)
  (case a21=>k_is)
  (case l21=>k_is)
  (case c21=>k_is)
  (case k21=>k_is)
  (case a22=>k_is)
  (case l22=>k_is)
  (case c22=>k_is)
  (case k22=>k_is)
  (case a23=>k_is)
  (case l23=>k_is)
  (case c23=>k_is)
  (case k23=>k_is)
  (case a24=>k_is)
  (case l24=>k_is)
  (case c24=>k_is)
  (case k24=>k_is)
  (case a25=>k_is)
  (case l25=>k_is)
  (case c25=>k_is)
  (case k25=>k_is)
  (case a26=>k_is)
  (case l26=>k_is)
  (case c26=>k_is)
  (case k26=>k_is)
  (case a27=>k_is)
  (case l27=>k_is)
  (case c27=>k_is)
  (case k27=>k_is)
  (case a28=>k_is)
  (case l28=>k_is)
  (case c28=>k_is)
  (case k28=>k_is)
  (case a29=>k_is)
  (case l29=>k_is)
  (case c29=>k_is)
  (case k29=>k_is)
  (case a30=>k_is)
  (case l30=>k_is)
  (case c30=>k_is)
  (case k30=>k_is)
  (case a31=>k_is)
  (case l31=>k_is)
  (case c31=>k_is)
  (case k31=>k_is)
  (case a32=>k_is)
  (case l32=>k_is)
  (case c32=>k_is)
  (case k32=>k_is)
  (case a33=>k_is)
  (case l33=>k_is)
  (case c33=>k_is)
  (case k33=>k_is)
  (case a34=>k_is)
  (case l34=>k_is)
  (case c34=>k_is)
  (case k34=>k_is)
  (case a35=>k_is)
  (case l35=>k_is)
  (case c35=>k_is)
  (case k35=>k_is)
  (case a36=>k_is)
  (case l36=>k_is)
  (case c36=>k_is)
  (case k36=>k_is)
  (case z_dict=>k_is)
  (case z_enumerate=>k_is)
  (case z_int=>k_is)
  (case z_isinstance=>k_is)
  (case z_len=>k_is)
  (case z_list=>k_is)
  (case z_range=>k_is)
  (case z_reversed=>k_is)
  (case z_tuple=>k_is)
  (case z_zip=>k_is)
  (case q_CODE_END=>(refine' PU.con_str KX G ?n1;(case n1=>k_is)))
  (case q_HEARD=>(refine' PU.con_dct [(Str.ofString "menu",_,_),(Str.ofString "names",_,_),(Str.ofString "hand",_,_),(Str.ofString "end",_,_)] (xs:=[.str (Str.ofString "asked"),.str (Str.ofString "asked"),.str (Str.ofString "hand"),.str (Str.ofString "end")]) KX G ?n1 ?n2 ?n3 ?n4 ?n5 ?n6 ?n7 ?n8;(case n1=>k_is);(case n2=>k_is);(case n3=>exact rfl);(case n4=>decide);(case n5=>decide +kernel);(case n6=>show 4<=sizeLine;decide);(case n7=>exact .cons ⟨_,rfl⟩ (.cons ⟨_,rfl⟩ (.cons ⟨_,rfl⟩ (.cons ⟨_,rfl⟩ (.nil)))));(case n8=>intro H;exact ⟨_,_,rfl,rfl,_,_,rfl,rfl,_,_,rfl,rfl,_,_,rfl,rfl,rfl⟩)))
  (case q_WAIT=>(refine' PU.con_str KX G ?n1;(case n1=>k_is)))
