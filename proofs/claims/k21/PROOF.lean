import PyProof.Rows.All
import Wide.All
import OpenK.AllK
import Wide.FinOn
import Lean
import PyProof.EqAt
import PyProof.EqKinds
import PyProof.TupleCall
import PyProof.StrLawsIdx
import PyProof.StrBlockH
import PyProof.EnumStmt
import PyProof.ListNew
import PyProof.AutoListH
import PyProof.TupleIter
import PyProof.ZipIter
import PyProof.Rows.ZipGen
import KE.KDictOf
import PyProof.ListIndex
import PyProof.AttrMissHeap
import PyProof.NeKinds
import PyProof.StrLawsIn
import PySem.Challenge.RW_menutree_k21_calls_begin
set_option Elab.async false
set_option linter.all false
set_option maxRecDepth 100000
set_option maxHeartbeats 16000000
section
namespace L2
open PySem PySem.Spec PyProof.Rows
abbrev Key := Sum Int Str
def keyIs : Key → Value → Bool
  | .inl k, v => Value.isInt k v
  | .inr x, v => Value.isStrOf x v
def keyH (w : World) : Key → Int
  | .inl k => hashInt k
  | .inr x => hashStr w x
theorem keyIs_shape : ∀ {k : Key} {v : Value}, keyIs k v = true → (∃ i t, k = Sum.inl i ∧ v = Value.int i t) ∨ (∃ x t, k = Sum.inr x ∧ v = Value.str x t)
  | .inl i, v, h => by
    obtain ⟨t, e⟩ := Value.isInt_shape (k := i) (v := v) h
    exact .inl ⟨i, t, rfl, e⟩
  | .inr x, v, h => by
    obtain ⟨t, e⟩ := Value.isStrOf_shape (x := x) (v := v) h
    exact .inr ⟨x, t, rfl, e⟩
theorem keyIs_int (i : Int) (t : Tok) : keyIs (.inl i) (.int i t) = true := by simp [keyIs, Value.isInt]
theorem keyIs_str (x : Str) (t : Tok) : keyIs (.inr x) (.str x t) = true := by simp [keyIs, Value.isStrOf]
theorem key_ll (a b : Int) : decide ((Sum.inl a : Key) = Sum.inl b) = (a == b) := by
  by_cases e : a = b
  · subst e; simp
  · have h : ¬ (Sum.inl a : Key) = Sum.inl b := fun q => e (Sum.inl.inj q)
    rw [decide_eq_false h]
    exact (beq_eq_false_iff_ne.mpr e).symm
theorem key_rr (a b : Str) : decide ((Sum.inr a : Key) = Sum.inr b) = decide (a = b) := by
  by_cases e : a = b
  · subst e; simp
  · have h : ¬ (Sum.inr a : Key) = Sum.inr b := fun q => e (Sum.inr.inj q)
    rw [decide_eq_false h, decide_eq_false e]
theorem key_lr (a : Int) (b : Str) : decide ((Sum.inl a : Key) = Sum.inr b) = false := decide_eq_false (fun q => nomatch q)
theorem key_rl (a : Str) (b : Int) : decide ((Sum.inr a : Key) = Sum.inl b) = false := decide_eq_false (fun q => nomatch q)
def mixKind (prog : Program) (w : World) : PySem.KeyKind prog w Key where
  is := keyIs
  hash := keyH w
  inj := fun v a b ha hb => by
    rcases keyIs_shape ha with ⟨i, t, rfl, rfl⟩ | ⟨x, t, rfl, rfl⟩
    · rcases keyIs_shape hb with ⟨j, u, rfl, e⟩ | ⟨y, u, rfl, e⟩
      · injection e with e1 _; rw [e1]
      · exact nomatch e
    · rcases keyIs_shape hb with ⟨j, u, rfl, e⟩ | ⟨y, u, rfl, e⟩
      · exact nomatch e
      · injection e with e1 _; rw [e1]
  byValue := fun k v h => by
    rcases keyIs_shape h with ⟨i, t, rfl, rfl⟩ | ⟨x, t, rfl, rfl⟩ <;> rfl
  pyHash := fun hv h => by
    rcases keyIs_shape hv with ⟨i, t, rfl, rfl⟩ | ⟨x, t, rfl, rfl⟩
    · exact wpAny_pyHash_int h
    · exact wpAny_pyHash_str h
  eqBool := fun hu hv h => by
    rcases keyIs_shape hu with ⟨i, t, rfl, rfl⟩ | ⟨x, t, rfl, rfl⟩
    · rcases keyIs_shape hv with ⟨j, u, rfl, rfl⟩ | ⟨y, u, rfl, rfl⟩
      · rw [key_ll] at h; exact wpAny_eqBool_int h
      · rw [key_lr] at h; exact SeqAt.EqAt.int_str i t y u _ _ _ _ h
    · rcases keyIs_shape hv with ⟨j, u, rfl, rfl⟩ | ⟨y, u, rfl, rfl⟩
      · rw [key_rl] at h; exact SeqAt.EqAt.str_int x t j u _ _ _ _ h
      · rw [key_rr] at h; exact wpAny_eqBool_str h
  «strs» := fun k x t v h => by
    rcases keyIs_shape h with ⟨i, u, rfl, e⟩ | ⟨y, u, rfl, e⟩
    · exact nomatch e
    · injection e with e1 _
      subst e1
      cases v <;> rfl
theorem mixKind_int (prog : Program) (w : World) (i : Int) (t : Tok) : (mixKind prog w).is (.inl i) (.int i t) = true := keyIs_int i t
theorem mixKind_str (prog : Program) (w : World) (x : Str) (t : Tok) : (mixKind prog w).is (.inr x) (.str x t) = true := keyIs_str x t
end L2
namespace L2
open PySem PySem.Spec PyProof.Rows
inductive V where
  | non | bl (b : Bool) | int (i : Int) | str (x : Str) | byt (b : Array UInt8) | flt (b : UInt64) | ref (a : Addr) | ty (n : String)
  deriving DecidableEq
def RelV : V → Value → Prop
  | .non, u => u = Value.none
  | .bl b, u => u = Value.bool b
  | .int i, u => ∃ t, u = Value.int i t
  | .str x, u => ∃ t, u = Value.str x t
  | .byt b, u => ∃ t, u = Value.bytes b t
  | .flt b, u => ∃ t, u = Value.float b t
  | .ref a, u => u = Value.ref a
  | .ty n, u => u = Value.type n
abbrev Vals : List V → List Value → Prop := Paired RelV
theorem Vals.length {xs : List V} {us : List Value} (r : Vals xs us) : xs.length = us.length := Paired.length r
theorem Vals.get : ∀ {xs : List V} {us : List Value} {i : Nat} {x : V}, Vals xs us → xs[i]? = some x → ∃ u, us[i]? = some u ∧ RelV x u
  | _, _, _, _, .nil, e => by simp at e
  | _, _, 0, _, .cons r _, e => by simp at e; subst e; exact ⟨_, rfl, r⟩
  | _, _, i + 1, x, .cons _ t, e => by
    obtain ⟨u, h1, h2⟩ := Vals.get (i := i) (x := x) t (by simpa using e)
    exact ⟨u, by simpa using h1, h2⟩
theorem Vals.set {x : V} {u : Value} (r : RelV x u) : ∀ {xs : List V} {us : List Value} (i : Nat), Vals xs us → Vals (xs.set i x) (us.set i u)
  | _, _, _, .nil => .nil
  | _, _, 0, .cons _ t => .cons r t
  | _, _, i + 1, .cons q t => .cons q (Vals.set r i t)
theorem Vals.append : ∀ {xs ys : List V} {us ws : List Value}, Vals xs us → Vals ys ws → Vals (xs ++ ys) (us ++ ws)
  | _, _, _, _, .nil, s => s
  | _, _, _, _, .cons r t, s => .cons r (Vals.append t s)
theorem Vals.take : ∀ {xs : List V} {us : List Value} (n : Nat), Vals xs us → Vals (xs.take n) (us.take n)
  | _, _, 0, _ => .nil
  | _, _, _ + 1, .nil => .nil
  | _, _, n + 1, .cons r t => .cons r (Vals.take n t)
theorem Vals.drop : ∀ {xs : List V} {us : List Value} (n : Nat), Vals xs us → Vals (xs.drop n) (us.drop n)
  | _, _, 0, r => r
  | _, _, _ + 1, .nil => .nil
  | _, _, n + 1, .cons _ t => Vals.drop n t
theorem Vals.none_of : ∀ {xs : List V} {us : List Value} {i : Nat}, Vals xs us → xs[i]? = none → us[i]? = none := fun {xs us i} r e => by
  have h1 := r.length
  have h2 : xs.length ≤ i := List.getElem?_eq_none_iff.mp e
  exact List.getElem?_eq_none_iff.mpr (by omega)
def RelO : Option V → Option Value → Prop
  | some v, some u => RelV v u
  | none, none => True
  | _, _ => False
def KV {κ : Type} : List (κ × V) → List (κ × Value) → Prop := Paired fun (p : κ × V) (q : κ × Value) => p.1 = q.1 ∧ RelV p.2 q.2
def kV : Key → V
  | .inl i => .int i
  | .inr x => .str x
inductive HO where
    | lst (xs : List V)
    | tup (xs : List V)
    | dK (kvs : List (Key × V)) | dT (kvs : List (List Key × V))
    | set (S : Int → Bool) (n : Nat)
    | ins (C dx : Addr) (fs : List (Str × V))
    | own (x : Addr)
    | xd (fs : List (Str × V))
    | met (f x : Addr)
    | rng (lo hi : Int)
    | frz (o : Obj) (u : HO)
    | tbl (ps : Array Value)
    | ext (φ : Heap → Prop)
abbrev Hp := Addr → Option HO
def upd (H : Hp) (a : Addr) (o : HO) : Hp := fun b => if b = a then some o else H b
theorem upd_same {H : Hp} {a : Addr} {o : HO} : upd H a o a = some o := by unfold upd; rw [if_pos rfl]
theorem upd_ne {H : Hp} {a b : Addr} {o : HO} (h : b ≠ a) : upd H a o b = H b := by unfold upd; rw [if_neg h]
theorem ne_of {H : Hp} {a b : Addr} {o u : HO} (h : H a = some o) (h' : H b = some u) (d : o ≠ u) : a ≠ b := by
  intro e; subst e; rw [h] at h'; exact d (Option.some.inj h')
theorem ne_of_none {H : Hp} {a b : Addr} {o : HO} (h : H a = some o) (h' : H b = none) : a ≠ b := by
  intro e; subst e; rw [h] at h'; cases h'
def IsTp (h : Heap) (a : Addr) (items : Array Value) : Prop := ∃ o, h.get? a = some o ∧ o.cls = .type "tuple" ∧ (∃ n, o.data = .seq items n) ∧ ((∀ v ∈ items.toList, ∃ b, v = Value.ref b) → o.dict = none)
theorem IsTp.up {h : Heap} {a : Addr} {items : Array Value} (x : IsTp h a items) : IsTup h a items := by
  obtain ⟨o, e, c, d, _⟩ := x
  exact ⟨o, e, c, d⟩
theorem IsTp.new (h : Heap) (items : Array Value) : IsTp (h.push { cls := .type "tuple", data := .seq items }) h.objs.size items := ⟨_, Heap.get?_push_size _ rfl, rfl, ⟨_, rfl⟩, fun _ => rfl⟩
section
variable (P : Program) (w : World)
def ObjOk (H : Hp) (h : Heap) (a : Addr) : HO → Prop
  | .lst xs => xs.length ≤ sizeLine ∧ ∃ (its : List Value) (n : Nat), Vals xs its ∧ h.get? a = some { cls := .type "list", data := .seq its.toArray n }
  | .tup xs => xs.length ≤ sizeLine ∧ ∃ its : List Value, Vals xs its ∧ IsTp h a its.toArray
  | .dK kvs => kvs.length ≤ sizeLine ∧ (a == sysModules) = false ∧ ∃ vs, KV kvs vs ∧ h.DictOf (mixKind P w) a vs
  | .dT kvs => kvs.length ≤ sizeLine ∧ (a == sysModules) = false ∧ ∃ xs : List (List Key × Addr × Value),
      Paired (fun (p : List Key × V) (q : List Key × Addr × Value) => p.1 = q.1 ∧ H q.2.1 = some (.tup (p.1.map kV)) ∧ RelV p.2 q.2.2) kvs xs ∧
      ∃ o es ep, h.get? a = some o ∧ o.ExactDict ∧ o.data = .dict es ep ∧ es.toList = xs.map (entryOfKey (tupleKind (mixKind P w))) ∧ (xs.map (·.1)).Nodup
  | .set S n => h.SetOf (intKind P w) a S n
  | .ins C dx fs => H dx = some (.own a) ∧ fs.length ≤ 1000 ∧ dx ≠ a ∧ h.get? a = some (PySem.W.instObj C dx) ∧
      ∃ mA, h.Ns1 dx mA ∧ (∀ f, RelO (fs.lookup f) (mA f)) ∧ PySem.Within mA (fs.map (·.1))
  | .own _ => ∃ o, h.get? a = some o
  | .xd fs => ∃ mA, h.Ns1 a mA ∧ ∀ f, RelO (fs.lookup f) (mA f)
  | .rng lo hi => ∃ t u v, h.get? a = some { cls := .type "range", data := .fields #[.int lo t, .int hi u, .int 1 v] }
  | .frz o u => h.get? a = some o ∧ ObjOk H h a u
  | .tbl ps => h.get? a = some { cls := .none, data := .fields ps }
  | .met f x => h.get? a = some (PySem.W.methodObj (.ref f) (.ref x))
  | .ext φ => φ h ∧ (∃ o, h.get? a = some o) ∧ ∀ h1 h2 : Heap, φ h1 → (∀ o, h1.get? a = some o → h2.get? a = some o) → φ h2
def HOk (H : Hp) (h : Heap) : Prop := ∀ a o, H a = some o → ObjOk P w H h a o
end
section
variable {P : Program} {w : World} {H H' : Hp} {h h' : Heap} {a : Addr} {o : HO}
theorem ObjOk.lt (x : ObjOk P w H h a o) : a < h.objs.size := by
  cases o with
  | lst xs => obtain ⟨_, _, _, _, e⟩ := x; exact Heap.lt_size e
  | tup xs => obtain ⟨_, _, _, p⟩ := x; exact p.up.lt
  | dK kvs => obtain ⟨_, _, _, _, o, _, _, e, _⟩ := x; exact Heap.lt_size e
  | dT kvs => obtain ⟨_, _, _, _, o, _, _, e, _⟩ := x; exact Heap.lt_size e
  | set S n => obtain ⟨o, _, _, _, e, _⟩ := x; exact Heap.lt_size e
  | ins C dx fs => obtain ⟨_, _, _, e, _⟩ := x; exact Heap.lt_size e
  | own y => obtain ⟨_, e⟩ := x; exact Heap.lt_size e
  | xd fs => obtain ⟨_, ⟨_, _, _, e, _⟩, _⟩ := x; exact Heap.lt_size e
  | rng lo hi => obtain ⟨_, _, _, e⟩ := x; exact Heap.lt_size e
  | frz ob u => obtain ⟨e, _⟩ := x; exact Heap.lt_size e
  | tbl ps => exact Heap.lt_size (show h.get? a = some _ from x)
  | met f y => exact Heap.lt_size (show h.get? a = some _ from x)
  | ext φ => obtain ⟨_, ⟨_, e⟩, _⟩ := x; exact Heap.lt_size e
theorem Paired.mapP {α β : Type} {F G : α → β → Prop} : ∀ {l₁ : List α} {l₂ : List β}, Paired F l₁ l₂ → (∀ a b, F a b → G a b) → Paired G l₁ l₂
  | _, _, .nil, _ => .nil
  | _, _, .cons r t, f => .cons (f _ _ r) (Paired.mapP t f)
theorem ObjOk.stay (x : ObjOk P w H h a o) (k : ∀ b u, (b = a ∨ H b = some (.own a)) → h.get? b = some u → h'.get? b = some u)
    (ho : ∀ b, H b = some (.own a) → H' b = some (.own a)) (ht : ∀ b xs, H b = some (.tup xs) → H' b = some (.tup xs)) : ObjOk P w H' h' a o := by
  induction o with
  | lst xs => obtain ⟨z, its, n, r, e⟩ := x; exact ⟨z, its, n, r, k _ _ (.inl rfl) e⟩
  | tup xs => obtain ⟨z, its, r, ob, e, c⟩ := x; exact ⟨z, its, r, ob, k _ _ (.inl rfl) e, c⟩
  | dK kvs => obtain ⟨z, y, vs, r, ob, es, ep, e, c⟩ := x; exact ⟨z, y, vs, r, ob, es, ep, k _ _ (.inl rfl) e, c⟩
  | dT kvs =>
    obtain ⟨z, y, xs, r, ob, es, ep, e, c⟩ := x
    exact ⟨z, y, xs, Paired.mapP r fun p q z => ⟨z.1, ht _ _ z.2.1, z.2.2⟩, ob, es, ep, k _ _ (.inl rfl) e, c⟩
  | set S n => obtain ⟨ob, es, ep, t, e, c⟩ := x; exact ⟨ob, es, ep, t, k _ _ (.inl rfl) e, c⟩
  | ins C dx fs =>
    obtain ⟨d, z, ne, e, mA, ⟨od, es, ep, e2, c⟩, r⟩ := x
    exact ⟨ho _ d, z, ne, k _ _ (.inl rfl) e, mA, ⟨od, es, ep, k _ _ (.inr d) e2, c⟩, r⟩
  | own y => obtain ⟨ob, e⟩ := x; exact ⟨ob, k _ _ (.inl rfl) e⟩
  | xd fs => obtain ⟨mA, ⟨od, es, ep, e, c⟩, r⟩ := x; exact ⟨mA, ⟨od, es, ep, k _ _ (.inl rfl) e, c⟩, r⟩
  | rng lo hi => obtain ⟨t, u, v, e⟩ := x; exact ⟨t, u, v, k _ _ (.inl rfl) e⟩
  | frz ob u ih => obtain ⟨e, q⟩ := x; exact ⟨k _ _ (.inl rfl) e, ih q⟩
  | tbl ps =>
    have e : h.get? a = some { cls := .none, data := .fields ps } := x
    show h'.get? a = some { cls := .none, data := .fields ps }
    exact k a _ (.inl rfl) e
  | met f y =>
    have e : h.get? a = some (PySem.W.methodObj (.ref f) (.ref y)) := x
    show h'.get? a = some (PySem.W.methodObj (.ref f) (.ref y))
    exact k a _ (.inl rfl) e
  | ext φ => obtain ⟨p, ⟨o, e⟩, st⟩ := x; exact ⟨st _ _ p fun o q => k _ _ (.inl rfl) q, ⟨o, k _ _ (.inl rfl) e⟩, st⟩
theorem HOk.lt (x : HOk P w H h) (e : H a = some o) : a < h.objs.size := (x a o e).lt
theorem HOk.fresh (x : HOk P w H h) (e : h.objs.size ≤ a) : H a = none := by
  cases q : H a with
  | none => rfl
  | some u => exact absurd (Nat.lt_of_lt_of_le (x.lt q) e) (Nat.lt_irrefl _)
theorem HOk.kept (x : HOk P w H h) (k : ∀ b u, h.get? b = some u → h'.get? b = some u) : HOk P w H h' := fun a o e =>
  (x a o e).stay (fun b u _ q => k b u q) (fun _ q => q) fun _ _ q => q
theorem HOk.laid (x : HOk P w H h) (k : ∀ b u, h.get? b = some u → h'.get? b = some u) (hp : h.objs.size ≤ a) (new : ObjOk P w (upd H a o) h' a o) : HOk P w (upd H a o) h' := fun b u e => by
  have hn := x.fresh hp
  by_cases hb : b = a
  · subst hb; rw [upd_same] at e; cases e; exact new
  · rw [upd_ne hb] at e
    exact (x b u e).stay (fun c v _ q => k c v q) (fun c q => by rw [upd_ne (ne_of_none q hn)]; exact q) fun c xs q => by rw [upd_ne (ne_of_none q hn)]; exact q
end
def Rd (H : Hp) (a : Addr) (u : HO) : Prop := H a = some u ∨ ∃ o, H a = some (.frz o u)
theorem Rd.of {H : Hp} {a : Addr} {u : HO} (h : H a = some u) : Rd H a u := .inl h
theorem Rd.ok {P : Program} {w : World} {H : Hp} {h : Heap} {a : Addr} {u : HO} (r : Rd H a u) (x : HOk P w H h) : ObjOk P w H h a u := by
  rcases r with r | ⟨o, r⟩
  · exact x a u r
  · obtain ⟨_, q⟩ := x a _ r
    exact q
def Mut : Option HO → Prop
  | some (.lst _) => True
  | some (.dK _) => True
  | some (.dT _) => True
  | some (.set _ _) => True
  | some (.ins _ _ _) => True
  | some (.ext _) => True
  | _ => False
section
variable {P : Program} {w : World} {H : Hp} {h h' : Heap} {x e : Addr} {o' : HO}
theorem HOk.write (ok : HOk P w H h) (mu : Mut (H x)) (he : e = x ∨ H e = some (.own x)) (k : ∀ b u, b ≠ e → h.get? b = some u → h'.get? b = some u) (heo : ∃ u, h'.get? e = some u)
    (new : ObjOk P w (upd H x o') h' x o') : HOk P w (upd H x o') h' := fun b u q => by
  have nown : ∀ c y, H c = some (.own y) → c ≠ x := fun c y r z => by subst z; rw [r] at mu; exact mu
  have ntup : ∀ c xs, H c = some (.tup xs) → c ≠ x := fun c xs r z => by subst z; rw [r] at mu; exact mu
  by_cases hb : b = x
  · subst hb; rw [upd_same] at q; cases q; exact new
  · rw [upd_ne hb] at q
    by_cases hbe : b = e
    · have q' : H b = some (.own x) := by
        rcases he with z | z
        · exact absurd (hbe.trans z) hb
        · rw [hbe]; exact z
      rw [q] at q'; cases q'
      obtain ⟨v, hv⟩ := heo
      exact ⟨v, by rw [hbe]; exact hv⟩
    · refine (ok b u q).stay (fun c v hc r => k c v ?_ r) (fun c r => by rw [upd_ne (nown c b r)]; exact r) fun c xs r => by rw [upd_ne (ntup c xs r)]; exact r
      rcases hc with rfl | hc
      · exact hbe
      · rintro rfl
        rcases he with z | z
        · exact nown c b hc z
        · rw [hc] at z; cases z; exact hb rfl
end
structure Un (fs ex : List Addr) (H H' : Hp) (h h' : Heap) : Prop where
  keep : ∀ b o, h.get? b = some o → H b = none → b ∉ fs → b ∉ ex → h'.get? b = some o
  slot : ∀ b o, h.get? b = some o → H b = none → b ∈ fs → b ∉ ex → ∃ sl, h'.get? b = some { o with slots := sl }
  free : ∀ b o, h.get? b = some o → H b = none → b ∉ ex → H' b = none
  there : ∀ b o, h.get? b = some o → b ∉ ex → ∃ o', h'.get? b = some o'
  tups : ∀ b xs, H b = some (.tup xs) → H' b = some (.tup xs)
  frzs : ∀ b o u, H b = some (.frz o u) → H' b = some (.frz o u)
  tbls : ∀ b ps, H b = some (.tbl ps) → ∃ more, H' b = some (.tbl (ps ++ more))
section
variable {fs fs' ex ex' : List Addr} {H H1 H2 : Hp} {h h1 h2 h' : Heap} {a x e : Addr} {o : HO}
theorem Un.any (u : Un fs ex H H1 h h1) {b : Addr} {ob : Obj} (q : h.get? b = some ob) (n : H b = none) (hx : b ∉ ex) : ∃ sl, h1.get? b = some { ob with slots := sl } := by
  by_cases hb : b ∈ fs
  · exact u.slot b ob q n hb hx
  · exact ⟨ob.slots, u.keep b ob q n hb hx⟩
theorem Un.trans (a : Un fs ex H H1 h h1) (b : Un fs ex H1 H2 h1 h2) : Un fs ex H H2 h h2 where
  keep := fun c ob q n hc hx => b.keep c ob (a.keep c ob q n hc hx) (a.free c ob q n hx) hc hx
  slot := fun c ob q n hc hx => by
    obtain ⟨sl, e1⟩ := a.slot c ob q n hc hx
    obtain ⟨sl', e2⟩ := b.slot c _ e1 (a.free c ob q n hx) hc hx
    exact ⟨sl', e2⟩
  free := fun c ob q n hx => by
    obtain ⟨o', e1⟩ := a.there c ob q hx
    exact b.free c o' e1 (a.free c ob q n hx) hx
  there := fun c ob q hx => by
    obtain ⟨o', e1⟩ := a.there c ob q hx
    exact b.there c o' e1 hx
  tups := fun c xs q => b.tups c xs (a.tups c xs q)
  frzs := fun c ob xs q => b.frzs c ob xs (a.frzs c ob xs q)
  tbls := fun c ps q => by
    obtain ⟨m1, e1⟩ := a.tbls c ps q
    obtain ⟨m2, e2⟩ := b.tbls c _ e1
    exact ⟨m1 ++ m2, by rw [e2, Array.append_assoc]⟩
theorem Un.kept (k : ∀ b u, h.get? b = some u → h'.get? b = some u) : Un fs ex H H h h' :=
  ⟨fun b ob q _ _ _ => k b ob q, fun b ob q _ _ _ => ⟨ob.slots, k b ob q⟩, fun _ _ _ n _ => n, fun b ob q _ => ⟨ob, k b ob q⟩, fun _ _ q => q, fun _ _ _ q => q, fun _ ps q => ⟨#[], by rw [q]; simp⟩⟩
theorem Un.refl : Un fs ex H H h h := Un.kept fun _ _ q => q
theorem Un.laid (k : ∀ b u, h.get? b = some u → h'.get? b = some u) (hp : h.objs.size ≤ a) (hn : H a = none) : Un fs ex H (upd H a o) h h' where
  keep := fun b u q _ _ _ => k b u q
  slot := fun b u q _ _ _ => ⟨u.slots, k b u q⟩
  free := fun b u q n _ => by rw [upd_ne (Nat.ne_of_lt (Nat.lt_of_lt_of_le (Heap.lt_size q) hp))]; exact n
  there := fun b u q _ => ⟨u, k b u q⟩
  tups := fun b xs q => by rw [upd_ne (ne_of_none q hn)]; exact q
  frzs := fun b u xs q => by rw [upd_ne (ne_of_none q hn)]; exact q
  tbls := fun b ps q => ⟨#[], by rw [upd_ne (ne_of_none q hn), q]; simp⟩
theorem Un.write (mu : Mut (H x)) (he : e = x ∨ H e = some (.own x)) (k : ∀ b u, b ≠ e → h.get? b = some u → h'.get? b = some u) (heo : ∃ u, h'.get? e = some u) : Un fs ex H (upd H x o) h h' := by
  have hx : ∀ b, H b = none → b ≠ x := fun b n z => by subst z; rw [n] at mu; exact mu
  have hb : ∀ b, H b = none → b ≠ e := fun b n z => by
    subst z
    rcases he with r | r
    · exact hx b n r
    · rw [n] at r; cases r
  have hm : ∀ b u, H b = some u → ¬ Mut (some u) → b ≠ x := fun b u q nm z => by subst z; rw [q] at mu; exact nm mu
  refine ⟨fun b u q n _ _ => k b u (hb b n) q, fun b u q n _ _ => ⟨u.slots, k b u (hb b n) q⟩, fun b u q n _ => by rw [upd_ne (hx b n)]; exact n, fun b u q _ => ?_,
    fun b xs q => by rw [upd_ne (hm b _ q fun z => z)]; exact q, fun b u xs q => by rw [upd_ne (hm b _ q fun z => z)]; exact q, fun b ps q => ⟨#[], by rw [upd_ne (hm b _ q fun z => z), q]; simp⟩⟩
  by_cases hbe : b = e
  · subst hbe; exact heo
  · exact ⟨u, k b u hbe q⟩
theorem Un.mono (u : Un fs ex H H1 h h1) (hs : ∀ b ∈ fs, b ∈ fs') (hx : ∀ b ∈ ex, b ∈ ex') : Un fs' ex' H H1 h h1 :=
  ⟨fun b ob q n hb he => u.keep b ob q n (fun z => hb (hs b z)) fun z => he (hx b z), fun _ _ q n _ he => u.any q n fun z => he (hx _ z), fun b ob q n he => u.free b ob q n fun z => he (hx b z), fun b ob q he => u.there b ob q fun z => he (hx b z), u.tups, u.frzs, u.tbls⟩
end
def trk (h : Heap) (H : Hp) : List Addr := (List.range h.objs.size).filter fun a => (H a).isSome
def hidT (h : Heap) (H : Hp) : Heap := PySem.W.hideAll h (trk h H)
theorem hidT_size (h : Heap) (H : Hp) : (hidT h H).objs.size = h.objs.size := PySem.W.hideAll_size _ _
theorem hidT_get {h : Heap} {H : Hp} {b : Addr} {o : Obj} (e : h.get? b = some o) (n : H b = none) : (hidT h H).get? b = some o :=
  PySem.W.hideAll_get _ e fun hm => by
    have q : (H b).isSome = true := (List.mem_filter.mp hm).2
    rw [n] at q; simp at q
theorem of_hidT {h : Heap} {H : Hp} {b : Addr} {o : Obj} (e : (hidT h H).get? b = some o) : h.get? b = some o ∧ H b = none := by
  have e' : h.get? b = some o := PySem.W.of_hideAll (trk h H) e
  refine ⟨e', ?_⟩
  cases q : H b with
  | none => rfl
  | some x =>
    have hm : b ∈ trk h H := List.mem_filter.mpr ⟨List.mem_range.mpr (Heap.lt_size e'), by simp [q]⟩
    have z : (hidT h H).get? b = none := PySem.W.hideAll_none (trk h H) hm
    rw [z] at e; cases e
def allNews (g h : Heap) (L : Addr) : List (Addr × Obj) := (List.range h.objs.size).filterMap fun a => if a = L ∨ (g.get? a).isSome = true then none else (h.get? a).map fun o => (a, o)
def rest (g h : Heap) (L d : Addr) : List (Addr × Obj) := (allNews g h L).filter fun p => decide (p.1 ≠ d)
end L2
namespace L2
open PySem PySem.Spec PyProof.Rows
structure Mod (K : PySem.W.Frag) (mg : Str → Option Value) (base : Heap) : Prop where
  kin : K.In base
  glob : base.Ns mainGlobals mg
  blt : ∃ mb, base.Ns builtinsNs mb ∧ ∀ x : Str, x ≠ "__name__" → mb x = bootBuiltins x
  nolimit : base.NoLimit
structure Cx where
  prog : Program
  w : World
  K : PySem.W.Frag
  mg : Str → Option Value
  base : Heap
  A : Around
  N : List Str
  s₀ : Shared
  H₀ : Hp
  env : Env
  outer : List Env
  stack : List Env
  ex : List Addr
  fn : Str → Bool
  calm : Bool
  pn : List (Addr × Obj)
  xe : Value → Shared → Prop
def frs (l : List Env) : List Addr := l.filterMap (·.frame)
abbrev Cx.fs (X : Cx) : List Addr := frs X.outer
def Vis (sc : Scope) (x : Str) : Prop := sc.names.lookup x = some .local ∨ sc.names.lookup x = some .cell ∨ sc.names.lookup x = some .free
def Loc (sc : Scope) (x : Str) : Prop := sc.names.lookup x = some .local ∨ sc.names.lookup x = some .cell
def Look (env : Env) (h : Heap) (m : Str → Option Value) (x : Str) (u : Value) : Prop :=
  (env.kindOf x = some .local ∧ m x = some u) ∨ ((env.kindOf x = some .cell ∨ env.kindOf x = some .free) ∧ ∃ c, env.cells.lookup x = some c ∧ h.IsCell c (some u))
structure Cx.Ok (X : Cx) : Prop where
  mod : Mod X.K X.mg X.base
  kind : X.env.scope.kind = .function
  glob : X.env.globals = mainGlobals
  blt : X.env.builtins = builtinsNs
  above : X.s₀.heap.objs.size ≤ X.env.locals
  inj : ∀ x y c, X.env.cells.lookup x = some c → X.env.cells.lookup y = some c → x = y
  has : ∀ x, (X.env.kindOf x = some .cell ∨ X.env.kindOf x = some .free) → ∃ c, X.env.cells.lookup x = some c
  cab : ∀ x c, X.fn x = true → X.env.cells.lookup x = some c → X.s₀.heap.objs.size ≤ c
  hd : X.calm = true → X.A.handled = none
  frames : X.A.frames = some X.stack
  stk : X.stack = X.outer ∨ (X.stack = X.env :: X.outer ∧ X.env.frame = some X.env.locals)
  exf : ∀ b ∈ X.ex, b ≠ X.env.locals ∧ ∀ x c, X.env.cells.lookup x = some c → c ≠ b
  bs : ∀ b o, X.base.get? b = some o → X.s₀.heap.get? b = some o ∧ X.H₀ b = none
  bsz : X.base.objs.size ≤ X.s₀.heap.objs.size
  noex : ∀ b o, X.base.get? b = some o → b ∉ X.ex
  exfs : ∀ b ∈ X.ex, b ∉ X.fs
  funs : X.s₀.heap.FunFrames X.base X.outer
  frf : ∀ b ∈ X.fs, X.H₀ b = none
structure Inv (X : Cx) (pins : List (Addr × Obj)) (σ : List (Option V)) (H : Hp) (s : Shared) : Prop where
  ok : X.Ok
  os : s.os = X.s₀.os
  bare : AllBare s.gens
  base : Un X.fs X.ex X.H₀ H X.s₀.heap s.heap
  loc : ∃ m, s.heap.Ns X.env.locals m ∧ ∀ (i : Nat) (x : Str) (v : V), X.N[i]? = some x → σ[i]? = some (some v) → Vis X.env.scope x → ∃ u, RelV v u ∧ Look X.env s.heap m x u
  cell : ∀ x c, X.env.cells.lookup x = some c → ∃ v, s.heap.IsCell c v
  free : H X.env.locals = none
  freeC : ∀ x c, X.env.cells.lookup x = some c → H c = none
  pin : ∀ p ∈ X.pn ++ pins, s.heap.get? p.1 = some p.2 ∧ H p.1 = none ∧ p.1 ≠ X.env.locals ∧ p.1 ∉ X.fs ∧ ∀ v, p.2.data ≠ .cell v
  hok : HOk X.prog X.w H s.heap
  len : σ.length = X.N.length
section
variable {X : Cx} {pins : List (Addr × Obj)} {σ : List (Option V)} {H H' : Hp} {s : Shared} {h' : Heap}
theorem Cx.Ok.nofr (ok : X.Ok) {b : Addr} {o : Obj} (e : X.base.get? b = some o) : b ∉ X.fs := fun hb => by
  have := (ok.funs.mem hb).1
  rw [e] at this; cases this
theorem Inv.bs (I : Inv X pins σ H s) : ∀ b o, X.base.get? b = some o → s.heap.get? b = some o ∧ H b = none := fun b o e =>
  ⟨I.base.keep b o (I.ok.bs b o e).1 (I.ok.bs b o e).2 (I.ok.nofr e) (I.ok.noex b o e), I.base.free b o (I.ok.bs b o e).1 (I.ok.bs b o e).2 (I.ok.noex b o e)⟩
theorem Inv.bk (I : Inv X pins σ H s) : ∀ b o, X.base.get? b = some o → s.heap.get? b = some o := fun b o e => (I.bs b o e).1
theorem Inv.mod (I : Inv X pins σ H s) : Mod X.K X.mg X.base := I.ok.mod
theorem Inv.kIn (I : Inv X pins σ H s) : X.K.In s.heap := I.ok.mod.kin.keeps I.bk
theorem Inv.nolimit (I : Inv X pins σ H s) : s.heap.NoLimit := I.ok.mod.nolimit.keeps I.bk
theorem Inv.lt (I : Inv X pins σ H s) : X.env.locals < s.heap.objs.size := let ⟨_, hn, _⟩ := I.loc; hn.lt
theorem Inv.sz (I : Inv X pins σ H s) : X.s₀.heap.objs.size ≤ s.heap.objs.size := Nat.le_trans I.ok.above (Nat.le_of_lt I.lt)
theorem Inv.nofs (I : Inv X pins σ H s) {a : Addr} (h : s.heap.objs.size ≤ a) : a ∉ X.fs := fun hb => by
  obtain ⟨_, o, ho, _⟩ := I.ok.funs.mem hb
  exact absurd (Nat.lt_of_lt_of_le (Heap.lt_size ho) (Nat.le_trans I.sz h)) (Nat.lt_irrefl _)
theorem Inv.cne (I : Inv X pins σ H s) : ∀ x c, X.env.cells.lookup x = some c → c ≠ X.env.locals := fun x c e z => by
  obtain ⟨v, o, ho, hd⟩ := I.cell x c e
  obtain ⟨m, ⟨o', es, ep, ho', hd', _⟩, _⟩ := I.loc
  rw [z, ho'] at ho; cases ho; rw [hd'] at hd; cases hd
theorem Inv.funs (I : Inv X pins σ H s) : s.heap.FunFrames X.base X.outer := by
  have all : ∀ (l : List Env), (∀ b ∈ frs l, b ∈ X.fs) → X.s₀.heap.FunFrames X.base l → s.heap.FunFrames X.base l := by
    intro l
    induction l with
    | nil => intro _ _; trivial
    | cons env r ih =>
      intro hs hl
      obtain ⟨hk, ⟨L, o, hf, hn, ho, hd⟩, hr⟩ := hl
      have hL : L ∈ X.fs := hs L (by unfold frs; rw [List.filterMap_cons, hf]; exact List.mem_cons_self)
      obtain ⟨sl, e⟩ := I.base.slot L o ho (I.ok.frf L hL) hL fun z => I.ok.exfs L z hL
      exact ⟨hk, ⟨L, _, hf, hn, e, hd⟩, ih (fun b hb => hs b (by unfold frs; rw [List.filterMap_cons, hf]; exact List.mem_cons_of_mem _ hb)) hr⟩
  exact all X.outer (fun _ hb => hb) I.ok.funs
theorem Inv.stack (I : Inv X pins σ H s) : s.heap.FunFrames X.base X.stack := by
  rcases I.ok.stk with e | ⟨e, hf⟩
  · rw [e]; exact I.funs
  · rw [e]
    obtain ⟨m, hn, _⟩ := I.loc
    refine .cons (by rw [I.ok.kind]; decide) hf hn ?_ I.funs
    exact Heap.get?_none_of_le (Nat.le_trans I.ok.bsz I.ok.above)
theorem Inv.stkSub (I : Inv X pins σ H s) : ∀ b ∈ frs X.stack, b ∈ X.env.locals :: X.fs := fun b hb => by
  rcases I.ok.stk with e | ⟨e, hf⟩
  · rw [e] at hb; exact List.mem_cons_of_mem _ hb
  · rw [e] at hb
    unfold frs at hb
    rw [List.filterMap_cons, hf] at hb
    exact hb
theorem Inv.stkFree (I : Inv X pins σ H s) : ∀ b ∈ frs X.stack, H b = none := fun b hb => by
  rcases List.mem_cons.mp (I.stkSub b hb) with e | hb
  · rw [e]; exact I.free
  · obtain ⟨_, o, ho, _⟩ := I.ok.funs.mem hb
    exact I.base.free b o ho (I.ok.frf b hb) fun z => I.ok.exfs b z hb
theorem Inv.step {g' : Array GenState} {t' : Nat} {d' : Drawn} {ch : List Addr} (I : Inv X pins σ H s)
    (hch : ∀ b ∈ ch, (b ∈ X.ex ∨ X.s₀.heap.objs.size ≤ b) ∧ b ≠ X.env.locals ∧ (∀ x c, X.env.cells.lookup x = some c → c ≠ b) ∧ ∀ p ∈ X.pn ++ pins, p.1 ≠ b)
    (keep : ∀ b o, b ≠ X.env.locals → b ∉ X.fs → b ∉ ch → s.heap.get? b = some o → H b = none → h'.get? b = some o)
    (slot : ∀ b o, b ≠ X.env.locals → b ∈ X.fs → b ∉ ch → s.heap.get? b = some o → H b = none → ∃ sl, h'.get? b = some { o with slots := sl }) (free : ∀ b o, b ∉ ch → s.heap.get? b = some o → H b = none → H' b = none)
    (there : ∀ b o, b ∉ ch → s.heap.get? b = some o → ∃ o', h'.get? b = some o')
    (tups : ∀ b xs, H b = some (.tup xs) → H' b = some (.tup xs)) (frzs : ∀ b o u, H b = some (.frz o u) → H' b = some (.frz o u)) (tbls : ∀ b ps, H b = some (.tbl ps) → ∃ more, H' b = some (.tbl (ps ++ more)))
    (ns : ∀ m, s.heap.Ns X.env.locals m → h'.Ns X.env.locals m) (hok : HOk X.prog X.w H' h') (hg : AllBare g') :
    Inv X pins σ H' { s with heap := h', gens := g', drawn := d', toks := t' } := by
  have neL : ∀ b o, X.s₀.heap.get? b = some o → b ≠ X.env.locals := fun b o e => Nat.ne_of_lt (Nat.lt_of_lt_of_le (Heap.lt_size e) I.ok.above)
  have neC : ∀ b o, X.s₀.heap.get? b = some o → b ∉ X.ex → b ∉ ch := fun b o e hx hb => by
    rcases (hch b hb).1 with z | z
    · exact hx z
    · exact absurd (Nat.lt_of_lt_of_le (Heap.lt_size e) z) (Nat.lt_irrefl _)
  have cellK : ∀ x c, X.env.cells.lookup x = some c → ∀ v, s.heap.IsCell c v → h'.IsCell c v := fun x c e v ⟨o, ho, hd⟩ => by
    have nch : c ∉ ch := fun z => (hch c z).2.2.1 x c e rfl
    by_cases hc : c ∈ X.fs
    · obtain ⟨sl, q⟩ := slot c o (I.cne x c e) hc nch ho (I.freeC x c e)
      exact ⟨_, q, hd⟩
    · exact ⟨o, keep c o (I.cne x c e) hc nch ho (I.freeC x c e), hd⟩
  refine ⟨I.ok, I.os, hg, ⟨fun b o e n hb hx => ?_, fun b o e n hb hx => ?_, fun b o e n hx => ?_, fun b o e hx => ?_, fun b xs e => tups b xs (I.base.tups b xs e), fun b o xs e => frzs b o xs (I.base.frzs b o xs e), fun b ps e => ?_⟩, ?_, fun x c e => ?_, ?_, fun x c e => ?_, fun p hp => ?_, hok, I.len⟩
  · exact keep b o (neL b o e) hb (neC b o e hx) (I.base.keep b o e n hb hx) (I.base.free b o e n hx)
  · obtain ⟨sl, e1⟩ := I.base.slot b o e n hb hx
    obtain ⟨sl', e2⟩ := slot b _ (neL b o e) hb (neC b o e hx) e1 (I.base.free b o e n hx)
    exact ⟨sl', e2⟩
  · obtain ⟨o', e1⟩ := I.base.there b o e hx
    exact free b o' (neC b o e hx) e1 (I.base.free b o e n hx)
  · obtain ⟨o', e1⟩ := I.base.there b o e hx
    exact there b o' (neC b o e hx) e1
  · obtain ⟨m1, e1⟩ := I.base.tbls b ps e
    obtain ⟨m2, e2⟩ := tbls b _ e1
    exact ⟨m1 ++ m2, by rw [e2, Array.append_assoc]⟩
  · obtain ⟨m, hn, hl⟩ := I.loc
    refine ⟨m, ns m hn, fun i x v e1 e2 e3 => ?_⟩
    obtain ⟨u, r, l⟩ := hl i x v e1 e2 e3
    refine ⟨u, r, ?_⟩
    rcases l with l | ⟨k, c, e, z⟩
    · exact .inl l
    · exact .inr ⟨k, c, e, cellK x c e _ z⟩
  · obtain ⟨v, z⟩ := I.cell x c e
    exact ⟨v, cellK x c e v z⟩
  · obtain ⟨m, ⟨o, _, _, ho, _⟩, _⟩ := I.loc
    exact free _ o (fun z => (hch _ z).2.1 rfl) ho I.free
  · obtain ⟨v, o, ho, hd⟩ := I.cell x c e
    exact free c o (fun z => (hch c z).2.2.1 x c e rfl) ho (I.freeC x c e)
  · obtain ⟨e, n, ne, nf, d⟩ := I.pin p hp
    have nch : p.1 ∉ ch := fun z => (hch p.1 z).2.2.2 p hp rfl
    exact ⟨keep p.1 p.2 ne nf nch e n, free p.1 p.2 nch e n, ne, nf, d⟩
theorem Inv.un {t' : Nat} (I : Inv X pins σ H s) (u : Un X.fs [] H H' s.heap h') (hok : HOk X.prog X.w H' h') : Inv X pins σ H' { s with heap := h', toks := t' } := by
  obtain ⟨m, ⟨o, es, ep, ho, r⟩, _⟩ := id I.loc
  obtain ⟨sl, hL⟩ := u.any ho I.free (by simp)
  exact I.step (g' := s.gens) (d' := s.drawn) (ch := []) (fun _ z => nomatch z) (fun b o _ hb _ e n => u.keep b o e n hb (by simp)) (fun b o _ hb _ e n => u.slot b o e n hb (by simp)) (fun b o _ e n => u.free b o e n (by simp)) (fun b o _ e => u.there b o e (by simp)) u.tups u.frzs u.tbls (fun m' hm => by
    obtain ⟨o', es', ep', ho', r'⟩ := hm
    rw [ho] at ho'; cases ho'
    exact ⟨_, es', ep', hL, r'⟩) hok I.bare
theorem Inv.call {g' : Array GenState} {t' : Nat} {d' : Drawn} {ch : List Addr} (I : Inv X pins σ H s) (u : Un (frs X.stack) ch H H' s.heap h') (hok : HOk X.prog X.w H' h') (hg : AllBare g')
    (hch : ∀ b ∈ ch, (b ∈ X.ex ∨ X.s₀.heap.objs.size ≤ b) ∧ b ≠ X.env.locals ∧ (∀ x c, X.env.cells.lookup x = some c → c ≠ b) ∧ ∀ p ∈ X.pn ++ pins, p.1 ≠ b) :
    Inv X pins σ H' { s with heap := h', gens := g', drawn := d', toks := t' } := by
  obtain ⟨m, ⟨o, es, ep, ho, r⟩, _⟩ := id I.loc
  obtain ⟨sl, hL⟩ := u.any ho I.free fun z => (hch _ z).2.1 rfl
  exact I.step (ch := ch) hch (fun b o hL hb hc e n => u.keep b o e n (fun z => (List.mem_cons.mp (I.stkSub b z)).elim hL hb) hc) (fun b o _ _ hc e n => u.any e n hc) (fun b o hc e n => u.free b o e n hc) (fun b o hc e => u.there b o e hc) u.tups u.frzs u.tbls (fun m' hm => by
    obtain ⟨o', es', ep', ho', r'⟩ := hm
    rw [ho] at ho'; cases ho'
    exact ⟨_, es', ep', hL, r'⟩) hok hg
theorem Inv.turned {t' : Nat} {it : Addr} (I : Inv X pins σ H s) (k : ∀ b o, b ≠ it → s.heap.get? b = some o → h'.get? b = some o) (hn : H it = none) (hL : it ≠ X.env.locals)
    (h1 : it ∈ X.ex ∨ X.s₀.heap.objs.size ≤ it) (h2 : ∀ x c, X.env.cells.lookup x = some c → c ≠ it) (h3 : ∀ p ∈ X.pn ++ pins, p.1 ≠ it) : Inv X pins σ H { s with heap := h', toks := t' } := by
  have nit : ∀ b u, H b = some u → b ≠ it := fun b u e z => by rw [z, hn] at e; cases e
  refine I.step (g' := s.gens) (d' := s.drawn) (ch := [it]) (fun b hb => ?_) (fun b o _ _ hc e _ => k b o (fun z => hc (by simp [z])) e) (fun b o _ _ hc e _ => ⟨o.slots, k b o (fun z => hc (by simp [z])) e⟩) (fun _ _ _ _ n => n)
    (fun b o hc e => ⟨o, k b o (fun z => hc (by simp [z])) e⟩) (fun _ _ e => e) (fun _ _ _ e => e) (fun b ps e => ⟨#[], by rw [e]; simp⟩) (fun m hm => ?_) (fun b u e => ?_) I.bare
  · have e : b = it := by simpa using hb
    subst e
    exact ⟨h1, hL, h2, h3⟩
  · obtain ⟨o, es, ep, ho, r⟩ := hm
    exact ⟨o, es, ep, k _ o (Ne.symm hL) ho, r⟩
  · refine (I.hok b u e).stay (fun c v hc q => k c v ?_ q) (fun _ q => q) fun _ _ q => q
    rcases hc with z | z
    · rw [z]; exact nit b u e
    · exact nit c _ z
theorem Inv.tok (I : Inv X pins σ H s) (t : Nat) : Inv X pins σ H { s with toks := t } := I.un (h' := s.heap) (t' := t) Un.refl I.hok
theorem Inv.kept {t' : Nat} (I : Inv X pins σ H s) (k : ∀ b u, s.heap.get? b = some u → h'.get? b = some u) : Inv X pins σ H { s with heap := h', toks := t' } := I.un (Un.kept k) (I.hok.kept k)
theorem Inv.laid {a : Addr} {o : HO} {t' : Nat} (I : Inv X pins σ H s) (k : ∀ b u, s.heap.get? b = some u → h'.get? b = some u) (hp : s.heap.objs.size ≤ a) (new : ObjOk X.prog X.w (upd H a o) h' a o) :
    Inv X pins σ (upd H a o) { s with heap := h', toks := t' } := I.un (Un.laid k hp (I.hok.fresh hp)) (I.hok.laid k hp new)
theorem Inv.write {x e : Addr} {o : HO} {t' : Nat} (I : Inv X pins σ H s) (mu : Mut (H x)) (he : e = x ∨ H e = some (.own x)) (k : ∀ b u, b ≠ e → s.heap.get? b = some u → h'.get? b = some u) (heo : ∃ u, h'.get? e = some u)
    (new : ObjOk X.prog X.w (upd H x o) h' x o) : Inv X pins σ (upd H x o) { s with heap := h', toks := t' } := I.un (Un.write mu he k heo) (I.hok.write mu he k heo new)
theorem Inv.weak {σ' : List (Option V)} (I : Inv X pins σ H s) (hl : σ'.length = σ.length) (w : ∀ (i : Nat) v, σ'[i]? = some (some v) → σ[i]? = some (some v)) : Inv X pins σ' H s :=
  ⟨I.ok, I.os, I.bare, I.base, let ⟨m, hn, hl'⟩ := I.loc; ⟨m, hn, fun i x v e1 e2 e3 => hl' i x v e1 (w i v e2) e3⟩, I.cell, I.free, I.freeC, I.pin, I.hok, hl.trans I.len⟩
theorem Inv.pins_of {pins' : List (Addr × Obj)} (I : Inv X pins σ H s) (h : ∀ p ∈ pins', s.heap.get? p.1 = some p.2 ∧ H p.1 = none ∧ p.1 ≠ X.env.locals ∧ p.1 ∉ X.fs ∧ ∀ v, p.2.data ≠ .cell v) : Inv X pins' σ H s :=
  ⟨I.ok, I.os, I.bare, I.base, I.loc, I.cell, I.free, I.freeC, fun p hp => (List.mem_append.mp hp).elim (fun z => I.pin p (List.mem_append_left _ z)) (h p), I.hok, I.len⟩
theorem nodup_ix {N : List Str} (hN : N.Nodup) {i j : Nat} {x : Str} (a : N[i]? = some x) (b : N[j]? = some x) : i = j := by
  obtain ⟨h1, e1⟩ := List.getElem?_eq_some_iff.mp a
  obtain ⟨h2, e2⟩ := List.getElem?_eq_some_iff.mp b
  exact (List.getElem_inj hN).mp (e1.trans e2.symm)
theorem store_ok2 {M : Model} {A : Around} {E : Value → Shared → Prop} {i : Nat} {x : Str} {v : V} {u : Value} {Q : Unit → Shared → Prop} (I : Inv X pins σ H s) (hN : X.N.Nodup) (hi : X.N[i]? = some x) (hx : Loc X.env.scope x) (r : RelV v u)
    (h : ∀ s', Inv X pins (σ.set i (some v)) H s' → (∃ a, Heap.SameBut a s.heap s'.heap ∧ (a = X.env.locals ∨ X.env.cells.lookup x = some a)) → Q () s') (hf : X.fn x = true ∨ X.env.scope.names.lookup x = some .local := by first | exact .inl rfl | exact .inr rfl | assumption) : wpAny M A (storeName X.env x u) Q E s := by
  obtain ⟨m, hn, hl⟩ := id I.loc
  have hcls : (X.env.scope.kind == .class || (X.env.scope.kind == .module && X.env.locals != X.env.globals)) = false := by rw [I.ok.kind]; rfl
  have hiσ : i < σ.length := by rw [I.len]; exact (List.getElem?_eq_some_iff.mp hi).1
  have cne := I.cne
  have tracked : ∀ {a : Addr} {h' : Heap}, (∃ o, s.heap.get? a = some o ∧ H a = none) → Heap.SameBut a s.heap h' → HOk X.prog X.w H h' := fun {a h'} ha hs b ob e => by
    obtain ⟨_, _, hfree⟩ := ha
    refine (I.hok b ob e).stay (fun c w' hc q => (hs.2 c ?_).trans q) (fun _ q => q) fun _ _ q => q
    rintro rfl
    rcases hc with rfl | hc
    · rw [hfree] at e; cases e
    · rw [hfree] at hc; cases hc
  rcases hx with hk | hk
  · refine wpAny_storeName_local hk hn (fun h' hn' hs => ?_) hcls
    obtain ⟨oL, _, _, hoL, _⟩ := id hn
    refine h _ ⟨I.ok, I.os, I.bare, ⟨fun b o e n hb hx => ?_, fun b o e n hb hx => ?_, I.base.free, fun b o e hx => ?_, I.base.tups, I.base.frzs, I.base.tbls⟩, ⟨_, hn', fun j y v' e1 e2 e3 => ?_⟩, fun y c e => ?_, I.free, I.freeC, fun p hp => ?_, tracked ⟨oL, hoL, I.free⟩ hs, by simpa using I.len⟩ ⟨_, hs, .inl rfl⟩
    · exact (hs.2 b (Nat.ne_of_lt (Nat.lt_of_lt_of_le (Heap.lt_size e) I.ok.above))).trans (I.base.keep b o e n hb hx)
    · obtain ⟨sl, e1⟩ := I.base.slot b o e n hb hx
      exact ⟨sl, (hs.2 b (Nat.ne_of_lt (Nat.lt_of_lt_of_le (Heap.lt_size e) I.ok.above))).trans e1⟩
    · obtain ⟨o', e1⟩ := I.base.there b o e hx
      exact ⟨o', (hs.2 b (Nat.ne_of_lt (Nat.lt_of_lt_of_le (Heap.lt_size e) I.ok.above))).trans e1⟩
    · by_cases hj : j = i
      · subst hj
        rw [hi] at e1; cases e1
        rw [List.getElem?_set_self hiσ] at e2
        cases e2
        exact ⟨u, r, .inl ⟨hk, by simp⟩⟩
      · rw [List.getElem?_set_ne (Ne.symm hj)] at e2
        obtain ⟨u', r', q⟩ := hl j y v' e1 e2 e3
        refine ⟨u', r', ?_⟩
        rcases q with ⟨k, e⟩ | ⟨k, c, e, z⟩
        · refine .inl ⟨k, ?_⟩
          have : y ≠ x := fun e => hj (nodup_ix hN e1 (e ▸ hi))
          simp [this, e]
        · exact .inr ⟨k, c, e, z.sameBut hs (cne y c e)⟩
    · obtain ⟨w', z⟩ := I.cell y c e
      exact ⟨w', z.sameBut hs (cne y c e)⟩
    · obtain ⟨e, n, ne, nf, d⟩ := I.pin p hp
      exact ⟨(hs.2 p.1 ne).trans e, n, ne, nf, d⟩
  · have hfn : X.fn x = true := by
      rcases hf with z | z
      · exact z
      · rw [z] at hk; cases hk
    obtain ⟨c, hc⟩ := I.ok.has x (.inl hk)
    obtain ⟨w', z⟩ := I.cell x c hc
    refine wpAny_storeName_cell I.ok.kind hk hc z (fun h' hc' hs => ?_)
    obtain ⟨oc, hoc, hocd⟩ := id z
    refine h { s with heap := h' } ⟨I.ok, I.os, I.bare, ⟨fun b o e n hb hx => ?_, fun b o e n hb hx => ?_, I.base.free, fun b o e hx => ?_, I.base.tups, I.base.frzs, I.base.tbls⟩, ⟨m, hn.sameBut hs (Ne.symm (cne x c hc)), fun j y v' e1 e2 e3 => ?_⟩, fun y c' e => ?_, I.free, I.freeC, fun p hp => ?_, tracked ⟨oc, hoc, I.freeC x c hc⟩ hs, by simpa using I.len⟩ ⟨c, hs, .inr hc⟩
    · exact (hs.2 b (Nat.ne_of_lt (Nat.lt_of_lt_of_le (Heap.lt_size e) (I.ok.cab x c hfn hc)))).trans (I.base.keep b o e n hb hx)
    · obtain ⟨sl, e1⟩ := I.base.slot b o e n hb hx
      exact ⟨sl, (hs.2 b (Nat.ne_of_lt (Nat.lt_of_lt_of_le (Heap.lt_size e) (I.ok.cab x c hfn hc)))).trans e1⟩
    · obtain ⟨o', e1⟩ := I.base.there b o e hx
      exact ⟨o', (hs.2 b (Nat.ne_of_lt (Nat.lt_of_lt_of_le (Heap.lt_size e) (I.ok.cab x c hfn hc)))).trans e1⟩
    · by_cases hj : j = i
      · subst hj
        rw [hi] at e1; cases e1
        rw [List.getElem?_set_self hiσ] at e2
        cases e2
        exact ⟨u, r, .inr ⟨.inl hk, c, hc, hc'⟩⟩
      · rw [List.getElem?_set_ne (Ne.symm hj)] at e2
        obtain ⟨u', r', q⟩ := hl j y v' e1 e2 e3
        refine ⟨u', r', ?_⟩
        rcases q with q | ⟨k, c', e, z'⟩
        · exact .inl q
        · refine .inr ⟨k, c', e, z'.sameBut hs ?_⟩
          rintro rfl
          exact hj (nodup_ix hN e1 (I.ok.inj _ _ _ e hc ▸ hi))
    · by_cases hcc : c' = c
      · subst hcc; exact ⟨_, hc'⟩
      · obtain ⟨w2, z2⟩ := I.cell y c' e
        exact ⟨w2, z2.sameBut hs hcc⟩
    · obtain ⟨e, n, ne, nf, d⟩ := I.pin p hp
      refine ⟨(hs.2 p.1 ?_).trans e, n, ne, nf, d⟩
      intro q
      rw [q, hoc] at e
      have q' : oc = p.2 := Option.some.inj e
      exact d w' (by rw [← q']; exact hocd)
theorem store_ok {M : Model} {A : Around} {E : Value → Shared → Prop} {i : Nat} {x : Str} {v : V} {u : Value} {Q : Unit → Shared → Prop} (I : Inv X pins σ H s) (hN : X.N.Nodup) (hi : X.N[i]? = some x) (hx : Loc X.env.scope x) (r : RelV v u)
    (h : ∀ s', Inv X pins (σ.set i (some v)) H s' → Q () s') (hf : X.fn x = true ∨ X.env.scope.names.lookup x = some .local := by first | exact .inl rfl | exact .inr rfl | assumption) : wpAny M A (storeName X.env x u) Q E s :=
  store_ok2 I hN hi hx r (fun s' I' _ => h s' I') hf
theorem Inv.call' {s' : Shared} {ch : List Addr} (I : Inv X pins σ H s) (ho : s'.os = s.os) (u : Un (frs X.stack) ch H H' s.heap s'.heap) (hok : HOk X.prog X.w H' s'.heap) (hg : AllBare s'.gens)
    (hch : ∀ b ∈ ch, (b ∈ X.ex ∨ X.s₀.heap.objs.size ≤ b) ∧ b ≠ X.env.locals ∧ (∀ x c, X.env.cells.lookup x = some c → c ≠ b) ∧ ∀ p ∈ X.pn ++ pins, p.1 ≠ b) : Inv X pins σ H' s' := by
  obtain ⟨h', g', d', t', o'⟩ := s'
  have e : o' = s.os := ho
  subst e
  exact I.call (g' := g') (t' := t') (d' := d') u hok hg hch
end
abbrev XK := Value → Option Addr → Hp → Prop
abbrev St := List (Option V)
abbrev VK := V → Hp → Prop
abbrev TE := St → Hp → VK → Prop
abbrev TT := St → Hp → (Bool → Hp → Prop) → Prop
abbrev TA := St → Hp → (List V → Hp → Prop) → Prop
structure Ends where
  nx : St → Hp → Prop
  rt : VK
  bk : St → Hp → Prop := fun _ _ => False
  ct : St → Hp → Prop := fun _ _ => False
abbrev TS := Ends → St → Hp → Prop
def EP (X : Cx) (pins : List (Addr × Obj)) (σ : St) (Q : VK) (u : Value) (s' : Shared) : Prop := ∃ v H', Inv X pins σ H' s' ∧ RelV v u ∧ Q v H'
def TP (X : Cx) (pins : List (Addr × Obj)) (σ : St) (Q : Bool → Hp → Prop) (b : Bool) (s' : Shared) : Prop := ∃ H', Inv X pins σ H' s' ∧ Q b H'
def AP (X : Cx) (pins : List (Addr × Obj)) (σ : St) (Q : List V → Hp → Prop) (us : List Value) (s' : Shared) : Prop := ∃ vs H', Inv X pins σ H' s' ∧ Vals vs us ∧ Q vs H'
def SP (X : Cx) (pins : List (Addr × Obj)) (D : Ends) (f : Flow) (s' : Shared) : Prop :=
  match f with
  | .next => ∃ σ' H', Inv X pins σ' H' s' ∧ D.nx σ' H'
  | .brk => ∃ σ' H', Inv X pins σ' H' s' ∧ D.bk σ' H'
  | .cont => ∃ σ' H', Inv X pins σ' H' s' ∧ D.ct σ' H'
  | .ret u => ∃ v σ' H', Inv X pins σ' H' s' ∧ RelV v u ∧ D.rt v H'
def PE (X : Cx) (e : Expr) (t : TE) : Prop :=
  ∀ (pins : List (Addr × Obj)) (s : Shared) (σ : St) (H : Hp) (Q : VK), Inv X pins σ H s → t σ H Q → wpAny (model X.prog X.w) X.A (eval e X.env) (EP X pins σ Q) X.xe s
def PT (X : Cx) (e : Expr) (t : TT) : Prop :=
  ∀ (pins : List (Addr × Obj)) (s : Shared) (σ : St) (H : Hp) (Q : Bool → Hp → Prop), Inv X pins σ H s → t σ H Q → wpAny (model X.prog X.w) X.A (isTrue e X.env (eval e X.env)) (TP X pins σ Q) X.xe s
def PW (X : Cx) (e : Expr) (t : TT) : Prop :=
  ∀ (whole : Sem Value) (pins : List (Addr × Obj)) (s : Shared) (σ : St) (H : Hp) (Q : Bool → Hp → Prop), Inv X pins σ H s → t σ H Q → wpAny (model X.prog X.w) X.A (isTrue e X.env whole) (TP X pins σ Q) X.xe s
theorem PW.pt {X : Cx} {e : Expr} {t : TT} (h : PW X e t) : PT X e t := h _
def PA (X : Cx) (es : List Expr) (t : TA) : Prop :=
  ∀ (pos : Pos) (pins : List (Addr × Obj)) (s : Shared) (σ : St) (H : Hp) (Q : List V → Hp → Prop), Inv X pins σ H s → t σ H Q → wpAny (model X.prog X.w) X.A (spliced (backTo pos (starEach es X.env))) (AP X pins σ Q) X.xe s
def PS (X : Cx) (st : Stmt) (t : TS) : Prop :=
  ∀ (pins : List (Addr × Obj)) (s : Shared) (σ : St) (H : Hp) (D : Ends), Inv X pins σ H s → t D σ H → wpAny (model X.prog X.w) X.A (exec st X.env) (SP X pins D) X.xe s
def PSs (X : Cx) (st : List Stmt) (t : TS) : Prop :=
  ∀ (pins : List (Addr × Obj)) (s : Shared) (σ : St) (H : Hp) (D : Ends), Inv X pins σ H s → t D σ H → wpAny (model X.prog X.w) X.A (execs st X.env) (SP X pins D) X.xe s
theorem thn {α : Type} {t : Sem α} {Q Q' : α → Shared → Prop} {M : Model} {A : Around} {E : Value → Shared → Prop} {s : Shared} (h : wpAny M A t Q E s) (hQ : ∀ a s, Q a s → Q' a s) : wpAny M A t Q' E s := wpAny_mono h hQ fun _ _ x => x
end L2
namespace L2
open PySem PySem.Spec PyProof.Rows
section
variable {X : Cx}
def tVar (i : Nat) : TE := fun σ H Q => ∃ v, σ[i]? = some (some v) ∧ Q v H
def tC (v : V) : TE := fun _ H Q => Q v H
theorem pe_var {i : Nat} {x : Str} {pos : Pos} (hN : X.N[i]? = some x) (hv : Vis X.env.scope x) (hd : (x == ("__debug__" : Str)) = false := by decide) (hcd : (x == ("__classdict__" : Str)) = false := by decide) : PE X (.Name x pos) (tVar i) := by
  intro pins s σ H Q I h
  obtain ⟨v, e, h⟩ := h
  obtain ⟨m, hn, hl⟩ := I.loc
  obtain ⟨u, r, l⟩ := hl i x v hN e hv
  have fin : EP X pins σ Q u s := ⟨v, H, I, r, h⟩
  rcases l with ⟨hk, hm⟩ | ⟨hk, c, hc, hcell⟩
  · exact wpAny_Name (wpAny_loadName_local I.ok.kind hk hn hm fin) hd
  · rcases hk with hk | hk
    · exact wpAny_Name (wpAny_loadName_cell I.ok.kind hk hc hcell fin) hd
    · exact wpAny_Name (wpAny_loadName_free I.ok.kind hk hc hcell fin hcd) hd
theorem pe_int {i j pos} : PE X (.Constant (.int i) j pos) (tC (.int i)) := fun _ _ _ H _ I h => wpAny_Constant_int ⟨.int i, H, I.tok _, ⟨_, rfl⟩, h⟩
theorem pe_bl {b j pos} : PE X (.Constant (.bool b) j pos) (tC (.bl b)) := fun _ _ _ H _ I h => Constant_bool ⟨.bl b, H, I, rfl, h⟩
theorem pe_non {j pos} : PE X (.Constant .none j pos) (tC .non) := fun _ _ _ H _ I h => Constant_none ⟨.non, H, I, rfl, h⟩
theorem pe_str {x j pos} : PE X (.Constant (.str x) j pos) (tC (.str x)) := fun _ _ _ H _ I h => Calls.Constant_str ⟨.str x, H, I.tok _, ⟨_, rfl⟩, h⟩
def Gl (X : Cx) (x : Str) : Prop := X.env.kindOf x = some .globalImplicit
theorem ld_glob {E : Value → Shared → Prop} {pins : List (Addr × Obj)} {s : Shared} {σ : St} {H : Hp} {x : Str} {u : Value} {pos : Pos} {Q : Value → Shared → Prop} (I : Inv X pins σ H s) (hg : Gl X x) (hm : X.mg x = some u) (h : Q u s)
    (hd : (x == ("__debug__" : Str)) = false := by decide) : wpAny (model X.prog X.w) X.A (eval (.Name x pos) X.env) Q E s :=
  Calls.Name_function_global I.ok.kind hg (Calls.loadGlobal_global (by rw [I.ok.glob]; exact I.mod.glob.keeps I.bk) hm h) hd
theorem ld_blt {E : Value → Shared → Prop} {pins : List (Addr × Obj)} {s : Shared} {σ : St} {H : Hp} {x : Str} {u : Value} {pos : Pos} {Q : Value → Shared → Prop} (I : Inv X pins σ H s) (hg : Gl X x) (hm : X.mg x = none) (hv : bootBuiltins x = some u) (h : Q u s)
    (hn : x ≠ "__name__" := by decide) (hd : (x == ("__debug__" : Str)) = false := by decide) : wpAny (model X.prog X.w) X.A (eval (.Name x pos) X.env) Q E s := by
  obtain ⟨mb, h1, h2⟩ := I.mod.blt
  exact Calls.Name_function_global I.ok.kind hg (Calls.loadGlobal_builtin (by rw [I.ok.glob]; exact I.mod.glob.keeps I.bk) hm (by rw [I.ok.blt]; exact h1.keeps I.bk) ((h2 x hn).trans hv) h) hd
theorem pe_glob {x : Str} {v : V} {u : Value} {pos : Pos} (hg : Gl X x) (hm : X.mg x = some u) (r : RelV v u) (hd : (x == ("__debug__" : Str)) = false := by decide) : PE X (.Name x pos) (tC v) :=
  fun _ _ _ H _ I h => ld_glob I hg hm ⟨v, H, I, r, h⟩ hd
theorem pe_bltn {x : Str} {v : V} {u : Value} {pos : Pos} (hg : Gl X x) (hm : X.mg x = none) (hv : bootBuiltins x = some u) (r : RelV v u) (hn : x ≠ "__name__" := by decide) (hd : (x == ("__debug__" : Str)) = false := by decide) : PE X (.Name x pos) (tC v) :=
  fun _ _ _ H _ I h => ld_blt I hg hm hv ⟨v, H, I, r, h⟩ hn hd
def t2I (ta tb : TE) (k : Int → Int → Hp → Prop) : St → Hp → Prop := fun σ H => ta σ H fun x H1 => tb σ H1 fun y H2 => ∃ i j, x = .int i ∧ y = .int j ∧ k i j H2
def tAdd (ta tb : TE) : TE := fun σ H Q => t2I ta tb (fun i j H2 => Q (.int (i + j)) H2) σ H
def tSub (ta tb : TE) : TE := fun σ H Q => t2I ta tb (fun i j H2 => Q (.int (i - j)) H2) σ H
def tMul (ta tb : TE) : TE := fun σ H Q => t2I ta tb (fun i j H2 => (-(2 ^ 64) < i ∧ i < 2 ^ 64) ∧ Q (.int (i * j)) H2) σ H
variable {a b : Expr} {ta tb : TE} {pos : Pos}
def PC (X : Cx) (op : CmpOp) (a b : Expr) (t : TE) : Prop :=
  ∀ (pins : List (Addr × Obj)) (s : Shared) (σ : St) (H : Hp) (Q : VK), Inv X pins σ H s → t σ H Q →
    wpAny (model X.prog X.w) X.A (eval a X.env) (fun v s₁ => wpAny (model X.prog X.w) X.A (eval b X.env) (fun u s₂ => wpAny (model X.prog X.w) X.A (compareOp op v u) (EP X pins σ Q) X.xe s₂) X.xe s₁) X.xe s
def tCmp (p : Int → Int → Bool) (ta tb : TE) : TE := fun σ H Q => t2I ta tb (fun i j H2 => Q (.bl (p i j)) H2) σ H
abbrev tLt : TE → TE → TE := tCmp fun i j => decide (i < j)
abbrev tLe : TE → TE → TE := tCmp fun i j => decide (i ≤ j)
abbrev tGt : TE → TE → TE := tCmp fun i j => decide (j < i)
abbrev tGe : TE → TE → TE := tCmp fun i j => decide (j ≤ i)
abbrev tEqI : TE → TE → TE := tCmp fun i j => decide (i = j)
abbrev tNeI : TE → TE → TE := tCmp fun i j => !decide (i = j)
def tIsN (ta : TE) : TE := fun σ H Q => ta σ H fun x H1 => Q (.bl (decide (x = .non))) H1
def tNotN (ta : TE) : TE := fun σ H Q => ta σ H fun x H1 => Q (.bl (!decide (x = .non))) H1
def tB (t : TE) : TT := fun σ H Q => t σ H fun x H1 => ∃ c, x = .bl c ∧ Q c H1
variable {tA tB' : TT} {rest : List Expr}
def tAnd (t u : TT) : TT := fun σ H Q => t σ H fun c H1 => if c = true then u σ H1 Q else Q false H1
def tOr (t u : TT) : TT := fun σ H Q => t σ H fun c H1 => if c = true then Q true H1 else u σ H1 Q
def tNot (t : TT) : TT := fun σ H Q => t σ H fun c H1 => Q (!c) H1
theorem pw_or1 (ha : PT X a tA) : PW X (.BoolOp .Or [a] pos) tA := by
  intro wh pins s σ H Q I h
  refine isTrue_or (thn (ha pins s σ H Q I h) fun c s1 e => ?_)
  cases c with
  | false => exact isTrue_or_nil e
  | true => exact e
theorem pw_or (ha : PT X a tA) (hb : PW X (.BoolOp .Or (b :: rest) pos) tB') : PW X (.BoolOp .Or (a :: b :: rest) pos) (tOr tA tB') := by
  intro wh pins s σ H Q I h
  refine isTrue_or (thn (ha pins s σ H _ I h) fun c s1 ⟨H1, I1, q1⟩ => ?_)
  cases c with
  | true => exact ⟨H1, I1, q1⟩
  | false => exact hb wh pins s1 σ H1 Q I1 q1
theorem pt_not (ha : PT X a tA) : PT X (.UnaryOp .Not a pos) (tNot tA) := by
  intro pins s σ H Q I h
  exact isTrue_not (ha pins s σ H (fun c H1 => Q (!c) H1) I h)
def tAndV (ta tb : TE) : TE := fun σ H Q => ta σ H fun x H1 => ∃ c, x = .bl c ∧ if c = true then tb σ H1 Q else Q (.bl false) H1
def tOrV (ta tb : TE) : TE := fun σ H Q => ta σ H fun x H1 => ∃ c, x = .bl c ∧ if c = true then Q (.bl true) H1 else tb σ H1 Q
def tNotV (ta : TE) : TE := fun σ H Q => ta σ H fun x H1 => ∃ c, x = .bl c ∧ Q (.bl (!c)) H1
theorem pe_one {op} {t : TE} (h : PE X a t) : PE X (.BoolOp op [a] pos) t := fun pins s σ H Q I hw => BoolOp_one (h pins s σ H Q I hw)
theorem pe_and (ha : PE X a ta) (hb : PE X (.BoolOp .And (b :: rest) pos) tb) : PE X (.BoolOp .And (a :: b :: rest) pos) (tAndV ta tb) := by
  intro pins s σ H Q I h
  refine BoolOp_and (thn (ha pins s σ H _ I h) fun v s1 ⟨x, H1, I1, r1, q1⟩ => ?_)
  obtain ⟨c, rfl, q1⟩ := q1
  cases r1
  refine wpAny_truthy_bool ?_
  cases c with
  | true => exact hb pins s1 σ H1 Q I1 q1
  | false => exact ⟨.bl false, H1, I1, rfl, q1⟩
theorem pe_not (ha : PE X a ta) : PE X (.UnaryOp .Not a pos) (tNotV ta) := by
  intro pins s σ H Q I h
  refine UnaryOp_ (thn (ha pins s σ H _ I h) fun v s1 ⟨x, H1, I1, r1, q1⟩ => ?_)
  obtain ⟨c, rfl, q1⟩ := q1
  cases r1
  exact not_of (wpAny_truthy_bool ⟨.bl (!c), H1, I1, rfl, q1⟩)
def tIf (t : TT) (ta tb : TE) : TE := fun σ H Q => t σ H fun c H1 => if c = true then ta σ H1 Q else tb σ H1 Q
theorem pe_ifExp {c : Expr} (hc : PT X c tA) (ha : PE X a ta) (hb : PE X b tb) : PE X (.IfExp c a b pos) (tIf tA ta tb) := by
  intro pins s σ H Q I h
  refine wpAny_IfExp (thn (hc pins s σ H _ I h) fun d s1 ⟨H1, I1, q1⟩ => ?_)
  cases d with
  | true => exact ha pins s1 σ H1 Q I1 q1
  | false => exact hb pins s1 σ H1 Q I1 q1
end
end L2
namespace L2
open PySem PySem.Spec PyProof.Rows
def SqL (K : PySem.W.Frag) (H : Hp) (a : Addr) (xs : List V) : Prop :=
  Rd H a (.lst xs) ∨
    ∃ (o : Obj) (its : Array Value) (n : Nat), K.lookup a = some o ∧ o.cls = .type "list" ∧ o.dict = none ∧ o.data = .seq its n ∧ its.size ≤ sizeLine ∧ Vals xs its.toList
def SqT (K : PySem.W.Frag) (H : Hp) (a : Addr) (xs : List V) : Prop :=
  Rd H a (.tup xs) ∨
    ∃ (o : Obj) (its : Array Value) (n : Nat), K.lookup a = some o ∧ o.cls = .type "tuple" ∧ o.data = .seq its n ∧ its.size ≤ sizeLine ∧ Vals xs its.toList ∧ o.dict = none
def absV : Value → Option V
  | .none => some .non
  | .bool b => some (.bl b)
  | .int i _ => some (.int i)
  | .str x _ => some (.str x)
  | .bytes b _ => some (.byt b)
  | .float b _ => some (.flt b)
  | .ref a => some (.ref a)
  | .type n => some (.ty n)
  | _ => none
theorem RelV.abs {x : V} {u : Value} (r : RelV x u) : absV u = some x := by
  cases x with
  | non => cases r; rfl
  | bl _ => cases r; rfl
  | int _ => obtain ⟨t, rfl⟩ := r; rfl
  | str _ => obtain ⟨t, rfl⟩ := r; rfl
  | byt _ => obtain ⟨t, rfl⟩ := r; rfl
  | flt _ => obtain ⟨t, rfl⟩ := r; rfl
  | ref _ => cases r; rfl
  | ty _ => cases r; rfl
theorem RelV.inj {x y : V} {u : Value} (r : RelV x u) (q : RelV y u) : x = y := Option.some.inj (r.abs.symm.trans q.abs)
theorem Vals.inj : ∀ {xs ys : List V} {us : List Value}, Vals xs us → Vals ys us → xs = ys
  | _, _, _, .nil, .nil => rfl
  | _, _, _, .cons r t, .cons r' t' => by rw [r.inj r', Vals.inj t t']
section
variable {X : Cx} {pins : List (Addr × Obj)} {σ : St} {H : Hp} {s : Shared} {a : Addr} {xs ys : List V}
theorem SqL.of {K : PySem.W.Frag} (h : H a = some (.lst xs)) : SqL K H a xs := .inl (.inl h)
theorem SqT.of {K : PySem.W.Frag} (h : H a = some (.tup xs)) : SqT K H a xs := .inl (.inl h)
theorem Inv.list (I : Inv X pins σ H s) (h : SqL X.K H a xs) : ∃ its : List Value, Vals xs its ∧ PlainL s.heap a its.toArray ∧ xs.length ≤ sizeLine := by
  rcases h with h | ⟨o, its, n, hk, hc, hd, hs, hz, r⟩
  · obtain ⟨z, its, n, r, e⟩ := h.ok I.hok
    exact ⟨its, r, ⟨_, n, e, rfl, rfl, rfl⟩, z⟩
  · refine ⟨its.toList, r, ⟨o, n, I.kIn a o hk, hc, hd, by simpa using hs⟩, ?_⟩
    have e := r.length
    simp only [Array.length_toList] at e
    omega
theorem Inv.tuple (I : Inv X pins σ H s) (h : SqT X.K H a xs) : ∃ its : List Value, Vals xs its ∧ IsTup s.heap a its.toArray ∧ xs.length ≤ sizeLine := by
  rcases h with h | ⟨o, its, n, hk, hc, hs, hz, r, hdn⟩
  · obtain ⟨z, its, r, p⟩ := h.ok I.hok
    exact ⟨its, r, p.up, z⟩
  · refine ⟨its.toList, r, ⟨o, I.kIn a o hk, hc, n, by simpa using hs⟩, ?_⟩
    have e := r.length
    simp only [Array.length_toList] at e
    omega
theorem Inv.tupleX (I : Inv X pins σ H s) (h : SqT X.K H a xs) : ∃ its : List Value, Vals xs its ∧ IsTp s.heap a its.toArray ∧ xs.length ≤ sizeLine := by
  rcases h with h | ⟨o, its, n, hk, hc, hs, hz, r, hdn⟩
  · obtain ⟨z, its, r, p⟩ := h.ok I.hok
    exact ⟨its, r, p, z⟩
  · refine ⟨its.toList, r, ⟨o, I.kIn a o hk, hc, ⟨n, by simpa using hs⟩, fun _ => hdn⟩, ?_⟩
    have e := r.length
    simp only [Array.length_toList] at e
    omega
theorem Inv.list_inj (I : Inv X pins σ H s) (h : SqL X.K H a xs) (h' : SqL X.K H a ys) : xs = ys := by
  obtain ⟨its, r, ⟨o, n, e, _, _, d⟩, _⟩ := I.list h
  obtain ⟨its', r', ⟨o', n', e', _, _, d'⟩, _⟩ := I.list h'
  rw [e] at e'; cases e'
  rw [d] at d'
  injection d' with d1 _
  have : its = its' := by simpa using congrArg Array.toList d1
  subst this
  exact r.inj r'
theorem Inv.tuple_inj (I : Inv X pins σ H s) (h : SqT X.K H a xs) (h' : SqT X.K H a ys) : xs = ys := by
  obtain ⟨its, r, ⟨o, e, _, n, d⟩, _⟩ := I.tuple h
  obtain ⟨its', r', ⟨o', e', _, n', d'⟩, _⟩ := I.tuple h'
  rw [e] at e'; cases e'
  rw [d] at d'
  injection d' with d1 _
  have : its = its' := by simpa using congrArg Array.toList d1
  subst this
  exact r.inj r'
end
abbrev Cx.wish (X : Cx) (E : Value → Shared → Prop) : Cx := { X with xe := E }
abbrev Cx.nox (X : Cx) : Cx := X.wish fun _ _ => False
theorem Cx.Ok.wish {X : Cx} (ok : X.Ok) (E : Value → Shared → Prop) : (X.wish E).Ok :=
  ⟨ok.mod, ok.kind, ok.glob, ok.blt, ok.above, ok.inj, ok.has, ok.cab, ok.hd, ok.frames, ok.stk, ok.exf, ok.bs, ok.bsz, ok.noex, ok.exfs, ok.funs, ok.frf⟩
theorem Cx.Ok.unwish {X : Cx} {E : Value → Shared → Prop} (ok : (X.wish E).Ok) : X.Ok :=
  ⟨ok.mod, ok.kind, ok.glob, ok.blt, ok.above, ok.inj, ok.has, ok.cab, ok.hd, ok.frames, ok.stk, ok.exf, ok.bs, ok.bsz, ok.noex, ok.exfs, ok.funs, ok.frf⟩
section
variable {X : Cx} {pins : List (Addr × Obj)} {σ : St} {H : Hp} {s : Shared} {E : Value → Shared → Prop}
theorem Inv.wish (I : Inv X pins σ H s) (E : Value → Shared → Prop) : Inv (X.wish E) pins σ H s := ⟨I.ok.wish E, I.os, I.bare, I.base, I.loc, I.cell, I.free, I.freeC, I.pin, I.hok, I.len⟩
theorem Inv.unwish (I : Inv (X.wish E) pins σ H s) : Inv X pins σ H s := ⟨I.ok.unwish, I.os, I.bare, I.base, I.loc, I.cell, I.free, I.freeC, I.pin, I.hok, I.len⟩
theorem SP.unwish {D : Ends} {f : Flow} {s' : Shared} (h : SP (X.wish E) pins D f s') : SP X pins D f s' := by
  cases f with
  | next => obtain ⟨σ', H', I, q⟩ := h; exact ⟨σ', H', I.unwish, q⟩
  | brk => obtain ⟨σ', H', I, q⟩ := h; exact ⟨σ', H', I.unwish, q⟩
  | cont => obtain ⟨σ', H', I, q⟩ := h; exact ⟨σ', H', I.unwish, q⟩
  | ret u => obtain ⟨v, σ', H', I, r, q⟩ := h; exact ⟨v, σ', H', I.unwish, r, q⟩
theorem PE.nox {e : Expr} {t : TE} (h : PE X.nox e t) : PE X e t := fun pins s σ H Q I hw =>
  wpAny_mono (h pins s σ H Q (I.wish _) hw) (fun _ _ ⟨v, H', I', r, q⟩ => ⟨v, H', I'.unwish, r, q⟩) fun _ _ z => False.elim z
theorem PT.nox {e : Expr} {t : TT} (h : PT X.nox e t) : PT X e t := fun pins s σ H Q I hw =>
  wpAny_mono (h pins s σ H Q (I.wish _) hw) (fun _ _ ⟨H', I', q⟩ => ⟨H', I'.unwish, q⟩) fun _ _ z => False.elim z
theorem PSs.nox {st : List Stmt} {t : TS} (h : PSs X.nox st t) : PSs X st t := fun pins s σ H D I hw =>
  wpAny_mono (h pins s σ H D (I.wish _) hw) (fun _ _ q => q.unwish) fun _ _ z => False.elim z
end
section
variable {X : Cx} {st : Stmt} {rest : List Stmt} {t u : TS} {e : Expr} {te : TE} {pos : Pos}
def tNext : TS := fun D σ H => D.nx σ H
def tSeq (t u : TS) : TS := fun D σ H => t { D with nx := u D } σ H
theorem pss_nil : PSs X [] tNext := fun _ _ σ H _ I h => wpAny_execs_nil ⟨σ, H, I, h⟩
theorem pss_cons (h1 : PS X st t) (h2 : PSs X rest u) : PSs X (st :: rest) (tSeq t u) := by
  intro pins s σ H D I h
  refine wpAny_execs_cons (thn (h1 pins s σ H { D with nx := u D } I h) fun f s1 q => ?_)
  cases f with
  | next =>
    obtain ⟨σ', H', I', q⟩ := q
    exact h2 pins s1 σ' H' D I' q
  | ret v => exact q
  | brk => exact q
  | cont => exact q
theorem pss_one (h1 : PS X st t) : PSs X [st] t := by
  intro pins s σ H D I h
  refine wpAny_execs_cons (thn (h1 pins s σ H D I h) fun f s1 q => ?_)
  cases f with
  | next => exact wpAny_execs_nil q
  | ret v => exact q
  | brk => exact q
  | cont => exact q
def tBreak : TS := fun D σ H => D.bk σ H
def tCont : TS := fun D σ H => D.ct σ H
theorem Inv.quiet {pins : List (Addr × Obj)} {σ : St} {H : Hp} {s : Shared} (I : Inv X pins σ H s) : interactive X.env = false := by simp [interactive, I.ok.kind]
def tDrop (te : TE) : TS := fun D σ H => te σ H fun _ H1 => D.nx σ H1
theorem ps_expr (he : PE X e te) (hs : swapsWith e none pos.line X.env = pure false := by rfl) : PS X (.Expr e pos) (tDrop te) := by
  intro pins s σ H D I h
  exact wpAny_Expr_any (thn (he pins s σ H _ I h) fun v s1 ⟨x, H1, I1, r1, q1⟩ => ⟨σ, H1, I1, q1⟩) I.quiet hs
def tRet (te : TE) : TS := fun D σ H => te σ H D.rt
theorem ps_ret (he : PE X e te) : PS X (.Return (some e) pos) (tRet te) := by
  intro pins s σ H D I h
  exact wpAny_Return_some (thn (he pins s σ H _ I h) fun v s1 ⟨x, H1, I1, r1, q1⟩ => ⟨x, σ, H1, I1, r1, q1⟩)
def tRetN : TS := fun D _ H => D.rt .non H
def tIfS (c : TT) (t u : TS) : TS := fun D σ H => c σ H fun b H1 => if b = true then t D σ H1 else u D σ H1
theorem ps_if {c : Expr} {a b : List Stmt} {tc : TT} (hc : PT X c tc) (ha : PSs X a t) (hb : PSs X b u) : PS X (.If c a b pos) (tIfS tc t u) := by
  intro pins s σ H D I h
  refine wpAny_If (thn (hc pins s σ H _ I h) fun d s1 ⟨H1, I1, q1⟩ => ?_)
  cases d with
  | true => exact ha pins s1 σ H1 D I1 q1
  | false => exact hb pins s1 σ H1 D I1 q1
def tNever : TS := fun _ _ _ => False
end
abbrev TG := V → St → Hp → (St → Hp → Prop) → Prop
abbrev TGs := List V → St → Hp → (St → Hp → Prop) → Prop
def PG (X : Cx) (target : Expr) (t : TG) : Prop :=
  ∀ (pins : List (Addr × Obj)) (s : Shared) (σ : St) (H : Hp) (v : V) (u : Value) (Q : St → Hp → Prop), Inv X pins σ H s → RelV v u → t v σ H Q →
    wpAny (model X.prog X.w) X.A (assign target X.env u) (fun _ s' => ∃ σ' H', Inv X pins σ' H' s' ∧ Q σ' H') X.xe s
def PGs (X : Cx) (ts : List Expr) (t : TGs) : Prop :=
  ∀ (pins : List (Addr × Obj)) (s : Shared) (σ : St) (H : Hp) (vs : List V) (us : List Value) (Q : St → Hp → Prop), Inv X pins σ H s → Vals vs us → t vs σ H Q →
    wpAny (model X.prog X.w) X.A (assignInOrder ((assignEach ts X.env).map (·.2)) us) (fun _ s' => ∃ σ' H', Inv X pins σ' H' s' ∧ Q σ' H') X.xe s
abbrev TSet := V → V → V → Hp → (Hp → Prop) → Prop
def PSet (X : Cx) (t : TSet) : Prop :=
  ∀ (pins : List (Addr × Obj)) (s : Shared) (σ : St) (H : Hp) (o i v : V) (ov iv u : Value) (Q : Hp → Prop), Inv X pins σ H s → RelV o ov → RelV i iv → RelV v u → t o i v H Q →
    wpAny (model X.prog X.w) X.A (setItem ov iv u) (fun _ s' => ∃ H', Inv X pins σ H' s' ∧ Q H') X.xe s
abbrev TIp := V → V → Hp → VK → Prop
def PIp (X : Cx) (op : Operator) (t : TIp) : Prop :=
  ∀ (pins : List (Addr × Obj)) (s : Shared) (σ : St) (H : Hp) (x y : V) (v u : Value) (Q : VK), Inv X pins σ H s → RelV x v → RelV y u → t x y H Q →
    wpAny (model X.prog X.w) X.A (inplaceOp op v u) (EP X pins σ Q) X.xe s
section
variable {X : Cx} {pos : Pos}
def gName (i : Nat) : TG := fun v σ H Q => Q (σ.set i (some v)) H
theorem pg_name {i : Nat} {x : Str} (hN : X.N.Nodup) (hi : X.N[i]? = some x) (hx : Loc X.env.scope x) (hf : X.fn x = true ∨ X.env.scope.names.lookup x = some .local := by first | exact .inl rfl | exact .inr rfl | assumption) : PG X (.Name x pos) (gName i) := by
  intro pins s σ H v u Q I r h
  exact wpAny_assign_Name (store_ok I hN hi hx r (fun s' I' => ⟨_, H, I', h⟩) hf)
def gNil : TGs := fun vs σ H Q => vs = [] ∧ Q σ H
def gCons (t : TG) (u : TGs) : TGs := fun vs σ H Q => ∃ v r, vs = v :: r ∧ t v σ H fun σ' H' => u r σ' H' Q
theorem pgs_nil : PGs X [] gNil := by
  intro pins s σ H vs us Q I r h
  obtain ⟨e, h⟩ := h
  subst e
  cases r
  exact assignInOrder_nil ⟨σ, H, I, h⟩
theorem pgs_cons {e : Expr} {es : List Expr} {t : TG} {u : TGs} (h1 : PG X e t) (h2 : PGs X es u)
    (hs : (assignEach (e :: es) X.env).map (·.2) = assign e X.env :: (assignEach es X.env).map (·.2) := by rfl) : PGs X (e :: es) (gCons t u) := by
  intro pins s σ H vs us Q I r h
  obtain ⟨v, vr, e1, h⟩ := h
  subst e1
  cases r with
  | cons r rr =>
    rw [hs]
    refine assignInOrder_cons (thn (h1 pins s σ H _ _ _ I r h) fun _ s1 ⟨σ1, H1, I1, q1⟩ => ?_)
    exact h2 pins s1 σ1 H1 _ _ Q I1 rr q1
def gTup (K : PySem.W.Frag) (n : Nat) (t : TGs) : TG := fun v σ H Q => ∃ a xs, v = .ref a ∧ SqT K H a xs ∧ xs.length = n ∧ t xs σ H Q
theorem pg_tup {es : List Expr} {k : Nat} {t : TGs} {n : Nat} (hc : X.calm = true) (h : PGs X es t)
    (hn : (assignEach es X.env).length = n := by rfl) (hst : (assignEach es X.env).findIdx? (·.1) = none := by rfl) : PG X (.Tuple es k pos) (gTup X.K n t) := by
  intro pins s σ H v u Q I r hw
  obtain ⟨a, xs, e1, hq, hl, hw⟩ := hw
  subst e1
  cases r
  obtain ⟨its, rv, ht, hz⟩ := I.tuple hq
  refine assign_Tuple_tuple (I.ok.hd hc) ht (by simp [hn, ← hl, rv.length]) hst fun h' hx => ?_
  have I1 : Inv X pins σ H { s with heap := h' } := I.kept (t' := s.toks) fun b o e => hx b o (Nat.ne_of_lt (Heap.lt_size e)) e
  exact h pins _ σ H xs _ Q I1 (by simpa using rv) hw
def gSub (to ti : TE) (t : TSet) : TG := fun v σ H Q => to σ H fun o H1 => ti σ H1 fun i H2 => t o i v H2 fun H3 => Q σ H3
def tAsg (te : TE) (g : TG) : TS := fun D σ H => te σ H fun x H1 => g x σ H1 D.nx
theorem ps_set {i : Nat} {x : Str} {e : Expr} {te : TE} {pos' : Pos} (hN : X.N.Nodup) (hi : X.N[i]? = some x) (hx : Loc X.env.scope x) (he : PE X e te) (hs : swapsWith e (some (.Name x pos')) pos.line X.env = pure false := by rfl) (hf : X.fn x = true ∨ X.env.scope.names.lookup x = some .local := by first | exact .inl rfl | exact .inr rfl | assumption) :
    PS X (.Assign [.Name x pos'] e pos) (tAsg te (gName i)) := by
  intro pins s σ H D I h
  refine wpAny_Assign_Name (thn (he pins s σ H _ I h) fun v s1 ⟨y, H1, I1, r1, q1⟩ => ?_) hs
  exact store_ok I1 hN hi hx r1 (fun s2 I2 => ⟨_, H1, I2, q1⟩) hf
def tPar (i j : Nat) (ta : TA) : TS := fun D σ H => ta σ H fun vs H1 => ∃ v w, vs = [v, w] ∧ D.nx ((σ.set i (some v)).set j (some w)) H1
def tAug (i : Nat) (te : TE) (ti : TIp) : TS := fun D σ H => ∃ x, σ[i]? = some (some x) ∧ te σ H fun y H1 => ti x y H1 fun z H2 => D.nx (σ.set i (some z)) H2
def tAugS (to ti te : TE) (tget : V → V → Hp → VK → Prop) (tip : TIp) (tset : TSet) : TS := fun D σ H => to σ H fun o H1 => ti σ H1 fun i H2 => tget o i H2 fun x H3 => te σ H3 fun y H4 => tip x y H4 fun z H5 => tset o i z H5 fun H6 => D.nx σ H6
def PGet (X : Cx) (t : V → V → Hp → VK → Prop) : Prop :=
  ∀ (pins : List (Addr × Obj)) (s : Shared) (σ : St) (H : Hp) (o i : V) (ov iv : Value) (Q : VK), Inv X pins σ H s → RelV o ov → RelV i iv → t o i H Q →
    wpAny (model X.prog X.w) X.A (getItem ov iv) (EP X pins σ Q) X.xe s
def ipI (f : Int → Int → Int) : TIp := fun x y H Q => ∃ i j, x = .int i ∧ y = .int j ∧ Q (.int (f i j)) H
end
section
variable {X : Cx} {pos : Pos}
def tWhile (c : TT) (tb : TS) : TS := fun D σ H => ∃ W : Nat → St → Hp → Prop, (∃ m, W m σ H) ∧ ∀ m σ H, W m σ H →
  c σ H fun b H1 => if b = true then ∃ N : St → Hp → Prop, (∀ σ' H', N σ' H' → ∃ m', m' < m ∧ W m' σ' H') ∧ tb { D with nx := N, ct := N, bk := D.nx } σ H1 else D.nx σ H1
theorem ps_while {c : Expr} {body : List Stmt} {tc : TT} {tb : TS} (hp : PassesOwn (model X.prog X.w) X.A X.env X.xe) (hc : PT X c tc) (hb : PSs X body tb) : PS X (.While c body [] pos) (tWhile tc tb) := by
  intro pins s σ H D I h
  obtain ⟨W, ⟨m0, w0⟩, turn⟩ := h
  refine wpAny_While (codeAny_whileLoop (fun n s' => ∃ σ' H', Inv X pins σ' H' s' ∧ W n σ' H') ?_ m0 ⟨σ, H, I, w0⟩)
  rintro n s1 ⟨σ1, H1, I1, w1⟩
  refine wpAny_passesOwn hp (thn (hc pins s1 σ1 H1 _ I1 (turn n σ1 H1 w1)) fun b s2 ⟨H2, I2, q2⟩ => ?_)
  cases b with
  | true =>
    obtain ⟨N, hN, q2⟩ := q2
    rw [if_pos rfl]
    refine wpAny_passesOwn hp (thn (hb pins s2 σ1 H2 _ I2 q2) fun f s3 q3 => ?_)
    cases f with
    | next =>
      obtain ⟨σ3, H3, I3, n3⟩ := q3
      obtain ⟨m', hm, w3⟩ := hN σ3 H3 n3
      exact ⟨m', hm, σ3, H3, I3, w3⟩
    | cont =>
      obtain ⟨σ3, H3, I3, n3⟩ := q3
      obtain ⟨m', hm, w3⟩ := hN σ3 H3 n3
      exact ⟨m', hm, σ3, H3, I3, w3⟩
    | brk => exact q3
    | ret v => exact q3
  | false =>
    rw [if_neg Bool.false_ne_true]
    exact wpAny_execs_nil ⟨σ1, H2, I2, q2⟩
end
structure It where
  go : Nat → Hp → Prop
  yld : Nat → Hp → V → Hp → Prop
  stop : Nat → Hp → Prop
def FpOk (X : Cx) (pins : List (Addr × Obj)) (H : Hp) (b : Addr) : Prop :=
  H b = none ∧ b ≠ X.env.locals ∧ b ∉ X.fs ∧ (b ∈ X.ex ∨ X.s₀.heap.objs.size ≤ b) ∧ (∀ x c, X.env.cells.lookup x = some c → c ≠ b) ∧ ∀ p ∈ X.pn ++ pins, p.1 ≠ b
theorem Inv.fpOk {X : Cx} {pins : List (Addr × Obj)} {σ : St} {H H' : Hp} {s : Shared} {b : Addr} (I : Inv X pins σ H s) (hb : s.heap.objs.size ≤ b) (hn : H' b = none) : FpOk X pins H' b := by
  refine ⟨hn, Nat.ne_of_gt (Nat.lt_of_lt_of_le I.lt hb), I.nofs hb, .inr (Nat.le_trans I.sz hb), fun x c e z => ?_, fun p hp z => ?_⟩
  · obtain ⟨v, q⟩ := I.cell x c e
    exact absurd (Nat.lt_of_lt_of_le q.lt (by rw [z]; exact hb)) (Nat.lt_irrefl _)
  · exact absurd (Nat.lt_of_lt_of_le (Heap.lt_size (I.pin p hp).1) (by rw [z]; exact hb)) (Nat.lt_irrefl _)
structure Turn (P : Program) (w : World) (K : PySem.W.Frag) (tg : Expr) (J : It) (fp : List Addr) (it : Addr) (tn : Nat → Heap → Prop) : Prop where
  mem : it ∈ fp
  obj : ∀ i h, tn i h → ∀ b ∈ fp, ∃ o, h.get? b = some o ∧ ∀ v, o.data ≠ .cell v
  keep : ∀ i h h', tn i h → (∀ b ∈ fp, ∀ o, h.get? b = some o → h'.get? b = some o) → tn i h'
  item : ∀ (X : Cx), X.prog = P → X.w = w → X.K = K → X.calm = true → ∀ (i : Nat) (pins : List (Addr × Obj)) (s : Shared) (σ : St) (H : Hp) (E : Value → Shared → Prop), Inv X pins σ H s → (∀ b ∈ fp, FpOk X pins H b) → tn i s.heap → J.go i H →
    wpAny (model P w) X.A (pyNext (.ref it)) (fun r s1 => ∃ u, r = some u ∧
      wpAny (model P w) X.A (letOwnedTupleGo tg (.ref it) u) (fun _ s2 => ∃ x H', Inv X pins σ H' s2 ∧ RelV x u ∧ J.yld i H x H' ∧ tn (i + 1) s2.heap ∧ ∀ b ∈ fp, H' b = none) E s1) E s
  done : ∀ (X : Cx), X.prog = P → X.w = w → X.K = K → X.calm = true → ∀ (i : Nat) (pins : List (Addr × Obj)) (s : Shared) (σ : St) (H : Hp) (E : Value → Shared → Prop), Inv X pins σ H s → (∀ b ∈ fp, FpOk X pins H b) → tn i s.heap → J.stop i H →
    wpAny (model P w) X.A (pyNext (.ref it)) (fun r s1 => r = none ∧ Inv X pins σ H s1) E s
  self : ∀ (A : Around) (i : Nat) (s : Shared) (Q : Value → Shared → Prop) (E : Value → Shared → Prop), tn i s.heap → Q (.ref it) s → wpAny (model P w) A (pyIter (.ref it)) Q E s
abbrev TI := St → Hp → (It → Hp → Prop) → Prop
def PIE (X : Cx) (pins : List (Addr × Obj)) (σ : St) (tg : Expr) (R : It → Hp → Prop) (itv : Value) (s2 : Shared) : Prop :=
  ∃ (it : Addr) (fp : List Addr) (tn : Nat → Heap → Prop) (J : It) (H' : Hp), itv = .ref it ∧ Inv X pins σ H' s2 ∧ Turn X.prog X.w X.K tg J fp it tn ∧ tn 0 s2.heap ∧ (∀ b ∈ fp, FpOk X pins H' b) ∧ R J H'
def PI (X : Cx) (tg iter : Expr) (wi : TI) : Prop :=
  ∀ (pins : List (Addr × Obj)) (s : Shared) (σ : St) (H : Hp) (R : It → Hp → Prop), Inv X pins σ H s → wi σ H R →
    wpAny (model X.prog X.w) X.A (eval iter X.env) (fun v s1 => wpAny (model X.prog X.w) X.A (pyIter v) (PIE X pins σ tg R) X.xe s1) X.xe s
theorem go_of {M : Model} {A : Around} {E : Value → Shared → Prop} {s : Shared} {tg : Expr} {it : Addr} {u : Value} {o : Obj} {n : String} {vs : Array Value} {Q : Unit → Shared → Prop} (ho : s.heap.get? it = some o) (hc : o.cls = .type n) (hd : o.data = .fields vs)
    (hn : ["enumerate", "zip", "dict_itemiterator", "dict_reverseitemiterator", "odict_iterator", "itertools.zip_longest", "itertools.pairwise"].contains n = false) (hQ : Q () s) : wpAny M A (letOwnedTupleGo tg (.ref it) u) Q E s := by
  unfold letOwnedTupleGo
  cases tg <;> first
    | exact wpAny_pure hQ
    | (cases u <;> first
        | exact wpAny_pure hQ
        | (refine wpAny_bind (wpAny_load ho ?_)
           rw [hc, hd]
           show wpAny M A (if (["enumerate", "zip", "dict_itemiterator", "dict_reverseitemiterator", "odict_iterator", "itertools.zip_longest", "itertools.pairwise"].contains n && vs[0]? == some (rawInt _)) = true then _ else _) Q E s
           rw [if_neg (by intro h; rw [hn, Bool.false_and] at h; cases h)]
           exact wpAny_pure hQ))
def Itl (K : PySem.W.Frag) (a : Addr) : It :=
  ⟨fun i H => ∃ xs x, SqL K H a xs ∧ xs[i]? = some x, fun i H x H' => H' = H ∧ ∀ xs, SqL K H a xs → xs[i]? = some x, fun i H => ∃ xs, SqL K H a xs ∧ xs.length ≤ i⟩
def Itt (K : PySem.W.Frag) (a : Addr) : It :=
  ⟨fun i H => ∃ xs x, SqT K H a xs ∧ xs[i]? = some x, fun i H x H' => H' = H ∧ ∀ xs, SqT K H a xs → xs[i]? = some x, fun i H => ∃ xs, SqT K H a xs ∧ xs.length ≤ i⟩
def Itr (lo : Int) (n : Nat) : It := ⟨fun i _ => i < n, fun i H x H' => H' = H ∧ x = .int (lo + i), fun i _ => n ≤ i⟩
theorem turn_list {P : Program} {w : World} {K : PySem.W.Frag} {tg : Expr} (a it : Addr) : Turn P w K tg (Itl K a) [it] it (fun i h => h.IsListIter it a i) where
  mem := by simp
  obj := fun i h st b hb => by
    have e : b = it := by simpa using hb
    subst e
    obtain ⟨o, e, c, d⟩ := st
    exact ⟨o, e, fun v z => by rw [d] at z; cases z⟩
  keep := fun i h h' st k => st.at fun o e => k it (by simp) o e
  item := by
    intro X hP hw hK hc i pins s σ H E I hf st hg
    subst hP hw hK
    obtain ⟨xs, x, hq, hx⟩ := hg
    obtain ⟨its, rv, p, hz⟩ := I.list hq
    obtain ⟨u, hu, ru⟩ := rv.get hx
    obtain ⟨f0, f1, f2, f3, f4, f5⟩ := hf it (by simp)
    refine wpAny_pyNext_list_item st p.isList (x := u) (by simpa using hu) fun h' st' sb => ?_
    have I1 : Inv X pins σ H { s with heap := h' } := I.turned (t' := s.toks) (fun b o hb e => (sb.2 b hb).trans e) f0 f1 f3 f4 f5
    obtain ⟨o, e, c, d⟩ := id st'
    exact ⟨u, rfl, go_of (s := { s with heap := h' }) e c d (by decide) ⟨x, H, I1, ru, ⟨rfl, fun ys hy => by rw [I.list_inj hy hq]; exact hx⟩, st', fun b hb => (hf b hb).1⟩⟩
  done := by
    intro X hP hw hK hc i pins s σ H E I hf st hg
    subst hP hw hK
    obtain ⟨xs, hq, hx⟩ := hg
    obtain ⟨its, rv, p, hz⟩ := I.list hq
    obtain ⟨f0, f1, f2, f3, f4, f5⟩ := hf it (by simp)
    have hl := rv.length
    exact wpAny_pyNext_list_end (I.ok.hd hc) st p.isList (by simp; omega) fun h' eb => ⟨rfl, I.turned (t' := s.toks) (fun b o hb e => eb b o hb e) f0 f1 f3 f4 f5⟩
  self := fun _ _ _ _ _ st h => wpAny_pyIter_listiter st h
theorem turn_tuple {P : Program} {w : World} {K : PySem.W.Frag} {tg : Expr} (a it : Addr) : Turn P w K tg (Itt K a) [it] it (fun i h => h.IsTupleIter it a i) where
  mem := by simp
  obj := fun i h st b hb => by
    have e : b = it := by simpa using hb
    subst e
    obtain ⟨o, e, c, d⟩ := st
    exact ⟨o, e, fun v z => by rw [d] at z; cases z⟩
  keep := fun i h h' st k => st.at fun o e => k it (by simp) o e
  item := by
    intro X hP hw hK hc i pins s σ H E I hf st hg
    subst hP hw hK
    obtain ⟨xs, x, hq, hx⟩ := hg
    obtain ⟨its, rv, p, hz⟩ := I.tuple hq
    obtain ⟨u, hu, ru⟩ := rv.get hx
    obtain ⟨f0, f1, f2, f3, f4, f5⟩ := hf it (by simp)
    refine wpAny_pyNext_tuple_item st (show s.heap.IsTuple a its.toArray from p) (x := u) (by simpa using hu) fun h' st' sb => ?_
    have I1 : Inv X pins σ H { s with heap := h' } := I.turned (t' := s.toks) (fun b o hb e => (sb.2 b hb).trans e) f0 f1 f3 f4 f5
    obtain ⟨o, e, c, d⟩ := id st'
    exact ⟨u, rfl, go_of (s := { s with heap := h' }) e c d (by decide) ⟨x, H, I1, ru, ⟨rfl, fun ys hy => by rw [I.tuple_inj hy hq]; exact hx⟩, st', fun b hb => (hf b hb).1⟩⟩
  done := by
    intro X hP hw hK hc i pins s σ H E I hf st hg
    subst hP hw hK
    obtain ⟨xs, hq, hx⟩ := hg
    obtain ⟨its, rv, p, hz⟩ := I.tuple hq
    obtain ⟨f0, f1, f2, f3, f4, f5⟩ := hf it (by simp)
    have hl := rv.length
    exact wpAny_pyNext_tuple_end (I.ok.hd hc) st (show s.heap.IsTuple a its.toArray from p) (by simp; omega) fun h' eb => ⟨rfl, I.turned (t' := s.toks) (fun b o hb e => eb b o hb e) f0 f1 f3 f4 f5⟩
  self := fun _ _ _ _ _ st h => wpAny_pyIter_tupleiter st h
theorem turn_range {P : Program} {w : World} {K : PySem.W.Frag} {tg : Expr} (it : Addr) (lo : Int) (n : Nat) : Turn P w K tg (Itr lo n) [it] it (fun i h => IsRangeIter h it (lo + (i : Nat) * 1) ((n : Int) - (i : Nat)) 1) where
  mem := by simp
  obj := fun i h st b hb => by
    have e : b = it := by simpa using hb
    subst e
    exact ⟨_, st, fun v z => by
      have z' : Data.fields _ = Data.cell v := z
      cases z'⟩
  keep := fun i h h' st k => k it (by simp) _ st
  item := by
    intro X hP hw hK hc i pins s σ H E I hf st hg
    subst hP hw hK
    obtain ⟨f0, f1, f2, f3, f4, f5⟩ := hf it (by simp)
    have W := Walks.range (prog := X.prog) (w := X.w) (I.ok.hd hc) it lo 1 n
    refine W.item i s _ _ hg st fun v h' tk hv st' kk => ?_
    obtain ⟨t, rfl⟩ := hv
    have I1 : Inv X pins σ H { s with heap := h', toks := tk } := I.turned (fun b o hb e => kk b o (by simpa using hb) e) f0 f1 f3 f4 f5
    refine ⟨_, rfl, go_of (s := { s with heap := h', toks := tk }) (n := "range_iterator") st' rfl rfl (by decide) ⟨.int (lo + i), H, I1, ⟨t, ?_⟩, ⟨rfl, rfl⟩, st', fun b hb => (hf b hb).1⟩⟩
    rw [Int.mul_one]
  done := by
    intro X hP hw hK hc i pins s σ H E I hf st hg
    subst hP hw hK
    obtain ⟨f0, f1, f2, f3, f4, f5⟩ := hf it (by simp)
    exact wpAny_pyNext_range_end (I.ok.hd hc) st (by have : n ≤ i := hg; omega) fun h' eb => ⟨rfl, I.turned (t' := s.toks) (fun b o hb e => eb b o hb e) f0 f1 f3 f4 f5⟩
  self := fun _ _ _ _ _ st h => wpAny_pyIter_rangeiter st h
end L2
namespace L2
open PySem PySem.Spec PyProof.Rows
section
variable {X : Cx} {tg : Expr}
def iList (K : PySem.W.Frag) (tl : TE) : TI := fun σ H R => tl σ H fun x H1 => ∃ a, x = .ref a ∧ (∃ xs, SqL K H1 a xs) ∧ R (Itl K a) H1
def iTup (K : PySem.W.Frag) (tl : TE) : TI := fun σ H R => tl σ H fun x H1 => ∃ a, x = .ref a ∧ (∃ xs, SqT K H1 a xs) ∧ R (Itt K a) H1
theorem range_it {pins : List (Addr × Obj)} {σ : St} {H : Hp} {s : Shared} {R : It → Hp → Prop} {E : Value → Shared → Prop} {lo hi : Int} {t u v : Tok} {tk : Nat} (I : Inv X pins σ H s) (h1 : -(2 ^ 62) ≤ lo) (h2 : lo < 2 ^ 62) (h3 : -(2 ^ 62) ≤ hi) (h4 : hi < 2 ^ 62)
    (q : R (Itr lo (hi - lo).toNat) H) : wpAny (model X.prog X.w) X.A (pyIter (.ref s.heap.objs.size)) (PIE X pins σ tg R) E { s with heap := s.heap.push { cls := .type "range", data := .fields #[.int lo t, .int hi u, .int 1 v] }, toks := tk } := by
  refine wpAny_pyIter_range (IsRange.new ..) (small_one h1 h2 h3 h4) ?_
  have I1 : Inv X pins σ H { s with heap := s.heap.push { cls := .type "range", data := .fields #[.int lo t, .int hi u, .int 1 v] }, toks := tk } := I.kept fun b o e => Heap.get?_push_of_some _ e
  refine ⟨(s.heap.push { cls := .type "range", data := .fields #[.int lo t, .int hi u, .int 1 v] }).objs.size, [(s.heap.push { cls := .type "range", data := .fields #[.int lo t, .int hi u, .int 1 v] }).objs.size], _, _, H, rfl,
    I1.kept (t' := tk) fun b o e => Heap.get?_push_of_some _ e, turn_range _ lo (hi - lo).toNat, ?_, fun b hb => ?_, q⟩
  · have e1 : lo + ((0 : Nat) : Int) * 1 = lo := by simp
    have e2 : (((hi - lo).toNat : Nat) : Int) - ((0 : Nat) : Int) = Builtin.Range.rangeSize lo hi 1 := by rw [rangeSize_one]; split <;> omega
    show IsRangeIter _ _ (lo + ((0 : Nat) : Int) * 1) ((((hi - lo).toNat : Nat) : Int) - ((0 : Nat) : Int)) 1
    rw [e1, e2]
    exact Heap.get?_push_size _ rfl
  · have e : b = (s.heap.push { cls := .type "range", data := .fields #[.int lo t, .int hi u, .int 1 v] }).objs.size := by simpa using hb
    subst e
    exact I1.fpOk (Nat.le_refl _) (I1.hok.fresh (Nat.le_refl _))
def iRng1 (ta : TA) : TI := fun σ H R => ta σ H fun vs H1 => ∃ j : Int, vs = [.int j] ∧ -(2 ^ 62) ≤ j ∧ j < 2 ^ 62 ∧ R (Itr 0 j.toNat) H1
def iRng2 (ta : TA) : TI := fun σ H R => ta σ H fun vs H1 => ∃ i j : Int, vs = [.int i, .int j] ∧ (-(2 ^ 62) ≤ i ∧ i < 2 ^ 62 ∧ -(2 ^ 62) ≤ j ∧ j < 2 ^ 62) ∧ R (Itr i (j - i).toNat) H1
theorem pi_range1 {a : Expr} {ta : TA} {p pos : Pos} (hg : Gl X "range") (hm : X.mg "range" = none) (ha : PA X [a] ta) (hs : starEach [a] X.env = [(false, eval a X.env)] := by rfl) : PI X tg (.Call (.Name "range" p) [a] [] pos) (iRng1 ta) := by
  intro pins s σ H R I h
  refine Call_ (ld_blt I hg hm boot_range (PyProof.Rows.callWith_type1 (thn (ha pos pins s σ H _ I h) fun us s1 ⟨vs, H1, I1, r1, q1⟩ => ?_) hs rfl))
  obtain ⟨j, e, q1, q2, q⟩ := q1
  subst e
  cases r1 with
  | cons r rr =>
    cases rr
    obtain ⟨t, rfl⟩ := r
    exact call_range_1 (range_it I1 (by omega) (by omega) q1 q2 (by simpa using q))
theorem pi_range2 {a b : Expr} {ta : TA} {p pos : Pos} (hg : Gl X "range") (hm : X.mg "range" = none) (ha : PA X [a, b] ta) (hs : starEach [a, b] X.env = [(false, eval a X.env), (false, eval b X.env)] := by rfl) (hs2 : starEach [b] X.env = [(false, eval b X.env)] := by rfl) :
    PI X tg (.Call (.Name "range" p) [a, b] [] pos) (iRng2 ta) := by
  intro pins s σ H R I h
  refine Call_ (ld_blt I hg hm boot_range (PyProof.Rows.callWith_type1 (thn (ha pos pins s σ H _ I h) fun us s1 ⟨vs, H1, I1, r1, q1⟩ => ?_) (by rw [hs, hs2]) (by rw [hs2]; rfl)))
  obtain ⟨i, j, e, ⟨q1, q2, q3, q4⟩, q⟩ := q1
  subst e
  cases r1 with
  | cons r rr =>
    cases rr with
    | cons r' rr =>
      cases rr
      obtain ⟨t, rfl⟩ := r
      obtain ⟨t', rfl⟩ := r'
      exact call_range_2 (range_it I1 q1 q2 q3 q4 q)
def tFor (wi : TI) (g : TG) (tb : TS) : TS := fun D σ H => wi σ H fun J H1 => ∃ W : Nat → Nat → St → Hp → Prop, (∃ m, W 0 m σ H1) ∧ ∀ i m σ H, W i m σ H →
  (J.stop i H ∧ D.nx σ H) ∨ (J.go i H ∧ ∃ N : St → Hp → Prop, (∀ σ' H', N σ' H' → ∃ m', m' < m ∧ W (i + 1) m' σ' H') ∧ ∀ x H', J.yld i H x H' → g x σ H' fun σ2 H2 => tb { D with nx := N, ct := N, bk := D.nx } σ2 H2)
def pinsAt (fp : List Addr) (h : Heap) : List (Addr × Obj) := fp.filterMap fun b => (h.get? b).map fun o => (b, o)
theorem mem_pinsAt {fp : List Addr} {h : Heap} {b : Addr} {o : Obj} (hb : b ∈ fp) (e : h.get? b = some o) : (b, o) ∈ pinsAt fp h := List.mem_filterMap.mpr ⟨b, hb, by rw [e]; rfl⟩
theorem of_pinsAt {fp : List Addr} {h : Heap} {p : Addr × Obj} (hp : p ∈ pinsAt fp h) : p.1 ∈ fp ∧ h.get? p.1 = some p.2 := by
  obtain ⟨b, hb, e⟩ := List.mem_filterMap.mp hp
  cases q : h.get? b with
  | none => rw [q] at e; cases e
  | some o =>
    rw [q] at e
    have e' : (b, o) = p := Option.some.inj e
    subst e'
    exact ⟨hb, q⟩
theorem Inv.pinned {pins : List (Addr × Obj)} {σ : St} {H : Hp} {s : Shared} {fp : List Addr} (I : Inv X pins σ H s) (hf : ∀ b ∈ fp, FpOk X pins H b) (ho : ∀ b ∈ fp, ∃ o, s.heap.get? b = some o ∧ ∀ v, o.data ≠ .cell v) : Inv X (pins ++ pinsAt fp s.heap) σ H s :=
  I.pins_of fun p hp => (List.mem_append.mp hp).elim (fun z => I.pin p (List.mem_append_right _ z)) fun z => by
    obtain ⟨hb, e⟩ := of_pinsAt z
    obtain ⟨f0, f1, f2, _⟩ := hf p.1 hb
    obtain ⟨o, e', d⟩ := ho p.1 hb
    rw [e] at e'; cases e'
    exact ⟨e, f0, f1, f2, d⟩
theorem Inv.unpinned {pins pl : List (Addr × Obj)} {σ : St} {H : Hp} {s : Shared} (I : Inv X (pins ++ pl) σ H s) : Inv X pins σ H s := I.pins_of fun p hp => I.pin p (List.mem_append_right _ (List.mem_append_left _ hp))
theorem ps_for {iter : Expr} {body : List Stmt} {wi : TI} {g : TG} {tb : TS} {pos : Pos} (hp : PassesOwn (model X.prog X.w) X.A X.env X.xe) (hc : X.calm = true) (hi : PI X tg iter wi) (hg : PG X tg g) (hb : PSs X body tb)
    (hs : ∀ x, foldedSetIterable iter X.env x = pure x := by intro _; rfl) : PS X (.For tg iter body [] pos) (tFor wi g tb) := by
  intro pins s σ H D I h
  refine wpAny_For (thn (hi pins s σ H _ I h) fun v s1 h1 => thn h1 fun itv s2 h2 => ?_) hs
  obtain ⟨it, fp, tn, J, H2, e, I2, T, st2, f2, W, ⟨m0, w0⟩, turn⟩ := h2
  subst e
  have stat : ∀ {H' : Hp}, (∀ b ∈ fp, H' b = none) → ∀ b ∈ fp, FpOk X pins H' b := fun hn b hb => ⟨hn b hb, (f2 b hb).2⟩
  refine codeAny_forLoop_any (fun n s' => ∃ i σ' H', Inv X pins σ' H' s' ∧ tn i s'.heap ∧ (∀ b ∈ fp, H' b = none) ∧ W i n σ' H') ?_ m0 ⟨0, σ, H2, I2, st2, fun b hb => (f2 b hb).1, w0⟩
  rintro n s3 ⟨i, σ3, H3, I3, st3, fr3, w3⟩
  rcases turn i n σ3 H3 w3 with ⟨stop, qn⟩ | ⟨go, N, hN, step⟩
  · refine wpAny_passesOwn hp (thn (T.done X rfl rfl rfl hc i pins s3 σ3 H3 X.xe I3 (stat fr3) st3 stop) fun r s4 ⟨hr, I4⟩ => ?_)
    subst hr
    exact wpAny_execs_nil ⟨σ3, H3, I4, qn⟩
  · refine wpAny_passesOwn hp (thn (T.item X rfl rfl rfl hc i pins s3 σ3 H3 X.xe I3 (stat fr3) st3 go) fun r s4 ⟨u, hr, h4⟩ => ?_)
    subst hr
    refine wpAny_passesOwn hp (thn h4 fun _ s5 ⟨x, H5, I5, r5, y5, st5, fr5⟩ => ?_)
    have I5' := I5.pinned (stat fr5) (T.obj _ _ st5)
    refine wpAny_passesOwn hp (thn (hg _ s5 σ3 H5 x u _ I5' r5 (step x H5 y5)) fun _ s6 ⟨σ6, H6, I6, q6⟩ => ?_)
    refine wpAny_passesOwn hp (thn (hb _ s6 σ6 H6 _ I6 q6) fun f s7 q7 => ?_)
    have again : ∀ {σ7 : St} {H7 : Hp}, Inv X (pins ++ pinsAt fp s5.heap) σ7 H7 s7 → N σ7 H7 → ∃ m, m < n ∧ ∃ i σ' H', Inv X pins σ' H' s7 ∧ tn i s7.heap ∧ (∀ b ∈ fp, H' b = none) ∧ W i m σ' H' := fun {σ7 H7} I7 n7 => by
      obtain ⟨m', hm, w7⟩ := hN σ7 H7 n7
      refine ⟨m', hm, i + 1, σ7, H7, I7.unpinned, T.keep _ _ _ st5 fun b hb o e => (I7.pin (b, o) (List.mem_append_right _ (List.mem_append_right _ (mem_pinsAt hb e)))).1, fun b hb => ?_, w7⟩
      obtain ⟨o, e, d⟩ := T.obj _ _ st5 b hb
      exact (I7.pin (b, o) (List.mem_append_right _ (List.mem_append_right _ (mem_pinsAt hb e)))).2.1
    cases f with
    | next => obtain ⟨σ7, H7, I7, n7⟩ := q7; exact again I7 n7
    | cont => obtain ⟨σ7, H7, I7, n7⟩ := q7; exact again I7 n7
    | brk => obtain ⟨σ7, H7, I7, q7⟩ := q7; exact ⟨σ7, H7, I7.unpinned, q7⟩
    | ret v => obtain ⟨x7, σ7, H7, I7, r7, q7⟩ := q7; exact ⟨x7, σ7, H7, I7.unpinned, r7, q7⟩
end
end L2
namespace L2
open PySem PySem.Spec PyProof.Rows
abbrev R2 := V → V → Hp → VK → Prop
def OpR (X : Cx) (f : Value → Value → Sem Value) (r : R2) : Prop :=
  ∀ (pins : List (Addr × Obj)) (s : Shared) (σ : St) (H : Hp) (x y : V) (v u : Value) (Q : VK), Inv X pins σ H s → RelV x v → RelV y u → r x y H Q →
    wpAny (model X.prog X.w) X.A (f v u) (EP X pins σ Q) X.xe s
def UnR (X : Cx) (f : Value → Sem Value) (r : V → Hp → VK → Prop) : Prop :=
  ∀ (pins : List (Addr × Obj)) (s : Shared) (σ : St) (H : Hp) (x : V) (v : Value) (Q : VK), Inv X pins σ H s → RelV x v → r x H Q →
    wpAny (model X.prog X.w) X.A (f v) (EP X pins σ Q) X.xe s
def CallR (X : Cx) (f : Value) (r : List V → Hp → VK → Prop) : Prop :=
  ∀ (pins : List (Addr × Obj)) (s : Shared) (σ : St) (H : Hp) (xs : List V) (us : List Value) (Q : VK), Inv X pins σ H s → Vals xs us → r xs H Q →
    wpAny (model X.prog X.w) X.A (call f us) (EP X pins σ Q) X.xe s
def TruR (X : Cx) (r : V → Hp → (Bool → Hp → Prop) → Prop) : Prop :=
  ∀ (pins : List (Addr × Obj)) (s : Shared) (σ : St) (H : Hp) (x : V) (v : Value) (Q : Bool → Hp → Prop), Inv X pins σ H s → RelV x v → r x H Q →
    wpAny (model X.prog X.w) X.A (truthy v) (TP X pins σ Q) X.xe s
def tOp (r : R2) (ta tb : TE) : TE := fun σ H Q => ta σ H fun x H1 => tb σ H1 fun y H2 => r x y H2 Q
def tUn (r : V → Hp → VK → Prop) (ta : TE) : TE := fun σ H Q => ta σ H fun x H1 => r x H1 Q
def rI (C : Int → Int → Prop) (g : Int → Int → V) : R2 := fun x y H Q => ∃ i j, x = .int i ∧ y = .int j ∧ C i j ∧ Q (g i j) H
def rI0 (g : Int → Int → V) : R2 := fun x y H Q => ∃ i j, x = .int i ∧ y = .int j ∧ Q (g i j) H
def rU (g : Int → V) : V → Hp → VK → Prop := fun x H Q => ∃ i, x = .int i ∧ Q (g i) H
section
variable {X : Cx} {a b c : Expr} {ta tb tc : TE} {pos : Pos}
theorem binT (ha : PE X a ta) (hb : PE X b tb) {pins : List (Addr × Obj)} {s : Shared} {σ : St} {H : Hp} {R : V → V → Hp → Prop} (I : Inv X pins σ H s)
    (h : ta σ H fun x H1 => tb σ H1 fun y H2 => R x y H2) {Q : Value → Shared → Prop} {f : Value → Value → Sem Value}
    (hf : ∀ v u s2 x y H2, Inv X pins σ H2 s2 → RelV x v → RelV y u → R x y H2 → wpAny (model X.prog X.w) X.A (f v u) Q X.xe s2) :
    wpAny (model X.prog X.w) X.A (eval a X.env) (fun v s₁ => wpAny (model X.prog X.w) X.A (eval b X.env) (fun u s₂ => wpAny (model X.prog X.w) X.A (f v u) Q X.xe s₂) X.xe s₁) X.xe s := by
  refine thn (ha pins s σ H _ I h) fun v s1 ⟨x, H1, I1, r1, q1⟩ => ?_
  refine thn (hb pins s1 σ H1 _ I1 q1) fun u s2 ⟨y, H2, I2, r2, q2⟩ => ?_
  exact hf v u s2 x y H2 I2 r1 r2 q2
theorem pe_op {op : Operator} {r : R2} (ho : OpR X (binaryOp op) r) (ha : PE X a ta) (hb : PE X b tb) : PE X (.BinOp a op b pos) (tOp r ta tb) := by
  intro pins s σ H Q I h
  exact wpAny_BinOp (binT ha hb I h fun v u s2 x y H2 I2 rx ry q => ho pins s2 σ H2 x y v u Q I2 rx ry q)
theorem pe_un {op : UnaryOp} {r : V → Hp → VK → Prop} (ho : UnR X (unaryOp op) r) (ha : PE X a ta) : PE X (.UnaryOp op a pos) (tUn r ta) := by
  intro pins s σ H Q I h
  exact UnaryOp_ (thn (ha pins s σ H _ I h) fun v s1 ⟨x, H1, I1, r1, q1⟩ => ho pins s1 σ H1 x v Q I1 r1 q1)
theorem opI {f : Value → Value → Sem Value} {C : Int → Int → Prop} {g : Int → Int → Int}
    (rule : ∀ (i j : Int) (t u : Tok) (s : Shared) (Q : Value → Shared → Prop) (E : Value → Shared → Prop), C i j → Q (.int (g i j) s.toks) { s with toks := s.toks + 1 } → wpAny (model X.prog X.w) X.A (f (.int i t) (.int j u)) Q E s) :
    OpR X f (rI C fun i j => .int (g i j)) := by
  intro pins s σ H x y v u Q I rx ry h
  obtain ⟨i, j, rfl, rfl, hc, q⟩ := h
  obtain ⟨t, rfl⟩ := rx
  obtain ⟨t', rfl⟩ := ry
  exact rule i j t t' s _ _ hc ⟨.int (g i j), H, I.tok _, ⟨_, rfl⟩, q⟩
theorem opI0 {f : Value → Value → Sem Value} {g : Int → Int → Int}
    (rule : ∀ (i j : Int) (t u : Tok) (s : Shared) (Q : Value → Shared → Prop) (E : Value → Shared → Prop), Q (.int (g i j) s.toks) { s with toks := s.toks + 1 } → wpAny (model X.prog X.w) X.A (f (.int i t) (.int j u)) Q E s) :
    OpR X f (rI0 fun i j => .int (g i j)) := by
  intro pins s σ H x y v u Q I rx ry h
  obtain ⟨i, j, rfl, rfl, q⟩ := h
  obtain ⟨t, rfl⟩ := rx
  obtain ⟨t', rfl⟩ := ry
  exact rule i j t t' s _ _ ⟨.int (g i j), H, I.tok _, ⟨_, rfl⟩, q⟩
theorem opB0 {f : Value → Value → Sem Value} {g : Int → Int → Bool}
    (rule : ∀ (i j : Int) (t u : Tok) (s : Shared) (Q : Value → Shared → Prop) (E : Value → Shared → Prop), Q (.bool (g i j)) s → wpAny (model X.prog X.w) X.A (f (.int i t) (.int j u)) Q E s) :
    OpR X f (rI0 fun i j => .bl (g i j)) := by
  intro pins s σ H x y v u Q I rx ry h
  obtain ⟨i, j, rfl, rfl, q⟩ := h
  obtain ⟨t, rfl⟩ := rx
  obtain ⟨t', rfl⟩ := ry
  exact rule i j t t' s _ _ ⟨.bl (g i j), H, I, rfl, q⟩
def CDiv (i j : Int) : Prop := 0 < j ∧ j < 1073741824
def CDivN (i j : Int) : Prop := j ≠ 0 ∧ j.natAbs < 1073741824
def CPow (i j : Int) : Prop := 0 ≤ j ∧ j ≤ 1000000 ∧ i.natAbs < 2 ^ 64
def CMul (i j : Int) : Prop := (-(2 ^ 64) < i ∧ i < 2 ^ 64) ∨ (-(2 ^ 64) < j ∧ j < 2 ^ 64)
theorem CMul.ok {i j : Int} (h : CMul i j) : IntMulOk i j := by
  rcases h with ⟨h1, h2⟩ | ⟨h1, h2⟩
  · exact .of_left (intBits_le_64 h1 h2)
  · exact .of_right (intBits_le_64 h1 h2)
theorem op_add : OpR X (binaryOp .Add) (rI0 fun i j => .int (i + j)) := opI0 fun _ _ _ _ _ _ _ q => add_int q
theorem op_sub : OpR X (binaryOp .Sub) (rI0 fun i j => .int (i - j)) := opI0 fun _ _ _ _ _ _ _ q => sub_int q
theorem op_mul : OpR X (binaryOp .Mult) (rI CMul fun i j => .int (i * j)) := opI fun _ _ _ _ _ _ _ hc q => mul_int q hc.ok
theorem op_fdiv : OpR X (binaryOp .FloorDiv) (rI CDiv fun i j => .int (i / j)) := opI fun i j _ _ _ _ _ hc q => by
  have h1 : (0 : Int) < j := hc.1
  have h2 : j < 1073741824 := hc.2
  exact floordiv_int (by omega) (by rw [Int.fdiv_eq_ediv_of_nonneg i (by omega)]; exact q) (.inl (PyProof.noPylong_small (by omega)))
theorem op_mod : OpR X (binaryOp .Mod) (rI (fun _ j => 0 < j) fun i j => .int (i % j)) := opI fun i j _ _ _ _ _ hc q => by
  have h1 : (0 : Int) < j := hc
  exact mod_int' (by omega) (by rw [Int.fmod_eq_emod_of_nonneg i (by omega)]; exact q)
theorem unI {f : Value → Sem Value} {g : Int → Int}
    (rule : ∀ (i : Int) (t : Tok) (s : Shared) (Q : Value → Shared → Prop) (E : Value → Shared → Prop), Q (.int (g i) s.toks) { s with toks := s.toks + 1 } → wpAny (model X.prog X.w) X.A (f (.int i t)) Q E s) :
    UnR X f (rU fun i => .int (g i)) := by
  intro pins s σ H x v Q I rx h
  obtain ⟨i, rfl, q⟩ := h
  obtain ⟨t, rfl⟩ := rx
  exact rule i t s _ _ ⟨.int (g i), H, I.tok _, ⟨_, rfl⟩, q⟩
theorem un_neg : UnR X (unaryOp .USub) (rU fun i => .int (-i)) := unI fun _ _ _ _ _ q => neg_int q
end
def scal : V → V → Bool
  | .non, .non => true | .non, .int _ => true | .int _, .non => true | .non, .bl _ => true | .bl _, .non => true | .non, .str _ => true | .str _, .non => true
  | .int _, .int _ => true | .bl _, .bl _ => true | .str _, .str _ => true | .byt _, .byt _ => true
  | .int _, .str _ => true | .str _, .int _ => true | .bl _, .str _ => true | .str _, .bl _ => true
  | _, _ => false
def rEq : R2 := fun x y H Q => scal x y = true ∧ Q (.bl (decide (x = y))) H
def rNe : R2 := fun x y H Q => scal x y = true ∧ Q (.bl (!decide (x = y))) H
theorem dec_int {i j : Int} : decide (V.int i = V.int j) = (i == j) := by
  rw [Bool.eq_iff_iff]
  simp
theorem dec_bl {i j : Bool} : decide (V.bl i = V.bl j) = (i == j) := by
  rw [Bool.eq_iff_iff]
  simp
theorem dec_str {i j : Str} : decide (V.str i = V.str j) = (i == j) := by
  rw [Bool.eq_iff_iff]
  simp
theorem dec_byt {i j : Array UInt8} : decide (V.byt i = V.byt j) = (i.toList == j.toList) := by
  rw [Bool.eq_iff_iff]
  cases i
  cases j
  simp
section
variable {X : Cx} {a b c : Expr} {ta tb tc : TE} {pos : Pos}
theorem fin_bl {pins : List (Addr × Obj)} {σ : St} {H : Hp} {s : Shared} {Q : VK} {k k' : Bool} (I : Inv X pins σ H s) (q : Q (.bl k) H) (e : k = k') : EP X pins σ Q (.bool k') s := by
  subst e
  exact ⟨.bl k, H, I, rfl, q⟩
theorem op_eq : OpR X (compareOp .Eq) rEq := by
  intro pins s σ H x y v u Q I rx ry h
  obtain ⟨hs, q⟩ := h
  cases x with
  | non =>
    cases rx
    cases y with
    | non => cases ry; exact PySem.EqNone.eq_none_none (fin_bl I q (by simp))
    | bl j => cases ry; exact PySem.EqNone.eq_none_bool (fin_bl I q (by simp))
    | int j => obtain ⟨t', rfl⟩ := ry; exact PySem.EqNone.eq_none_int (fin_bl I q (by simp))
    | str j => obtain ⟨t', rfl⟩ := ry; exact PySem.EqNone.eq_none_str (fin_bl I q (by simp))
    | _ => exact absurd (show false = true from hs) Bool.false_ne_true
  | bl i =>
    cases rx
    cases y with
    | non => cases ry; exact PySem.EqNone.eq_bool_none (fin_bl I q (by simp))
    | bl j => cases ry; exact eq_bool (fin_bl I q dec_bl)
    | str j => obtain ⟨t', rfl⟩ := ry; exact PySem.EqMixed.eq_bool_str (fin_bl I q (by simp))
    | _ => exact absurd (show false = true from hs) Bool.false_ne_true
  | int i =>
    obtain ⟨t, rfl⟩ := rx
    cases y with
    | non => cases ry; exact PySem.EqNone.eq_int_none (fin_bl I q (by simp))
    | int j => obtain ⟨t', rfl⟩ := ry; exact eq_int (fin_bl I q dec_int)
    | str j => obtain ⟨t', rfl⟩ := ry; exact PySem.EqMixed.eq_int_str (fin_bl I q (by simp))
    | _ => exact absurd (show false = true from hs) Bool.false_ne_true
  | str i =>
    obtain ⟨t, rfl⟩ := rx
    cases y with
    | non => cases ry; exact PySem.EqNone.eq_str_none (fin_bl I q (by simp))
    | bl j => cases ry; exact PySem.EqMixed.eq_str_bool (fin_bl I q (by simp))
    | int j => obtain ⟨t', rfl⟩ := ry; exact PySem.EqMixed.eq_str_int (fin_bl I q (by simp))
    | str j => obtain ⟨t', rfl⟩ := ry; exact eq_str (fin_bl I q dec_str)
    | _ => exact absurd (show false = true from hs) Bool.false_ne_true
  | byt i =>
    obtain ⟨t, rfl⟩ := rx
    cases y with
    | byt j => obtain ⟨t', rfl⟩ := ry; exact PySem.W.eq_bytes (fin_bl I q dec_byt)
    | _ => exact absurd (show false = true from hs) Bool.false_ne_true
  | _ => cases y <;> exact absurd (show false = true from hs) Bool.false_ne_true
theorem op_ne : OpR X (compareOp .NotEq) rNe := by
  intro pins s σ H x y v u Q I rx ry h
  obtain ⟨hs, q⟩ := h
  cases x with
  | non =>
    cases rx
    cases y with
    | non => cases ry; exact PySem.EqNone.ne_none_none (fin_bl I q (by simp))
    | bl j => cases ry; exact PySem.EqNone.ne_none_bool (fin_bl I q (by simp))
    | int j => obtain ⟨t', rfl⟩ := ry; exact PySem.EqNone.ne_none_int (fin_bl I q (by simp))
    | str j => obtain ⟨t', rfl⟩ := ry; exact PySem.EqNone.ne_none_str (fin_bl I q (by simp))
    | _ => exact absurd (show false = true from hs) Bool.false_ne_true
  | bl i =>
    cases rx
    cases y with
    | non => cases ry; exact PySem.EqNone.ne_bool_none (fin_bl I q (by simp))
    | bl j => cases ry; exact ne_bool (fin_bl I q (congrArg not dec_bl))
    | str j => obtain ⟨t', rfl⟩ := ry; exact PySem.EqMixed.ne_bool_str (fin_bl I q (by simp))
    | _ => exact absurd (show false = true from hs) Bool.false_ne_true
  | int i =>
    obtain ⟨t, rfl⟩ := rx
    cases y with
    | non => cases ry; exact PySem.EqNone.ne_int_none (fin_bl I q (by simp))
    | int j => obtain ⟨t', rfl⟩ := ry; exact ne_int (fin_bl I q (congrArg not dec_int))
    | str j => obtain ⟨t', rfl⟩ := ry; exact PySem.EqMixed.ne_int_str (fin_bl I q (by simp))
    | _ => exact absurd (show false = true from hs) Bool.false_ne_true
  | str i =>
    obtain ⟨t, rfl⟩ := rx
    cases y with
    | non => cases ry; exact PySem.EqNone.ne_str_none (fin_bl I q (by simp))
    | bl j => cases ry; exact PySem.EqMixed.ne_str_bool (fin_bl I q (by simp))
    | int j => obtain ⟨t', rfl⟩ := ry; exact PySem.EqMixed.ne_str_int (fin_bl I q (by simp))
    | str j => obtain ⟨t', rfl⟩ := ry; exact ne_str (fin_bl I q (congrArg not dec_str))
    | _ => exact absurd (show false = true from hs) Bool.false_ne_true
  | byt i =>
    obtain ⟨t, rfl⟩ := rx
    cases y with
    | byt j => obtain ⟨t', rfl⟩ := ry; exact PySem.W.ne_bytes (fin_bl I q (congrArg not dec_byt))
    | _ => exact absurd (show false = true from hs) Bool.false_ne_true
  | _ => cases y <;> exact absurd (show false = true from hs) Bool.false_ne_true
theorem op_lt : OpR X (compareOp .Lt) (rI0 fun i j => .bl (decide (i < j))) := opB0 fun _ _ _ _ _ _ _ q => lt_int q
theorem op_le : OpR X (compareOp .LtE) (rI0 fun i j => .bl (decide (i ≤ j))) := opB0 fun _ _ _ _ _ _ _ q => le_int q
theorem op_lt_str : OpR X (compareOp .Lt) (fun x y H Q => ∃ i j, x = .str i ∧ y = .str j ∧ Q (.bl (decide (i.cps.toList < j.cps.toList))) H) := by
  intro pins s σ H x y v u Q I rx ry h
  obtain ⟨i, j, rfl, rfl, q⟩ := h
  obtain ⟨t, rfl⟩ := rx
  obtain ⟨t', rfl⟩ := ry
  exact lt_str (fin_bl I q rfl)
theorem op_in_str : OpR X (compareOp .In) (fun x y H Q => ∃ i j, x = .str i ∧ y = .str j ∧ Q (.bl (!(Builtin.Str.occurrences j i 0 j.length 1).isEmpty)) H) := by
  intro pins s σ H x y v u Q I rx ry h
  obtain ⟨i, j, rfl, rfl, q⟩ := h
  obtain ⟨t, rfl⟩ := rx
  obtain ⟨t', rfl⟩ := ry
  exact in_str (fin_bl I q rfl)
theorem op_isN : OpR X (compareOp .Is) (fun x y H Q => y = .non ∧ Q (.bl (decide (x = .non))) H) := by
  intro pins s σ H x y v u Q I rx ry h
  obtain ⟨rfl, q⟩ := h
  cases ry
  refine is_none_gen (fin_bl I q ?_)
  cases x <;> first
    | (cases rx; rfl)
    | (obtain ⟨t, rfl⟩ := rx; rfl)
def isObj : HO → Bool
  | .lst _ => true
  | .ins _ _ _ => true
  | _ => false
theorem nomark (b : Expr) {op : CmpOp} (h : op ≠ .In := by decide) (h2 : op ≠ .NotIn := by decide) : behindInMarks op b = false := by
  have e1 : (op == CmpOp.In) = false := by cases op <;> first | rfl | exact absurd rfl h
  have e2 : (op == CmpOp.NotIn) = false := by cases op <;> first | rfl | exact absurd rfl h2
  cases b <;> simp [behindInMarks, e1, e2]
theorem pe_cmpR {op : CmpOp} {r : R2} (ho : OpR X (compareOp op) r) (ha : PE X a ta) (hb : PE X b tb) (hm : behindInMarks op b = false) : PE X (.Compare a [op] [b] pos) (tOp r ta tb) := by
  intro pins s σ H Q I h
  exact wpAny_Compare1 (binT ha hb I h fun v u s2 x y H2 I2 rx ry q => ho pins s2 σ H2 x y v u Q I2 rx ry q) hm
def tTest (t : TE) : TT := fun σ H Q => t σ H fun x H' => ∃ k, x = .bl k ∧ Q k H'
theorem pt_cmpR {op : CmpOp} {r : R2} (ho : OpR X (compareOp op) r) (ha : PE X a ta) (hb : PE X b tb) (hm : behindInMarks op b = false) : PT X (.Compare a [op] [b] pos) (tTest (tOp r ta tb)) := by
  intro pins s σ H Q I h
  refine wpAny_isTrue_Compare1 (thn (ha pins s σ H _ I h) fun v s1 ⟨x, H1, I1, r1, q1⟩ => thn (hb pins s1 σ H1 _ I1 q1) fun u s2 ⟨y, H2, I2, r2, q2⟩ =>
    thn (ho pins s2 σ H2 x y v u _ I2 r1 r2 q2) fun c s3 ⟨z, H3, I3, r3, k, e, q3⟩ => ?_) hm
  subst e
  cases r3
  exact wpAny_truthy_bool ⟨H3, I3, q3⟩
def tChain (r r' : R2) (ta tb tc : TE) : TE := fun σ H Q => ta σ H fun x H1 => tb σ H1 fun y H2 => r x y H2 fun z H3 => ∃ k, z = .bl k ∧
  (if k = true then tc σ H3 fun w' H4 => r' y w' H4 Q else Q (.bl false) H3)
theorem pt_chain {op op' : CmpOp} {r r' : R2} (ho : OpR X (compareOp op) r) (ho' : OpR X (compareOp op') r') (ha : PE X a ta) (hb : PE X b tb) (hc : PE X c tc)
    (hm : lastMarks [op, op'] [b, c] = false := by with_unfolding_all rfl) : PT X (.Compare a [op, op'] [b, c] pos) (tTest (tChain r r' ta tb tc)) := by
  intro pins s σ H Q I h
  refine isTrue_chain (thn (ha pins s σ H _ I h) fun v s1 ⟨x, H1, I1, r1, q1⟩ => test_link (thn (hb pins s1 σ H1 _ I1 q1) fun u s2 ⟨y, H2, I2, r2, q2⟩ =>
    thn (ho pins s2 σ H2 x y v u _ I2 r1 r2 q2) fun d s3 ⟨z, H3, I3, r3, k, e, q3⟩ => ?_)) hm
  subst e
  cases r3
  refine wpAny_truthy_bool ?_
  cases k with
  | false =>
    obtain ⟨k', e', q'⟩ := q3
    cases e'
    exact ite_ff ⟨H3, I3, q'⟩
  | true =>
    refine ite_tt (test_last (thn (hc pins s3 σ H3 _ I3 q3) fun w' s4 ⟨z', H4, I4, r4, q4⟩ => thn (ho' pins s4 σ H4 y z' u w' _ I4 r2 r4 q4) fun d' s5 ⟨z2, H5, I5, r5, k2, e2, q5⟩ => ?_))
    subst e2
    cases r5
    exact wpAny_truthy_bool ⟨H5, I5, q5⟩
def TruV (K : PySem.W.Frag) (x : V) (H : Hp) (k : Bool) : Prop :=
  match x with
  | .non => k = false
  | .bl b => k = b
  | .int i => k = (i != 0)
  | .str y => y.length ≤ sizeLine ∧ k = ((y.length : Int) != 0)
  | .byt y => y.size ≤ sizeLine ∧ k = ((y.size : Int) != 0)
  | .ref p => (∃ xs, SqL K H p xs ∧ k = !xs.isEmpty) ∨ (∃ xs, SqT K H p xs ∧ k = !xs.isEmpty) ∨ ∃ kvs, H p = some (.dK kvs) ∧ k = !kvs.isEmpty
  | _ => False
theorem isEmpty_kv {κ : Type} {kvs : List (κ × V)} {vs : List (κ × Value)} (r : KV kvs vs) : (!vs.isEmpty) = !kvs.isEmpty := by
  cases r <;> rfl
theorem isEmpty_of {xs : List V} {its : List Value} (r : Vals xs its) : (!its.toArray.isEmpty) = !xs.isEmpty := by
  cases r <;> simp
theorem line63 : (sizeLine : Nat) < 2 ^ 63 := by rw [sizeLine_eq]; decide
theorem tru_ok : TruR X (fun x H Q => ∃ k, TruV X.K x H k ∧ Q k H) := by
  intro pins s σ H x v Q I rx h
  obtain ⟨k, e, q⟩ := h
  have hl := line63
  have hs : sizeLine = 16777216 := sizeLine_eq
  cases x with
  | non =>
    cases rx
    have e' : k = false := e
    subst e'
    exact truthy_none ⟨H, I, q⟩
  | bl b =>
    cases rx
    have e' : k = b := e
    subst e'
    exact wpAny_truthy_bool ⟨H, I, q⟩
  | int i =>
    obtain ⟨t, rfl⟩ := rx
    have e' : k = (i != 0) := e
    subst e'
    exact PySem.P.truthy_int ⟨H, I, q⟩
  | str y =>
    obtain ⟨t, rfl⟩ := rx
    obtain ⟨hy, e'⟩ : y.length ≤ sizeLine ∧ k = ((y.length : Int) != 0) := e
    subst e'
    exact PySem.P.truthy_str (by omega) ⟨H, I.tok _, q⟩
  | byt y =>
    obtain ⟨t, rfl⟩ := rx
    obtain ⟨hy, e'⟩ : y.size ≤ sizeLine ∧ k = ((y.size : Int) != 0) := e
    subst e'
    exact PySem.W.truthy_bytes (by omega) ⟨H, I.tok _, q⟩
  | ref p =>
    cases rx
    have e' : (∃ xs, SqL X.K H p xs ∧ k = !xs.isEmpty) ∨ (∃ xs, SqT X.K H p xs ∧ k = !xs.isEmpty) ∨ ∃ kvs, H p = some (.dK kvs) ∧ k = !kvs.isEmpty := e
    rcases e' with ⟨xs, hx, e'⟩ | ⟨xs, hx, e'⟩ | ⟨kvs, hx, e'⟩
    · subst e'
      obtain ⟨its, r, pl, hz⟩ := I.list hx
      have hlen := r.length
      exact wpAny_truthy_list pl.isList (by simp only [List.size_toArray]; omega) ⟨H, I.tok _, by rw [isEmpty_of r]; exact q⟩
    · subst e'
      obtain ⟨its, r, pl, hz⟩ := I.tuple hx
      have hlen := r.length
      exact truthy_tuple pl (by simp only [List.size_toArray]; omega) ⟨H, I.tok _, by rw [isEmpty_of r]; exact q⟩
    · subst e'
      obtain ⟨hz, hS, vs, r, m⟩ : kvs.length ≤ sizeLine ∧ (p == sysModules) = false ∧ ∃ vs, KV kvs vs ∧ s.heap.DictOf (mixKind X.prog X.w) p vs := I.hok p _ hx
      have hlen : kvs.length = vs.length := Paired.length r
      exact wpAny_truthy_dict hS m (by omega) ⟨H, I.tok _, by rw [isEmpty_kv r]; exact q⟩
  | _ => exact (show False from e).elim
theorem op_add_str : OpR X (binaryOp .Add) (fun x y H Q => ∃ i j, x = .str i ∧ y = .str j ∧ i.length + j.length ≤ sizeLine ∧ Q (.str (i ++ j)) H) := by
  intro pins s σ H x y v u Q I rx ry h
  obtain ⟨i, j, rfl, rfl, hz, q⟩ := h
  obtain ⟨t, rfl⟩ := rx
  obtain ⟨t', rfl⟩ := ry
  exact add_str (fun t' tk => ⟨.str (i ++ j), H, I.tok _, ⟨_, rfl⟩, q⟩) hz
def PlainIxT (b : Expr) : Prop := ∀ o i, subscripted b false o i = operate [o, i] (getItem o i)
theorem vals1 {x : V} {us : List Value} (r : Vals [x] us) : ∃ u, us = [u] ∧ RelV x u := by
  cases r with
  | cons r1 r2 => cases r2; exact ⟨_, rfl, r1⟩
theorem vals2 {x y : V} {us : List Value} (r : Vals [x, y] us) : ∃ u w', us = [u, w'] ∧ RelV x u ∧ RelV y w' := by
  cases r with
  | cons r1 r2 =>
    cases r2 with
    | cons r3 r4 => cases r4; exact ⟨_, _, rfl, r1, r3⟩
theorem call_int1 : CallR X (.type "int") (fun xs H Q => (∃ i, xs = [.int i] ∧ Q (.int i) H) ∨ ∃ k, xs = [.bl k] ∧ Q (.int (if k then 1 else 0)) H) := by
  intro pins s σ H xs us Q I r h
  rcases h with ⟨i, rfl, q⟩ | ⟨k, rfl, q⟩
  · obtain ⟨u, rfl, t, rfl⟩ := vals1 r
    exact call_int_int ⟨.int i, H, I, ⟨_, rfl⟩, q⟩
  · obtain ⟨u, rfl, r1⟩ := vals1 r
    cases r1
    exact call_int_bool ⟨.int (if k then 1 else 0), H, I.tok _, ⟨_, rfl⟩, q⟩
def LenV (K : PySem.W.Frag) (x : V) (H : Hp) (n : Nat) : Prop :=
  match x with
  | .str y => y.length ≤ sizeLine ∧ n = y.length
  | .byt y => y.size ≤ sizeLine ∧ n = y.size
  | .ref p => (∃ xs, SqL K H p xs ∧ n = xs.length) ∨ ∃ xs, SqT K H p xs ∧ n = xs.length
  | _ => False
theorem call_len : CallR X (.builtin "len") (fun xs H Q => ∃ x n, xs = [x] ∧ LenV X.K x H n ∧ Q (.int n) H) := by
  intro pins s σ H xs us Q I r h
  obtain ⟨x, n, rfl, e, q⟩ := h
  obtain ⟨u, rfl, rx⟩ := vals1 r
  have hl := line63
  have hs : sizeLine = 16777216 := sizeLine_eq
  cases x with
  | str y =>
    obtain ⟨t, rfl⟩ := rx
    obtain ⟨hy, e'⟩ : y.length ≤ sizeLine ∧ n = y.length := e
    subst e'
    exact len_str (by omega) ⟨.int _, H, I.tok _, ⟨_, rfl⟩, q⟩
  | byt y =>
    obtain ⟨t, rfl⟩ := rx
    obtain ⟨hy, e'⟩ : y.size ≤ sizeLine ∧ n = y.size := e
    subst e'
    exact PySem.W.len_bytes (by omega) ⟨.int _, H, I.tok _, ⟨_, rfl⟩, q⟩
  | ref p =>
    cases rx
    have e' : (∃ xs, SqL X.K H p xs ∧ n = xs.length) ∨ ∃ xs, SqT X.K H p xs ∧ n = xs.length := e
    rcases e' with ⟨xs, hx, e'⟩ | ⟨xs, hx, e'⟩
    · subst e'
      obtain ⟨its, r', pl, hz⟩ := I.list hx
      have hlen := r'.length
      exact Calls.call_len_list pl.isList (by simp only [List.size_toArray]; omega) ⟨.int xs.length, H, I.tok _, ⟨_, by simp only [List.size_toArray]; rw [hlen]⟩, q⟩
    · subst e'
      obtain ⟨its, r', pl, hz⟩ := I.tuple hx
      have hlen := r'.length
      exact len_tuple pl (by simp only [List.size_toArray]; omega) ⟨.int xs.length, H, I.tok _, ⟨_, by simp only [List.size_toArray]; rw [hlen]⟩, q⟩
  | _ => exact (show False from e).elim
end
end L2
namespace L2
open PySem PySem.Spec PyProof.Rows
structure ObjM (h : Heap) (x dx C : Addr) (mA : Str → Option Value) : Prop where
  obj : h.get? x = some (PySem.W.instObj C dx)
  ns : h.Ns1 dx mA
  ne : dx ≠ x
section
variable {prog : Program} {w : World} {A : Around} {E : Value → Shared → Prop} {s : Shared} {K : PySem.W.Frag} {x dx C f : Addr} {mA : Str → Option Value} {name : Str} {v : Value}
end
def putF (f : Str) (v : V) : List (Str × V) → List (Str × V)
  | [] => [(f, v)]
  | (g, x) :: r => if g = f then (g, v) :: r else (g, x) :: putF f v r
theorem RelO.some_of {v : V} {o : Option Value} (r : RelO (some v) o) : ∃ u, o = some u ∧ RelV v u := by
  cases o with
  | none => exact (show False from r).elim
  | some u => exact ⟨u, rfl, r⟩
theorem RelO.none_of {o : Option Value} (r : RelO none o) : o = none := by
  cases o with
  | none => rfl
  | some u => exact (show False from r).elim
section
variable {P : Program} {w : World} {H H' : Hp} {h h' : Heap} {a C dx : Addr} {fs fs' : List (Str × V)}
end
structure Cls (K : PySem.W.Frag) (C : Addr) : Prop where
  pg : PySem.W.plainGet K C Str.empty = true
  hd : PySem.W.hasDictIn K C = true
  po : PySem.W.plainOver K C = true
  sa : PySem.W.findIn K (.ref C) "__setattr__" = some (some (.builtin "object.__setattr__"))
theorem Cls.get {K : PySem.W.Frag} {C : Addr} (c : Cls K C) (f : Str) : PySem.W.plainGet K C f = true := c.pg
def NoAttr (K : PySem.W.Frag) (C : Addr) (f : Str) : Prop := PySem.W.findIn K (.ref C) f = some none
structure Con (K : PySem.W.Frag) (C : Addr) (f : Str) (v : V) (u : Value) : Prop where
  at_ : PySem.W.findIn K (.ref C) f = some (some u)
  rel : RelV v u
  get : PySem.W.specialIn K u "__get__" = some none
  cp : PySem.W.copiedNames.contains f = false
structure Meth (K : PySem.W.Frag) (C : Addr) (m : Str) (f : Addr) : Prop where
  at_ : PySem.W.findIn K (.ref C) m = some (some (.ref f))
  fn : PySem.W.isFn K (.ref f) = true
  kp : PySem.W.keepIn K (.ref f) = true
section
variable {X : Cx} {pins : List (Addr × Obj)} {σ : St} {H : Hp} {s : Shared} {a C dx : Addr} {fs : List (Str × V)} {f : Str} {v : V} {A : Around} {E : Value → Shared → Prop}
theorem Inv.made (I : Inv X pins σ H s) : Inv X pins σ (upd (upd H s.heap.objs.size (.own (s.heap.objs.size + 1))) (s.heap.objs.size + 1) (.ins C s.heap.objs.size []))
    { s with heap := (s.heap.push PySem.W.emptyDict).push (PySem.W.instObj C s.heap.objs.size) } := by
  have e1 : (s.heap.push PySem.W.emptyDict).get? s.heap.objs.size = some PySem.W.emptyDict := Heap.get?_push_size s.heap rfl
  have e2 : ((s.heap.push PySem.W.emptyDict).push (PySem.W.instObj C s.heap.objs.size)).get? (s.heap.objs.size + 1) = some (PySem.W.instObj C s.heap.objs.size) := by
    have := Heap.get?_push_size (s.heap.push PySem.W.emptyDict) (o := PySem.W.instObj C s.heap.objs.size) rfl
    rwa [Heap.size_push] at this
  have e3 : (s.heap.push PySem.W.emptyDict).Ns s.heap.objs.size (fun _ => none) := ⟨PySem.W.emptyDict, #[], _, e1, rfl, (fun e he => absurd he (by simp)), fun _ => rfl⟩
  have I1 := I.laid (a := s.heap.objs.size) (o := .own (s.heap.objs.size + 1)) (h' := s.heap.push PySem.W.emptyDict) (t' := s.toks) (fun b u q => Heap.get?_push_of_some _ q) (Nat.le_refl _) ⟨_, e1⟩
  refine I1.laid (a := s.heap.objs.size + 1) (o := .ins C s.heap.objs.size []) (t' := s.toks) (fun b u q => Heap.get?_push_of_some _ q) (Nat.le_of_eq (Heap.size_push _ _)) ?_
  have ne : s.heap.objs.size ≠ s.heap.objs.size + 1 := Nat.ne_of_lt (Nat.lt_succ_self _)
  refine ⟨by rw [upd_ne ne, upd_same], Nat.zero_le _, ne, e2, fun _ => none, (Heap.Ns1.of_empty e3).at fun o q => Heap.get?_push_of_some _ q, fun _ => True.intro, fun y hy => absurd rfl hy⟩
end
def tFld (K : PySem.W.Frag) (ta : TE) (f : Str) : TE := fun σ H Q => ta σ H fun x H1 => ∃ a C dx fs v, x = .ref a ∧ H1 a = some (.ins C dx fs) ∧ Cls K C ∧ NoAttr K C f ∧ fs.lookup f = some v ∧ Q v H1
def tCon (K : PySem.W.Frag) (ta : TE) (f : Str) : TE := fun σ H Q => ta σ H fun x H1 => ∃ a C dx fs v u, x = .ref a ∧ H1 a = some (.ins C dx fs) ∧ Cls K C ∧ Con K C f v u ∧ fs.lookup f = none ∧ Q v H1
def sFld (K : PySem.W.Frag) (ta tv : TE) (f : Str) : TS := fun D σ H => tv σ H fun y H1 => ta σ H1 fun x H2 => ∃ a C dx fs, x = .ref a ∧ H2 a = some (.ins C dx fs) ∧ Cls K C ∧ NoAttr K C f ∧ fs.length < 1000 ∧
  D.nx σ (upd H2 a (.ins C dx (putF f y fs)))
def InOp (X : Cx) (op : Operator) (rd : V → V → Hp → VK → Prop) : Prop :=
  ∀ (pins : List (Addr × Obj)) (s : Shared) (σ : St) (H : Hp) (x y : V) (u v : Value) (Q : VK), Inv X pins σ H s → RelV x u → RelV y v → rd x y H Q → wpAny (model X.prog X.w) X.A (inplaceOp op u v) (EP X pins σ Q) X.xe s
def sFldAug (K : PySem.W.Frag) (ta tv : TE) (rd : V → V → Hp → VK → Prop) (f : Str) : TS := fun D σ H => ta σ H fun x H1 => ∃ a C dx fs v, x = .ref a ∧ H1 a = some (.ins C dx fs) ∧ Cls K C ∧ NoAttr K C f ∧ fs.lookup f = some v ∧
  tv σ H1 fun y H2 => rd v y H2 fun z H3 => ∃ dx' fs', H3 a = some (.ins C dx' fs') ∧ fs'.length < 1000 ∧ D.nx σ (upd H3 a (.ins C dx' (putF f z fs')))
section
variable {X : Cx} {o e value : Expr} {f : Str} {pos pos' tpos : Pos} {ta tv : TE}
def rAdd : V → V → Hp → VK → Prop := fun x y H Q => ∃ i j, x = .int i ∧ y = .int j ∧ Q (.int (i + j)) H
def rSub : V → V → Hp → VK → Prop := fun x y H Q => ∃ i j, x = .int i ∧ y = .int j ∧ Q (.int (i - j)) H
end
section
variable {X : Cx} {pins : List (Addr × Obj)} {σ : St} {H : Hp} {s : Shared} {A : Around} {E : Value → Shared → Prop} {Q : Value → Shared → Prop} {c : Value} {b : Bool}
inductive TyOf (K : PySem.W.Frag) (H : Hp) : V → Value → Prop where
  | non : TyOf K H .non (.type "NoneType")
  | bl (x : Bool) : TyOf K H (.bl x) (.type "bool")
  | int (i : Int) : TyOf K H (.int i) (.type "int")
  | str (x : Str) : TyOf K H (.str x) (.type "str")
  | flt (x : UInt64) : TyOf K H (.flt x) (.type "float")
  | lst {a : Addr} {xs : List V} (e : H a = some (.lst xs)) : TyOf K H (.ref a) (.type "list")
  | frz {a : Addr} {o : Obj} {xs : List V} (e : H a = some (.frz o (.lst xs))) : TyOf K H (.ref a) (.type "list")
  | tup {a : Addr} {xs : List V} (e : H a = some (.tup xs)) : TyOf K H (.ref a) (.type "tuple")
  | dK {a : Addr} {kvs : List (Key × V)} (e : H a = some (.dK kvs)) : TyOf K H (.ref a) (.type "dict")
  | dT {a : Addr} {kvs : List (List Key × V)} (e : H a = some (.dT kvs)) : TyOf K H (.ref a) (.type "dict")
  | ins {a C dx : Addr} {fs : List (Str × V)} (e : H a = some (.ins C dx fs)) (cl : Cls K C) (ha : PySem.W.findIn K (.ref C) "__class__" = some (some (.builtin "object.__class__")))
      (hn : PySem.W.specialIn K (.builtin "object.__class__") "__get__" = some (some (.builtin "getset_descriptor.__get__"))) (htk : PySem.W.takesIn K (.builtin "object.__class__") = some true)
      (hm : PySem.W.mroIn K C (.type "object") = some true) : TyOf K H (.ref a) (.ref C)
end
end L2
namespace L2
open PySem PySem.Spec PyProof.Rows
structure Room (k : Nat) (A : Around) : Prop where
  hd : A.handled = none
  dp : A.depth + 3 * k + 5 < recursionLimit
  un : A.units + 16 * k + 200 < cLine
theorem Room.mono {j k : Nat} {A : Around} (r : Room k A) (h : j ≤ k) : Room j A := ⟨r.hd, by have := r.dp; omega, by have := r.un; omega⟩
theorem Room.deeper {k : Nat} {A : Around} (r : Room (k + 1) A) (env : Env) : Room k (A.deeper env) :=
  ⟨r.hd, by have := r.dp; show A.depth + 1 + 3 * k + 5 < _; omega, by have := r.un; show A.units + 3 + 16 * k + 200 < _; omega⟩
theorem Room.in1 {k : Nat} {A : Around} (r : Room (k + 1) A) : Room k A.in1 :=
  ⟨r.hd, by have := r.dp; show A.depth + 3 * k + 5 < _; omega, by have := r.un; show A.units + 1 + 16 * k + 200 < _; omega⟩
theorem Room.depth {k : Nat} {A : Around} (r : Room k A) : A.depth < recursionLimit := by have := r.dp; omega
theorem Room.units {k : Nat} {A : Around} (r : Room k A) : A.units + 64 < cLine := by have := r.un; omega
def tNil : TA := fun _ H Q => Q [] H
def tCons (ta : TE) (tr : TA) : TA := fun σ H Q => ta σ H fun x H1 => tr σ H1 fun xs H2 => Q (x :: xs) H2
section
variable {X : Cx} {e : Expr} {es : List Expr} {te : TE} {t : TA} {pos : Pos}
theorem pa_nil : PA X [] tNil := fun _ _ _ _ H Q I h => Calls.spliced_nil ⟨[], H, I, .nil, h⟩
theorem pa_cons (ha : PE X e te) (hr : PA X es t) (hs : starEach (e :: es) X.env = (false, eval e X.env) :: starEach es X.env := by rfl) : PA X (e :: es) (tCons te t) := by
  intro pos pins s σ H Q I h
  rw [hs]
  show wpAny _ _ (spliced ((false, eval e X.env) :: backTo pos (starEach es X.env))) _ _ s
  refine Calls.spliced_cons (thn (ha pins s σ H _ I h) fun u s1 ⟨x, H1, I1, r1, q1⟩ => ?_)
  exact thn (hr pos pins s1 σ H1 _ I1 q1) fun us s2 ⟨xs, H2, I2, r2, q2⟩ => ⟨x :: xs, H2, I2, .cons r1 r2, q2⟩
def tTup (t : TA) : TE := fun σ H Q => t σ H fun xs H1 => xs.length ≤ sizeLine ∧ ∀ p, H1 p = none → Q (.ref p) (upd H1 p (.tup xs))
def tLst (t : TA) : TE := fun σ H Q => t σ H fun xs H1 => xs.length ≤ sizeLine ∧ ∀ p, H1 p = none → Q (.ref p) (upd H1 p (.lst xs))
theorem pe_tup {x1} (h : PA X es t) : PE X (.Tuple es x1 pos) (tTup t) := by
  intro pins s σ H Q I hq
  refine wpAny_Tuple_spliced (thn (h pos pins s σ H _ I hq) fun us s1 ⟨xs, H1, I1, r, z, q⟩ => ⟨by rw [← r.length]; exact z, ?_⟩)
  have hf : H1 s1.heap.objs.size = none := I1.hok.fresh (Nat.le_refl _)
  refine ⟨.ref s1.heap.objs.size, upd H1 s1.heap.objs.size (.tup xs), I1.laid (t' := s1.toks) (fun b u e => Heap.get?_push_of_some _ e) (Nat.le_refl _) ?_, rfl, q _ hf⟩
  exact ⟨z, us, r, ⟨_, Heap.get?_push_size _ rfl, rfl, ⟨_, rfl⟩, fun _ => rfl⟩⟩
theorem pe_lst (h : PA X es t) : PE X (.List es pos) (tLst t) := by
  intro pins s σ H Q I hq
  refine wpAny_List_spliced (thn (h pos pins s σ H _ I hq) fun us s1 ⟨xs, H1, I1, r, z, q⟩ => ⟨by rw [← r.length]; exact z, ?_⟩)
  have hf : H1 s1.heap.objs.size = none := I1.hok.fresh (Nat.le_refl _)
  refine ⟨.ref s1.heap.objs.size, upd H1 s1.heap.objs.size (.lst xs), I1.laid (t' := s1.toks) (fun b u e => Heap.get?_push_of_some _ e) (Nat.le_refl _) ?_, rfl, q _ hf⟩
  exact ⟨z, us, 0, r, Heap.get?_push_size _ rfl⟩
end
abbrev Sp := List V → Hp → VK → XK → Prop
abbrev CXT := List Env → Hp → Shared → XK → Value → Shared → Prop
structure Env0 (P : Program) (w : World) (K : PySem.W.Frag) (mg : Str → Option Value) (base : Heap) (A : Around) (outer : List Env) (s : Shared) (H : Hp) : Prop where
  frames : A.frames = some outer
  mod : Mod K mg base
  bs : ∀ b o, base.get? b = some o → s.heap.get? b = some o ∧ H b = none
  bsz : base.objs.size ≤ s.heap.objs.size
  funs : s.heap.FunFrames base outer
  frf : ∀ b ∈ frs outer, H b = none
  hok : HOk P w H s.heap
  bare : AllBare s.gens
def CE (outer : List Env) (P : Program) (w : World) (H : Hp) (s : Shared) (Q : VK) (u : Value) (s' : Shared) : Prop :=
  ∃ v H', s'.os = s.os ∧ AllBare s'.gens ∧ Un (frs outer) [] H H' s.heap s'.heap ∧ HOk P w H' s'.heap ∧ RelV v u ∧ Q v H'
def CR (CX : CXT) (outer : List Env) (P : Program) (w : World) (H : Hp) (s : Shared) (Q : VK) (E : XK) (r : Result) (s' : Shared) : Prop :=
  match r with
  | .ok (.ret u) => CE outer P w H s Q u s'
  | .ok _ => False
  | .error e => CX outer H s E e s'
structure FnOk (P : Program) (w : World) (K : PySem.W.Frag) (mg : Str → Option Value) (base : Heap) (CX : CXT) (k : Nat) (f : Addr) (fd : FuncData) (ps : List Str) (sp : Sp) : Prop where
  len : ∀ vs H Q E, sp vs H Q E → vs.length = ps.length
  run : ∀ (A : Around) (outer : List Env) (s : Shared) (H : Hp) (args : Args) (us : List Value) (vs : List V) (Q : VK) (E : XK), Room k A → Env0 P w K mg base A outer s H → BindsTo s fd args (ps.zip us) → Vals vs us → sp vs H Q E →
    codeAny (model P w) A (.call (.ref f) args) (CR CX outer P w H s Q E) s
theorem FnOk.mono {P : Program} {w : World} {K : PySem.W.Frag} {mg : Str → Option Value} {base : Heap} {CX : CXT} {j k : Nat} {f : Addr} {fd : FuncData} {ps : List Str} {sp : Sp} (F : FnOk P w K mg base CX j f fd ps sp) (h : j ≤ k) :
    FnOk P w K mg base CX k f fd ps sp := ⟨F.len, fun A outer s H args us vs Q E hr => F.run A outer s H args us vs Q E (hr.mono h)⟩
theorem FnOk.imp {P : Program} {w : World} {K : PySem.W.Frag} {mg : Str → Option Value} {base : Heap} {CX : CXT} {k : Nat} {f : Addr} {fd : FuncData} {ps : List Str} {sp sp' : Sp} (F : FnOk P w K mg base CX k f fd ps sp)
    (h : ∀ vs H Q E, sp' vs H Q E → sp vs H Q E) : FnOk P w K mg base CX k f fd ps sp' :=
  ⟨fun vs H Q E q => F.len vs H Q E (h _ _ _ _ q), fun A outer s H args us vs Q E hr he hb hv hs => F.run A outer s H args us vs Q E hr he hb hv (h _ _ _ _ hs)⟩
theorem Env0.in1 {P : Program} {w : World} {K : PySem.W.Frag} {mg : Str → Option Value} {base : Heap} {A : Around} {outer : List Env} {s : Shared} {H : Hp} (e : Env0 P w K mg base A outer s H) :
    Env0 P w K mg base A.in1 outer s H := ⟨e.frames, e.mod, e.bs, e.bsz, e.funs, e.frf, e.hok, e.bare⟩
section
variable {X : Cx} {pins : List (Addr × Obj)} {σ : St} {H : Hp} {s s' : Shared}
theorem Inv.env0 (I : Inv X pins σ H s) : Env0 X.prog X.w X.K X.mg X.base X.A X.stack s H :=
  ⟨I.ok.frames, I.ok.mod, I.bs, Nat.le_trans I.ok.bsz I.sz, I.stack, I.stkFree, I.hok, I.bare⟩
theorem Inv.after {Q : VK} {u : Value} (I : Inv X pins σ H s) (h : CE X.stack X.prog X.w H s Q u s') : EP X pins σ Q u s' := by
  obtain ⟨v, H', os, bare, un, hok, r, q⟩ := h
  obtain ⟨hh, g, d, t, os'⟩ := s'
  obtain rfl : os' = s.os := os
  exact ⟨v, H', I.call (h' := hh) (g' := g) (d' := d) (t' := t) (ch := []) un hok bare (fun b z => absurd z (by simp)), r, q⟩
end
def tCall (sp : Sp) (dvs : List V) (E : XK) (t : TA) : TE := fun σ H Q => t σ H fun vs H1 => sp (vs ++ dvs) H1 Q E
def tMeth (C : Addr) (m : Str) (sp : Sp) (dvs : List V) (E : XK) (ta : TE) (t : TA) : TE := fun σ H Q => ta σ H fun x H1 => ∃ a dx fs, x = .ref a ∧ H1 a = some (.ins C dx fs) ∧ fs.lookup m = none ∧
  t σ H1 fun vs H2 => sp (x :: (vs ++ dvs)) H2 Q E
def tMake (C : Addr) (sp : Sp) (dvs : List V) (E : XK) (t : TA) : TE := fun σ H Q => t σ H fun vs H1 => ∀ x dx, H1 x = none → H1 dx = none → dx ≠ x →
  sp (.ref x :: (vs ++ dvs)) (upd (upd H1 dx (.own x)) x (.ins C dx [])) (fun v H2 => v = .non ∧ Q (.ref x) H2) E
def Binds (K : PySem.W.Frag) (fd : FuncData) (ps : List Str) (ds : List Value) : Prop :=
  ∀ (s : Shared) (us : List Value), K.In s.heap → (us ++ ds).length = ps.length → BindsTo s fd ⟨us, []⟩ (ps.zip (us ++ ds))
theorem Binds.all {K : PySem.W.Frag} {fd : FuncData} {ps : List Str} (h : ∀ us : List Value, us.length = ps.length → bindArgs fd ⟨us, []⟩ = pure (ps.zip us)) : Binds K fd ps [] := fun s us _ hl => by
  rw [List.append_nil] at hl ⊢
  exact .of_eq (h us hl)
def Passes (CX : CXT) (X : Cx) (E : XK) : Prop := ∀ (pins : List (Addr × Obj)) (σ : St) (H : Hp) (s : Shared) (e : Value) (s' : Shared), Inv X pins σ H s → CX X.stack H s E e s' → X.xe e s'
section
variable {X : Cx} {CX : CXT} {k : Nat} {f C : Addr} {fd : FuncData} {ps : List Str} {sp : Sp} {dvs : List V} {ds : List Value} {E : XK} {x m : Str} {p pos apos : Pos} {e o : Expr} {es : List Expr} {ta : TE} {t : TA}
theorem run_fn {pins : List (Addr × Obj)} {σ : St} {H : Hp} {s : Shared} {Q : VK} {us : List Value} {vs : List V} (F : FnOk X.prog X.w X.K X.mg X.base CX k f fd ps sp) (hr : Room k X.A) (hb : Binds X.K fd ps ds) (hd : Vals dvs ds) (hx : Passes CX X E)
    (I : Inv X pins σ H s) (r : Vals vs us) (h : sp (vs ++ dvs) H Q E) : wpAny (model X.prog X.w) X.A (call (.ref f) us) (EP X pins σ Q) X.xe s := by
  have r2 : Vals (vs ++ dvs) (us ++ ds) := r.append hd
  have hl : (us ++ ds).length = ps.length := by rw [← r2.length]; exact F.len _ _ _ _ h
  refine wpAny_call (codeAny_mono (F.run X.A X.stack s H ⟨us, []⟩ (us ++ ds) (vs ++ dvs) Q E hr I.env0 (hb s us I.kIn hl) r2 h) fun r s' hq => ?_)
  cases r with
  | error e => exact hx pins σ H s e s' I hq
  | ok fl =>
    cases fl with
    | ret u => exact I.after hq
    | next => exact False.elim hq
    | brk => exact False.elim hq
    | cont => exact False.elim hq
theorem pe_call (F : FnOk X.prog X.w X.K X.mg X.base CX k f fd ps sp) (hr : Room k X.A) (hg : Gl X x) (hm : X.mg x = some (.ref f)) (hk : PySem.W.keepIn X.K (.ref f) = true) (hb : Binds X.K fd ps ds) (hd : Vals dvs ds) (hx : Passes CX X E)
    (ha : PA X (e :: es) t) (hdb : (x == ("__debug__" : Str)) = false := by decide) (he : starEach (e :: es) X.env = (false, eval e X.env) :: starEach es X.env := by rfl) (hpl : (backTo pos (starEach es X.env)).any (·.1) = false := by rfl) :
    PE X (.Call (.Name x p) (e :: es) [] pos) (tCall sp dvs E t) := by
  intro pins s σ H Q I h
  refine wpAny_Call_Name_kw (ld_glob I hg hm ?_ hdb)
  refine PySem.W.callWith_K (h₀ := X.base) I.ok.mod.kin hk (thn (ha pos pins s σ H _ I h) fun us s1 ⟨vs, H1, I1, r, q⟩ => ⟨I1.kIn, ?_⟩) he hpl
  exact run_fn F hr hb hd hx I1 r q
structure Mk (K : PySem.W.Frag) (C f : Addr) : Prop where
  makes : PySem.W.makesIn K C = true
  init : PySem.W.findIn K (.ref C) "__init__" = some (some (.ref f))
  fn : PySem.W.isFn K (.ref f) = true
  kp : PySem.W.keepIn K (.ref C) = true
end
def PK (X : Cx) (kws : List Keyword) (t : TA) : Prop :=
  ∀ (pos : Pos) (pins : List (Addr × Obj)) (s : Shared) (σ : St) (H : Hp) (Q : List V → Hp → Prop), Inv X pins σ H s → t σ H Q → wpAny (model X.prog X.w) X.A (evalAll ((backToKw pos (keywordEach kws X.env)).map (·.2))) (AP X pins σ Q) X.xe s
section
variable {X : Cx} {CX : CXT} {k : Nat} {f C : Addr} {fd : FuncData} {ps ks : List Str} {sp : Sp} {E : XK} {x m : Str} {p pos apos kpos : Pos} {e o : Expr} {es : List Expr} {kws : List Keyword} {te ta : TE} {t tk : TA} {nm : Option Str}
structure KBinds (K : PySem.W.Frag) (fd : FuncData) (ps ks : List Str) (g : List Value → List Value → List Value) (gV : List V → List V → List V) : Prop where
  to : ∀ (s : Shared) (us ws : List Value), K.In s.heap → (g us ws).length = ps.length → BindsTo s fd ⟨us, ks.zip ws⟩ (ps.zip (g us ws))
  rel : ∀ {vs : List V} {us : List Value} {zs : List V} {ws : List Value}, Vals vs us → Vals zs ws → Vals (gV vs zs) (g us ws)
def tCallK (sp : Sp) (gV : List V → List V → List V) (E : XK) (t tk : TA) : TE := fun σ H Q => t σ H fun vs H1 => tk σ H1 fun zs H2 => sp (gV vs zs) H2 Q E
variable {g : List Value → List Value → List Value} {gV : List V → List V → List V}
end
structure FnScope (N P : List Str) (sc : Scope) : Prop where
  kind : sc.kind = .function
  co : sc.isCoroutine = false
  gen : sc.isGenerator = false
  nd : N.Nodup
  pre : N.take P.length = P
  par : ∀ x ∈ P, sc.names.lookup x = some .local ∨ sc.names.lookup x = some .cell
  nofree : ∀ y ∈ sc.names, y.2 ≠ .free
theorem bindL_out {kindOf : Str → Option NameKind} {x : Str} : ∀ {binds : List (Str × Value)} {m : Str → Option Value}, (∀ v, (x, v) ∉ binds) → bindL kindOf binds m x = m x
  | [], _, _ => rfl
  | (n, v) :: r, m, h => by
    unfold bindL
    rw [bindL_out fun w hw => h w (List.mem_cons_of_mem _ hw)]
    split
    · have : x ≠ n := by rintro rfl; exact h v List.mem_cons_self
      simp [this]
    · rfl
theorem bindC_out {kindOf : Str → Option NameKind} {x : Str} : ∀ {binds : List (Str × Value)} {m : Str → Option Value}, (∀ v, (x, v) ∉ binds) → bindC kindOf binds m x = m x
  | [], _, _ => rfl
  | (n, v) :: r, m, h => by
    unfold bindC
    rw [bindC_out fun w hw => h w (List.mem_cons_of_mem _ hw)]
    split
    · rfl
    · have : x ≠ n := by rintro rfl; exact h v List.mem_cons_self
      simp [this]
theorem bindL_get {kindOf : Str → Option NameKind} {x : Str} {v : Value} : ∀ {P : List Str} {vs : List Value} {i : Nat} {m : Str → Option Value}, P.Nodup → P[i]? = some x → vs[i]? = some v → kindOf x = some .local →
    bindL kindOf (P.zip vs) m x = some v
  | [], _, _, _, _, h, _, _ => by simp at h
  | _ :: _, [], _, _, _, _, h, _ => by simp at h
  | p :: P, w :: vs, 0, m, nd, h1, h2, hk => by
    simp at h1 h2; subst h1; subst h2
    show bindL kindOf ((p, w) :: P.zip vs) m p = _
    unfold bindL
    rw [bindL_out fun v hv => (List.nodup_cons.mp nd).1 (List.of_mem_zip hv).1, if_pos hk]
    simp
  | p :: P, w :: vs, i + 1, m, nd, h1, h2, hk => by
    show bindL kindOf ((p, w) :: P.zip vs) m x = _
    unfold bindL
    exact bindL_get (i := i) (List.nodup_cons.mp nd).2 (by simpa using h1) (by simpa using h2) hk
theorem bindC_get {kindOf : Str → Option NameKind} {x : Str} {v : Value} : ∀ {P : List Str} {vs : List Value} {i : Nat} {m : Str → Option Value}, P.Nodup → P[i]? = some x → vs[i]? = some v → kindOf x ≠ some .local →
    bindC kindOf (P.zip vs) m x = some v
  | [], _, _, _, _, h, _, _ => by simp at h
  | _ :: _, [], _, _, _, _, h, _ => by simp at h
  | p :: P, w :: vs, 0, m, nd, h1, h2, hk => by
    simp at h1 h2; subst h1; subst h2
    show bindC kindOf ((p, w) :: P.zip vs) m p = _
    unfold bindC
    rw [bindC_out fun v hv => (List.nodup_cons.mp nd).1 (List.of_mem_zip hv).1, if_neg hk]
    simp
  | p :: P, w :: vs, i + 1, m, nd, h1, h2, hk => by
    show bindC kindOf ((p, w) :: P.zip vs) m x = _
    unfold bindC
    exact bindC_get (i := i) (List.nodup_cons.mp nd).2 (by simpa using h1) (by simpa using h2) hk
def start (N : List Str) (vs : List V) : St := vs.map some ++ List.replicate (N.length - vs.length) none
def cxOf (CX : CXT) (P : Program) (w : World) (K : PySem.W.Frag) (mg : Str → Option Value) (base : Heap) (N : List Str) (qual : Str) (scope : Scope) (f : Addr) (cd : Value) (A : Around) (outer : List Env) (s : Shared) (H : Hp) (E : XK) : Cx where
  prog := P
  w := w
  K := K
  mg := mg
  base := base
  A := A.deeper (envOfC qual scope s.heap.objs.size f cd)
  N := N
  s₀ := s
  H₀ := H
  env := envOfC qual scope s.heap.objs.size f cd
  outer := outer
  stack := envOfC qual scope s.heap.objs.size f cd :: outer
  ex := []
  calm := true
  fn := fun _ => true
  pn := []
  xe := fun e s' => wpAny (model P w) (A.deeper (envOfC qual scope s.heap.objs.size f cd)) (leaving (envOfC qual scope s.heap.objs.size f cd) e) (fun _ s'' => CX outer H s E e s'') (fun e' s'' => CX outer H s E e' s'') s'
theorem cell_has {sc : Scope} {n : Nat} {x : Str} (h : sc.names.lookup x = some .cell) : ∃ c, (cellsFrom n sc.names []).lookup x = some c := by
  have q := PySem.W.cellsFrom_some sc.names n [] (.inl h)
  exact Option.isSome_iff_exists.mp q
theorem inv_start {CX : CXT} {P : Program} {w : World} {K : PySem.W.Frag} {mg : Str → Option Value} {base : Heap} {N ps : List Str} {qual : Str} {scope : Scope} {f : Addr} {cd : Value} {A : Around} {outer : List Env} {s s1 : Shared} {H : Hp} {E : XK} {us : List Value} {vs : List V}
    (S : FnScope N ps scope) (hd : A.handled = none) (e0 : Env0 P w K mg base A outer s H) (hl : vs.length = ps.length) (r : Vals vs us)
    (x : InCallC s s.heap.objs.size (bindL (envOfC qual scope s.heap.objs.size f cd).kindOf (ps.zip us) fun _ => none) (cellsFrom (s.heap.objs.size + 1) scope.names []) (bindC (envOfC qual scope s.heap.objs.size f cd).kindOf (ps.zip us) fun _ => none) s1) :
    Inv (cxOf CX P w K mg base N qual scope f cd A outer s H E) [] (start N vs) H s1 := by
  have hpl : ps.length ≤ N.length := by have := congrArg List.length S.pre; rw [List.length_take] at this; omega
  obtain ⟨h1, tk, rfl, hk⟩ := x.done
  have noA : ∀ b : Addr, b ∉ (cxOf CX P w K mg base N qual scope f cd A outer s H E).ex := fun b z => absurd (show b ∈ ([] : List Addr) from z) (by simp)
  refine ⟨⟨e0.mod, S.kind, rfl, rfl, Nat.le_refl _, fun y z c h1 h2 => ?_, fun y hy => ?_, fun y c _ h => ?_, fun _ => hd, Around.frames_deeper e0.frames, .inr ⟨rfl, rfl⟩, fun b z => absurd z (noA b), e0.bs, e0.bsz, fun b _ _ => noA b, fun b z => absurd z (noA b), e0.funs, e0.frf⟩,
    rfl, e0.bare, Un.kept hk, ⟨_, x.toInCall.ns, fun i y v h1 h2 h3 => ?_⟩, fun y c h => ⟨_, x.cell y c h⟩, e0.hok.fresh (Nat.le_refl _), fun y c h => ?_, fun p hp => absurd (show p ∈ ([] : List (Addr × Obj)) from hp) (by simp), e0.hok.kept hk, ?_⟩
  · exact name_of_addr x.apart (PySem.mem_of_lookup h1) (PySem.mem_of_lookup h2)
  · have hy : scope.names.lookup y = some .cell ∨ scope.names.lookup y = some .free := hy
    rcases hy with hy | hy
    · exact cell_has hy
    · exact absurd rfl (S.nofree _ (PySem.mem_of_lookup hy))
  · exact Nat.le_of_lt (x.above y c (PySem.mem_of_lookup h))
  · have hi : i < vs.length := by
      unfold start at h2
      by_cases hi : i < vs.length
      · exact hi
      · rw [List.getElem?_append_right (by simpa using hi)] at h2
        rw [List.getElem?_replicate] at h2
        split at h2 <;> cases h2
    have ha : vs[i]? = some v := by
      unfold start at h2
      rw [List.getElem?_append_left (by simpa using hi), List.getElem?_map] at h2
      cases e : vs[i]? with
      | none => rw [e] at h2; cases h2
      | some a => rw [e] at h2; cases h2; rfl
    obtain ⟨u, hu, rv⟩ := r.get ha
    have hp : ps[i]? = some y := by
      rw [← S.pre, List.getElem?_take_of_lt (by omega)]; exact h1
    have ndP : ps.Nodup := by rw [← S.pre]; exact S.nd.sublist (List.take_sublist _ _)
    refine ⟨u, rv, ?_⟩
    rcases S.par y (List.mem_of_getElem? hp) with k | k
    · exact .inl ⟨k, bindL_get ndP hp hu k⟩
    · obtain ⟨c, e⟩ := cell_has (n := s.heap.objs.size + 1) k
      refine .inr ⟨.inl k, c, e, ?_⟩
      have q := x.cell y c e
      rw [bindC_get ndP hp hu (by show scope.names.lookup y ≠ _; rw [k]; decide)] at q
      exact q
  · exact e0.hok.fresh (Nat.le_of_lt (x.above y c (PySem.mem_of_lookup h)))
  · unfold start
    show _ = N.length
    rw [List.length_append, List.length_map, List.length_replicate]
    omega
theorem fn_of {CX : CXT} {P : Program} {w : World} {K : PySem.W.Frag} {mg : Str → Option Value} {base : Heap} {k : Nat} {f : Addr} {name qual : Str} {params : Arguments} {body : List Stmt} {scope : Scope} {dV kV doc pm cdv ct oc : Value} {an od : Option Addr}
    {osl : Array (Option Value)} {N ps : List Str} {sp : Sp} (lk : K.lookup f = some ⟨oc, od, .func (PySem.W.fnOf name qual params body scope dV kV doc pm an cdv ct), osl⟩) (hcd : PySem.W.codeIn K cdv qual = true) (S : FnScope N ps scope)
    (len : ∀ vs H Q E, sp vs H Q E → vs.length = ps.length)
    (hbody : ∀ (A : Around) (outer : List Env) (s : Shared) (H : Hp) (vs : List V) (Q : VK) (E : XK), Room k (A.deeper (envOfC qual scope s.heap.objs.size f cdv)) → sp vs H Q E →
      ∃ t, PSs (cxOf CX P w K mg base N qual scope f cdv A outer s H E) body t ∧ t { nx := fun _ H' => Q .non H', rt := Q } (start N vs) H) :
    FnOk P w K mg base CX (k + 1) f (PySem.W.fnOf name qual params body scope dV kV doc pm an cdv ct) ps sp := by
  refine ⟨len, fun A outer s H args us vs Q E hr e0 hb r hsp => ?_⟩
  have hl := len _ _ _ _ hsp
  have KX : K.In s.heap := e0.mod.kin.keeps fun b o e => (e0.bs b o e).1
  have lim : s.heap.NoLimit := e0.mod.nolimit.keeps fun b o e => (e0.bs b o e).1
  have hkind : ∀ y ∈ ps.zip us, scope.names.lookup y.1 = some .local ∨ (scope.names.lookup y.1 = some .cell ∧ ((cellsFrom (s.heap.objs.size + 1) scope.names []).lookup y.1).isSome = true) := fun ⟨n, v⟩ hy => by
    rcases S.par n (List.of_mem_zip hy).1 with q | q
    · exact .inl q
    · exact .inr ⟨q, PySem.W.cellsFrom_some _ _ _ (.inl q)⟩
  refine codeAny_call_function hr.depth (KX _ _ lk) rfl S.co S.gen rfl (PySem.W.codeRec_of KX hcd) (hb _ _ _ _ ?_)
  refine wpAny_newFunctionEnv_cells S.kind hkind fun env he s1 x => ?_
  subst he
  refine ⟨lim.keeps x.toInCall.keep, codeAny_func ?_⟩
  obtain ⟨t, ht, hq⟩ := hbody A outer s H vs Q E (hr.deeper _) hsp
  have I : Inv (cxOf CX P w K mg base N qual scope f cdv A outer s H E) [] (start N vs) H s1 := inv_start S hr.hd e0 hl r x
  refine wpAny_mono (ht [] s1 (start N vs) H _ I hq) (fun fl s' hs => ?_) fun e s' hs => hs
  have fin : ∀ {σ' : St} {H' : Hp} {v : V} {u : Value}, Inv (cxOf CX P w K mg base N qual scope f cdv A outer s H E) [] σ' H' s' → RelV v u → Q v H' → CE outer P w H s Q u s' :=
    fun {σ' H' v u} J rv q => ⟨v, H', J.os, J.bare, J.base, J.hok, rv, q⟩
  cases fl with
  | ret u =>
    obtain ⟨v, σ', H', J, rv, q⟩ := hs
    exact fin J rv q
  | next =>
    obtain ⟨σ', H', J, q⟩ := hs
    exact fin (v := V.non) (u := Value.none) J rfl q
  | brk =>
    obtain ⟨_, _, _, q⟩ := hs
    exact False.elim q
  | cont =>
    obtain ⟨_, _, _, q⟩ := hs
    exact False.elim q
end L2
namespace L2
open PySem PySem.Spec PyProof.Rows
section
variable {X : Cx} {x : Str} {p pos : Pos} {e : Expr} {es : List Expr} {t : TA} {id T : String} {r : List V → Hp → VK → Prop}
def tCB (r : List V → Hp → VK → Prop) (t : TA) : TE := fun σ H Q => t σ H fun vs H1 => r vs H1 Q
theorem pe_callB (hc : CallR X (.builtin id) r) (hg : Gl X x) (hm : X.mg x = none) (hv : bootBuiltins x = some (.builtin id)) (ha : PA X (e :: es) t) (hn : x ≠ "__name__" := by decide) (hdb : (x == ("__debug__" : Str)) = false := by decide)
    (he : starEach (e :: es) X.env = (false, eval e X.env) :: starEach es X.env := by rfl) (hpl : (backTo pos (starEach es X.env)).any (·.1) = false := by rfl) : PE X (.Call (.Name x p) (e :: es) [] pos) (tCB r t) := by
  intro pins s σ H Q I h
  refine wpAny_Call_Name_kw (ld_blt I hg hm hv ?_ hn hdb)
  exact PyProof.Rows.callWith_builtin1 (thn (ha pos pins s σ H _ I h) fun us s1 ⟨vs, H1, I1, r1, q1⟩ => hc pins s1 σ H1 vs us Q I1 r1 q1) he hpl
theorem pe_callTy (hc : CallR X (.type T) r) (hg : Gl X x) (hm : X.mg x = none) (hv : bootBuiltins x = some (.type T)) (ha : PA X (e :: es) t) (hn : x ≠ "__name__" := by decide) (hdb : (x == ("__debug__" : Str)) = false := by decide)
    (he : starEach (e :: es) X.env = (false, eval e X.env) :: starEach es X.env := by rfl) (hpl : (backTo pos (starEach es X.env)).any (·.1) = false := by rfl) : PE X (.Call (.Name x p) (e :: es) [] pos) (tCB r t) := by
  intro pins s σ H Q I h
  refine wpAny_Call_Name_kw (ld_blt I hg hm hv ?_ hn hdb)
  exact PyProof.Rows.callWith_type1 (thn (ha pos pins s σ H _ I h) fun us s1 ⟨vs, H1, I1, r1, q1⟩ => hc pins s1 σ H1 vs us Q I1 r1 q1) he hpl
end
end L2
namespace HT
open PySem PyProof.Rows
def lexLt : List Int → List Int → Bool
  | [], [] => false
  | [], _ :: _ => true
  | _ :: _, [] => false
  | x :: xs, y :: ys => if x = y then lexLt xs ys else decide (x < y)
section
open PySem.SeqAt
open PySem.AutoSeq1 (wpAny_loadPart')
open PySem.MeetsSeq PySem.MeetsSeq2 PySem.MeetsSeq3
end
section
variable {prog : Program} {w : World} {A : Around} {E : Value → Shared → Prop} {s : Shared}
def sIx (n d : Nat) : Option Int → Nat
  | none => d
  | some v => if v < 0 then (v + (n : Int)).toNat else min v.toNat n
theorem sIx_le (n d : Nat) (hd : d ≤ n) (o : Option Int) : sIx n d o ≤ n := by
  cases o with
  | none => exact hd
  | some v =>
    show (if v < 0 then (v + (n : Int)).toNat else min v.toNat n) ≤ n
    by_cases hv : v < 0
    · rw [if_pos hv]; omega
    · rw [if_neg hv]; exact Nat.min_le_right _ _
theorem clip_eq (v : Int) (n d : Nat) : (if v < 0 then max (v + (n : Int)) 0 else min v (n : Int)) = ((sIx n d (some v) : Nat) : Int) := by
  show (if v < 0 then max (v + (n : Int)) 0 else min v (n : Int)) = (((if v < 0 then (v + (n : Int)).toNat else min v.toNat n) : Nat) : Int)
  by_cases hv : v < 0
  · simp only [if_pos hv]; omega
  · simp only [if_neg hv]; omega
theorem adjust_gen (lo hi : Option Int) (n : Nat) : Builtin.Slice.sliceAdjust lo hi 1 (n : Int) = (((sIx n 0 lo : Nat) : Int), ((sIx n n hi : Nat) : Int)) := by
  have h1 : ¬ ((1 : Int) < 0) := by omega
  unfold Builtin.Slice.sliceAdjust
  simp only [h1, if_false]
  refine Prod.ext ?_ ?_
  · cases lo with
    | none => rfl
    | some v => exact clip_eq v n 0
  · cases hi with
    | none => rfl
    | some v => exact clip_eq v n n
theorem places_gen (i j : Nat) : Builtin.Slice.slicePlaces (i : Int) (j : Int) 1 = j - i := by
  unfold Builtin.Slice.slicePlaces
  have h1 : (1 : Int) > 0 := by omega
  simp only [h1, if_true, Int.ediv_one]
  split <;> omega
theorem slicePart_ {v : Value} {o : Option Int} {Q : Option Int → Shared → Prop} (p : IsPart v o) (h : Q o s) : wpAny (model prog w) A (Builtin.Slice.slicePartIndex v) Q E s := by
  cases p with
  | none => exact slicePart_none h
  | int i t => exact slicePart_int h
theorem sliceApplied_gen {sl : Addr} {vl vu : Value} {lo hi : Option Int} {n : Nat} {Q : Int × Int × Nat → Shared → Prop} (hs : s.heap.IsSliceOf sl vl vu .none) (pl : IsPart vl lo) (pu : IsPart vu hi)
    (h : Q (((sIx n 0 lo : Nat) : Int), 1, sIx n n hi - sIx n 0 lo) s) : wpAny (model prog w) A (Builtin.Slice.sliceApplied (.ref sl) (pure (n : Int))) Q E s := by
  obtain ⟨os, hos, hcs, hds⟩ := id hs
  unfold Builtin.Slice.sliceApplied Builtin.Slice.sliceFields
  refine wpAny_bind (wpAny_bind (wpAny_field hos hds (x := vl) rfl (wpAny_bind (wpAny_field hos hds (x := vu) rfl (wpAny_bind (wpAny_field hos hds (x := .none) rfl (wpAny_pure ?_)))))))
  refine wpAny_bind (slicePart_none ?_)
  show wpAny _ _ (if ((1 : Int) == 0) = true then _ else _) _ _ s
  rw [if_neg (by decide)]
  refine wpAny_bind (slicePart_ pl (wpAny_bind (slicePart_ pu (wpAny_bind (wpAny_pure ?_)))))
  show wpAny _ _ (match Builtin.Slice.sliceAdjust lo hi 1 (n : Int) with | (lo, hi) => pure (lo, (1 : Int), Builtin.Slice.slicePlaces lo hi 1)) _ _ s
  rw [adjust_gen lo hi n]
  show wpAny _ _ (pure (((sIx n 0 lo : Nat) : Int), (1 : Int), Builtin.Slice.slicePlaces ((sIx n 0 lo : Nat) : Int) ((sIx n n hi : Nat) : Int) 1)) _ _ s
  rw [places_gen]
  exact wpAny_pure h
theorem pick_gen (xs : Array Value) (i k : Nat) : ((List.range k).filterMap fun (m : Nat) => xs[((i : Int) + (m : Int) * 1).toNat]?).toArray = ((xs.toList.drop i).take k).toArray := by
  have e : (fun (m : Nat) => xs[((i : Int) + (m : Int) * 1).toNat]?) = fun m => xs[i + m]? := by
    funext m
    have : ((i : Int) + (m : Int) * 1).toNat = i + m := by omega
    rw [this]
  rw [e]
  have := pick_run xs i k
  rw [List.filterMap_map] at this
  have e2 : ((fun x => xs[x]?) ∘ fun x => i + x) = fun m => xs[i + m]? := rfl
  rw [e2] at this
  rw [this]
theorem getItem_tuple_cut {t sl : Addr} {items : Array Value} {vl vu : Value} {lo hi : Option Int} {Q : Value → Shared → Prop} (ht : IsTup s.heap t items) (hs : s.heap.IsSliceOf sl vl vu .none) (pl : IsPart vl lo) (pu : IsPart vu hi)
    (hw : ¬ (sIx items.size 0 lo = 0 ∧ sIx items.size items.size hi = items.size))
    (h : Q (.ref s.heap.objs.size) { s with heap := s.heap.push { cls := .type "tuple", data := .seq ((items.toList.drop (sIx items.size 0 lo)).take (sIx items.size items.size hi - sIx items.size 0 lo)).toArray } })
    (hsz : items.size ≤ sizeLine) : wpAny (model prog w) A (getItem (.ref t) (.ref sl)) Q E s := by
  have htake : sizeOk (.seq ((items.toList.drop (sIx items.size 0 lo)).take (sIx items.size items.size hi - sIx items.size 0 lo)).toArray) := by
    show ((items.toList.drop (sIx items.size 0 lo)).take (sIx items.size items.size hi - sIx items.size 0 lo)).toArray.size ≤ sizeLine
    rw [List.size_toArray, List.length_take, List.length_drop, Array.length_toList]
    omega
  have hj : sIx items.size items.size hi ≤ items.size := sIx_le _ _ (Nat.le_refl _) hi
  obtain ⟨os, hos, hcs, hds⟩ := id hs
  have hTs : s.TypeIs (.ref sl) "slice" := ⟨os, hos, hcs⟩
  unfold getItem
  try with_reducible refine wpAny_holding ?_
  first | refine wpAny_bind (wpAny_pure ?_) | skip
  refine wpAny_bind (wpAny_sequenceKey ht.typeIs (by decide) ?_)
  refine wpAny_bind (wpAny_callSpecial?_slot (name := Str.ofString "__getitem__") ht.typeIs PyProof.Rows.slot_tuple_getitem
    (wpAny_call_entry PyProof.Rows.slot_tuple_getitem ht.typeIs entry_tuple_getitem ?_ (args_tuple_getitem _ _)))
  show wpAny _ _ (Builtin.Tuple.tupleItemsOf (.ref t) >>= _) _ _ s
  refine wpAny_bind (tupleItemsOf_ ht ?_)
  refine wpAny_bind (wpAny_typeOf hTs ?_)
  rw [if_pos (by decide)]
  refine wpAny_bind (sliceApplied_gen hs pl pu ?_)
  have hno : ¬ ((((sIx items.size 0 lo : Nat) : Int) == 0 && (1 : Int) == 1 && (sIx items.size items.size hi - sIx items.size 0 lo) == items.size) = true) := by
    intro q
    rw [Bool.and_eq_true, Bool.and_eq_true] at q
    have q1 : ((sIx items.size 0 lo : Nat) : Int) = 0 := eq_of_beq q.1.1
    have q2 : sIx items.size items.size hi - sIx items.size 0 lo = items.size := eq_of_beq q.2
    exact hw ⟨by omega, by omega⟩
  show wpAny _ _ (if (((sIx items.size 0 lo : Nat) : Int) == 0 && (1 : Int) == 1 && (sIx items.size items.size hi - sIx items.size 0 lo) == items.size) = true then _ else _) _ _ s
  rw [if_neg hno, pick_gen]
  first
    | exact wpAny_bind (m := Builtin.Tuple.tupleExact _) (wpAny_newObj_type (wpAny_pure ⟨_, rfl, wpAny_pure h⟩) htake)
    | exact wpAny_bind (m := Builtin.Tuple.tupleExact _) (wpAny_newObj_type (wpAny_bind (wpAny_pure (wpAny_pure ⟨_, rfl, wpAny_pure h⟩))) htake)
    | exact wpAny_bind (wpAny_bind (m := Builtin.Tuple.tupleExact _) (wpAny_newObj_type (wpAny_pure (wpAny_pure ⟨_, rfl, wpAny_pure h⟩)) htake))
    | exact wpAny_bind (wpAny_bind (m := Builtin.Tuple.tupleExact _) (wpAny_newObj_type (wpAny_pure ⟨_, rfl, wpAny_pure h⟩) htake))
end
end HT
namespace L2
open PySem PySem.Spec PyProof.Rows
abbrev TO := St → Hp → (Option Int → Hp → Prop) → Prop
def PO (X : Cx) (e : Option Expr) (t : TO) : Prop :=
  ∀ (pins : List (Addr × Obj)) (s : Shared) (σ : St) (H : Hp) (Q : Option Int → Hp → Prop), Inv X pins σ H s → t σ H Q →
    wpAny (model X.prog X.w) X.A (evalPart e X.env) (fun u s' => ∃ o H', Inv X pins σ H' s' ∧ IsPart u o ∧ Q o H') X.xe s
def tNoPart : TO := fun _ H Q => Q none H
def tPart (t : TE) : TO := fun σ H Q => t σ H fun x H1 => ∃ i, x = .int i ∧ Q (some i) H1
section
variable {X : Cx} {e : Expr} {te : TE} {lo hi : Option Expr} {tl th : TO} {pos p2 : Pos}
theorem po_none : PO X none tNoPart := by
  intro pins s σ H Q I h
  rw [evalPart_none]
  exact wpAny_pure ⟨none, H, I, .none, h⟩
theorem po_some (h : PE X e te) : PO X (some e) (tPart te) := by
  intro pins s σ H Q I hw
  rw [evalPart_some]
  refine thn (h pins s σ H _ I hw) fun u s1 ⟨x, H1, I1, r1, q1⟩ => ?_
  obtain ⟨i, rfl, q⟩ := q1
  obtain ⟨t, rfl⟩ := r1
  exact ⟨some i, H1, I1, .int i t, q⟩
def SlR (X : Cx) (r : V → Option Int → Option Int → Hp → VK → Prop) : Prop :=
  ∀ (pins : List (Addr × Obj)) (s : Shared) (σ : St) (H : Hp) (x : V) (v vl vu : Value) (lo hi : Option Int) (sl : Addr) (Q : VK), Inv X pins σ H s → RelV x v → s.heap.IsSliceOf sl vl vu .none → IsPart vl lo → IsPart vu hi → r x lo hi H Q →
    ∃ T id, typeLookup (.type T) "__getitem__" = pure (some (.builtin id)) ∧ s.TypeIs v T ∧ wpAny (model X.prog X.w) X.A (getItem v (.ref sl)) (EP X pins σ Q) X.xe s
def tSl (r : V → Option Int → Option Int → Hp → VK → Prop) (te : TE) (tl th : TO) : TE := fun σ H Q => te σ H fun x H1 => tl σ H1 fun l H2 => th σ H2 fun u H3 => r x l u H3 Q
theorem pe_slice {r : V → Option Int → Option Int → Hp → VK → Prop} (hr : SlR X r) (he : PE X e te) (hl : PO X lo tl) (hu : PO X hi th) : PE X (.Subscript e (.Slice lo hi none p2) pos) (tSl r te tl th) := by
  intro pins s σ H Q I h
  refine Subscript_ (thn (he pins s σ H _ I h) fun v s1 ⟨x, H1, I1, r1, q1⟩ => ?_)
  refine wpAny_Slice (thn (hl pins s1 σ H1 _ I1 q1) fun vl s2 ⟨l, H2, I2, pl, q2⟩ => thn (hu pins s2 σ H2 _ I2 q2) fun vu s3 ⟨u, H3, I3, pu, q3⟩ => ?_)
  rw [evalPart_none]
  refine wpAny_pure ?_
  have I4 : Inv X pins σ H3 { s3 with heap := s3.heap.push { cls := .type "slice", data := .fields #[vl, vu, .none] } } := I3.kept (t' := s3.toks) fun b ob q => Heap.get?_push_of_some _ q
  obtain ⟨T, id, hT, ht, hg⟩ := hr pins { s3 with heap := s3.heap.push { cls := .type "slice", data := .fields #[vl, vu, .none] } } σ H3 x v vl vu l u s3.heap.objs.size Q I4 r1 (Heap.IsSliceOf.new ..) pl pu q3
  show wpAny (model X.prog X.w) X.A (subscriptTail e (.Slice lo hi none p2) v (.ref s3.heap.objs.size)) (EP X pins σ Q) X.xe { s3 with heap := s3.heap.push { cls := .type "slice", data := .fields #[vl, vu, .none] } }
  exact tail_any (ops := [.ref s3.heap.objs.size, v]) ht hT hg (by with_unfolding_all rfl)
def cutV (xs : List V) (lo hi : Option Int) : List V := (xs.drop (HT.sIx xs.length 0 lo)).take (HT.sIx xs.length xs.length hi - HT.sIx xs.length 0 lo)
theorem cutV_length (xs : List V) (lo hi : Option Int) : (cutV xs lo hi).length ≤ xs.length := by
  unfold cutV
  rw [List.length_take, List.length_drop]
  omega
def rSlT (K : PySem.W.Frag) : V → Option Int → Option Int → Hp → VK → Prop := fun x lo hi H Q => ∃ a xs, x = .ref a ∧ SqT K H a xs ∧
  ¬ (HT.sIx xs.length 0 lo = 0 ∧ HT.sIx xs.length xs.length hi = xs.length) ∧ ∀ p, H p = none → Q (.ref p) (upd H p (.tup (cutV xs lo hi)))
theorem sl_tup : SlR X (rSlT X.K) := by
  intro pins s σ H x v vl vu lo hi sl Q I rx hs pl pu h
  obtain ⟨a, xs, rfl, hx, hw, q⟩ := h
  cases rx
  obtain ⟨its, r, ht, hz⟩ := I.tuple hx
  have hlen : its.toArray.size = xs.length := by rw [List.size_toArray]; exact r.length.symm
  refine ⟨"tuple", _, PyProof.Rows.slot_tuple_getitem.lookup, ht.typeIs, ?_⟩
  refine HT.getItem_tuple_cut ht hs pl pu (by rw [hlen]; exact hw) ?_ (by rw [hlen]; exact hz)
  rw [hlen]
  refine ⟨.ref s.heap.objs.size, _, I.laid (t' := s.toks) (o := .tup (cutV xs lo hi)) (fun b ob q => Heap.get?_push_of_some _ q) (Nat.le_refl _) ?_, rfl, q _ (I.hok.fresh (Nat.le_refl _))⟩
  exact ⟨Nat.le_trans (cutV_length xs lo hi) hz, _, (r.drop (HT.sIx xs.length 0 lo)).take (HT.sIx xs.length xs.length hi - HT.sIx xs.length 0 lo), IsTp.new _ _⟩
def rLtT (K : PySem.W.Frag) : R2 := fun x y H Q => ∃ a b ns ms, x = .ref a ∧ y = .ref b ∧ SqT K H a (ns.map V.int) ∧ SqT K H b (ms.map V.int) ∧ Q (.bl (HT.lexLt ns ms)) H
def rCatT (K : PySem.W.Frag) : R2 := fun x y H Q => ∃ a b xs ys, x = .ref a ∧ y = .ref b ∧ SqT K H a xs ∧ SqT K H b ys ∧ xs ≠ [] ∧ xs.length + ys.length ≤ sizeLine ∧
  (ys = [] → Q (.ref a) H) ∧ (ys ≠ [] → ∀ p, H p = none → Q (.ref p) (upd H p (.tup (xs ++ ys))))
end
end L2
namespace L2
open PySem PySem.Spec PyProof.Rows
def ixN (n : Nat) (i : Int) : Option Nat := if 0 ≤ i then (if i < n then some i.toNat else none) else if -(n : Int) ≤ i then some (i + n).toNat else none
def atI {α : Type} (xs : List α) (i : Int) : Option α := (ixN xs.length i).bind fun j => xs[j]?
theorem ixN_seq {n : Nat} {i : Int} {j : Nat} (h : ixN n i = some j) : seqIndex? i n = some j ∧ j < n ∧ -(n : Int) ≤ i ∧ i < n := by
  unfold ixN at h
  by_cases h0 : 0 ≤ i
  · rw [if_pos h0] at h
    by_cases h1 : i < n
    · rw [if_pos h1] at h
      have e : i.toNat = j := Option.some.inj h
      exact ⟨by rw [seqIndex_of h0 h1, e], by omega, by omega, h1⟩
    · rw [if_neg h1] at h; cases h
  · rw [if_neg h0] at h
    by_cases h1 : -(n : Int) ≤ i
    · rw [if_pos h1] at h
      have e : (i + n).toNat = j := Option.some.inj h
      exact ⟨by rw [seqIndex_neg (by omega) h1, e], by omega, h1, by omega⟩
    · rw [if_neg h1] at h; cases h
theorem atI_get {α : Type} {xs : List α} {i : Int} {v : α} (h : atI xs i = some v) : ∃ j, seqIndex? i xs.length = some j ∧ xs[j]? = some v ∧ j < xs.length ∧ -(xs.length : Int) ≤ i ∧ i < xs.length := by
  unfold atI at h
  cases e : ixN xs.length i with
  | none => rw [e] at h; cases h
  | some j =>
    rw [e] at h
    obtain ⟨h1, h2, h3, h4⟩ := ixN_seq e
    exact ⟨j, h1, h, h2, h3, h4⟩
def PlainIx (b : Expr) : Prop := ∀ o i, subscripted b false o i = operate [o, i] (getItem o i)
def IxR (X : Cx) (r : R2) : Prop :=
  ∀ (value slice : Expr) (pins : List (Addr × Obj)) (s : Shared) (σ : St) (H : Hp) (x y : V) (v u : Value) (Q : VK), Inv X pins σ H s → RelV x v → RelV y u → r x y H Q →
    subscripted slice false v u = operate [v, u] (getItem v u) → wpAny (model X.prog X.w) X.A (subscriptTail value slice v u) (EP X pins σ Q) X.xe s
def MtR (X : Cx) (id : String) (r : V → List V → Hp → VK → Prop) : Prop :=
  ∀ (pins : List (Addr × Obj)) (s : Shared) (σ : St) (H : Hp) (x : V) (xs : List V) (v : Value) (us : List Value) (Q : VK), Inv X pins σ H s → RelV x v → Vals xs us → r x xs H Q →
    wpAny (model X.prog X.w) X.A (call (.builtin id) (v :: us)) (EP X pins σ Q) X.xe s
section
variable {X : Cx} {a b : Expr} {ta tb : TE} {pos : Pos}
theorem pe_ix {r : R2} (hr : IxR X r) (ha : PE X a ta) (hb : PE X b tb) (hs : PlainIx b) : PE X (.Subscript a b pos) (tOp r ta tb) := by
  intro pins s σ H Q I h
  exact Subscript_ (binT ha hb I h fun v u s2 x y H2 I2 rx ry q => hr a b pins s2 σ H2 x y v u Q I2 rx ry q (hs _ _))
def rIxL (K : PySem.W.Frag) : R2 := fun x y H Q => ∃ p xs i v, x = .ref p ∧ y = .int i ∧ SqL K H p xs ∧ atI xs i = some v ∧ Q v H
def rIxT (K : PySem.W.Frag) : R2 := fun x y H Q => ∃ p xs i v, x = .ref p ∧ y = .int i ∧ SqT K H p xs ∧ atI xs i = some v ∧ Q v H
def rIxS : R2 := fun x y H Q => ∃ z i c, x = .str z ∧ y = .int i ∧ z.length ≤ sizeLine ∧ atI z.cps.toList i = some c ∧ Q (.str ⟨#[c]⟩) H
theorem ix_list : IxR X (rIxL X.K) := by
  intro value slice pins s σ H x y v u Q I rx ry h hs
  obtain ⟨p, xs, i, z, rfl, rfl, hq, he, q⟩ := h
  cases rx
  obtain ⟨t, rfl⟩ := ry
  obtain ⟨its, r, pl, hz⟩ := I.list hq
  obtain ⟨j, h1, h2, h3, h4, h5⟩ := atI_get he
  obtain ⟨w, ew, rw'⟩ := r.get h2
  have hl := r.length
  have hn := line63
  have fin : EP X pins σ Q w s := ⟨z, H, I, rw', q⟩
  by_cases h0 : 0 ≤ i
  · have hj : i.toNat = j := by
      rw [seqIndex_of h0 h5] at h1
      exact Option.some.inj h1
    exact item_listR pl.isList h0 (by omega) (by rw [hj]; simpa using ew) fin hs
  · have hj : (i + (its.toArray.size : Int)).toNat = j := by
      rw [seqIndex_neg (by omega) h4] at h1
      rw [List.size_toArray, ← hl]
      exact Option.some.inj h1
    exact subscriptTail_builtinR (x := w) pl.isList.typeIs slot_list_getitem.lookup
      (wpAny_getItem_list_neg (Q := fun r s' => r = w ∧ EP X pins σ Q r s') pl.isList (by omega) (by rw [List.size_toArray] <;> omega) (by omega) (by rw [hj]; simpa using ew) ⟨rfl, fin⟩) hs
theorem ix_tup : IxR X (rIxT X.K) := by
  intro value slice pins s σ H x y v u Q I rx ry h hs
  obtain ⟨p, xs, i, z, rfl, rfl, hq, he, q⟩ := h
  cases rx
  obtain ⟨t, rfl⟩ := ry
  obtain ⟨its, r, pl, hz⟩ := I.tuple hq
  obtain ⟨j, h1, h2, h3, h4, h5⟩ := atI_get he
  obtain ⟨w, ew, rw'⟩ := r.get h2
  have hl := r.length
  have hn := line63
  have fin : EP X pins σ Q w s := ⟨z, H, I, rw', q⟩
  exact subscriptTail_builtinR (x := w) pl.typeIs slot_tuple_getitem.lookup
    (getItem_tuple (j := j) (Q := fun r s' => r = w ∧ EP X pins σ Q r s') pl (by omega) (by omega) (by rw [List.size_toArray, ← hl]; exact h1) (by simpa using ew) ⟨rfl, fin⟩) hs
theorem ix_str : IxR X rIxS := by
  intro value slice pins s σ H x y v u Q I rx ry h hs
  obtain ⟨z, i, c, rfl, rfl, hz, he, q⟩ := h
  obtain ⟨t, rfl⟩ := rx
  obtain ⟨t', rfl⟩ := ry
  obtain ⟨j, h1, h2, h3, h4, h5⟩ := atI_get he
  have hl : z.cps.toList.length = z.length := by simp [Str.length]
  rw [hl] at h1 h4 h5
  have hn := line63
  exact tail_any (typeIs_str s z t) slot_str_getitem.lookup (getItem_str (c := c) (by
    have e1 : decide (i < -(2 ^ 63 : Int)) = false := decide_eq_false (by omega)
    have e2 : decide (i ≥ 2 ^ 63) = false := decide_eq_false (by omega)
    rw [e1, e2, Bool.or_false]) (by rw [h1]; simpa using h2) ⟨.str ⟨#[c]⟩, H, I.tok _, ⟨_, rfl⟩, q⟩) hs
def rIx (K : PySem.W.Frag) : R2 := fun x y H Q => rIxL K x y H Q ∨ rIxT K x y H Q ∨ rIxS x y H Q
theorem Inv.lst {pins : List (Addr × Obj)} {σ : St} {H : Hp} {s : Shared} {p : Addr} {xs : List V} (I : Inv X pins σ H s) (h : H p = some (.lst xs)) :
    ∃ (its : List Value) (n : Nat), Vals xs its ∧ s.heap.get? p = some { cls := .type "list", data := .seq its.toArray n } ∧ xs.length ≤ sizeLine := by
  obtain ⟨z, its, n, r, e⟩ := I.hok p _ h
  exact ⟨its, n, r, e, z⟩
def rSetL : V → V → V → Hp → (Hp → Prop) → Prop := fun o i v H Q => ∃ p xs k j, o = .ref p ∧ i = .int k ∧ H p = some (.lst xs) ∧ ixN xs.length k = some j ∧ Q (upd H p (.lst (xs.set j v)))
theorem slice_bounds (lo hi : Option Int) (n : Nat) : (sliceBounds lo hi none n).1 = ((HT.sIx n 0 lo : Nat) : Int) ∧ (sliceBounds lo hi none n).2.1 = ((HT.sIx n n hi : Nat) : Int) ∧ (sliceBounds lo hi none n).2.2 = 1 := by
  refine ⟨?_, ?_, rfl⟩
  · cases lo with
    | none => simp [sliceBounds, HT.sIx]
    | some i =>
      simp only [sliceBounds, HT.sIx, Option.getD_none, show (1 : Int) > 0 by decide, if_true]
      by_cases h : i < 0
      · simp only [h, if_true] <;> omega
      · simp only [h, if_false] <;> omega
  · cases hi with
    | none => simp [sliceBounds, HT.sIx]
    | some i =>
      simp only [sliceBounds, HT.sIx, Option.getD_none, show (1 : Int) > 0 by decide, if_true]
      by_cases h : i < 0
      · simp only [h, if_true] <;> omega
      · simp only [h, if_false] <;> omega
theorem slicePick_cut (its : List Value) (lo hi : Option Int) : slicePick its.toArray lo hi none = ((its.drop (HT.sIx its.length 0 lo)).take (HT.sIx its.length its.length hi - HT.sIx its.length 0 lo)).toArray := by
  obtain ⟨h1, h2, h3⟩ := slice_bounds lo hi its.toArray.size
  unfold slicePick
  rw [h1, h2, h3]
  simp only [sliceRange_one, pick_run, List.size_toArray] <;> rfl
def rSlL (K : PySem.W.Frag) : V → Option Int → Option Int → Hp → VK → Prop := fun x lo hi H Q => ∃ a xs, x = .ref a ∧ SqL K H a xs ∧ ∀ p, H p = none → Q (.ref p) (upd H p (.lst (cutV xs lo hi)))
theorem sl_list : SlR X (rSlL X.K) := by
  intro pins s σ H x v vl vu lo hi sl Q I rx hs pl pu h
  obtain ⟨a, xs, rfl, hx, q⟩ := h
  cases rx
  obtain ⟨its, r, ht, hz⟩ := I.list hx
  have hlen := r.length
  refine ⟨"list", _, slot_list_getitem.lookup, ht.isList.typeIs, ?_⟩
  refine wpAny_getItem_list_slice ht.isList hs pl pu .none (by simp) ?_ (by rw [List.size_toArray] <;> omega)
  rw [slicePick_cut, ← hlen]
  refine ⟨.ref s.heap.objs.size, _, I.laid (t' := s.toks) (o := .lst (cutV xs lo hi)) (fun b ob q => Heap.get?_push_of_some _ q) (Nat.le_refl _) ?_, rfl, q _ (I.hok.fresh (Nat.le_refl _))⟩
  exact ⟨Nat.le_trans (cutV_length xs lo hi) hz, _, 0, (r.drop (HT.sIx xs.length 0 lo)).take (HT.sIx xs.length xs.length hi - HT.sIx xs.length 0 lo), Heap.get?_push_size _ rfl⟩
def flatV : V → Bool
  | .non => true
  | .bl _ => true
  | .int _ => true
  | .str _ => true
  | _ => false
def eqV : V → V → Bool
  | .non, .non => true
  | .bl a, .bl b => a == b
  | .bl a, .int b => (if a then 1 else 0) == b
  | .int a, .bl b => a == (if b then 1 else 0)
  | .int a, .int b => a == b
  | .str a, .str b => a == b
  | _, _ => false
theorem eqAt_V {A : Around} {s : Shared} {y x : V} {u v : Value} (ry : RelV y u) (rx : RelV x v) (fy : flatV y = true) (fx : flatV x = true) : SeqAt.EqAt A s u v (eqV y x) := by
  cases y with
  | non =>
    cases ry
    cases x with
    | non => cases rx; exact SeqAt.EqAt.same _
    | bl b => cases rx; exact SeqAt.EqAt.none_bool b
    | int b => obtain ⟨t, rfl⟩ := rx; exact SeqAt.EqAt.none_int b t
    | str b => obtain ⟨t, rfl⟩ := rx; exact SeqAt.EqAt.none_str b t
    | _ => exact absurd (show false = true from fx) Bool.false_ne_true
  | bl a =>
    cases ry
    cases x with
    | non => cases rx; exact SeqAt.EqAt.bool_none a
    | bl b => cases rx; exact SeqAt.EqAt.bool_bool a b
    | int b => obtain ⟨t, rfl⟩ := rx; exact SeqAt.EqAt.bool_int a b t
    | str b => obtain ⟨t, rfl⟩ := rx; exact SeqAt.EqAt.bool_str a b t
    | _ => exact absurd (show false = true from fx) Bool.false_ne_true
  | int a =>
    obtain ⟨t', rfl⟩ := ry
    cases x with
    | non => cases rx; exact SeqAt.EqAt.int_none a t'
    | bl b => cases rx; exact SeqAt.EqAt.int_bool a t' b
    | int b => obtain ⟨t, rfl⟩ := rx; exact SeqAt.EqAt.int_int a t' b t
    | str b => obtain ⟨t, rfl⟩ := rx; exact SeqAt.EqAt.int_str a t' b t
    | _ => exact absurd (show false = true from fx) Bool.false_ne_true
  | str a =>
    obtain ⟨t', rfl⟩ := ry
    cases x with
    | non => cases rx; exact SeqAt.EqAt.str_none a t'
    | bl b => cases rx; exact SeqAt.EqAt.str_bool a t' b
    | int b => obtain ⟨t, rfl⟩ := rx; exact SeqAt.EqAt.str_int a t' b t
    | str b => obtain ⟨t, rfl⟩ := rx; exact SeqAt.EqAt.str_str a t' b t
    | _ => exact absurd (show false = true from fx) Bool.false_ne_true
  | _ => exact absurd (show false = true from fy) Bool.false_ne_true
def eqU (x : V) (u : Value) : Bool := match u with
  | .none => eqV .non x
  | .bool b => eqV (.bl b) x
  | .int i _ => eqV (.int i) x
  | .str z _ => eqV (.str z) x
  | _ => false
theorem eqU_of {x y : V} {u : Value} (r : RelV y u) (f : flatV y = true) : eqU x u = eqV y x := by
  cases y with
  | non => cases r; rfl
  | bl b => cases r; rfl
  | int i => obtain ⟨t, rfl⟩ := r; rfl
  | str z => obtain ⟨t, rfl⟩ := r; rfl
  | _ => exact absurd (show false = true from f) Bool.false_ne_true
theorem any_eqU {x : V} : ∀ {xs : List V} {us : List Value}, Vals xs us → xs.all flatV = true → us.any (eqU x) = xs.any fun y => eqV y x
  | _, _, .nil, _ => rfl
  | y :: xs, u :: us, .cons r t, f => by
    rw [List.all_cons, Bool.and_eq_true] at f
    rw [List.any_cons, List.any_cons, eqU_of r f.1, any_eqU t f.2]
theorem mem_eqAt {A : Around} {s : Shared} {x : V} {v : Value} (rx : RelV x v) (fx : flatV x = true) : ∀ {xs : List V} {us : List Value}, Vals xs us → xs.all flatV = true → ∀ u ∈ us, SeqAt.EqAt A s u v (eqU x u)
  | _, _, .nil, _ => fun u hu => by cases hu
  | y :: xs, u :: us, .cons r t, f => fun u' hu => by
    rw [List.all_cons, Bool.and_eq_true] at f
    rcases List.mem_cons.mp hu with rfl | hu
    · rw [eqU_of r f.1]; exact eqAt_V r rx f.1 fx
    · exact mem_eqAt rx fx t f.2 u' hu
def inV (x : V) (xs : List V) : Bool := xs.any fun y => eqV y x
def rIn (K : PySem.W.Frag) (neg : Bool) : R2 := fun x y H Q => ∃ p xs, y = .ref p ∧ (SqL K H p xs ∨ SqT K H p xs) ∧ flatV x = true ∧ xs.all flatV = true ∧ Q (.bl (if neg then !inV x xs else inV x xs)) H
theorem op_in_seq : OpR X (compareOp .In) (rIn X.K false) := by
  intro pins s σ H x y v u Q I rx ry h
  obtain ⟨p, xs, rfl, hq, fx, fs, q⟩ := h
  cases ry
  rcases hq with hq | hq
  · obtain ⟨its, r, pl, hz⟩ := I.list hq
    refine SeqAt.in_listAt (eqU x) pl.isList (fun w hw => mem_eqAt rx fx r fs w (by simpa using hw)) ⟨.bl _, H, I, rfl, ?_⟩
    rw [show its.toArray.any (eqU x) = its.any (eqU x) by simp, any_eqU r fs]
    exact q
  · obtain ⟨its, r, pl, hz⟩ := I.tuple hq
    refine SeqAt.in_tupleAt (eqU x) pl (fun w hw => mem_eqAt rx fx r fs w (by simpa using hw)) ⟨.bl _, H, I, rfl, ?_⟩
    rw [show its.toArray.any (eqU x) = its.any (eqU x) by simp, any_eqU r fs]
    exact q
theorem op_notIn_seq : OpR X (compareOp .NotIn) (rIn X.K true) := by
  intro pins s σ H x y v u Q I rx ry h
  obtain ⟨p, xs, rfl, hq, fx, fs, q⟩ := h
  cases ry
  rcases hq with hq | hq
  · obtain ⟨its, r, pl, hz⟩ := I.list hq
    refine SeqAt.notIn_listAt (eqU x) pl.isList (fun w hw => mem_eqAt rx fx r fs w (by simpa using hw)) ⟨.bl _, H, I, rfl, ?_⟩
    rw [show its.toArray.any (eqU x) = its.any (eqU x) by simp, any_eqU r fs]
    exact q
  · obtain ⟨its, r, pl, hz⟩ := I.tuple hq
    refine SeqAt.notIn_tupleAt (eqU x) pl (fun w hw => mem_eqAt rx fx r fs w (by simpa using hw)) ⟨.bl _, H, I, rfl, ?_⟩
    rw [show its.toArray.any (eqU x) = its.any (eqU x) by simp, any_eqU r fs]
    exact q
theorem op_notIn_str : OpR X (compareOp .NotIn) (fun x y H Q => ∃ i j, x = .str i ∧ y = .str j ∧ Q (.bl (!(!(Builtin.Str.occurrences j i 0 j.length 1).isEmpty))) H) := by
  intro pins s σ H x y v u Q I rx ry h
  obtain ⟨i, j, rfl, rfl, q⟩ := h
  obtain ⟨t, rfl⟩ := rx
  obtain ⟨t', rfl⟩ := ry
  exact notIn_str ⟨.bl _, H, I, rfl, q⟩
theorem call_list_of : CallR X (.type "list") (fun xs H Q => ∃ p ys, xs = [.ref p] ∧ (SqL X.K H p ys ∨ SqT X.K H p ys) ∧ ∀ l, H l = none → Q (.ref l) (upd H l (.lst ys))) := by
  intro pins s σ H xs us Q I r h
  obtain ⟨p, ys, rfl, hq, q⟩ := h
  obtain ⟨u, rfl, rx⟩ := vals1 r
  cases rx
  have fin : ∀ (its : List Value), Vals ys its → ys.length ≤ sizeLine → ∀ (h' : Heap) (c' : Nat), (∀ b o', s.heap.get? b = some o' → h'.get? b = some o') →
      h'.get? s.heap.objs.size = some { cls := .type "list", dict := none, data := .seq its.toArray c', slots := #[] } → EP X pins σ Q (.ref s.heap.objs.size) { s with heap := h' } := fun its r' hz h' c' kp e =>
    ⟨.ref s.heap.objs.size, _, I.laid (t' := s.toks) kp (Nat.le_refl _) (show ObjOk X.prog X.w _ h' _ (.lst ys) from ⟨hz, its, c', r', e⟩), rfl, q _ (I.hok.fresh (Nat.le_refl _))⟩
  rcases hq with hq | hq
  · obtain ⟨its, r', pl, hz⟩ := I.list hq
    have hlen := r'.length
    obtain ⟨o, ho, hc, n, hd⟩ := pl.isList
    exact call_list_seq p (.inl rfl) ho hc hd (fun h' c' kp e => fin its r' hz h' c' kp e) (by simp only [List.size_toArray] <;> omega)
  · obtain ⟨its, r', pl, hz⟩ := I.tuple hq
    have hlen := r'.length
    obtain ⟨o, ho, hc, n, hd⟩ := pl
    exact call_list_seq p (.inr rfl) ho hc hd (fun h' c' kp e => fin its r' hz h' c' kp e) (by simp only [List.size_toArray] <;> omega)
theorem call_tuple_of : CallR X (.type "tuple") (fun xs H Q => ∃ p ys, xs = [.ref p] ∧ ((SqL X.K H p ys ∧ ∀ l, H l = none → Q (.ref l) (upd H l (.tup ys))) ∨ (SqT X.K H p ys ∧ Q (.ref p) H))) := by
  intro pins s σ H xs us Q I r h
  obtain ⟨p, ys, rfl, h⟩ := h
  obtain ⟨u, rfl, rx⟩ := vals1 r
  cases rx
  rcases h with ⟨hq, q⟩ | ⟨hq, q⟩
  · obtain ⟨its, r', pl, hz⟩ := I.list hq
    have hlen := r'.length
    refine call_tuple_list pl.isList (fun h' kp => ?_) (by simp only [List.size_toArray] <;> omega)
    have I1 : Inv X pins σ H { s with heap := h' } := I.kept (t' := s.toks) kp
    have I2 : Inv X pins σ (upd H h'.objs.size (.tup ys)) { s with heap := h'.push { cls := .type "tuple", data := .seq its.toArray } } :=
      I1.laid (t' := s.toks) (fun b o e => Heap.get?_push_of_some _ e) (Nat.le_refl _) (show ObjOk X.prog X.w _ _ _ (.tup ys) from ⟨hz, its, r', IsTp.new _ _⟩)
    exact ⟨.ref h'.objs.size, _, I2, rfl, q _ (I1.hok.fresh (Nat.le_refl _))⟩
  · obtain ⟨its, r', pl, hz⟩ := I.tuple hq
    exact call_tuple_same pl ⟨.ref p, H, I, rfl, q⟩
def tyV (K : PySem.W.Frag) (T : String) (x : V) (H : Hp) : Prop := match x with
  | .str _ => T = "str"
  | .int _ => T = "int"
  | .ref p => (T = "list" ∧ ∃ xs, SqL K H p xs) ∨ (T = "tuple" ∧ ∃ o, K.lookup p = some o ∧ o.cls = .type "tuple" ∧ o.dict = none) ∨
      (T = "dict" ∧ ((∃ kvs, H p = some (.dK kvs)) ∨ ∃ kvs, H p = some (.dT kvs))) ∨ (T = "set" ∧ ∃ S n, H p = some (.set S n))
  | _ => False
theorem tyV_is {pins : List (Addr × Obj)} {σ : St} {H : Hp} {s : Shared} {T : String} {x : V} {v : Value} (I : Inv X pins σ H s) (r : RelV x v) (ty : tyV X.K T x H) :
    s.TypeIs v T ∧ ∀ a, v = .ref a → ∃ ob, s.heap.get? a = some ob ∧ ob.dict = none := by
  cases x with
  | str z =>
    obtain ⟨t, rfl⟩ := r
    cases (show T = "str" from ty)
    exact ⟨typeIs_str s z t, fun _ e => nomatch e⟩
  | int i =>
    obtain ⟨t, rfl⟩ := r
    cases (show T = "int" from ty)
    exact ⟨typeIs_int s i t, fun _ e => nomatch e⟩
  | ref p =>
    cases r
    rcases ty with ⟨rfl, xs, hq⟩ | ⟨rfl, o, hk, hc, hd⟩ | ⟨rfl, hk⟩ | ⟨rfl, S, n, hk⟩
    · obtain ⟨its, _, pl, _⟩ := I.list hq
      refine ⟨pl.isList.typeIs, fun a e => ?_⟩
      cases e
      obtain ⟨o, n, e, c, hd, _⟩ := pl
      exact ⟨o, e, hd⟩
    · refine ⟨⟨o, I.kIn p o hk, hc⟩, fun a e => ?_⟩
      cases e
      exact ⟨o, I.kIn _ o hk, hd⟩
    · have z : ∃ o, s.heap.get? p = some o ∧ o.ExactDict := by
        rcases hk with ⟨kvs, hk⟩ | ⟨kvs, hk⟩
        · obtain ⟨_, _, _, _, o, _, _, e, ex, _⟩ := I.hok p _ hk
          exact ⟨o, e, ex⟩
        · obtain ⟨_, _, _, _, o, _, _, e, ex, _⟩ := I.hok p _ hk
          exact ⟨o, e, ex⟩
      obtain ⟨o, e, ex⟩ := z
      refine ⟨⟨o, e, ex.1⟩, fun a e2 => ?_⟩
      cases e2
      exact ⟨o, e, ex.2.1⟩
    · obtain ⟨o, _, _, _, e, ex, _⟩ := I.hok p _ hk
      refine ⟨⟨o, e, ex.1⟩, fun a e2 => ?_⟩
      cases e2
      exact ⟨o, e, ex.2.1⟩
  | _ => exact False.elim ty
def tBM0 (K : PySem.W.Frag) (T : String) (r : V → List V → Hp → VK → Prop) (to : TE) : TE := fun σ H Q => to σ H fun x H1 => tyV K T x H1 ∧ r x [] H1 Q
def tBM (K : PySem.W.Frag) (T : String) (r : V → List V → Hp → VK → Prop) (to : TE) (t : TA) : TE := fun σ H Q => to σ H fun x H1 => tyV K T x H1 ∧ t σ H1 fun xs H2 => r x xs H2 Q
variable {o e : Expr} {es : List Expr} {to : TE} {t : TA} {name : Str} {apos cpos : Pos} {T id : String} {r : V → List V → Hp → VK → Prop}
theorem pe_bm (pa : PlainAttrs T) (slot : Slot T name id) (hty : typeOf (.builtin id) = pure (.type "method_descriptor")) (hm : MtR X id r) (ho : PE X o to) (ha : PA X (e :: es) t)
    (hbase : attributeBase o name X.env (eval o X.env) = eval o X.env := by rfl)
    (hfew : ((backTo cpos (starEach (e :: es) X.env)).all (fun x => !x.1) && (backToKw cpos (keywordEach [] X.env)).all (fun x => x.1.isSome)
      && decide ((e :: es).length + ([] : List Keyword).length + (if ([] : List Keyword).isEmpty then 0 else 1) < 30)) = true := by rfl)
    (hline : (apos.endLine == cpos.line) = true := by rfl) (hs : starEach (e :: es) X.env = (false, eval e X.env) :: starEach es X.env := by rfl) (hplain : (backTo cpos (starEach es X.env)).any (·.1) = false := by rfl) :
    PE X (.Call (.Attribute o name apos) (e :: es) [] cpos) (tBM X.K T r to t) := by
  intro pins s σ H Q I h
  refine wpAny_Call_method_late hbase hfew hline rfl (thn (ho pins s σ H _ I h) fun v s1 ⟨x, H1, I1, r1, ty, q1⟩ => ?_)
  obtain ⟨h1, h2⟩ := tyV_is I1 r1 ty
  refine ⟨T, id, pa, slot, hty, h1, h2, ?_⟩
  have hA := ha cpos pins s1 σ H1 _ I1 q1
  rw [hs] at hA ⊢
  refine Calls.callWith_builtin (by show (false || (backTo cpos (starEach es X.env)).any (·.1)) = false; rw [hplain] <;> rfl) (Calls.evalArgs_plain ?_)
  exact thn hA fun us s2 ⟨vs, H2, I2, r2, q2⟩ => hm pins s2 σ H2 x vs v us Q I2 r1 r2 q2
end
end L2
namespace L2
open PySem PySem.Spec PyProof.Rows
def MtM (X : Cx) (id : String) (r : V → List V → Hp → VK → Prop) : Prop :=
  ∀ (pins : List (Addr × Obj)) (s : Shared) (σ : St) (H : Hp) (x : V) (xs : List V) (v : Value) (us : List Value) (Q : VK), Inv X pins σ H s → RelV x v → Vals xs us → r x xs H Q →
    wpAny (model X.prog X.w) X.A (call (.builtin id) (v :: us)) (EP X pins σ Q) X.xe s
theorem Vals.one : ∀ {x : V} {us : List Value}, Vals [x] us → ∃ u, us = [u] ∧ RelV x u
  | _, _, .cons r .nil => ⟨_, rfl, r⟩
theorem Vals.zero : ∀ {us : List Value}, Vals [] us → us = []
  | _, .nil => rfl
theorem Vals.dropLast {xs : List V} {us : List Value} (h : Vals xs us) : Vals xs.dropLast us.dropLast := by
  induction h with
  | nil => exact .nil
  | cons r t ih =>
    cases t with
    | nil => exact .nil
    | cons q t' => exact .cons r ih
theorem Vals.eraseIdx : ∀ {xs : List V} {us : List Value} (i : Nat), Vals xs us → Vals (xs.eraseIdx i) (us.eraseIdx i)
  | _, _, _, .nil => .nil
  | _, _, 0, .cons _ t => t
  | _, _, i + 1, .cons r t => .cons r (Vals.eraseIdx i t)
theorem Vals.reverse {xs : List V} {us : List Value} (h : Vals xs us) : Vals xs.reverse us.reverse := by
  induction h with
  | nil => exact .nil
  | cons r t ih => rw [List.reverse_cons, List.reverse_cons]; exact Vals.append ih (.cons r .nil)
section
variable {X : Cx} {pins : List (Addr × Obj)} {σ : St} {H : Hp} {s : Shared} {l b : Addr} {xs ys zs : List V}
theorem Inv.lset {its its' : List Value} {n : Nat} {f : Array Value → Array Value} {t' : Nat} (I : Inv X pins σ H s) (hH : H l = some (.lst xs))
    (e : s.heap.get? l = some { cls := .type "list", data := .seq its.toArray n }) (hf : f its.toArray = its'.toArray) (hv : Vals ys its') (hz : ys.length ≤ sizeLine) :
    Inv X pins σ (upd H l (.lst ys)) { s with heap := s.heap.update l (Obj.mapSeq f), toks := t' } := by
  have q := PySem.IsL.update e f
  rw [hf] at q
  refine I.write (x := l) (e := l) (by rw [hH]; exact trivial) (.inl rfl) (fun b' u hb hu => (Heap.get?_update_other s.heap (Obj.mapSeq f) (Ne.symm hb)).trans hu) ⟨_, q⟩ ?_
  exact ⟨hz, its', _, hv, q⟩
theorem Inv.lnew {its : List Value} {t' : Nat} (I : Inv X pins σ H s) (hv : Vals ys its) (hz : ys.length ≤ sizeLine) :
    Inv X pins σ (upd H s.heap.objs.size (.lst ys)) { s with heap := s.heap.push { cls := .type "list", data := .seq its.toArray }, toks := t' } :=
  I.laid (fun _ _ q => Heap.get?_push_of_some _ q) (Nat.le_refl _) ⟨hz, its, 0, hv, Heap.get?_push_size _ rfl⟩
theorem Inv.fresh (I : Inv X pins σ H s) : H s.heap.objs.size = none := I.hok.fresh (Nat.le_refl _)
theorem Inv.lstM (I : Inv X pins σ H s) (hH : H l = some (.lst xs)) : xs.length ≤ sizeLine ∧ ∃ (its : List Value) (n : Nat), Vals xs its ∧ xs.length = its.length ∧ s.heap.get? l = some { cls := .type "list", data := .seq its.toArray n } := by
  obtain ⟨z, its, n, r, e⟩ := I.hok l _ hH
  exact ⟨z, its, n, r, r.length, e⟩
end
section
variable {X : Cx}
def rAppend : V → List V → Hp → VK → Prop := fun x vs H Q => ∃ l xs y, x = .ref l ∧ vs = [y] ∧ H l = some (.lst xs) ∧ xs.length < sizeLine ∧ Q .non (upd H l (.lst (xs ++ [y])))
theorem mt_append : MtM X "list.append" rAppend := by
  intro pins s σ H x vs v us Q I rx rv h
  obtain ⟨l, xs, y, rfl, rfl, hH, hz, q⟩ := h
  cases rx
  obtain ⟨u, rfl, ru⟩ := rv.one
  obtain ⟨z, its, n, r, hl, e⟩ := I.lstM hH
  refine call_meets F.slot_list_append ⟨_, e, rfl⟩ F.entry_list_append (F.args_list_append_2 _ _) (PySem.list_append l its.toArray n u (by rw [List.size_toArray]; omega)) ⟨e, ?_⟩
  refine ⟨.non, _, I.lset (its' := its ++ [u]) hH e (by simp) (r.append (.cons ru .nil)) ?_, rfl, q⟩
  rw [List.length_append, List.length_singleton]
  omega
def rExtend : V → List V → Hp → VK → Prop := fun x vs H Q => ∃ l b xs zs, x = .ref l ∧ vs = [.ref b] ∧ H l = some (.lst xs) ∧ H b = some (.lst zs) ∧ xs.length + zs.length ≤ sizeLine ∧ Q .non (upd H l (.lst (xs ++ zs)))
def rPop : V → List V → Hp → VK → Prop := fun x vs H Q => ∃ l xs y, x = .ref l ∧ vs = [] ∧ H l = some (.lst xs) ∧ xs[xs.length - 1]? = some y ∧ Q y (upd H l (.lst xs.dropLast))
def rPopAt : V → List V → Hp → VK → Prop := fun x vs H Q => ∃ l xs i k y, x = .ref l ∧ vs = [.int i] ∧ H l = some (.lst xs) ∧ -(2 ^ 63) ≤ i ∧ i < 2 ^ 63 ∧ seqIndex? i xs.length = some k ∧ xs[k]? = some y ∧ Q y (upd H l (.lst (xs.eraseIdx k)))
def rReverse : V → List V → Hp → VK → Prop := fun x vs H Q => ∃ l xs, x = .ref l ∧ vs = [] ∧ H l = some (.lst xs) ∧ Q .non (upd H l (.lst xs.reverse))
def rClear : V → List V → Hp → VK → Prop := fun x vs H Q => ∃ l xs, x = .ref l ∧ vs = [] ∧ H l = some (.lst xs) ∧ Q .non (upd H l (.lst []))
def rCat : R2 := fun x y H Q => ∃ l b xs zs, x = .ref l ∧ y = .ref b ∧ H l = some (.lst xs) ∧ H b = some (.lst zs) ∧ xs.length + zs.length ≤ sizeLine ∧ ∀ p, H p = none → Q (.ref p) (upd H p (.lst (xs ++ zs)))
def rRep : R2 := fun x y H Q => ∃ l k xs, x = .ref l ∧ y = .int k ∧ H l = some (.lst xs) ∧ -(2 ^ 63) ≤ k ∧ k < 2 ^ 63 ∧ xs.length * k.toNat ≤ sizeLine ∧
  ∀ p, H p = none → Q (.ref p) (upd H p (.lst (List.replicate k.toNat xs).flatten))
end
section
variable {prog : Program} {w : World} {A : Around} {E : Value → Shared → Prop} {s : Shared}
end
section
variable {X : Cx}
end
end L2
namespace L2
open PySem PySem.Spec PyProof.Rows
section
variable {κ : Type} [DecidableEq κ]
def valV (kvs : List (κ × V)) (k : κ) : Option V := (kvs.find? fun kv => decide (kv.1 = k)).map (·.2)
def putK (kvs : List (κ × V)) (k : κ) (v : V) : List (κ × V) :=
  if (kvs.any fun kv => decide (kv.1 = k)) = true then kvs.map (fun kv => if kv.1 = k then (kv.1, v) else kv) else kvs ++ [(k, v)]
def dropK (kvs : List (κ × V)) (k : κ) : List (κ × V) := kvs.filter fun kv => decide (kv.1 ≠ k)
theorem valV_pos {p : κ × V} {r : List (κ × V)} {k : κ} (e : p.1 = k) : valV (p :: r) k = some p.2 := by simp [valV, List.find?_cons, e]
theorem valV_neg {p : κ × V} {r : List (κ × V)} {k : κ} (e : ¬ p.1 = k) : valV (p :: r) k = valV r k := by simp [valV, List.find?_cons, e]
theorem valV_any (k : κ) : ∀ kvs : List (κ × V), (kvs.any fun kv => decide (kv.1 = k)) = (valV kvs k).isSome
  | [] => rfl
  | p :: r => by
    rw [List.any_cons]
    by_cases e : p.1 = k
    · simp only [valV_pos e, decide_eq_true e, Bool.true_or, Option.isSome_some]
    · rw [valV_neg e, decide_eq_false e, Bool.false_or]; exact valV_any k r
theorem length_putK (kvs : List (κ × V)) (k : κ) (v : V) : (putK kvs k v).length ≤ kvs.length + 1 := by
  unfold putK
  split
  · rw [List.length_map]; omega
  · rw [List.length_append, List.length_cons, List.length_nil]; omega
theorem RelO.isSome_eq {o : Option V} {u : Option Value} (r : RelO o u) : o.isSome = u.isSome := by
  cases o with
  | none => cases u with
    | none => rfl
    | some _ => exact (show False from r).elim
  | some _ => cases u with
    | none => exact (show False from r).elim
    | some _ => rfl
theorem RelO.getD {o : Option V} {u : Option Value} {d : V} {d' : Value} (r : RelO o u) (rd : RelV d d') : RelV (o.getD d) (u.getD d') := by
  cases o with
  | none => cases u with
    | none => exact rd
    | some _ => exact (show False from r).elim
  | some _ => cases u with
    | none => exact (show False from r).elim
    | some _ => exact r
theorem KV.val {kvs : List (κ × V)} {vs : List (κ × Value)} (r : KV kvs vs) (k : κ) : RelO (valV kvs k) (valueAt vs k) := by
  unfold KV at r
  induction r with
  | nil => exact True.intro
  | @cons p q ps qs h t ih =>
    obtain ⟨h1, h2⟩ := h
    by_cases e : p.1 = k
    · have e' : q.1 = k := h1.symm.trans e
      have b : valueAt (q :: qs) k = some q.2 := by simp [valueAt, List.find?_cons, e']
      rw [valV_pos e, b]; exact h2
    · have e' : ¬ q.1 = k := fun z => e (h1.trans z)
      have b : valueAt (q :: qs) k = valueAt qs k := by simp [valueAt, List.find?_cons, e']
      rw [valV_neg e, b]; exact ih
theorem KV.any {kvs : List (κ × V)} {vs : List (κ × Value)} (r : KV kvs vs) (k : κ) : (kvs.any fun kv => decide (kv.1 = k)) = vs.any fun kv => decide (kv.1 = k) := by
  unfold KV at r
  induction r with
  | nil => rfl
  | cons h t ih => rw [List.any_cons, List.any_cons, ih, h.1]
theorem KV.repl {kvs : List (κ × V)} {vs : List (κ × Value)} (r : KV kvs vs) (k : κ) {y : V} {u : Value} (ry : RelV y u) :
    KV (kvs.map fun kv => if kv.1 = k then (kv.1, y) else kv) (vs.map fun kv => if kv.1 = k then (kv.1, u) else kv) := by
  unfold KV at r ⊢
  induction r with
  | nil => exact .nil
  | @cons p q ps qs h t ih =>
    rw [List.map_cons, List.map_cons]
    refine .cons ?_ ih
    obtain ⟨h1, h2⟩ := h
    by_cases e : p.1 = k
    · rw [if_pos e, if_pos (h1.symm.trans e)]; exact ⟨h1, ry⟩
    · rw [if_neg e, if_neg (fun z => e (h1.trans z))]; exact ⟨h1, h2⟩
theorem KV.put {kvs : List (κ × V)} {vs : List (κ × Value)} (r : KV kvs vs) (k : κ) {y : V} {u : Value} (ry : RelV y u) : KV (putK kvs k y) (stored vs k u) := by
  unfold putK stored
  rw [r.any k]
  by_cases e : (vs.any fun kv => decide (kv.1 = k)) = true
  · rw [if_pos e, if_pos e]; exact r.repl k ry
  · rw [if_neg e, if_neg e]; exact Paired.snoc r ⟨rfl, ry⟩
theorem KV.drop {kvs : List (κ × V)} {vs : List (κ × Value)} (r : KV kvs vs) (k : κ) : KV (dropK kvs k) (without vs k) := by
  unfold KV at r ⊢
  unfold dropK without
  induction r with
  | nil => exact .nil
  | @cons p q ps qs h t ih =>
    obtain ⟨h1, h2⟩ := h
    rw [List.filter_cons, List.filter_cons]
    by_cases e : p.1 = k
    · have a : ¬ decide (p.1 ≠ k) = true := by simp [e]
      have b : ¬ decide (q.1 ≠ k) = true := by simp [h1.symm.trans e]
      rw [if_neg a, if_neg b]; exact ih
    · have e' : ¬ q.1 = k := fun z => e (h1.trans z)
      have a : decide (p.1 ≠ k) = true := by simp [e]
      have b : decide (q.1 ≠ k) = true := by simp [e']
      rw [if_pos a, if_pos b]; exact .cons ⟨h1, h2⟩ ih
theorem KV.keys {kvs : List (κ × V)} {vs : List (κ × Value)} (r : KV kvs vs) : kvs.map (·.1) = vs.map (·.1) := by
  unfold KV at r
  induction r with
  | nil => rfl
  | cons h t ih => rw [List.map_cons, List.map_cons, ih, h.1]
theorem KV.length {kvs : List (κ × V)} {vs : List (κ × Value)} (r : KV kvs vs) : kvs.length = vs.length := Paired.length r
end
theorem kV_is {P : Program} {w : World} {k : Key} {u : Value} (r : RelV (kV k) u) : (mixKind P w).is k u = true := by
  cases k with
  | inl i => obtain ⟨t, e⟩ := (show ∃ t, u = Value.int i t from r); subst e; exact mixKind_int P w i t
  | inr x => obtain ⟨t, e⟩ := (show ∃ t, u = Value.str x t from r); subst e; exact mixKind_str P w x t
theorem items_are {P : Program} {w : World} : ∀ {ks : List Key} {us : List Value}, Vals (ks.map kV) us → ItemsAre (mixKind P w) ks us
  | [], _, r => by rw [List.map_nil] at r; cases r; exact .nil
  | k :: ks, _, r => by
    rw [List.map_cons] at r
    cases r with
    | cons h t => exact .cons (kV_is h) (items_are t)
abbrev KT (H : Hp) : List (List Key × V) → List (List Key × Addr × Value) → Prop := Paired fun p q => p.1 = q.1 ∧ H q.2.1 = some (.tup (p.1.map kV)) ∧ RelV p.2 q.2.2
theorem KT.val {H : Hp} {kvs : List (List Key × V)} {xs : List (List Key × Addr × Value)} (r : KT H kvs xs) (k : List Key) : RelO (valV kvs k) ((atKey xs k).map (·.2)) := by
  induction r with
  | nil => exact True.intro
  | @cons p q ps qs h t ih =>
    obtain ⟨h1, _, h2⟩ := h
    by_cases e : p.1 = k
    · have e' : q.1 = k := h1.symm.trans e
      have b : atKey (q :: qs) k = some q.2 := by simp [atKey, List.find?_cons, e']
      rw [valV_pos e, b]; exact h2
    · have e' : ¬ q.1 = k := fun z => e (h1.trans z)
      have b : atKey (q :: qs) k = atKey qs k := by simp [atKey, List.find?_cons, e']
      rw [valV_neg e, b]; exact ih
theorem KT.repl {H : Hp} {kvs : List (List Key × V)} {xs : List (List Key × Addr × Value)} (r : KT H kvs xs) (k : List Key) {y : V} {u : Value} (ry : RelV y u) :
    KT H (kvs.map fun kv => if kv.1 = k then (kv.1, y) else kv) (xs.map (putAt k u)) := by
  induction r with
  | nil => exact .nil
  | @cons p q ps qs h t ih =>
    rw [List.map_cons, List.map_cons]
    refine .cons ?_ ih
    obtain ⟨h1, h2, h3⟩ := h
    unfold putAt
    by_cases e : p.1 = k
    · rw [if_pos e, if_pos (h1.symm.trans e)]; exact ⟨h1, h2, ry⟩
    · rw [if_neg e, if_neg (fun z => e (h1.trans z))]; exact ⟨h1, h2, h3⟩
theorem KT.put {H : Hp} {kvs : List (List Key × V)} {xs : List (List Key × Addr × Value)} (r : KT H kvs xs) (k : List Key) {b : Addr} {y : V} {u : Value} (hb : H b = some (.tup (k.map kV))) (ry : RelV y u) :
    KT H (putK kvs k y) (storedH xs k b u) := by
  have e : (kvs.any fun kv => decide (kv.1 = k)) = (atKey xs k).isSome := by
    rw [valV_any, (r.val k).isSome_eq, Option.isSome_map]
  unfold putK storedH
  rw [e]
  by_cases q : (atKey xs k).isSome = true
  · rw [if_pos q, if_pos q]; exact r.repl k ry
  · rw [if_neg q, if_neg q]; exact Paired.snoc r ⟨rfl, hb, ry⟩
theorem KT.keeps {H H' : Hp} {kvs : List (List Key × V)} {xs : List (List Key × Addr × Value)} (r : KT H kvs xs) (ht : ∀ b ys, H b = some (.tup ys) → H' b = some (.tup ys)) : KT H' kvs xs :=
  Paired.mapP r fun _ _ z => ⟨z.1, ht _ _ z.2.1, z.2.2⟩
section
variable {P : Program} {w : World} {H : Hp} {h : Heap} {a : Addr}
theorem rd_of {u : HO} (ok : HOk P w H h) (e : Rd H a u) : ObjOk P w H h a u := e.ok ok
theorem dk_rd {kvs : List (Key × V)} (ok : HOk P w H h) (e : Rd H a (.dK kvs)) : kvs.length ≤ sizeLine ∧ (a == sysModules) = false ∧ ∃ vs, KV kvs vs ∧ h.DictOf (mixKind P w) a vs :=
  show ObjOk P w H h a (.dK kvs) from rd_of ok e
theorem dk_of {kvs : List (Key × V)} (ok : HOk P w H h) (e : H a = some (.dK kvs)) : kvs.length ≤ sizeLine ∧ (a == sysModules) = false ∧ ∃ vs, KV kvs vs ∧ h.DictOf (mixKind P w) a vs := dk_rd ok (.inl e)
theorem key_of {ks : List Key} (ok : HOk P w H h) (e : H a = some (.tup (ks.map kV))) : (tupleKind (mixKind P w)).is h ks a := by
  obtain ⟨_, its, r, o, h1, h2, ⟨n, h3⟩, _⟩ := (show ObjOk P w H h a (.tup (ks.map kV)) from ok a _ e)
  exact ⟨o, its.toArray, n, h1, h2, h3, by simpa using items_are r⟩
theorem dt_rd {kvs : List (List Key × V)} (ok : HOk P w H h) (e : Rd H a (.dT kvs)) : kvs.length ≤ sizeLine ∧ (a == sysModules) = false ∧
    ∃ xs, KT H kvs xs ∧ h.DictOfH (tupleKind (mixKind P w)) a xs := by
  obtain ⟨z, y, xs, r, o, es, ep, h1, h2, h3, h4, h5⟩ := (show ObjOk P w H h a (.dT kvs) from rd_of ok e)
  refine ⟨z, y, xs, r, o, es, ep, h1, h2, h3, h4, fun x hx => ?_, h5⟩
  have all : ∀ {l : List (List Key × V)} {m : List (List Key × Addr × Value)}, KT H l m → ∀ x ∈ m, (tupleKind (mixKind P w)).is h x.1 x.2.1 := by
    intro l m q
    induction q with
    | nil => intro x hx; exact nomatch hx
    | @cons p q ps qs hq t ih =>
      intro x hx
      rcases List.mem_cons.mp hx with e | hx
      · subst e
        exact key_of ok (by rw [← hq.1]; exact hq.2.1)
      · exact ih x hx
  exact all r x hx
theorem dt_of {kvs : List (List Key × V)} (ok : HOk P w H h) (e : H a = some (.dT kvs)) : kvs.length ≤ sizeLine ∧ (a == sysModules) = false ∧
    ∃ xs, KT H kvs xs ∧ h.DictOfH (tupleKind (mixKind P w)) a xs := dt_rd ok (.inl e)
end
def DGet (H : Hp) (a : Addr) (y : V) (r : Option V) : Prop :=
  (∃ kvs k, Rd H a (.dK kvs) ∧ y = kV k ∧ r = valV kvs k) ∨ ∃ kvs k b, Rd H a (.dT kvs) ∧ y = .ref b ∧ H b = some (.tup (k.map kV)) ∧ r = valV kvs k
def DPut (H : Hp) (a : Addr) (y v : V) (H' : Hp) : Prop :=
  (∃ kvs k, H a = some (.dK kvs) ∧ y = kV k ∧ kvs.length < sizeLine ∧ H' = upd H a (.dK (putK kvs k v))) ∨
  ∃ kvs k b, H a = some (.dT kvs) ∧ y = .ref b ∧ H b = some (.tup (k.map kV)) ∧ kvs.length < sizeLine ∧ H' = upd H a (.dT (putK kvs k v))
theorem DGet.k {H : Hp} {a : Addr} {kvs : List (Key × V)} {k : Key} (e : H a = some (.dK kvs)) : DGet H a (kV k) (valV kvs k) := .inl ⟨kvs, k, .inl e, rfl, rfl⟩
theorem DGet.t {H : Hp} {a b : Addr} {kvs : List (List Key × V)} {k : List Key} (e : H a = some (.dT kvs)) (eb : H b = some (.tup (k.map kV))) : DGet H a (.ref b) (valV kvs k) := .inr ⟨kvs, k, b, .inl e, rfl, eb, rfl⟩
theorem DPut.k {H : Hp} {a : Addr} {kvs : List (Key × V)} {k : Key} {v : V} (e : H a = some (.dK kvs)) (hl : kvs.length < sizeLine) : DPut H a (kV k) v (upd H a (.dK (putK kvs k v))) := .inl ⟨kvs, k, e, rfl, hl, rfl⟩
theorem DPut.t {H : Hp} {a b : Addr} {kvs : List (List Key × V)} {k : List Key} {v : V} (e : H a = some (.dT kvs)) (eb : H b = some (.tup (k.map kV))) (hl : kvs.length < sizeLine) :
    DPut H a (.ref b) v (upd H a (.dT (putK kvs k v))) := .inr ⟨kvs, k, b, e, rfl, eb, hl, rfl⟩
section
variable {X : Cx} {pins : List (Addr × Obj)} {σ : St} {H : Hp} {s : Shared} {a : Addr} {y v : V} {u r : Value} {o : Option V} {A : Around} {E : Value → Shared → Prop}
theorem Inv.big (I : Inv X pins σ H s) : sysModules < s.heap.objs.size := by
  have h : mainGlobals < s.heap.objs.size := (I.mod.glob.keeps I.bk).lt
  exact Nat.lt_trans (by decide) h
theorem d_write {h' : Heap} {t' : Nat} {ob : HO} (I : Inv X pins σ H s) (mu : Mut (H a)) (hs : Heap.SameBut a s.heap h') (he : ∃ q, h'.get? a = some q) (new : ObjOk X.prog X.w (upd H a ob) h' a ob) :
    Inv X pins σ (upd H a ob) { s with heap := h', toks := t' } :=
  I.write (x := a) (e := a) mu (.inl rfl) (fun b q hb z => (hs.2 b hb).trans z) he new
theorem dk_new {P : Program} {w : World} {H' : Hp} {h' : Heap} {kvs : List (Key × V)} {vs : List (Key × Value)} (z : kvs.length ≤ sizeLine) (hd : (a == sysModules) = false) (rel : KV kvs vs) (dd : h'.DictOf (mixKind P w) a vs) :
    ObjOk P w H' h' a (.dK kvs) := ⟨z, hd, vs, rel, dd⟩
theorem d_setItem {H' : Hp} {Q : Unit → Shared → Prop} (hu : A.units + 1 < cLine) (I : Inv X pins σ H s) (g : DPut H a y v H') (ry : RelV y u) (rv : RelV v r) (h : ∀ s', Inv X pins σ H' s' → Q () s') :
    wpAny (model X.prog X.w) A (setItem (.ref a) u r) Q E s := by
  rcases g with ⟨kvs, k, e, ey, l, eH⟩ | ⟨kvs, k, b, e, ey, eb, l, eH⟩
  · subst ey eH
    obtain ⟨z, hd, vs, rel, dd⟩ := dk_of I.hok e
    have hz : vs.length ≤ sizeLine := by rw [← rel.length]; exact z
    have hl : (putK kvs k v).length ≤ sizeLine := by have := length_putK kvs k v; omega
    refine wpAny_setItem_pairs (hsz := hz) (kV_is ry) dd fun h' dd' hs => h _ ?_
    have he : ∃ q, h'.get? a = some q := let ⟨q, _, _, hq, _⟩ := dd'; ⟨q, hq⟩
    exact d_write I (by rw [e]; exact True.intro) hs he (dk_new hl hd (rel.put k rv) dd')
  · subst ey eH
    cases (show u = Value.ref b from ry)
    obtain ⟨z, hd, xs, rel, dd⟩ := dt_of I.hok e
    have hz : xs.length ≤ sizeLine := by rw [← Paired.length rel]; exact z
    have hl : (putK kvs k v).length ≤ sizeLine := by have := length_putK kvs k v; omega
    refine wpAny_setItem_heap (hsz := hz) (tupleKind_room_in1 hu) (key_of I.hok eb) dd fun h' dd' hs => h _ ?_
    obtain ⟨q, es, ep, hq, h2, h3, h4, _, h5⟩ := dd'
    refine d_write I (by rw [e]; exact True.intro) hs ⟨q, hq⟩ ⟨hl, hd, _, (rel.put k eb rv).keeps fun c ys ec => ?_, q, es, ep, hq, h2, h3, h4, h5⟩
    rw [upd_ne (ne_of ec e (fun z => nomatch z))]
    exact ec
end
section
variable {X : Cx} {pins : List (Addr × Obj)} {σ : St} {H : Hp} {s : Shared} {a : Addr} {kvs : List (Key × V)} {k : Key} {u : Value} {A : Around} {E : Value → Shared → Prop}
end
def NoSl (i : Expr) : Prop := ∀ ov iv, subscripted i false ov iv = operate [ov, iv] (getItem ov iv)
def tDGet (td ty : TE) : TE := fun σ H Q => td σ H fun x H1 => ty σ H1 fun y H2 => ∃ a v, x = .ref a ∧ DGet H2 a y (some v) ∧ Q v H2
def tDIn (ty td : TE) : TE := fun σ H Q => ty σ H fun y H1 => td σ H1 fun x H2 => ∃ a o, x = .ref a ∧ DGet H2 a y o ∧ Q (.bl o.isSome) H2
def tDNotIn (ty td : TE) : TE := fun σ H Q => ty σ H fun y H1 => td σ H1 fun x H2 => ∃ a o, x = .ref a ∧ DGet H2 a y o ∧ Q (.bl (!o.isSome)) H2
def sDPut (td ty tv : TE) : TS := fun D σ H => tv σ H fun v H1 => td σ H1 fun x H2 => ty σ H2 fun y H3 => ∃ a H4, x = .ref a ∧ DPut H3 a y v H4 ∧ D.nx σ H4
def sDAug (td ty tv : TE) (rd : V → V → Hp → VK → Prop) : TS := fun D σ H => td σ H fun x H1 => ty σ H1 fun y H2 => ∃ a v, x = .ref a ∧ DGet H2 a y (some v) ∧
  tv σ H2 fun y2 H3 => rd v y2 H3 fun z H4 => ∃ H5, DPut H4 a y z H5 ∧ D.nx σ H5
def sDDel (td ty : TE) : TS := fun D σ H => td σ H fun x H1 => ty σ H1 fun y H2 => ∃ a kvs k, x = .ref a ∧ H2 a = some (.dK kvs) ∧ y = kV k ∧ (valV kvs k).isSome = true ∧ D.nx σ (upd H2 a (.dK (dropK kvs k)))
section
variable {X : Cx} {o i e value : Expr} {pos pos' tpos : Pos} {td ty tv : TE}
theorem ps_dput (hu : X.A.units + 1 < cLine) (ho : PE X o td) (hi : PE X i ty) (hv : PE X value tv) (hs : swapsWith value (some (.Subscript o i pos')) pos.line X.env = pure false) :
    PS X (.Assign [.Subscript o i pos'] value pos) (sDPut td ty tv) := by
  intro pins s σ H D I h
  refine wpAny_Assign_Subscript (thn (hv pins s σ H _ I h) fun r s1 ⟨v, H1, I1, rv, q1⟩ => thn (ho pins s1 σ H1 _ I1 q1) fun u s2 ⟨x, H2, I2, rx, q2⟩ => thn (hi pins s2 σ H2 _ I2 q2) fun iv s3 ⟨y, H3, I3, ry, a, H4, ex, g, q3⟩ => ?_) hs
  subst ex
  obtain rfl : u = Value.ref a := rx
  exact d_setItem hu I3 g ry rv fun s4 I4 => ⟨σ, H4, I4, q3⟩
end
theorem dk_empty {P : Program} {w : World} {H : Hp} (h : Heap) (hb : sysModules < h.objs.size) : ObjOk P w H (h.push { cls := .type "dict", data := .dict #[] }) h.objs.size (.dK []) :=
  ⟨Nat.zero_le _, beq_eq_false_iff_ne.mpr (Ne.symm (Nat.ne_of_lt hb)), [], .nil, Heap.DictOf.new h⟩
def tDNewK : TE := fun _ H Q => ∀ p, H p = none → Q (.ref p) (upd H p (.dK []))
def tDNewT : TE := fun _ H Q => ∀ p, H p = none → Q (.ref p) (upd H p (.dT []))
section
variable {X : Cx} {pos : Pos}
theorem pe_dnewK : PE X (.Dict [] [] pos) tDNewK := fun pins s σ H Q I h =>
  wpAny_Dict_empty ⟨.ref s.heap.objs.size, _, I.laid (a := s.heap.objs.size) (o := .dK []) (t' := s.toks) (fun _ _ q => Heap.get?_push_of_some _ q) (Nat.le_refl _) (dk_empty s.heap I.big), rfl, h _ (I.hok.fresh (Nat.le_refl _))⟩
end
def tPairs : List (TE × TE) → St → Hp → (List (V × V) → Hp → Prop) → Prop
  | [], _, H, Q => Q [] H
  | (tk, tv) :: r, σ, H, Q => tk σ H fun x H1 => tv σ H1 fun y H2 => tPairs r σ H2 fun ps H3 => Q ((x, y) :: ps) H3
abbrev VV : List (V × V) → List (Value × Value) → Prop := Paired fun p q => RelV p.1 q.1 ∧ RelV p.2 q.2
def PPs (X : Cx) (pos : Pos) (keys : List (Option Expr)) (values : List Expr) (trs : List (TE × TE)) : Prop :=
  ∀ (pins : List (Addr × Obj)) (s : Shared) (σ : St) (H : Hp) (Q : List (V × V) → Hp → Prop), Inv X pins σ H s → tPairs trs σ H Q →
    wpAny (model X.prog X.w) X.A (evalPairs (pairTrees keys values X.env pos)) (fun vs s' => ∃ ps H', Inv X pins σ H' s' ∧ VV ps vs ∧ Q ps H') X.xe s
theorem pps_nil {X : Cx} {pos : Pos} : PPs X pos [] [] [] := fun pins s σ H Q I h => pairTrees_nil_walk ⟨[], H, I, .nil, h⟩
theorem pps_cons {X : Cx} {pos : Pos} {k v : Expr} {ks : List (Option Expr)} {vs : List Expr} {tk tv : TE} {trs : List (TE × TE)} (hk : PE X k tk) (hv : PE X v tv) (hr : PPs X pos ks vs trs) :
    PPs X pos (some k :: ks) (v :: vs) ((tk, tv) :: trs) := fun pins s σ H Q I h =>
  pairTrees_cons_walk (thn (hk pins s σ H _ I h) fun u s1 ⟨x, H1, I1, rx, q1⟩ => thn (hv pins s1 σ H1 _ I1 q1) fun w2 s2 ⟨y, H2, I2, ry, q2⟩ =>
    thn (hr pins s2 σ H2 _ I2 q2) fun ws s3 ⟨ps, H3, I3, rel, q3⟩ => ⟨(x, y) :: ps, H3, I3, .cons ⟨rx, ry⟩ rel, q3⟩)
def mergeK (kvs more : List (Key × V)) : List (Key × V) := more.foldl (fun acc kv => putK acc kv.1 kv.2) kvs
theorem KV.merge : ∀ {more : List (Key × V)} {rs : List (Key × Value)} {kvs : List (Key × V)} {vs : List (Key × Value)}, KV more rs → KV kvs vs → KV (mergeK kvs more) (merged vs rs) := by
  intro more rs kvs vs r
  unfold KV at r
  induction r generalizing kvs vs with
  | nil => intro q; exact q
  | @cons p q ps qs h t ih =>
    intro r0
    have e : KV (putK kvs p.1 p.2) (stored vs q.1 q.2) := by
      have := r0.put p.1 h.2
      rw [← h.1]; exact this
    exact ih e
theorem length_mergeK : ∀ (more kvs : List (Key × V)), (mergeK kvs more).length ≤ kvs.length + more.length
  | [], kvs => by show kvs.length ≤ kvs.length + 0; omega
  | p :: r, kvs => by
    have h1 := length_mergeK r (putK kvs p.1 p.2)
    have h2 := length_putK kvs p.1 p.2
    show (mergeK (putK kvs p.1 p.2) r).length ≤ _
    rw [List.length_cons]; omega
theorem carries_of {P : Program} {w : World} : ∀ {kvs : List (Key × V)} {ws : List (Value × Value)}, VV (kvs.map fun kv => (kV kv.1, kv.2)) ws → ∃ rs, Carries (mixKind P w) ws rs ∧ KV kvs rs
  | [], _, r => by rw [List.map_nil] at r; cases r; exact ⟨[], True.intro, .nil⟩
  | p :: kvs, _, r => by
    rw [List.map_cons] at r
    cases r with
    | @cons a b as bs h t =>
      obtain ⟨rs, c, q⟩ := carries_of (P := P) (w := w) t
      obtain ⟨b1, b2⟩ := b
      exact ⟨(p.1, b2) :: rs, ⟨kV_is h.1, rfl, c⟩, .cons ⟨rfl, h.2⟩ q⟩
def tDisp (trs : List (TE × TE)) : TE := fun σ H Q => ∀ p, H p = none → tPairs trs σ (upd H p (.dK [])) fun ps H2 => H2 p = some (.dK []) ∧ ∃ kvs : List (Key × V), ps = kvs.map (fun kv => (kV kv.1, kv.2)) ∧ kvs.length ≤ 15 ∧ Q (.ref p) (upd H2 p (.dK (mergeK [] kvs)))
theorem pe_disp {X : Cx} {pos : Pos} {keys : List (Option Expr)} {values : List Expr} {trs : List (TE × TE)} (h : PPs X pos keys values trs) (hall : keys.all (·.isSome) = true) (hl : keys.length = values.length) (h0 : keys ≠ [])
    (h15 : keys.length ≤ 15) : PE X (.Dict keys values pos) (tDisp trs) := by
  intro pins s σ H Q I q
  have hn := I.hok.fresh (Nat.le_refl s.heap.objs.size)
  have I1 := I.laid (a := s.heap.objs.size) (o := .dK []) (h' := s.heap.push { cls := .type "dict", data := .dict #[] }) (t' := s.toks) (fun _ _ q => Heap.get?_push_of_some _ q) (Nat.le_refl _) (dk_empty s.heap I.big)
  refine wpAny_Dict_walk (knd := mixKind X.prog X.w) hall hl h0 h15 (thn (h pins _ σ _ _ I1 (q _ hn)) fun ws s2 ⟨ps, H2, I2, rel, e, kvs, ep, lk, q2⟩ => ?_)
  subst ep
  obtain ⟨rs, c, rk⟩ := carries_of (P := X.prog) (w := X.w) rel
  obtain ⟨z, hd, vs0, r0, dd⟩ := dk_of I2.hok e
  cases r0
  refine ⟨rs, c, dd, fun h' dd' hs => ⟨.ref s.heap.objs.size, _, ?_, rfl, q2⟩⟩
  have hz : (mergeK [] kvs).length ≤ sizeLine := by
    have h1 := length_mergeK kvs []
    rw [List.length_nil] at h1
    rw [sizeLine_eq]; omega
  have he : ∃ q, h'.get? s.heap.objs.size = some q := let ⟨q, _, _, hq, _⟩ := dd'; ⟨q, hq⟩
  exact d_write I2 (by rw [e]; exact True.intro) hs he (dk_new hz hd (rk.merge .nil) dd')
structure M1 (X : Cx) (o : Expr) (m : Str) (apos : Pos) (e : Expr) (cpos : Pos) : Prop where
  base : attributeBase o m X.env (eval o X.env) = eval o X.env
  few : ((backTo cpos (starEach [e] X.env)).all (fun x => !x.1) && (backToKw cpos (keywordEach [] X.env)).all (fun x => x.1.isSome)
    && decide (([e] : List Expr).length + ([] : List Keyword).length + (if ([] : List Keyword).isEmpty then 0 else 1) < 30)) = true
  line : (apos.endLine == cpos.line) = true
  trees : backTo cpos (starEach [e] X.env) = [(false, eval e X.env)]
structure M2 (X : Cx) (o : Expr) (m : Str) (apos : Pos) (e f : Expr) (cpos : Pos) : Prop where
  base : attributeBase o m X.env (eval o X.env) = eval o X.env
  few : ((backTo cpos (starEach [e, f] X.env)).all (fun x => !x.1) && (backToKw cpos (keywordEach [] X.env)).all (fun x => x.1.isSome)
    && decide (([e, f] : List Expr).length + ([] : List Keyword).length + (if ([] : List Keyword).isEmpty then 0 else 1) < 30)) = true
  line : (apos.endLine == cpos.line) = true
  trees : backTo cpos (starEach [e, f] X.env) = [(false, eval e X.env), (false, eval f X.env)]
def IsD (H : Hp) (a : Addr) : Prop := (∃ kvs, Rd H a (.dK kvs)) ∨ ∃ kvs, Rd H a (.dT kvs)
section
variable {X : Cx} {pins : List (Addr × Obj)} {σ : St} {H : Hp} {s : Shared} {a : Addr} {y d : V} {u r : Value} {o : Option V} {A : Around} {E : Value → Shared → Prop}
end
def tDGet1 (td ty : TE) : TE := fun σ H Q => td σ H fun x H1 => ∃ a, x = .ref a ∧ IsD H1 a ∧ ty σ H1 fun y H2 => ∃ o, DGet H2 a y o ∧ Q (o.getD .non) H2
def tDGet2 (td ty tx : TE) : TE := fun σ H Q => td σ H fun x H1 => ∃ a, x = .ref a ∧ IsD H1 a ∧ ty σ H1 fun y H2 => tx σ H2 fun z H3 => ∃ o, DGet H3 a y o ∧ Q (o.getD z) H3
def tDPop1 (td ty : TE) : TE := fun σ H Q => td σ H fun x H1 => ∃ a, x = .ref a ∧ IsD H1 a ∧ ty σ H1 fun y H2 => ∃ kvs k v, H2 a = some (.dK kvs) ∧ y = kV k ∧ valV kvs k = some v ∧ Q v (upd H2 a (.dK (dropK kvs k)))
def tDPop2 (td ty tx : TE) : TE := fun σ H Q => td σ H fun x H1 => ∃ a, x = .ref a ∧ IsD H1 a ∧ ty σ H1 fun y H2 => tx σ H2 fun z H3 => ∃ kvs k, H3 a = some (.dK kvs) ∧ y = kV k ∧
  (∀ v, valV kvs k = some v → Q v (upd H3 a (.dK (dropK kvs k)))) ∧ (valV kvs k = none → Q z H3)
section
variable {X : Cx} {o e f : Expr} {apos cpos : Pos} {td ty tx : TE}
end
section
variable {X : Cx} {pins : List (Addr × Obj)} {σ : St} {H : Hp} {s : Shared} {a : Addr} {kvs : List (Key × V)} {A : Around} {E : Value → Shared → Prop}
end
section
variable {X : Cx} {pins : List (Addr × Obj)} {σ : St} {H : Hp} {s : Shared} {a : Addr} {y : V} {u : Value} {A : Around} {E : Value → Shared → Prop}
end
end L2
namespace Att
open PySem PySem.W PySem.Calls PyProof.Rows
theorem ints_of_wellAll {P : Params} {h : Heap} : ∀ (ns : List Int) (vs : List Value), WellAll P h vs (ns.map WData.int) → IntsAre vs ns := by
  intro ns
  induction ns with
  | nil =>
    intro vs w
    rw [List.map_nil] at w
    cases w
    exact .nil
  | cons n ns ih =>
    intro vs w
    rw [List.map_cons] at w
    cases w with
    | cons a b =>
      cases a
      exact .cons _ _ (ih _ b)
theorem script_of {l : OpenLaw} {n : Nat} (hn : l.most = some n) {P : Params} {h : Heap} {args : List WData} {vals : List Value}
    (hpre : l.row.toRowW.claim.pre args = true) (hwl : WellAll P h vals args) :
    ∃ a vs ns, vals = [Value.ref a] ∧ args = [WData.list (ns.map WData.int)] ∧ h.get? a = some { cls := .type "list", data := .seq vs.toArray } ∧ IntsAre vs ns ∧ ns.length ≤ n := by
  have hsh : WShape.hasAll [] args [.list .int] = true := (pre_splitW hpre).1
  have hc : l.pre.holds [] { args := args } = true := (pre_splitW hpre).2
  obtain ⟨d, r, rfl, h1, h2⟩ := hasAllW_cons hsh
  obtain rfl := hasAllW_nil h2
  obtain ⟨xs, rfl, h3⟩ := hasW_list h1
  obtain ⟨ns, rfl⟩ := items_int h3
  have hlen : ns.length ≤ n := by
    unfold OpenLaw.pre at hc
    have h4 : (WTm.not (.lt (.lit (.int (n : Int))) (.len (.arg 0)))).holds [] { args := [.list (ns.map .int)] } = true := by
      have h4 := (holds_andW hc).1
      rw [hn] at h4
      exact h4
    have h5 := condW_of h4 (w_not (w_lt w_lit (w_len_list (w_arg rfl))))
    rw [List.length_map] at h5
    refine Nat.le_of_not_lt fun q => ?_
    have q' : (n : Int) < ((ns.length : Nat) : Int) := by omega
    first
      | (rw [decide_eq_true q'] at h5; exact absurd h5 (by decide))
      | (simp at h5; omega)
  cases hwl with
  | cons w1 w2 =>
    cases w2
    cases w1 with
    | list ho hall => exact ⟨_, _, ns, rfl, rfl, ho, ints_of_wellAll ns _ hall, hlen⟩
theorem post_true (l : OpenLaw) (args : List WData) : l.row.toRowW.claim.post args (.bool true) args = true :=
  postW_of (r := l.row.toRowW) (X := (true == true))
    (show WShape.has [] (.bool true) .bool = true by first | rfl | decide | simp [WShape.has, WShape.arms, WShape.armsAll])
    (show (WTm.eq .res (.lit (.bool true))).value [] { args := args, res := some (.bool true), after := args } = some (.bool (true == true)) from w_eq_bool (w_res rfl) w_lit) rfl
theorem attach_call {l : OpenLaw} {n : Nat} {q : Program} {loose : List Str} {XP : (Str → Option Value) → Heap → Prop} {YP : World → Heap → Prop} {d : DefRec}
    (hn : l.most = some n) (hdf : d.params.defaults = [])
    (call : ∀ (w : World) (s₀ s₁ : Shared) (mg mb : Str → Option Value) (fa : Addr) (o : Obj) (pm cd doc : Value) (a : Addr) (vs : List Value) (ns : List Int),
      Ground q loose [] XP w s₀ mg mb s₁.heap → YP w s₁.heap →
      s₁.heap.get? fa = some o → o.data = .func (docDef d.name d.params d.body d.scope pm cd doc) → s₁.heap.CodeRec cd d.name → mg d.name = some (.ref fa) →
      s₁.heap.get? a = some { cls := .type "list", data := .seq vs.toArray } → IntsAre vs ns → ns.length ≤ n → s₁.gens = #[] →
      codeAny (model l.prog w) callerA (.call (.ref fa) ⟨[.ref a], []⟩) (fun r s' => r = .ok (.ret (.bool true)) ∧ OldK s₁.heap s'.heap ∧ s'.os = s₁.os ∧ AllBare s'.gens) s₁) :
    WalkO q loose XP YP l.row.toRowW d [] (fun f vs => PySem.call f vs) := by
  intro w s₀ s₁ mg mb G Y fa o pm cd doc dV kV ho hd hcd hD hmg hg args vals as hpre hlay hrd hwl hlo
  obtain rfl : dV = .none := Dflts.none hD hdf
  obtain rfl : kV = .none := Dflts.noKw hD
  obtain ⟨a, vs, ns, rfl, rfl, hobj, hints, hlen⟩ := script_of hn hpre hwl
  refine enter_call (codeAny_mono (call w s₀ s₁ mg mb fa o pm cd doc a vs ns G Y ho (fd_plain hd) hcd hmg hobj hints hlen hg) fun r s' hq => ?_)
  obtain ⟨rfl, h2, h3, h4⟩ := hq
  exact ⟨.inl ⟨.bool true, .bool true, [], rfl, fun _ => rfl, .bool true, post_true l _, fun _ => ⟨List.Pairwise.nil, fun _ hm => (nomatch hm)⟩⟩, h2, h3, h4⟩
section
variable {prog : Program} {w : World} {A : Around} {E : Value → Shared → Prop} {s : Shared} {K : Frag}
def noObjs (h : Heap) : Heap := { h with objs := #[] }
def ledger (h : Heap) (L d : Addr) : List (Addr × Obj) := (List.range h.objs.size).filterMap fun a => if a = L ∨ a = d then none else (h.get? a).map fun o => (a, o)
end
end Att
namespace L2
open PySem PySem.Spec PyProof.Rows
theorem vals_ints : ∀ {vs : List Value} {ns : List Int}, IntsAre vs ns → Vals (ns.map V.int) vs
  | _, _, .nil => .nil
  | _, _, .cons n t h => .cons ⟨t, rfl⟩ (vals_ints h)
def Only (H : Hp) : Prop := ∀ b, H b = none ∨ ∃ o xs, H b = some (.frz o (.lst xs))
end L2
namespace L2
open PySem PySem.Spec PyProof.Rows
abbrev KOf {K : PySem.W.Frag} {h : Heap} (_ : K.In h) : PySem.W.Frag := K
end L2
namespace L2
open PySem PySem.Spec PyProof.Rows
def inClass (s : Stmt) (j : Nat) : Stmt := match s with
  | .ClassDef _ _ _ body _ _ _ _ _ _ _ => body.getD j (.Pass ⟨0, 0, 0, 0⟩)
  | _ => .Pass ⟨0, 0, 0, 0⟩
def defArgs (s : Stmt) : Arguments := match s with
  | .FunctionDef _ a _ _ _ _ _ _ _ _ => a
  | _ => { posonlyargs := [], args := [], vararg := none, kwonlyargs := [], kw_defaults := [], kwarg := none, defaults := [] }
def defBody (s : Stmt) : List Stmt := match s with
  | .FunctionDef _ _ b _ _ _ _ _ _ _ => b
  | _ => []
def defScope (s : Stmt) : Scope := match s with
  | .FunctionDef _ _ _ _ _ _ sc _ _ _ => sc
  | _ => { kind := .function, names := [], isGenerator := false, isCoroutine := false }
abbrev CX0 : CXT := fun _ _ _ _ _ _ => False
abbrev E0 : XK := fun _ _ _ => False
theorem pass0 {X : Cx} : Passes CX0 X E0 := fun _ _ _ _ _ _ _ h => h.elim
structure Fun (K : PySem.W.Frag) (x qual : Str) (st : Stmt) (f : Addr) (fd : FuncData) : Prop where
  ex : ∃ (oc : Value) (od : Option Addr) (kV doc pm : Value) (an : Option Addr) (cdv ct : Value) (osl : Array (Option Value)),
    fd = PySem.W.fnOf x qual (defArgs st) (defBody st) (defScope st) .none kV doc pm an cdv ct ∧ K.lookup f = some ⟨oc, od, .func fd, osl⟩ ∧ PySem.W.codeIn K cdv qual = true
  kp : PySem.W.keepIn K (.ref f) = true
section
variable {P : Program} {w : World} {K : PySem.W.Frag} {mg : Str → Option Value} {base : Heap}
theorem Fun.ok {x qual : Str} {st : Stmt} {f : Addr} {fd : FuncData} {N ps : List Str} {k : Nat} {sp : Sp} (F : Fun K x qual st f fd) (S : FnScope N ps (defScope st)) (len : ∀ vs H Q E, sp vs H Q E → vs.length = ps.length)
    (hbody : ∀ (cdv : Value) (A : Around) (outer : List Env) (s : Shared) (H : Hp) (vs : List V) (Q : VK) (E : XK), Room k (A.deeper (envOfC qual (defScope st) s.heap.objs.size f cdv)) → sp vs H Q E →
      ∃ t, PSs (cxOf CX0 P w K mg base N qual (defScope st) f cdv A outer s H E).nox (defBody st) t ∧ t { nx := fun _ H' => Q .non H', rt := Q } (start N vs) H) : FnOk P w K mg base CX0 (k + 1) f fd ps sp := by
  obtain ⟨oc, od, kV, doc, pm, an, cdv, ct, osl, rfl, lk, hcd⟩ := F.ex
  refine fn_of lk hcd S len fun A outer s H vs Q E hr hsp => ?_
  obtain ⟨t, h, q⟩ := hbody cdv A outer s H vs Q E hr hsp
  exact ⟨t, h.nox, q⟩
theorem Fun.binds {x qual : Str} {st : Stmt} {f : Addr} {fd : FuncData} {ps : List Str} (F : Fun K x qual st f fd)
    (h : ∀ (kV doc pm : Value) (an : Option Addr) (cdv ct : Value) (us : List Value), us.length = ps.length → bindArgs (PySem.W.fnOf x qual (defArgs st) (defBody st) (defScope st) .none kV doc pm an cdv ct) ⟨us, []⟩ = pure (ps.zip us)) : Binds K fd ps [] := by
  obtain ⟨oc, od, kV, doc, pm, an, cdv, ct, osl, rfl, lk, hcd⟩ := F.ex
  exact .all (h kV doc pm an cdv ct)
theorem fun_mk {x qual : Str} {st : Stmt} {f : Addr} {oc : Value} {od an : Option Addr} {osl : Array (Option Value)} {kV doc pm cdv ct : Value} (l : K.lookup f = some ⟨oc, od, .func (PySem.W.fnOf x qual (defArgs st) (defBody st) (defScope st) .none kV doc pm an cdv ct), osl⟩)
    (c : PySem.W.codeIn K cdv qual = true) (k : PySem.W.keepIn K (.ref f) = true) : Fun K x qual st f (PySem.W.fnOf x qual (defArgs st) (defBody st) (defScope st) .none kV doc pm an cdv ct) := ⟨⟨oc, od, kV, doc, pm, an, cdv, ct, osl, rfl, l, c⟩, k⟩
end
section
variable {X : Cx}
theorem pv (i : Nat) {x : Str} {pos : Pos} (hN : X.N[i]? = some x := by rfl) (hv : Vis X.env.scope x := by first | exact Or.inl rfl | exact Or.inr (Or.inl rfl) | exact Or.inr (Or.inr rfl)) (hd : (x == ("__debug__" : Str)) = false := by decide)
    (hcd : (x == ("__classdict__" : Str)) = false := by decide) : PE X (.Name x pos) (tVar i) := pe_var hN hv hd hcd
end
theorem iteF {A B : Prop} (h : B) : if false = true then A else B := by
  rw [if_neg Bool.false_ne_true]
  exact h
theorem iteT {A B : Prop} (h : A) : if true = true then A else B := by
  rw [if_pos rfl]
  exact h
def Same (H H' : Hp) : Prop := ∀ b o, H b = some o → H' b = some o
theorem Same.refl (H : Hp) : Same H H := fun _ _ h => h
theorem Same.trans {H H1 H2 : Hp} (a : Same H H1) (b : Same H1 H2) : Same H H2 := fun c o h => b c o (a c o h)
theorem Same.free {H H' : Hp} (e : Same H H') {l : Addr} (h : H' l = Option.none) : H l = Option.none := by
  cases q : H l with
  | none => rfl
  | some o =>
    rw [e l o q] at h
    cases h
theorem Same.seq {K : PySem.W.Frag} {H H' : Hp} {a : Addr} {xs : List V} (e : Same H H') (h : SqL K H a xs) : SqL K H' a xs := by
  rcases h with (h | ⟨o, h⟩) | h
  · exact .inl (.inl (e _ _ h))
  · exact .inl (.inr ⟨o, e _ _ h⟩)
  · exact .inr h
section
variable {κ : Type} [DecidableEq κ]
end
end L2
end
section
namespace PU
theorem join_str (s : PySem.Str) (l : List PySem.Str) : PySem.Txt.join s l = PySem.Str.join s l := PySem.StrLaws.glued_eq_join s l
end PU
end
section
namespace PU
open PySem L2
inductive PV where
  | non | bl (b : Bool) | int (i : Int) | str (x : Str)
  | tup (ps : List PV) | lst (ps : List PV)
  | dct (ks : List Key) (ps : List PV) | dtt (ks : List (List Key)) (ps : List PV)
structure PX where
  cls : Str
  args : List PV
inductive R (α : Type) where
  | ok (a : α) | er (x : PX) | no
namespace R
protected def bind {α β : Type} : R α → (α → R β) → R β
  | ok a, f => f a
  | er x, _ => er x
  | no, _ => no
instance : Monad R where
  pure := R.ok
  bind := R.bind
@[simp] theorem ok_bind {α β : Type} (a : α) (f : α → R β) : (R.ok a >>= f) = f a := rfl
@[simp] theorem er_bind {α β : Type} (x : PX) (f : α → R β) : ((R.er x : R α) >>= f) = R.er x := rfl
@[simp] theorem no_bind {α β : Type} (f : α → R β) : ((R.no : R α) >>= f) = R.no := rfl
@[simp] theorem pure_eq {α : Type} (a : α) : (pure a : R α) = R.ok a := rfl
def ofO {α : Type} : Option α → R α
  | some a => ok a
  | none => no
@[simp] theorem ofO_some {α : Type} (a : α) : ofO (some a) = R.ok a := rfl
@[simp] theorem ofO_none {α : Type} : ofO (none : Option α) = R.no := rfl
theorem bind_assoc {α β γ : Type} (r : R α) (f : α → R β) (g : β → R γ) : ((r >>= f) >>= g) = (r >>= fun a => f a >>= g) := by cases r <;> rfl
end R
inductive Sl where
  | no | val (p : PV) | own (p : PV)
abbrev PSt := List Sl
def getV (i : Nat) (ρ : PSt) : R PV := match ρ[i]? with
  | some (.val p) => .ok p
  | _ => .no
def getO (i : Nat) (ρ : PSt) : R PV := match ρ[i]? with
  | some (.val p) => .ok p
  | some (.own p) => .ok p
  | _ => .no
def kI (i : Int) : PSt → R PV := fun _ => .ok (.int i)
def kB (b : Bool) : PSt → R PV := fun _ => .ok (.bl b)
def kN : PSt → R PV := fun _ => .ok .non
def kS (x : Str) : PSt → R PV := fun _ => .ok (.str x)
def kP (p : PV) : PSt → R PV := fun _ => .ok p
def nilA : PSt → R (List PV) := fun _ => .ok []
def consA (f : PSt → R PV) (fs : PSt → R (List PV)) : PSt → R (List PV) := fun ρ => f ρ >>= fun p => fs ρ >>= fun ps => .ok (p :: ps)
def guardL (ps : List PV) : R (List PV) := if ps.length ≤ 16777216 then .ok ps else .no
def tupF (fs : PSt → R (List PV)) : PSt → R PV := fun ρ => fs ρ >>= fun ps => guardL ps >>= fun ps => .ok (.tup ps)
def lstF (fs : PSt → R (List PV)) : PSt → R PV := fun ρ => fs ρ >>= fun ps => guardL ps >>= fun ps => .ok (.lst ps)
def bin2 (fa fb : PSt → R PV) (g : PV → PV → Option PV) : PSt → R PV := fun ρ => fa ρ >>= fun p => fb ρ >>= fun q => R.ofO (g p q)
def chain2 (fa fb fc : PSt → R PV) (g g' : PV → PV → Option PV) : PSt → R PV := fun ρ => fa ρ >>= fun p => fb ρ >>= fun q => R.ofO (g p q) >>= fun z => match z with
  | .bl true => fc ρ >>= fun r => R.ofO (g' q r)
  | .bl false => .ok (.bl false)
  | _ => .no
def truB : PV → Option Bool
  | .non => some false
  | .bl b => some b
  | .int i => some (i != 0)
  | .str y => if y.length ≤ 16777216 then some ((y.length : Int) != 0) else none
  | .tup ps => some (!ps.isEmpty)
  | .lst ps => some (!ps.isEmpty)
  | .dct ks _ => some (!ks.isEmpty)
  | .dtt _ _ => none
def truF (f : PSt → R PV) : PSt → R Bool := fun ρ => f ρ >>= fun p => R.ofO (truB p)
def gAdd : PV → PV → Option PV
  | .int i, .int j => some (.int (i + j))
  | .str x, .str y => if x.length + y.length ≤ 16777216 then some (.str (x ++ y)) else none
  | .lst ps, .lst qs => if ps.length + qs.length ≤ 16777216 then some (.lst (ps ++ qs)) else none
  | .tup ps, .tup qs => if ps.length + qs.length ≤ 16777216 then some (.tup (ps ++ qs)) else none
  | _, _ => none
def gSub : PV → PV → Option PV
  | .int i, .int j => some (.int (i - j))
  | _, _ => none
def gMul : PV → PV → Option PV
  | .int i, .int j => if i.natAbs < 18446744073709551616 ∨ j.natAbs < 18446744073709551616 then some (.int (i * j)) else none
  | _, _ => none
def gDiv : PV → PV → Option PV
  | .int i, .int j => if 0 < j ∧ j < 1073741824 then some (.int (i / j)) else none
  | _, _ => none
def gMod : PV → PV → Option PV
  | .int i, .int j => if 0 < j then some (.int (i % j)) else none
  | _, _ => none
inductive Fl where
  | next (ρ : PSt) | brk (ρ : PSt) | cont (ρ : PSt) | ret (p : PV)
def seqF (g g' : PSt → R Fl) : PSt → R Fl := fun ρ => g ρ >>= fun fl => match fl with
  | .next ρ' => g' ρ'
  | .brk ρ' => .ok (.brk ρ')
  | .cont ρ' => .ok (.cont ρ')
  | .ret p => .ok (.ret p)
def nextF : PSt → R Fl := fun ρ => .ok (.next ρ)
def exprF (f : PSt → R PV) : PSt → R Fl := fun ρ => f ρ >>= fun _ => .ok (.next ρ)
def retF (f : PSt → R PV) : PSt → R Fl := fun ρ => f ρ >>= fun p => .ok (.ret p)
def ifF (t : PSt → R Bool) (g g' : PSt → R Fl) : PSt → R Fl := fun ρ => t ρ >>= fun k => if k = true then g ρ else g' ρ
def setF (i : Nat) (f : PSt → R PV) : PSt → R Fl := fun ρ => f ρ >>= fun p => .ok (.next (ρ.set i (.val p)))
def ownF (i : Nat) (f : PSt → R PV) : PSt → R Fl := fun ρ => f ρ >>= fun p => .ok (.next (ρ.set i (.own p)))
def brkF : PSt → R Fl := fun ρ => .ok (.brk ρ)
def contF : PSt → R Fl := fun ρ => .ok (.cont ρ)
def noF : PSt → R Fl := fun _ => .no
def frzF (i : Nat) (ρ : PSt) : PSt := match ρ[i]? with
  | some (.own p) => ρ.set i (.val p)
  | _ => ρ
def frzS (i : Nat) (g : PSt → R Fl) : PSt → R Fl := fun ρ => g (frzF i ρ)
abbrev Tgt := PV → PSt → Option PSt
abbrev Tgts := List PV → PSt → Option PSt
def nameT (i : Nat) : Tgt := fun p ρ => some (ρ.set i (.val p))
def nilT : Tgts := fun ps ρ => match ps with
  | [] => some ρ
  | _ :: _ => none
def consT (h : Tgt) (h' : Tgts) : Tgts := fun ps ρ => match ps with
  | p :: r => (h p ρ).bind fun ρ1 => h' r ρ1
  | [] => none
def tupT (n : Nat) (h : Tgts) : Tgt := fun p ρ => match p with
  | .tup ps => if ps.length = n then h ps ρ else none
  | _ => none
def forF (h : PV → PSt → Option PSt) (g : PSt → R Fl) : List PV → PSt → R Fl
  | [], ρ => .ok (.next ρ)
  | p :: ps, ρ => R.ofO (h p ρ) >>= fun ρ1 => g ρ1 >>= fun fl => match fl with
    | .next ρ2 => forF h g ps ρ2
    | .cont ρ2 => forF h g ps ρ2
    | .brk ρ2 => .ok (.next ρ2)
    | .ret q => .ok (.ret q)
def forS (fi : PSt → R (List PV)) (h : Tgt) (g : PSt → R Fl) : PSt → R Fl := fun ρ => fi ρ >>= fun ps => forF h g ps ρ
def callF (fs : PSt → R (List PV)) (F : List PV → Option PV) : PSt → R PV := fun ρ => fs ρ >>= fun ps => R.ofO (F ps)
def start (n : Nat) (ps : List PV) : PSt := ps.map Sl.val ++ List.replicate (n - ps.length) .no
def runF (m n : Nat) (g : PSt → R Fl) (ps : List PV) : Option PV := if ps.length = m then (match g (start n ps) with
  | .ok (.ret p) => some p
  | .ok (.next _) => some .non
  | _ => none) else none
def roS : Option Sl → Sl
  | some (.val p) => .val p
  | _ => .no
def compE (nt : Nat) (idx : List Nat) (ρ : PSt) : PSt := List.replicate nt .no ++ idx.map fun i => roS ρ[i]?
def compL (h : Tgt) (t : PSt → R Bool) (fe : PSt → R PV) (ρ : PSt) : List PV → R (List PV)
  | [] => .ok []
  | p :: ps => R.ofO (h p ρ) >>= fun ρ1 => t ρ1 >>= fun b => if b = true then fe ρ1 >>= fun q => compL h t fe ρ ps >>= fun qs => .ok (q :: qs) else compL h t fe ρ ps
def noEr {α : Type} : R α → R α
  | .ok a => .ok a
  | _ => .no
def compF (fi : PSt → R (List PV)) (h : Tgt) (t : PSt → R Bool) (fe : PSt → R PV) (nt : Nat) (idx : List Nat) : PSt → R PV :=
  fun ρ => fi ρ >>= fun ps => noEr (compL h t fe (compE nt idx ρ) ps) >>= fun qs => guardL qs >>= fun qs => .ok (.lst qs)
def yesB : PSt → R Bool := fun _ => .ok true
mutual
def peqO : PV → PV → Option Bool
  | .non, q => match q with
    | .non => some true | .bl _ => some false | .int _ => some false | .str _ => some false | .tup _ => some false | .lst _ => some false | _ => none
  | .bl a, q => match q with
    | .bl b => some (a == b) | .int b => some ((if a then 1 else 0) == b) | .non => some false | .str _ => some false | .tup _ => some false | .lst _ => some false | _ => none
  | .int a, q => match q with
    | .int b => some (a == b) | .bl b => some (a == (if b then 1 else 0)) | .non => some false | .str _ => some false | .tup _ => some false | .lst _ => some false | _ => none
  | .str a, q => match q with
    | .str b => some (a == b) | .non => some false | .bl _ => some false | .int _ => some false | .tup _ => some false | .lst _ => some false | _ => none
  | .tup ps, q => match q with
    | .tup qs => peqsO ps qs | .non => some false | .bl _ => some false | .int _ => some false | .str _ => some false | .lst _ => some false | _ => none
  | .lst ps, q => match q with
    | .lst qs => peqsO ps qs | .non => some false | .bl _ => some false | .int _ => some false | .str _ => some false | .tup _ => some false | _ => none
  | _, _ => none
def peqsO : List PV → List PV → Option Bool
  | [], [] => some true
  | [], _ :: _ => some false
  | _ :: _, [] => some false
  | p :: ps, q :: qs => (peqO p q).bind fun a => (peqsO ps qs).bind fun b => some (a && b)
end
mutual
def pdep : PV → Nat
  | .tup ps => pdeps ps + 1
  | .lst ps => pdeps ps + 1
  | .dct _ ps => pdeps ps + 1
  | .dtt _ ps => pdeps ps + 1
  | _ => 0
def pdeps : List PV → Nat
  | [] => 0
  | p :: ps => max (pdep p) (pdeps ps)
end
def pairB (ps qs : List PV) (j : Nat) : Bool := match ps[j]?, qs[j]? with
  | some p, some q => (peqO p q).getD false
  | _, _ => false
def isSc : PV → Bool
  | .non => true | .bl _ => true | .int _ => true | .str _ => true
  | _ => false
def scV : PV → V
  | .bl b => .bl b | .int i => .int i | .str x => .str x
  | _ => .non
def lookP : List Key → List PV → Key → Option PV
  | k :: ks, p :: ps, j => if k = j then some p else lookP ks ps j
  | _, _, _ => none
def hitsP (e : PV → PV → Option Bool) : List Key → List PV → List Key → List PV → Option Bool
  | k :: ks, p :: ps, ls, qs => match lookP ls qs k with
    | none => some false
    | some q => (e p q).bind fun a => (hitsP e ks ps ls qs).bind fun b => some (a && b)
  | [], [], _, _ => some true
  | _, _, _, _ => none
def peqN : Nat → PV → PV → Option Bool
  | n + 1, .dct ks ps, .dct ls qs => if ks.length = ls.length then hitsP (peqN n) ks ps ls qs else some false
  | _, p, q => peqO p q
def gEq : PV → PV → Option PV
  | .dct ks ps, .dct ls qs => if pdeps ps ≤ 60 then (peqN 3 (.dct ks ps) (.dct ls qs)).map .bl else none
  | .tup ps, .tup qs => if pdeps ps ≤ 60 then (peqsO ps qs).map .bl else none
  | .lst ps, .lst qs => if pdeps ps ≤ 60 then (peqsO ps qs).map .bl else none
  | p, q => if isSc p = true ∧ isSc q = true ∧ scal (scV p) (scV q) = true then some (.bl (decide (scV p = scV q))) else none
def gNe : PV → PV → Option PV
  | .tup ps, .tup qs => if pdeps ps ≤ 60 then (peqsO ps qs).map fun b => .bl (!b) else none
  | .lst ps, .lst qs => if pdeps ps ≤ 60 then (peqsO ps qs).map fun b => .bl (!b) else none
  | p, q => if isSc p = true ∧ isSc q = true ∧ scal (scV p) (scV q) = true then some (.bl (!decide (scV p = scV q))) else none
def gLt : PV → PV → Option PV
  | .int i, .int j => some (.bl (decide (i < j)))
  | .str x, .str y => some (.bl (decide (x.cps.toList < y.cps.toList)))
  | _, _ => none
def gLe : PV → PV → Option PV
  | .int i, .int j => some (.bl (decide (i ≤ j)))
  | .str x, .str y => some (.bl (!decide (y.cps.toList < x.cps.toList)))
  | _, _ => none
def gGt : PV → PV → Option PV
  | .int i, .int j => some (.bl (decide (j < i)))
  | _, _ => none
def gGe : PV → PV → Option PV
  | .int i, .int j => some (.bl (decide (j ≤ i)))
  | _, _ => none
def isNon : PV → Bool
  | .non => true
  | _ => false
def gIsN : PV → PV → Option PV
  | p, .non => some (.bl (isNon p))
  | _, _ => none
def gNotN : PV → PV → Option PV
  | p, .non => some (.bl (!isNon p))
  | _, _ => none
def toKey : PV → Option Key
  | .int i => some (.inl i)
  | .str x => some (.inr x)
  | _ => none
def gCat : PV → PV → Option PV
  | .lst ps, .lst qs => if ps.length + qs.length ≤ 16777216 then some (.lst (ps ++ qs)) else none
  | _, _ => none
def gIx : PV → PV → Option PV
  | .lst ps, .int i => atI ps i
  | .tup ps, .int i => atI ps i
  | .str z, .int i => if z.length ≤ 16777216 then (atI z.cps.toList i).map fun c => .str ⟨#[c]⟩ else none
  | .dct ks ps, k => (toKey k).bind fun k => lookP ks ps k
  | _, _ => none
def inS (x y : Str) : Bool := !(Builtin.Str.occurrences y x 0 y.length 1).isEmpty
def gIn : PV → PV → Option PV
  | .str x, .str y => some (.bl (inS x y))
  | p, .lst qs => if isSc p = true ∧ qs.all isSc = true then some (.bl (inV (scV p) (qs.map scV))) else none
  | p, .tup qs => if isSc p = true ∧ qs.all isSc = true then some (.bl (inV (scV p) (qs.map scV))) else none
  | p, .dct ks _ => (toKey p).map fun k => .bl (ks.any fun j => decide (j = k))
  | _, _ => none
def gNotIn (p q : PV) : Option PV := (gIn p q).bind fun z => match z with
  | .bl b => some (.bl (!b))
  | _ => none
def andB (t u : PSt → R Bool) : PSt → R Bool := fun ρ => t ρ >>= fun c => if c = true then u ρ else .ok false
def orB (t u : PSt → R Bool) : PSt → R Bool := fun ρ => t ρ >>= fun c => if c = true then .ok true else u ρ
def notB (t : PSt → R Bool) : PSt → R Bool := fun ρ => t ρ >>= fun c => .ok (!c)
def andV (fa fb : PSt → R PV) : PSt → R PV := fun ρ => fa ρ >>= fun p => match p with
  | .bl true => fb ρ
  | .bl false => .ok (.bl false)
  | _ => .no
def orV (fa fb : PSt → R PV) : PSt → R PV := fun ρ => fa ρ >>= fun p => match p with
  | .bl true => .ok (.bl true)
  | .bl false => fb ρ
  | _ => .no
def notV (fa : PSt → R PV) : PSt → R PV := fun ρ => fa ρ >>= fun p => match p with
  | .bl b => .ok (.bl (!b))
  | _ => .no
def ifV (t : PSt → R Bool) (fa fb : PSt → R PV) : PSt → R PV := fun ρ => t ρ >>= fun c => if c = true then fa ρ else fb ρ
def un1 (f : PSt → R PV) (g : PV → Option PV) : PSt → R PV := fun ρ => f ρ >>= fun p => R.ofO (g p)
def gLen : PV → Option PV
  | .lst ps => some (.int ps.length)
  | .tup ps => some (.int ps.length)
  | .str x => if x.length ≤ 16777216 then some (.int x.length) else none
  | .dct ks _ => some (.int ks.length)
  | _ => none
def gInt : PV → Option PV
  | .int i => some (.int i)
  | .bl b => some (.int (if b then 1 else 0))
  | _ => none
def gTuple : PV → Option PV
  | .lst ps => some (.tup ps)
  | .tup ps => some (.tup ps)
  | _ => none
def gList : PV → Option PV
  | .lst ps => some (.lst ps)
  | .tup ps => some (.lst ps)
  | _ => none
def gOrd : PV → Option PV
  | .str x => if x.length = 1 then some (.int (x.cps.getD 0 0 : Nat)) else none
  | _ => none
def keyP : Key → PV
  | .inl i => .int i
  | .inr x => .str x
def signsP (x : Str) : List PV := x.cps.toList.map fun c => .str ⟨#[c]⟩
def iterP : PV → Option (List PV)
  | .lst ps => some ps
  | .tup ps => some ps
  | .dct ks _ => some (ks.map keyP)
  | .str x => some (signsP x)
  | _ => none
def itF (f : PSt → R PV) : PSt → R (List PV) := fun ρ => f ρ >>= fun p => R.ofO (iterP p)
def rangeP (lo : Int) (n : Nat) : List PV := (List.range n).map fun i => .int (lo + (i : Nat))
def rng1 (f : PSt → R PV) : PSt → R (List PV) := fun ρ => f ρ >>= fun p => match p with
  | .int j => if j.natAbs < 1000000000 then .ok (rangeP 0 j.toNat) else .no
  | _ => .no
def rng2 (f f2 : PSt → R PV) : PSt → R (List PV) := fun ρ => f ρ >>= fun p => f2 ρ >>= fun q => match p, q with
  | .int i, .int j => if i.natAbs < 1000000000 ∧ j.natAbs < 1000000000 then .ok (rangeP i (j - i).toNat) else .no
  | _, _ => .no
def appF (i : Nat) (f : PSt → R PV) : PSt → R Fl := fun ρ => match ρ[i]? with
  | some (.own (.lst ps)) => f ρ >>= fun p => if ps.length < 16777216 then .ok (.next (ρ.set i (.own (.lst (ps ++ [p]))))) else .no
  | _ => .no
def numP (ps : List PV) : List (List PV) := (List.range ps.length).zipWith (fun (i : Nat) p => [.int (i : Int), p]) ps
def enumP : PV → Option (List PV)
  | .lst ps => some ((numP ps).map .tup)
  | .str x => some ((numP (signsP x)).map .tup)
  | _ => none
def enumF (f : PSt → R PV) : PSt → R (List PV) := fun ρ => f ρ >>= fun p => R.ofO (enumP p)
def pairsP (ks : List Key) (ps : List PV) : List (List PV) := ks.zipWith (fun k p => [keyP k, p]) ps
def itemsP : PV → Option (List PV)
  | .dct ks ps => if ks.length = ps.length then some ((pairsP ks ps).map .tup) else none
  | _ => none
def itemsF (f : PSt → R PV) : PSt → R (List PV) := fun ρ => f ρ >>= fun p => R.ofO (itemsP p)
def tyN : PV → String
  | .non => "NoneType" | .bl _ => "bool" | .int _ => "int" | .str _ => "str" | .tup _ => "tuple" | .lst _ => "list" | .dct _ _ => "dict" | .dtt _ _ => "dict"
def isiB (t c : String) : Bool := t == c || (t == "bool" && c == "int")
def gIsi (c : String) (p : PV) : Option PV := some (.bl (isiB (tyN p) c))
def gStr : PV → Option PV
  | .int i => if i.natAbs.log2 < 1920 then some (.str (toString i)) else none
  | .str x => some (.str x)
  | _ => none
def gNeg : PV → Option PV
  | .int i => some (.int (-i))
  | _ => none
def isStr : PV → Bool
  | .str _ => true
  | _ => false
def meth1 (fo fe : PSt → R PV) (g : PV → PV → Option PV) : PSt → R PV := fun ρ => fo ρ >>= fun p => if isStr p = true then fe ρ >>= fun q => R.ofO (g p q) else .no
def allStr : List PV → Option (List Str)
  | [] => some []
  | .str x :: r => (allStr r).map (x :: ·)
  | _ :: _ => none
def insS (x : Str) : List Str → List Str
  | [] => [x]
  | y :: r => if x = y then y :: r else if x.cps.toList < y.cps.toList then x :: y :: r else y :: insS x r
def sortS (l : List Str) : List Str := l.foldr insS []
def gSortSet : PV → Option PV
  | .lst ps => (allStr ps).bind fun ys => if ys.length < 64 then some (.lst ((sortS ys).map .str)) else none
  | _ => none
def gJoin : PV → PV → Option PV
  | .str x, .lst ps => (allStr ps).bind fun ys => if (ys.map (·.length)).sum + ys.length * x.length ≤ 16777216 then some (.str (Txt.join x ys)) else none
  | .str x, .tup ps => (allStr ps).bind fun ys => if (ys.map (·.length)).sum + ys.length * x.length ≤ 16777216 then some (.str (Txt.join x ys)) else none
  | _, _ => none
def cutP {α : Type} (xs : List α) (lo hi : Option Int) : List α := (xs.drop (HT.sIx xs.length 0 lo)).take (HT.sIx xs.length xs.length hi - HT.sIx xs.length 0 lo)
def gSl : PV → Option Int → Option Int → Option PV
  | .lst ps, lo, hi => some (.lst (cutP ps lo hi))
  | .tup ps, lo, hi => if HT.sIx ps.length 0 lo = 0 ∧ HT.sIx ps.length ps.length hi = ps.length then none else some (.tup (cutP ps lo hi))
  | _, _, _ => none
def noPart : PSt → R (Option Int) := fun _ => .ok none
def aPart (f : PSt → R PV) : PSt → R (Option Int) := fun ρ => f ρ >>= fun p => match p with
  | .int i => .ok (some i)
  | _ => .no
def sliceF (f : PSt → R PV) (l h : PSt → R (Option Int)) : PSt → R PV := fun ρ => f ρ >>= fun p => l ρ >>= fun lo => h ρ >>= fun hi => R.ofO (gSl p lo hi)
def unpF (f : PSt → R PV) (h : Tgt) : PSt → R Fl := fun ρ => f ρ >>= fun p => R.ofO (h p ρ) >>= fun ρ' => .ok (.next ρ')
def replP (ks : List Key) (ps : List PV) (k : Key) (p : PV) : List PV := ks.zipWith (fun j q => if j = k then p else q) ps
def putP (ks : List Key) (ps : List PV) (k : Key) (p : PV) : PV := if (ks.any fun j => decide (j = k)) = true then .dct ks (replP ks ps k p) else .dct (ks ++ [k]) (ps ++ [p])
def putF (i : Nat) (fk fv : PSt → R PV) : PSt → R Fl := fun ρ => match ρ[i]? with
  | some (.own (.dct ks ps)) => fv ρ >>= fun p => fk ρ >>= fun kp => R.ofO (toKey kp) >>= fun k => if ks.length < 16777216 then .ok (.next (ρ.set i (.own (putP ks ps k p)))) else .no
  | _ => .no
def newD : PSt → R PV := fun _ => .ok (.dct [] [])
def nilD : PSt → R (List (Key × PV)) := fun _ => .ok []
def consD (fk fv : PSt → R PV) (f : PSt → R (List (Key × PV))) : PSt → R (List (Key × PV)) := fun ρ => fk ρ >>= fun kp => R.ofO (toKey kp) >>= fun k => fv ρ >>= fun p => f ρ >>= fun r => .ok ((k, p) :: r)
def mergeP (kps : List (Key × PV)) : PV := kps.foldl (fun d kp => match d with
  | .dct ks ps => putP ks ps kp.1 kp.2
  | d => d) (.dct [] [])
def dictF (f : PSt → R (List (Key × PV))) : PSt → R PV := fun ρ => f ρ >>= fun kps => if kps.length ≤ 15 then .ok (mergeP kps) else .no
end PU
end
section
namespace PU
open PySem PySem.Spec PyProof.Rows L2
def notStar : Expr → Bool
  | .Starred .. => false
  | _ => true
theorem star_cons {e : Expr} {es : List Expr} {env : Env} (h : notStar e = true) : starEach (e :: es) env = (false, eval e env) :: starEach es env := by
  cases e <;> first | rfl | cases h
theorem star_one {e : Expr} {env : Env} (h : notStar e = true) : starEach [e] env = [(false, eval e env)] := star_cons h
theorem star_two {e e2 : Expr} {env : Env} (h : notStar e = true) (h2 : notStar e2 = true) : starEach [e, e2] env = [(false, eval e env), (false, eval e2 env)] := (star_cons h).trans (congrArg _ (star_one h2))
theorem star_any {pos : Pos} {es : List Expr} {env : Env} (h : es.all notStar = true) : (backTo pos (starEach es env)).any (·.1) = false := by
  have : ∀ es : List Expr, es.all notStar = true → (starEach es env).any (·.1) = false := by
    intro es
    induction es with
    | nil => intro _; rfl
    | cons e es ih =>
      intro h
      simp only [List.all_cons, Bool.and_eq_true] at h
      rw [star_cons h.1, List.any_cons, ih h.2]
      rfl
  have h2 := this es h
  have h3 : (backTo pos (starEach es env)).map (·.1) = (starEach es env).map (·.1) := by
    unfold backTo
    simp [List.map_map, Function.comp_def]
  have : (backTo pos (starEach es env)).any (·.1) = ((backTo pos (starEach es env)).map (·.1)).any id := by rw [List.any_map]; rfl
  rw [this, h3, List.any_map]
  exact h2
class TW where
  w : World
variable [TW]
def KList (K : PySem.W.Frag) (a : Addr) (xs : List V) : Prop :=
  ∃ (its : List Value) (n : Nat), K.lookup a = some { cls := .type "list", data := .seq its.toArray n } ∧ xs.length ≤ sizeLine ∧ Vals xs its
def KDict (K : PySem.W.Frag) (a : Addr) (kvs : List (Key × V)) : Prop :=
  kvs.length ≤ sizeLine ∧ (a == sysModules) = false ∧ ∃ (o : Obj) (es : Array DictEntry) (ep : Nat), K.lookup a = some o ∧ o.ExactDict ∧ o.data = .dict es ep ∧
    ∀ P : Program, ∃ vs, KV kvs vs ∧ PySem.KeysOf (mixKind P TW.w) es ∧ Pairs (mixKind P TW.w) es.toList vs ∧ (vs.map (·.1)).Nodup
theorem KDict.at {K : PySem.W.Frag} {a : Addr} {kvs : List (Key × V)} (h : KDict K a kvs) (P : Program) (w : World) (hw : w = TW.w) (hp : Heap) (hk : K.In hp) : ∃ vs, KV kvs vs ∧ hp.DictOf (mixKind P w) a vs := by
  subst hw
  obtain ⟨_, _, o, es, ep, e, x, d, r⟩ := h
  obtain ⟨vs, r1, r2⟩ := r P
  exact ⟨vs, r1, o, es, ep, hk _ _ e, x, d, r2⟩
def SqO (K : PySem.W.Frag) (H : Hp) (a : Addr) (xs : List V) : Prop := Rd H a (.lst xs) ∨ KList K a xs
theorem SqO.l {K : PySem.W.Frag} {H : Hp} {a : Addr} {xs : List V} (h : SqO K H a xs) : SqL K H a xs := by
  rcases h with h | ⟨its, n, e, z, r⟩
  · exact .inl h
  · exact .inr ⟨_, its.toArray, n, e, rfl, rfl, rfl, by rw [List.size_toArray, ← r.length]; exact z, by simpa using r⟩
theorem SqO.is {X : Cx} {pins : List (Addr × Obj)} {σ : L2.St} {H : Hp} {s : Shared} {a : Addr} {xs : List V} (I : Inv X pins σ H s) (h : SqO X.K H a xs) :
    xs.length ≤ sizeLine ∧ ∃ (its : List Value) (n : Nat), Vals xs its ∧ s.heap.get? a = some { cls := .type "list", data := .seq its.toArray n } := by
  rcases h with h | ⟨its, n, e, z, r⟩
  · obtain ⟨z, its, n, r, e⟩ := h.ok I.hok
    exact ⟨z, its, n, r, e⟩
  · exact ⟨z, its, n, r, I.kIn _ _ e⟩
def SqF (K : PySem.W.Frag) (H : Hp) (a : Addr) (xs : List V) : Prop := (∃ o, H a = some (.frz o (.lst xs))) ∨ KList K a xs
def DkF (K : PySem.W.Frag) (H : Hp) (a : Addr) (kvs : List (Key × V)) : Prop := (∃ o, H a = some (.frz o (.dK kvs))) ∨ KDict K a kvs
def DkR (K : PySem.W.Frag) (H : Hp) (a : Addr) (kvs : List (Key × V)) : Prop := Rd H a (.dK kvs) ∨ KDict K a kvs
theorem SqF.l {K : PySem.W.Frag} {H : Hp} {a : Addr} {xs : List V} (h : SqF K H a xs) : SqO K H a xs := by
  rcases h with h | h
  · exact .inl (.inr h)
  · exact .inr h
theorem DkF.r {K : PySem.W.Frag} {H : Hp} {a : Addr} {kvs : List (Key × V)} (h : DkF K H a kvs) : DkR K H a kvs := by
  rcases h with h | h
  · exact .inl (.inr h)
  · exact .inr h
mutual
def Rep (K : PySem.W.Frag) (H : Hp) : PV → V → Prop
  | .non, v => v = .non
  | .bl b, v => v = .bl b
  | .int i, v => v = .int i
  | .str x, v => v = .str x
  | .tup ps, v => ∃ a xs, v = .ref a ∧ SqT K H a xs ∧ Reps K H ps xs
  | .lst ps, v => ∃ a xs, v = .ref a ∧ SqF K H a xs ∧ Reps K H ps xs
  | .dct ks ps, v => ∃ a kvs, v = .ref a ∧ DkF K H a kvs ∧ kvs.map (·.1) = ks ∧ Reps K H ps (kvs.map (·.2))
  | .dtt ks ps, v => ∃ a o kvs, v = .ref a ∧ H a = some (.frz o (.dT kvs)) ∧ kvs.map (·.1) = ks ∧ Reps K H ps (kvs.map (·.2))
def Reps (K : PySem.W.Frag) (H : Hp) : List PV → List V → Prop
  | [], xs => xs = []
  | p :: ps, xs => ∃ x r, xs = x :: r ∧ Rep K H p x ∧ Reps K H ps r
end
def RepO (K : PySem.W.Frag) (H : Hp) : PV → V → Prop
  | .lst ps, v => ∃ a xs, v = .ref a ∧ SqO K H a xs ∧ Reps K H ps xs
  | .dct ks ps, v => ∃ a kvs, v = .ref a ∧ DkR K H a kvs ∧ kvs.map (·.1) = ks ∧ Reps K H ps (kvs.map (·.2))
  | .dtt ks ps, v => ∃ a kvs, v = .ref a ∧ Rd H a (.dT kvs) ∧ kvs.map (·.1) = ks ∧ Reps K H ps (kvs.map (·.2))
  | p, v => Rep K H p v
def NewAt (K : PySem.W.Frag) (H : Hp) (a : Addr) : PV → Prop
  | .lst ps => ∃ xs, H a = some (.lst xs) ∧ Reps K H ps xs
  | .dct ks ps => ∃ kvs, H a = some (.dK kvs) ∧ kvs.map (·.1) = ks ∧ Reps K H ps (kvs.map (·.2))
  | .dtt ks ps => ∃ kvs, H a = some (.dT kvs) ∧ kvs.map (·.1) = ks ∧ Reps K H ps (kvs.map (·.2))
  | _ => False
def isFz : HO → Bool
  | .frz _ _ => true
  | .tup _ => true
  | _ => false
def Kp (H H' : Hp) : Prop := ∀ b u, H b = some u → isFz u = true → H' b = some u
theorem Same.kp {H H' : Hp} (h : Same H H') : Kp H H' := fun b u e _ => h b u e
theorem Kp.refl (H : Hp) : Kp H H := fun _ _ e _ => e
theorem Kp.trans {H H1 H2 : Hp} (h : Kp H H1) (k : Kp H1 H2) : Kp H H2 := fun b u e f => k b u (h b u e f) f
theorem Kp.upd {H : Hp} {a : Addr} {u o : HO} (h : H a = some u) (f : isFz u = false) : Kp H (upd H a o) := fun b w e g => by
  have : b ≠ a := fun z => by
    subst z
    rw [h] at e
    cases e
    rw [f] at g
    cases g
  rw [upd_ne this]
  exact e
theorem Kp.sqT {K : PySem.W.Frag} {H H' : Hp} (k : Kp H H') {a : Addr} {xs : List V} (h : SqT K H a xs) : SqT K H' a xs := by
  rcases h with (h | ⟨o, h⟩) | h
  · exact .inl (.inl (k _ _ h rfl))
  · exact .inl (.inr ⟨o, k _ _ h rfl⟩)
  · exact .inr h
theorem Kp.sqF {K : PySem.W.Frag} {H H' : Hp} (k : Kp H H') {a : Addr} {xs : List V} (h : SqF K H a xs) : SqF K H' a xs := by
  rcases h with ⟨o, h⟩ | h
  · exact .inl ⟨o, k _ _ h rfl⟩
  · exact .inr h
theorem Kp.dkF {K : PySem.W.Frag} {H H' : Hp} (k : Kp H H') {a : Addr} {kvs : List (Key × V)} (h : DkF K H a kvs) : DkF K H' a kvs := by
  rcases h with ⟨o, h⟩ | h
  · exact .inl ⟨o, k _ _ h rfl⟩
  · exact .inr h
mutual
theorem Rep.kp {K : PySem.W.Frag} {H H' : Hp} (k : Kp H H') : ∀ (p : PV) {v : V}, Rep K H p v → Rep K H' p v
  | .non, _, h => h
  | .bl _, _, h => h
  | .int _, _, h => h
  | .str _, _, h => h
  | .tup ps, _, ⟨a, xs, e, h, r⟩ => ⟨a, xs, e, k.sqT h, Reps.kp k ps r⟩
  | .lst ps, _, ⟨a, xs, e, h, r⟩ => ⟨a, xs, e, k.sqF h, Reps.kp k ps r⟩
  | .dct ks ps, _, ⟨a, kvs, e, h, ek, r⟩ => ⟨a, kvs, e, k.dkF h, ek, Reps.kp k ps r⟩
  | .dtt ks ps, _, ⟨a, o, kvs, e, h, ek, r⟩ => ⟨a, o, kvs, e, k _ _ h rfl, ek, Reps.kp k ps r⟩
theorem Reps.kp {K : PySem.W.Frag} {H H' : Hp} (k : Kp H H') : ∀ (ps : List PV) {xs : List V}, Reps K H ps xs → Reps K H' ps xs
  | [], _, h => h
  | p :: ps, _, ⟨x, r, e, h, t⟩ => ⟨x, r, e, Rep.kp k p h, Reps.kp k ps t⟩
end
section
variable {K : PySem.W.Frag} {H H' : Hp} {p : PV} {ps qs : List PV} {v : V} {xs ys : List V} {a : Addr}
theorem Rep.same (h : Rep K H p v) (s : Same H H') : Rep K H' p v := Rep.kp (Same.kp s) p h
theorem Reps.same (h : Reps K H ps xs) (s : Same H H') : Reps K H' ps xs := Reps.kp (Same.kp s) ps h
theorem RepO.same (h : RepO K H p v) (s : Same H H') : RepO K H' p v := by
  cases p with
  | lst ps =>
    obtain ⟨a, xs, e, q, r⟩ := h
    refine ⟨a, xs, e, ?_, r.same s⟩
    rcases q with (q | ⟨o, q⟩) | q
    · exact .inl (.inl (s _ _ q))
    · exact .inl (.inr ⟨o, s _ _ q⟩)
    · exact .inr q
  | dct ks ps =>
    obtain ⟨a, kvs, e, q, ek, r⟩ := h
    refine ⟨a, kvs, e, ?_, ek, r.same s⟩
    rcases q with (q | ⟨o, q⟩) | q
    · exact .inl (.inl (s _ _ q))
    · exact .inl (.inr ⟨o, s _ _ q⟩)
    · exact .inr q
  | dtt ks ps =>
    obtain ⟨a, kvs, e, q, ek, r⟩ := h
    refine ⟨a, kvs, e, ?_, ek, r.same s⟩
    rcases q with q | ⟨o, q⟩
    · exact .inl (s _ _ q)
    · exact .inr ⟨o, s _ _ q⟩
  | _ => exact Rep.same h s
theorem NewAt.same (h : NewAt K H a p) (s : Same H H') : NewAt K H' a p := by
  cases p with
  | lst ps =>
    obtain ⟨xs, q, r⟩ := h
    exact ⟨xs, s _ _ q, r.same s⟩
  | dct ks ps =>
    obtain ⟨kvs, q, ek, r⟩ := h
    exact ⟨kvs, s _ _ q, ek, r.same s⟩
  | dtt ks ps =>
    obtain ⟨kvs, q, ek, r⟩ := h
    exact ⟨kvs, s _ _ q, ek, r.same s⟩
  | _ => exact h
theorem Rep.o (h : Rep K H p v) : RepO K H p v := by
  cases p with
  | lst ps =>
    obtain ⟨a, xs, e, q, r⟩ := h
    exact ⟨a, xs, e, q.l, r⟩
  | dct ks ps =>
    obtain ⟨a, kvs, e, q, ek, r⟩ := h
    exact ⟨a, kvs, e, q.r, ek, r⟩
  | dtt ks ps =>
    obtain ⟨a, o, kvs, e, q, ek, r⟩ := h
    exact ⟨a, kvs, e, .inr ⟨o, q⟩, ek, r⟩
  | _ => exact h
theorem NewAt.o (h : NewAt K H a p) : RepO K H p (.ref a) := by
  cases p with
  | lst ps =>
    obtain ⟨xs, q, r⟩ := h
    exact ⟨a, xs, rfl, .inl (.inl q), r⟩
  | dct ks ps =>
    obtain ⟨kvs, q, ek, r⟩ := h
    exact ⟨a, kvs, rfl, .inl (.inl q), ek, r⟩
  | dtt ks ps =>
    obtain ⟨kvs, q, ek, r⟩ := h
    exact ⟨a, kvs, rfl, .inl q, ek, r⟩
  | _ => exact False.elim h
theorem Reps.length : ∀ {ps : List PV} {xs : List V}, Reps K H ps xs → ps.length = xs.length
  | [], _, h => by cases h; rfl
  | p :: ps, _, ⟨x, r, e, _, t⟩ => by subst e; simp [Reps.length t]
theorem Reps.nil : Reps K H [] [] := rfl
theorem Reps.cons (h : Rep K H p v) (t : Reps K H ps xs) : Reps K H (p :: ps) (v :: xs) := ⟨v, xs, rfl, h, t⟩
theorem Reps.append : ∀ {ps qs : List PV} {xs ys : List V}, Reps K H ps xs → Reps K H qs ys → Reps K H (ps ++ qs) (xs ++ ys)
  | [], _, _, _, h, k => by cases h; exact k
  | p :: ps, _, _, _, ⟨x, r, e, h, t⟩, k => by subst e; exact ⟨x, _, rfl, h, Reps.append t k⟩
theorem Reps.get : ∀ {ps : List PV} {xs : List V} {i : Nat} {p : PV}, Reps K H ps xs → ps[i]? = some p → ∃ x, xs[i]? = some x ∧ Rep K H p x
  | [], _, _, _, _, e => by simp at e
  | p :: ps, _, 0, _, ⟨x, r, e, h, t⟩, q => by
    subst e
    simp at q
    subst q
    exact ⟨x, rfl, h⟩
  | p :: ps, _, i + 1, q, ⟨x, r, e, h, t⟩, z => by
    subst e
    obtain ⟨y, h1, h2⟩ := Reps.get (i := i) (p := q) t (by simpa using z)
    exact ⟨y, by simpa using h1, h2⟩
theorem Reps.getV : ∀ {ps : List PV} {xs : List V} {i : Nat} {x : V}, Reps K H ps xs → xs[i]? = some x → ∃ p, ps[i]? = some p ∧ Rep K H p x := fun {ps xs i x} r e => by
  have h1 : i < xs.length := (List.getElem?_eq_some_iff.mp e).1
  rw [← r.length] at h1
  obtain ⟨y, e2, rp⟩ := r.get (i := i) (p := ps[i]) (by simp [h1])
  rw [e] at e2
  cases e2
  exact ⟨_, by simp [h1], rp⟩
theorem Reps.take : ∀ {ps : List PV} {xs : List V} (n : Nat), Reps K H ps xs → Reps K H (ps.take n) (xs.take n)
  | _, _, 0, _ => by simp; rfl
  | [], _, n + 1, h => by cases h; rfl
  | p :: ps, _, n + 1, ⟨x, r, e, h, t⟩ => by subst e; exact ⟨x, _, rfl, h, Reps.take n t⟩
theorem Reps.drop : ∀ {ps : List PV} {xs : List V} (n : Nat), Reps K H ps xs → Reps K H (ps.drop n) (xs.drop n)
  | _, _, 0, h => by simpa using h
  | [], _, n + 1, h => by cases h; rfl
  | p :: ps, _, n + 1, ⟨x, r, e, h, t⟩ => by subst e; simpa using Reps.drop n t
theorem Reps.set : ∀ {ps : List PV} {xs : List V} (n : Nat) {p : PV} {v : V}, Reps K H ps xs → Rep K H p v → Reps K H (ps.set n p) (xs.set n v)
  | [], _, _, _, _, h, _ => by cases h; rfl
  | q :: ps, _, 0, _, _, ⟨x, r, e, h, t⟩, k => by subst e; exact ⟨_, _, rfl, k, t⟩
  | q :: ps, _, n + 1, _, _, ⟨x, r, e, h, t⟩, k => by subst e; exact ⟨x, _, rfl, h, Reps.set n t k⟩
end
theorem _root_.L2.Inv.reH {X : Cx} {pins : List (Addr × Obj)} {σ : L2.St} {H H' : Hp} {s : Shared} (I : Inv X pins σ H s) {a : Addr} {u u' : HO} (hu : H a = some u) (h' : H' = upd H a u')
    (nf : isFz u = false) (nt : ∀ ps, u ≠ .tbl ps) (no : ∀ x, u ≠ .own x) (hok : ObjOk X.prog X.w H' s.heap a u') : Inv X pins σ H' s := by
  subst h'
  have keepT : ∀ b xs, H b = some (.tup xs) → (upd H a u') b = some (.tup xs) := fun b xs e => Kp.upd hu nf b _ e rfl
  have keepO : ∀ b x, H b = some (.own x) → (upd H a u') b = some (.own x) := fun b x e => by
    have : b ≠ a := fun z => by
      subst z
      rw [hu] at e
      cases e
      exact no x rfl
    rw [upd_ne this]
    exact e
  have hn : ∀ b, H b = none → (upd H a u') b = none := fun b e => by
    have : b ≠ a := fun z => by
      subst z
      rw [hu] at e
      cases e
    rw [upd_ne this]
    exact e
  refine ⟨I.ok, I.os, I.bare, ⟨I.base.keep, I.base.slot, fun b o e n x => hn b (I.base.free b o e n x), I.base.there, fun b xs e => keepT b xs (I.base.tups b xs e),
    fun b o w e => Kp.upd hu nf b _ (I.base.frzs b o w e) rfl, fun b ps e => ?_⟩, I.loc, I.cell, hn _ I.free, fun x c e => hn c (I.freeC x c e), fun p hp => ?_, fun b o e => ?_, I.len⟩
  · obtain ⟨more, q⟩ := I.base.tbls b ps e
    have : b ≠ a := fun z => by
      subst z
      rw [hu] at q
      cases q
      exact nt _ rfl
    exact ⟨more, by rw [upd_ne this]; exact q⟩
  · obtain ⟨h1, h2, h3⟩ := I.pin p hp
    exact ⟨h1, hn _ h2, h3⟩
  · by_cases hb : b = a
    · subst hb
      rw [upd_same] at e
      cases e
      exact hok
    · rw [upd_ne hb] at e
      exact (I.hok b o e).stay (fun c v _ r => r) (fun c r => keepO c b r) keepT
theorem _root_.L2.Inv.frz {X : Cx} {pins : List (Addr × Obj)} {σ : L2.St} {H : Hp} {s : Shared} {a : Addr} {p : PV} (I : Inv X pins σ H s) (n : NewAt X.K H a p) :
    ∃ H', Inv X pins σ H' s ∧ Rep X.K H' p (.ref a) ∧ ∀ b, b ≠ a → H' b = H b := by
  cases p with
  | lst ps =>
    obtain ⟨xs, q, r⟩ := n
    obtain ⟨z, its, m, rv, e⟩ := I.hok a _ q
    refine ⟨upd H a (.frz _ (.lst xs)), I.reH q rfl rfl (by intro _ h; cases h) (by intro _ h; cases h) ⟨e, z, its, m, rv, e⟩, ⟨a, xs, rfl, .inl ⟨_, upd_same⟩, r.kp (Kp.upd q rfl)⟩, fun b hb => upd_ne hb⟩
  | dct ks ps =>
    obtain ⟨kvs, q, ek, r⟩ := n
    obtain ⟨z, hs, vs, rv, o, es, ep, e, rest⟩ := I.hok a _ q
    refine ⟨upd H a (.frz o (.dK kvs)), I.reH q rfl rfl (by intro _ h; cases h) (by intro _ h; cases h) ⟨e, z, hs, vs, rv, o, es, ep, e, rest⟩, ⟨a, kvs, rfl, .inl ⟨_, upd_same⟩, ek, r.kp (Kp.upd q rfl)⟩, fun b hb => upd_ne hb⟩
  | dtt ks ps =>
    obtain ⟨kvs, q, ek, r⟩ := n
    obtain ⟨z, hs, ys, rv, o, es, ep, e, rest⟩ := I.hok a _ q
    refine ⟨upd H a (.frz o (.dT kvs)), I.reH q rfl rfl (by intro _ h; cases h) (by intro _ h; cases h) ⟨e, z, hs, ys, ?_, o, es, ep, e, rest⟩, ⟨a, o, kvs, rfl, upd_same, ek, r.kp (Kp.upd q rfl)⟩, fun b hb => upd_ne hb⟩
    exact Paired.mapP rv fun p1 q1 ⟨h1, h2, h3⟩ => ⟨h1, Kp.upd q rfl _ _ h2 rfl, h3⟩
  | _ => exact False.elim n
end PU
end
section
namespace PU
open PySem PySem.Spec PyProof.Rows L2
variable [TW]
structure Cn where
  X : Cx
  Ac : PX → Hp → Prop
def SlOk (K : PySem.W.Frag) (H : Hp) (x : Option (Option V)) : Sl → Prop
  | .no => True
  | .val p => ∃ v, x = some (some v) ∧ Rep K H p v
  | .own p => ∃ a, x = some (some (.ref a)) ∧ NewAt K H a p
def View (K : PySem.W.Frag) (H : Hp) (σ : L2.St) (ρ : PSt) : Prop := ∀ (i : Nat) (l : Sl), ρ[i]? = some l → SlOk K H σ[i]? l
theorem SlOk.same {K : PySem.W.Frag} {H H' : Hp} {x : Option (Option V)} {l : Sl} (h : SlOk K H x l) (s : Same H H') : SlOk K H' x l := by
  cases l with
  | no => exact trivial
  | val p => obtain ⟨v, e, r⟩ := h; exact ⟨v, e, r.same s⟩
  | own p => obtain ⟨a, e, r⟩ := h; exact ⟨a, e, r.same s⟩
theorem View.same {K : PySem.W.Frag} {H H' : Hp} {σ : L2.St} {ρ : PSt} (h : View K H σ ρ) (s : Same H H') : View K H' σ ρ := fun i l e => (h i l e).same s
def RQ (C : Cn) (H : Hp) {α : Type} (r : R α) (k : α → Prop) : Prop :=
  match r with
  | .ok a => k a
  | .er x => ∀ H', Same H H' → C.Ac x H'
  | .no => False
section
variable {C : Cn} {H H' : Hp} {α β : Type} {r : R α} {k k' : α → Prop}
theorem RQ.imp (h : RQ C H r k) (f : ∀ a, r = .ok a → k a → k' a) : RQ C H r k' := by
  cases r with
  | ok a => exact f a rfl h
  | er x => exact h
  | no => exact h
theorem RQ.same (h : RQ C H r k) (s : Same H H') : RQ C H' r k := by
  cases r with
  | ok a => exact h
  | er x => exact fun H2 s2 => h H2 (s.trans s2)
  | no => exact h
theorem RQ.bind {f : α → R β} {m : β → Prop} (h : RQ C H (r >>= f) m) : RQ C H r fun a => RQ C H (f a) m := by
  cases r <;> exact h
theorem RQ.ofO {o : Option α} (h : RQ C H (R.ofO o) k) : ∃ a, o = some a ∧ k a := by
  cases o with
  | none => exact False.elim h
  | some a => exact ⟨a, rfl, h⟩
end
def tV (C : Cn) (f : PSt → R PV) : TE := fun σ H Q => ∃ ρ, View C.X.K H σ ρ ∧ RQ C H (f ρ) fun p => ∀ v H', Same H H' → Rep C.X.K H' p v → Q v H'
def tO (C : Cn) (f : PSt → R PV) : TE := fun σ H Q => ∃ ρ, View C.X.K H σ ρ ∧ RQ C H (f ρ) fun p => ∀ v H', Same H H' → RepO C.X.K H' p v → Q v H'
def tN (C : Cn) (f : PSt → R PV) : TE := fun σ H Q => ∃ ρ, View C.X.K H σ ρ ∧ RQ C H (f ρ) fun p => ∀ a H', Same H H' → H a = none → NewAt C.X.K H' a p → Q (.ref a) H'
def tAs (C : Cn) (f : PSt → R (List PV)) : TA := fun σ H Q => ∃ ρ, View C.X.K H σ ρ ∧ RQ C H (f ρ) fun ps => ∀ vs H', Same H H' → Reps C.X.K H' ps vs → Q vs H'
def tBl (C : Cn) (f : PSt → R Bool) : TT := fun σ H Q => ∃ ρ, View C.X.K H σ ρ ∧ RQ C H (f ρ) fun b => ∀ H', Same H H' → Q b H'
def EV (C : Cn) (e : Expr) (f : PSt → R PV) : Prop := PE C.X e (tV C f)
def EO (C : Cn) (e : Expr) (f : PSt → R PV) : Prop := PE C.X e (tO C f)
def EN (C : Cn) (e : Expr) (f : PSt → R PV) : Prop := PE C.X e (tN C f)
def EA (C : Cn) (es : List Expr) (f : PSt → R (List PV)) : Prop := PA C.X es (tAs C f)
def ET (C : Cn) (e : Expr) (f : PSt → R Bool) : Prop := PT C.X e (tBl C f)
def EW (C : Cn) (e : Expr) (f : PSt → R Bool) : Prop := PW C.X e (tBl C f)
section
variable {C : Cn} {e a b c : Expr} {es : List Expr} {f fa fb fc : PSt → R PV} {fs : PSt → R (List PV)} {pos : Pos}
theorem EV.o (h : EV C e f) : EO C e f := fun pins s σ H Q I ⟨ρ, vw, q⟩ => h pins s σ H Q I ⟨ρ, vw, q.imp fun _ _ k v H' sm r => k v H' sm r.o⟩
theorem EN.o (h : EN C e f) : EO C e f := fun pins s σ H Q I ⟨ρ, vw, q⟩ => h pins s σ H Q I ⟨ρ, vw, q.imp fun _ _ k a H' sm _ r => k (.ref a) H' sm r.o⟩
theorem EN.v (h : EN C e f) : EV C e f := by
  intro pins s σ H Q I ⟨ρ, vw, q⟩
  cases hf : f ρ with
  | ok p =>
    rw [hf] at q
    refine thn (h pins s σ H (fun v H' => ∃ a, v = .ref a ∧ Same H H' ∧ H a = none ∧ NewAt C.X.K H' a p) I ⟨ρ, vw, by rw [hf]; exact fun a H' sm n w => ⟨a, rfl, sm, n, w⟩⟩) fun u s' ⟨v, H', I', rv, a, ev, sm, na, w⟩ => ?_
    obtain ⟨H2, I2, rp, oth⟩ := I'.frz w
    subst ev
    refine ⟨.ref a, H2, I2, rv, q _ H2 (fun b o eb => ?_) rp⟩
    rw [oth b (ne_of_none eb na)]
    exact sm b o eb
  | er x =>
    rw [hf] at q
    exact h pins s σ H Q I ⟨ρ, vw, by rw [hf]; exact q⟩
  | no =>
    rw [hf] at q
    exact False.elim q
theorem ev_var (i : Nat) {x : Str} (hN : C.X.N[i]? = some x) (hv : Vis C.X.env.scope x) (hd : (x == ("__debug__" : Str)) = false := by decide) (hcd : (x == ("__classdict__" : Str)) = false := by decide) : EV C (.Name x pos) (getV i) := by
  intro pins s σ H Q I ⟨ρ, vw, q⟩
  unfold getV at q
  split at q
  · rename_i p e
    obtain ⟨v, ev, r⟩ := vw i _ e
    exact pe_var hN hv hd hcd pins s σ H Q I ⟨v, ev, q v H (Same.refl H) r⟩
  · exact False.elim q
theorem eo_var (i : Nat) {x : Str} (hN : C.X.N[i]? = some x) (hv : Vis C.X.env.scope x) (hd : (x == ("__debug__" : Str)) = false := by decide) (hcd : (x == ("__classdict__" : Str)) = false := by decide) : EO C (.Name x pos) (getO i) := by
  intro pins s σ H Q I ⟨ρ, vw, q⟩
  unfold getO at q
  split at q
  · rename_i p e
    obtain ⟨v, ev, r⟩ := vw i _ e
    exact pe_var hN hv hd hcd pins s σ H Q I ⟨v, ev, q v H (Same.refl H) r.o⟩
  · rename_i p e
    obtain ⟨v, ev, r⟩ := vw i _ e
    exact pe_var hN hv hd hcd pins s σ H Q I ⟨_, ev, q _ H (Same.refl H) r.o⟩
  · exact False.elim q
theorem ev_int {i j} : EV C (.Constant (.int i) j pos) (kI i) := fun pins s σ H Q I ⟨_, _, q⟩ => pe_int pins s σ H Q I (q _ H (Same.refl H) rfl)
theorem ev_bl {i j} : EV C (.Constant (.bool i) j pos) (kB i) := fun pins s σ H Q I ⟨_, _, q⟩ => pe_bl pins s σ H Q I (q _ H (Same.refl H) rfl)
theorem ev_non {j} : EV C (.Constant .none j pos) kN := fun pins s σ H Q I ⟨_, _, q⟩ => pe_non pins s σ H Q I (q _ H (Same.refl H) rfl)
theorem ev_str {x j} : EV C (.Constant (.str x) j pos) (kS x) := fun pins s σ H Q I ⟨_, _, q⟩ => pe_str pins s σ H Q I (q _ H (Same.refl H) rfl)
theorem ev_glob {x : Str} {v : V} {u : Value} {p : PV} (hg : Gl C.X x) (hm : C.X.mg x = some u) (r : RelV v u) (rp : ∀ H, Rep C.X.K H p v) (hd : (x == ("__debug__" : Str)) = false := by decide) : EV C (.Name x pos) (kP p) :=
  fun pins s σ H Q I ⟨_, _, q⟩ => pe_glob hg hm r hd pins s σ H Q I (q _ H (Same.refl H) (rp H))
theorem ea_nil : EA C [] nilA := fun pos pins s σ H Q I ⟨_, _, q⟩ => pa_nil pos pins s σ H Q I (q [] H (Same.refl H) Reps.nil)
theorem ea_cons (ha : EV C e f) (hr : EA C es fs) (hs : starEach (e :: es) C.X.env = (false, eval e C.X.env) :: starEach es C.X.env := by exact star_cons rfl) : EA C (e :: es) (consA f fs) := by
  intro pos pins s σ H Q I ⟨ρ, vw, q⟩
  refine pa_cons ha hr hs pos pins s σ H Q I ⟨ρ, vw, q.bind.imp fun p _ k v H1 s1 r1 => ⟨ρ, vw.same s1, (k.bind.same s1).imp fun ps _ k2 vs H2 s2 r2 => ?_⟩⟩
  exact k2 (v :: vs) H2 (s1.trans s2) (Reps.cons (r1.same s2) r2)
def tA1 (C : Cn) (f : PSt → R PV) : TA := fun σ H Q => ∃ ρ, View C.X.K H σ ρ ∧ RQ C H (f ρ) fun p => ∀ v H', Same H H' → RepO C.X.K H' p v → Q [v] H'
theorem ea_one (ha : EO C e f) (hs : starEach [e] C.X.env = [(false, eval e C.X.env)] := by exact star_one rfl) : PA C.X [e] (tA1 C f) := by
  intro pos pins s σ H Q I ⟨ρ, vw, q⟩
  exact pa_cons ha pa_nil hs pos pins s σ H Q I ⟨ρ, vw, q⟩
theorem Same.new {H : Hp} {a : Addr} {o : HO} (h : H a = none) : Same H (upd H a o) := fun b u e => by
  rw [upd_ne (ne_of_none e h)]
  exact e
theorem guardL_ok {C : Cn} {H : Hp} {ps : List PV} {β : Type} {g : List PV → R β} {k : β → Prop} (h : RQ C H (guardL ps >>= g) k) : ps.length ≤ sizeLine ∧ RQ C H (g ps) k := by
  unfold guardL at h
  by_cases hz : ps.length ≤ 16777216
  · rw [if_pos hz] at h
    exact ⟨by rw [sizeLine_eq]; exact hz, h⟩
  · rw [if_neg hz] at h
    exact False.elim h
theorem ev_tup {k} (h : EA C es fs) : EV C (.Tuple es k pos) (tupF fs) := by
  intro pins s σ H Q I ⟨ρ, vw, q⟩
  refine pe_tup h pins s σ H Q I ⟨ρ, vw, q.bind.imp fun ps _ k vs H1 s1 r1 => ?_⟩
  obtain ⟨z, k⟩ := guardL_ok k
  refine ⟨by rw [← r1.length]; exact z, fun p hp => ?_⟩
  exact k _ _ (s1.trans (Same.new hp)) ⟨p, vs, rfl, .inl (.inl upd_same), r1.same (Same.new hp)⟩
theorem en_lst (h : EA C es fs) : EN C (.List es pos) (lstF fs) := by
  intro pins s σ H Q I ⟨ρ, vw, q⟩
  refine pe_lst h pins s σ H Q I ⟨ρ, vw, q.bind.imp fun ps _ k vs H1 s1 r1 => ?_⟩
  obtain ⟨z, k⟩ := guardL_ok k
  refine ⟨by rw [← r1.length]; exact z, fun p hp => ?_⟩
  exact k p _ (s1.trans (Same.new hp)) (s1.free hp) ⟨vs, upd_same, r1.same (Same.new hp)⟩
def rP (K : PySem.W.Frag) (g : PV → PV → Option PV) : R2 := fun v u H Q => ∃ p q z, RepO K H p v ∧ RepO K H q u ∧ g p q = some z ∧ ∀ w H', Same H H' → Rep K H' z w → Q w H'
theorem t2 {σ : L2.St} {H : Hp} {Q : VK} {ρ : PSt} {g : PV → PV → Option PV} {r : R2} (vw : View C.X.K H σ ρ) (q : RQ C H (bin2 fa fb g ρ) fun p => ∀ v H', Same H H' → Rep C.X.K H' p v → Q v H')
    (hr : ∀ v u H' Q', rP C.X.K g v u H' Q' → r v u H' Q') : tOp r (tO C fa) (tO C fb) σ H Q := by
  refine ⟨ρ, vw, q.bind.imp fun p _ k v H1 s1 r1 => ⟨ρ, vw.same s1, (k.bind.same s1).imp fun p2 _ k2 u H2 s2 r2 => ?_⟩⟩
  obtain ⟨z, ez, k3⟩ := k2.ofO
  exact hr _ _ _ _ ⟨p, p2, z, r1.same s2, r2, ez, fun w H3 s3 r3 => k3 w H3 ((s1.trans s2).trans s3) r3⟩
theorem ev_bin {op : Operator} {g : PV → PV → Option PV} (ho : OpR C.X (binaryOp op) (rP C.X.K g)) (ha : EO C a fa) (hb : EO C b fb) : EV C (.BinOp a op b pos) (bin2 fa fb g) := by
  intro pins s σ H Q I ⟨ρ, vw, q⟩
  exact pe_op ho ha hb pins s σ H Q I (t2 vw q fun _ _ _ _ h => h)
theorem ev_cmp {op : CmpOp} {g : PV → PV → Option PV} (ho : OpR C.X (compareOp op) (rP C.X.K g)) (ha : EO C a fa) (hb : EO C b fb) (hm : behindInMarks op b = false) : EV C (.Compare a [op] [b] pos) (bin2 fa fb g) := by
  intro pins s σ H Q I ⟨ρ, vw, q⟩
  exact pe_cmpR ho ha hb hm pins s σ H Q I (t2 vw q fun _ _ _ _ h => h)
theorem ev_ix {g : PV → PV → Option PV} (ho : IxR C.X (rP C.X.K g)) (ha : EO C a fa) (hb : EO C b fb) (hs : PlainIx b) : EV C (.Subscript a b pos) (bin2 fa fb g) := by
  intro pins s σ H Q I ⟨ρ, vw, q⟩
  exact pe_ix ho ha hb hs pins s σ H Q I (t2 vw q fun _ _ _ _ h => h)
end
end PU
end
section
namespace PU
open PySem PySem.Spec PyProof.Rows L2
variable [TW]
section
variable {X : Cx} {pins : List (Addr × Obj)} {σ : L2.St} {H : Hp} {s : Shared}
theorem DkR.at {a : Addr} {kvs : List (Key × V)} (hw : X.w = TW.w) (I : Inv X pins σ H s) (h : DkR X.K H a kvs) :
    kvs.length ≤ sizeLine ∧ (a == sysModules) = false ∧ ∃ vs, KV kvs vs ∧ s.heap.DictOf (mixKind X.prog X.w) a vs := by
  rcases h with h | h
  · exact dk_rd I.hok h
  · exact ⟨h.1, h.2.1, h.at _ _ hw _ I.kIn⟩
theorem new_lst {ys : List V} {its : List Value} {ps : List PV} (I : Inv X pins σ H s) (hv : Vals ys its) (hz : ys.length ≤ sizeLine) (hr : Reps X.K H ps ys) (t' : Nat) :
    ∃ H', Inv X pins σ H' { s with heap := s.heap.push { cls := .type "list", data := .seq its.toArray }, toks := t' } ∧ Same H H' ∧ Rep X.K H' (.lst ps) (.ref s.heap.objs.size) := by
  have I1 := I.lnew (t' := t') hv hz
  have nf : H s.heap.objs.size = none := I.fresh
  obtain ⟨H', I2, rp, oth⟩ := L2.Inv.frz (a := s.heap.objs.size) (p := .lst ps) I1 ⟨ys, upd_same, hr.same (Same.new nf)⟩
  refine ⟨H', I2, fun b o e => ?_, rp⟩
  have hb := ne_of_none e nf
  rw [oth b hb, upd_ne hb]
  exact e
theorem RepO.lst_inv {K : PySem.W.Frag} {H : Hp} {ps : List PV} {v : V} (h : RepO K H (.lst ps) v) : ∃ a xs, v = .ref a ∧ SqO K H a xs ∧ Reps K H ps xs := h
theorem RepO.tup_inv {K : PySem.W.Frag} {H : Hp} {ps : List PV} {v : V} (h : RepO K H (.tup ps) v) : ∃ a xs, v = .ref a ∧ SqT K H a xs ∧ Reps K H ps xs := h
end
theorem cat_tups {prog : Program} {w : World} {A : Around} {E : Value → Shared → Prop} {s : Shared} {t b : Addr} {vs ws : List Value} {Q : Value → Shared → Prop} (ht : IsTup s.heap t vs.toArray) (hb : IsTup s.heap b ws.toArray)
    (h0 : vs = [] → Q (.ref b) s) (h1 : ws = [] → Q (.ref t) s) (h2 : Q (.ref s.heap.objs.size) { s with heap := s.heap.push { cls := .type "tuple", data := .seq (vs ++ ws).toArray } })
    (hsz : vs.length + ws.length ≤ sizeLine) : wpAny (model prog w) A (binaryOp .Add (.ref t) (.ref b)) Q E s := by
  obtain ⟨⟨cls, dd, data, sl⟩, ho, hc, n, hd⟩ := id ht
  obtain ⟨⟨cls2, dd2, data2, sl2⟩, ho2, hc2, n2, hd2⟩ := id hb
  simp only at hc hd hc2 hd2
  subst hc hd hc2 hd2
  have e : vs.toArray ++ ws.toArray = (vs ++ ws).toArray := by simp
  by_cases hv : vs = []
  · exact concat_meets ⟨_, ho, rfl⟩ ⟨_, ho2, rfl⟩ noFill_tuple_add seq_tuple_add PySem.F.slot_tuple_add PySem.F.entry_tuple_add (PySem.F.args_tuple_add_2 _ _)
      (tuple_addW0 t b vs.toArray ws.toArray n n2 dd dd2 sl sl2 (by simp [hv])) ⟨ho, ho2, h0 hv⟩
  · by_cases hw : ws = []
    · exact concat_meets ⟨_, ho, rfl⟩ ⟨_, ho2, rfl⟩ noFill_tuple_add seq_tuple_add PySem.F.slot_tuple_add PySem.F.entry_tuple_add (PySem.F.args_tuple_add_2 _ _)
        (tuple_addW1 t b vs.toArray ws.toArray n n2 dd dd2 sl sl2 (by simpa using hv) (by simp [hw])) ⟨ho, ho2, h1 hw⟩
    · refine concat_meets ⟨_, ho, rfl⟩ ⟨_, ho2, rfl⟩ noFill_tuple_add seq_tuple_add PySem.F.slot_tuple_add PySem.F.entry_tuple_add (PySem.F.args_tuple_add_2 _ _)
        (tuple_addW2 t b vs.toArray ws.toArray n n2 dd dd2 sl sl2 (by simpa using hv) (by simpa using hw) (by rw [List.size_toArray, List.size_toArray]; exact hsz)) ⟨ho, ho2, ?_⟩
      rw [e]
      exact h2
section
variable {X : Cx}
theorem rP_int {f : Value → Value → Sem Value} {g : PV → PV → Option PV} {r : R2} (h : OpR X f r)
    (hg : ∀ (p q z : PV), g p q = some z → ∃ i j, p = .int i ∧ q = .int j ∧ ∃ w : V, (∀ K H, Rep K H z w) ∧ ∀ H Q, Q w H → r (.int i) (.int j) H Q) : OpR X f (rP X.K g) := by
  intro pins s σ H x y v u Q I rx ry ⟨p, q, z, hp, hq, e, k⟩
  obtain ⟨i, j, rfl, rfl, w, hw, hr⟩ := hg p q z e
  cases (show x = .int i from hp)
  cases (show y = .int j from hq)
  exact h pins s σ H _ _ v u Q I rx ry (hr H Q (k w H (Same.refl H) (hw _ _)))
theorem opSub : OpR X (binaryOp .Sub) (rP X.K gSub) := rP_int op_sub fun p q z e => by
  unfold gSub at e
  split at e
  · rename_i i j
    cases e
    exact ⟨i, j, rfl, rfl, _, fun _ _ => rfl, fun H Q q => ⟨i, j, rfl, rfl, q⟩⟩
  · cases e
theorem opMul : OpR X (binaryOp .Mult) (rP X.K gMul) := rP_int op_mul fun p q z e => by
  unfold gMul at e
  split at e
  · rename_i i j
    split at e
    · rename_i hc
      cases e
      exact ⟨i, j, rfl, rfl, _, fun _ _ => rfl, fun H Q q => ⟨i, j, rfl, rfl, hc.imp (fun h => ⟨by omega, by omega⟩) (fun h => ⟨by omega, by omega⟩), q⟩⟩
    · cases e
  · cases e
theorem opDiv : OpR X (binaryOp .FloorDiv) (rP X.K gDiv) := rP_int op_fdiv fun p q z e => by
  unfold gDiv at e
  split at e
  · rename_i i j
    split at e
    · rename_i hc
      cases e
      exact ⟨i, j, rfl, rfl, _, fun _ _ => rfl, fun H Q q => ⟨i, j, rfl, rfl, hc, q⟩⟩
    · cases e
  · cases e
theorem opMod : OpR X (binaryOp .Mod) (rP X.K gMod) := rP_int op_mod fun p q z e => by
  unfold gMod at e
  split at e
  · rename_i i j
    split at e
    · rename_i hc
      cases e
      exact ⟨i, j, rfl, rfl, _, fun _ _ => rfl, fun H Q q => ⟨i, j, rfl, rfl, hc, q⟩⟩
    · cases e
  · cases e
theorem opAdd : OpR X (binaryOp .Add) (rP X.K gAdd) := by
  intro pins s σ H x y v u Q I rx ry ⟨p, q, z, hp, hq, e, k⟩
  have hs := sizeLine_eq
  unfold gAdd at e
  split at e
  · rename_i i j
    cases e
    cases (show x = .int i from hp)
    cases (show y = .int j from hq)
    exact op_add pins s σ H _ _ v u Q I rx ry ⟨i, j, rfl, rfl, k _ H (Same.refl H) rfl⟩
  · rename_i i j
    split at e
    · rename_i hc
      cases e
      cases (show x = .str i from hp)
      cases (show y = .str j from hq)
      exact op_add_str pins s σ H _ _ v u Q I rx ry ⟨i, j, rfl, rfl, by omega, k _ H (Same.refl H) rfl⟩
    · cases e
  · rename_i ps qs
    split at e
    · rename_i hc
      cases e
      obtain ⟨a, xs, rfl, hx, r1⟩ := hp
      obtain ⟨b, ys, rfl, hy, r2⟩ := hq
      cases rx
      cases ry
      obtain ⟨hz, its, n, rv, e1⟩ := hx.is I
      obtain ⟨hz2, its2, n2, rv2, e2⟩ := hy.is I
      have l1 := r1.length
      have l2 := r2.length
      have l3 := rv.length
      have l4 := rv2.length
      have ea : its.toArray ++ its2.toArray = (its ++ its2).toArray := by simp
      refine PySem.P.add_list e1 e2 ?_ (by simp only [List.size_toArray]; omega)
      rw [ea]
      obtain ⟨H', I', sm, rp⟩ := new_lst I (rv.append rv2) (by rw [List.length_append]; omega) (r1.append r2) s.toks
      exact ⟨.ref _, H', I', rfl, k _ H' sm rp⟩
    · cases e
  · rename_i ps qs
    split at e
    · rename_i hc
      cases e
      obtain ⟨a, xs, rfl, hx, r1⟩ := RepO.tup_inv hp
      obtain ⟨b, ys, rfl, hy, r2⟩ := RepO.tup_inv hq
      cases rx
      cases ry
      obtain ⟨its, rv, pl, hz⟩ := I.tuple hx
      obtain ⟨its2, rv2, pl2, hz2⟩ := I.tuple hy
      have l1 := r1.length
      have l2 := r2.length
      have l3 := rv.length
      have l4 := rv2.length
      refine cat_tups pl pl2 (fun z => ?_) (fun z => ?_) ?_ (by omega)
      · subst z
        have : ps = [] := List.eq_nil_of_length_eq_zero (by rw [l1, l3]; rfl)
        subst this
        exact ⟨.ref b, H, I, rfl, k _ H (Same.refl H) hq⟩
      · subst z
        have : qs = [] := List.eq_nil_of_length_eq_zero (by rw [l2, l4]; rfl)
        subst this
        rw [List.append_nil] at k
        exact ⟨.ref a, H, I, rfl, k _ H (Same.refl H) hp⟩
      · have nf : H s.heap.objs.size = none := I.fresh
        refine ⟨.ref s.heap.objs.size, _, I.laid (t' := s.toks) (o := .tup (xs ++ ys)) (fun b ob q => Heap.get?_push_of_some _ q) (Nat.le_refl _) ?_, rfl, k _ _ (Same.new nf) ⟨_, xs ++ ys, rfl, .inl (.inl upd_same), (r1.append r2).same (Same.new nf)⟩⟩
        exact ⟨by rw [List.length_append]; omega, _, rv.append rv2, IsTp.new _ _⟩
    · cases e
  · cases e
end
end PU
end
section
namespace PU
open PySem PySem.Spec PyProof.Rows L2
variable [TW]
structure StOk (K : PySem.W.Frag) (B : Hp × Hp) (H : Hp) (σ : L2.St) (ρ : PSt) : Prop where
  len : ρ.length = σ.length
  same : Same B.1 H
  kp : Kp B.2 H
  vw : View K H σ ρ
  fresh : ∀ (i : Nat) (p : PV) (a : Addr), ρ[i]? = some (.own p) → σ[i]? = some (some (.ref a)) → B.1 a = none
  apart : ∀ (i j : Nat) (p q : PV) (a : Addr), ρ[i]? = some (.own p) → ρ[j]? = some (.own q) → σ[i]? = some (some (.ref a)) → σ[j]? = some (some (.ref a)) → i = j
section
variable {K : PySem.W.Frag} {B : Hp × Hp} {H H' : Hp} {σ : L2.St} {ρ : PSt} {i : Nat} {p q : PV} {v : V} {a : Addr}
theorem StOk.grow (S : StOk K B H σ ρ) (s : Same H H') : StOk K B H' σ ρ := ⟨S.len, S.same.trans s, S.kp.trans (Same.kp s), S.vw.same s, S.fresh, S.apart⟩
theorem set_get {α : Type} {l : List α} {i j : Nat} {x y : α} (h : (l.set i x)[j]? = some y) : (j = i ∧ y = x ∧ i < l.length) ∨ (j ≠ i ∧ l[j]? = some y) := by
  rw [List.getElem?_set] at h
  by_cases e : i = j
  · subst e
    rw [if_pos rfl] at h
    split at h
    · rename_i hl
      cases h
      exact .inl ⟨rfl, rfl, hl⟩
    · cases h
  · rw [if_neg e] at h
    exact .inr ⟨fun z => e z.symm, h⟩
theorem get_set_ne {α : Type} {l : List α} {i j : Nat} {x : α} (h : j ≠ i) : (l.set i x)[j]? = l[j]? := by
  rw [List.getElem?_set, if_neg fun z => h z.symm]
theorem get_set_eq {α : Type} {l : List α} {i : Nat} {x : α} (h : i < l.length) : (l.set i x)[i]? = some x := by
  rw [List.getElem?_set, if_pos rfl, if_pos h]
theorem StOk.setV (S : StOk K B H σ ρ) (r : Rep K H p v) : StOk K B H (σ.set i (some v)) (ρ.set i (.val p)) := by
  refine ⟨by simp [S.len], S.same, S.kp, fun j l e => ?_, fun j q b e f => ?_, fun j k q q' b e1 e2 f1 f2 => ?_⟩
  · rcases set_get e with ⟨rfl, rfl, hl⟩ | ⟨hj, e⟩
    · exact ⟨v, get_set_eq (by rw [← S.len]; exact hl), r⟩
    · rw [get_set_ne hj]
      exact S.vw j l e
  · rcases set_get e with ⟨_, z, _⟩ | ⟨hj, e⟩
    · cases z
    · rw [get_set_ne hj] at f
      exact S.fresh j q b e f
  · rcases set_get e1 with ⟨_, z, _⟩ | ⟨hj, e1⟩
    · cases z
    · rcases set_get e2 with ⟨_, z, _⟩ | ⟨hk, e2⟩
      · cases z
      · rw [get_set_ne hj] at f1
        rw [get_set_ne hk] at f2
        exact S.apart j k q q' b e1 e2 f1 f2
theorem StOk.setN (S : StOk K B H σ ρ) (s : Same H H') (n : H a = none) (r : NewAt K H' a p) : StOk K B H' (σ.set i (some (.ref a))) (ρ.set i (.own p)) := by
  have other : ∀ (j : Nat) (q : PV), ρ[j]? = some (.own q) → σ[j]? ≠ some (some (.ref a)) := fun j q e f => by
    obtain ⟨b, e2, w⟩ := S.vw j _ e
    rw [f] at e2
    cases e2
    cases q with
    | lst ps => obtain ⟨_, w, _⟩ := w; rw [n] at w; cases w
    | dct ks ps => obtain ⟨_, w, _⟩ := w; rw [n] at w; cases w
    | dtt ks ps => obtain ⟨_, w, _⟩ := w; rw [n] at w; cases w
    | _ => exact w
  refine ⟨by simp [S.len], S.same.trans s, S.kp.trans (Same.kp s), fun j l e => ?_, fun j q b e f => ?_, fun j k q q' b e1 e2 f1 f2 => ?_⟩
  · rcases set_get e with ⟨rfl, rfl, hl⟩ | ⟨hj, e⟩
    · exact ⟨a, get_set_eq (by rw [← S.len]; exact hl), r⟩
    · rw [get_set_ne hj]
      exact (S.vw j l e).same s
  · rcases set_get e with ⟨rfl, _, hl⟩ | ⟨hj, e⟩
    · rw [get_set_eq (by rw [← S.len]; exact hl)] at f
      cases f
      exact S.same.free n
    · rw [get_set_ne hj] at f
      exact S.fresh j q b e f
  · rcases set_get e1 with ⟨h1, _, hl⟩ | ⟨hj, d1⟩
    · rcases set_get e2 with ⟨h2, _, _⟩ | ⟨hk, d2⟩
      · rw [h1, h2]
      · subst h1
        rw [get_set_eq (by rw [← S.len]; exact hl)] at f1
        cases f1
        rw [get_set_ne hk] at f2
        exact absurd f2 (other k q' d2)
    · rcases set_get e2 with ⟨h2, _, hl⟩ | ⟨hk, d2⟩
      · subst h2
        rw [get_set_eq (by rw [← S.len]; exact hl)] at f2
        cases f2
        rw [get_set_ne hj] at f1
        exact absurd f1 (other j q d1)
      · rw [get_set_ne hj] at f1
        rw [get_set_ne hk] at f2
        exact S.apart j k q q' b d1 d2 f1 f2
theorem NewAt.obj (h : NewAt K H a p) : ∃ u, H a = some u ∧ isFz u = false := by
  cases p with
  | lst ps => obtain ⟨_, w, _⟩ := h; exact ⟨_, w, rfl⟩
  | dct ks ps => obtain ⟨_, w, _⟩ := h; exact ⟨_, w, rfl⟩
  | dtt ks ps => obtain ⟨_, w, _⟩ := h; exact ⟨_, w, rfl⟩
  | _ => exact False.elim h
theorem NewAt.kp (k : Kp H H') (e : H' a = H a) (h : NewAt K H a p) : NewAt K H' a p := by
  cases p with
  | lst ps => obtain ⟨xs, w, r⟩ := h; exact ⟨xs, by rw [e]; exact w, r.kp k⟩
  | dct ks ps => obtain ⟨xs, w, z, r⟩ := h; exact ⟨xs, by rw [e]; exact w, z, r.kp k⟩
  | dtt ks ps => obtain ⟨xs, w, z, r⟩ := h; exact ⟨xs, by rw [e]; exact w, z, r.kp k⟩
  | _ => exact h
theorem StOk.turn {l' : Sl} (S : StOk K B H σ ρ) (e : ρ[i]? = some (.own p)) (f : σ[i]? = some (some (.ref a))) (oth : ∀ b, b ≠ a → H' b = H b) (hl : SlOk K H' (some (some (.ref a))) l') : StOk K B H' σ (ρ.set i l') := by
  obtain ⟨b, f2, w⟩ := S.vw i _ e
  rw [f] at f2
  cases f2
  obtain ⟨u, hu, nf⟩ := w.obj
  have fa := S.fresh i p a e f
  have k : Kp H H' := fun b u' eb fb => by
    have : b ≠ a := fun z => by
      subst z
      rw [hu] at eb
      cases eb
      rw [nf] at fb
      cases fb
    rw [oth b this]
    exact eb
  have ne : ∀ (j : Nat) (q : PV) (b : Addr), j ≠ i → ρ[j]? = some (.own q) → σ[j]? = some (some (.ref b)) → b ≠ a := fun j q b hj e2 f2 z => by
    subst z
    exact hj (S.apart j i q p b e2 e f2 f)
  refine ⟨by simp [S.len], fun b o eb => ?_, S.kp.trans k, fun j l ej => ?_, fun j q b ej fj => ?_, fun j m q q' b e1 e2 f1 f2 => ?_⟩
  · rw [oth b (ne_of_none eb fa)]
    exact S.same b o eb
  · rcases set_get ej with ⟨rfl, rfl, hl2⟩ | ⟨hj, ej⟩
    · rw [f]
      exact hl
    · have := S.vw j l ej
      cases l with
      | no => exact trivial
      | val q => obtain ⟨v, e1, r⟩ := this; exact ⟨v, e1, r.kp k⟩
      | own q =>
        obtain ⟨b, e1, r⟩ := this
        exact ⟨b, e1, r.kp k (oth b (ne j q b hj ej e1))⟩
  · rcases set_get ej with ⟨rfl, _, _⟩ | ⟨hj, ej⟩
    · rw [f] at fj
      cases fj
      exact fa
    · exact S.fresh j q b ej fj
  · have fix : ∀ (j : Nat) (q : PV), (ρ.set i l')[j]? = some (.own q) → ∃ q', ρ[j]? = some (.own q') := fun j q ej => by
      rcases set_get ej with ⟨rfl, _, _⟩ | ⟨hj, ej⟩
      · exact ⟨p, e⟩
      · exact ⟨q, ej⟩
    obtain ⟨q1, g1⟩ := fix j q e1
    obtain ⟨q2, g2⟩ := fix m q' e2
    exact S.apart j m q1 q2 b g1 g2 f1 f2
theorem StOk.rebase {B' : Hp} (S : StOk K B H σ ρ) (k : Kp B' H) : StOk K (B.1, B') H σ ρ := ⟨S.len, S.same, k, S.vw, S.fresh, S.apart⟩
end
def RS (C : Cn) (B : Hp × Hp) (D : Ends) : R Fl → Prop
  | .ok (.next ρ) => ∀ σ H, StOk C.X.K B H σ ρ → D.nx σ H
  | .ok (.brk ρ) => ∀ σ H, StOk C.X.K B H σ ρ → D.bk σ H
  | .ok (.cont ρ) => ∀ σ H, StOk C.X.K B H σ ρ → D.ct σ H
  | .ok (.ret p) => ∀ v H, Same B.1 H → Rep C.X.K H p v → D.rt v H
  | .er x => ∀ H, Same B.1 H → C.Ac x H
  | .no => False
def tS (C : Cn) (g : PSt → R Fl) : TS := fun D σ H => ∃ ρ B, StOk C.X.K B H σ ρ ∧ RS C B D (g ρ)
def SV (C : Cn) (st : Stmt) (g : PSt → R Fl) : Prop := PS C.X st (tS C g)
def SVs (C : Cn) (st : List Stmt) (g : PSt → R Fl) : Prop := PSs C.X st (tS C g)
section
variable {C : Cn} {B : Hp × Hp} {D : Ends} {H : Hp} {α : Type}
theorem RS.bind {r : R α} {g : α → R Fl} (h : RS C B D (r >>= g)) (s : Same B.1 H) : RQ C H r fun a => RS C B D (g a) := by
  cases r with
  | ok a => exact h
  | er x => exact fun H' s' => h H' (s.trans s')
  | no => exact h
theorem RS.ofO {o : Option α} {g : α → R Fl} (h : RS C B D (R.ofO o >>= g)) : ∃ a, o = some a ∧ RS C B D (g a) := by
  cases o with
  | none => exact False.elim h
  | some a => exact ⟨a, rfl, h⟩
end
section
variable {C : Cn} {st : Stmt} {sts a b body : List Stmt} {e tg iter c : Expr} {f fk : PSt → R PV} {g g' : PSt → R Fl} {pos : Pos} {t : PSt → R Bool}
theorem svs_nil : SVs C [] nextF := fun pins s σ H D I ⟨ρ, B, S, h⟩ => pss_nil pins s σ H D I (h σ H S)
theorem svs_cons (h1 : SV C st g) (h2 : SVs C sts g') : SVs C (st :: sts) (seqF g g') := by
  intro pins s σ H D I ⟨ρ, B, S, h⟩
  refine pss_cons h1 h2 pins s σ H D I ⟨ρ, B, S, ?_⟩
  unfold seqF at h
  cases hg : g ρ with
  | ok fl =>
    rw [hg] at h
    cases fl with
    | next ρ' => exact fun σ' H' S' => ⟨ρ', B, S', h⟩
    | brk ρ' => exact h
    | cont ρ' => exact h
    | ret p => exact h
  | er x => rw [hg] at h; exact h
  | no => rw [hg] at h; exact h
theorem svs_one (h1 : SV C st g) : SVs C [st] g := by
  intro pins s σ H D I ⟨ρ, B, S, h⟩
  exact pss_one h1 pins s σ H D I ⟨ρ, B, S, h⟩
theorem sv_ret (he : EV C e f) : SV C (.Return (some e) pos) (retF f) := by
  intro pins s σ H D I ⟨ρ, B, S, h⟩
  exact ps_ret he pins s σ H D I ⟨ρ, S.vw, (h.bind S.same).imp fun p _ k v H' s' r => k v H' (S.same.trans s') r⟩
theorem sv_if (hc : ET C c t) (ha : SVs C a g) (hb : SVs C b g') : SV C (.If c a b pos) (ifF t g g') := by
  intro pins s σ H D I ⟨ρ, B, S, h⟩
  refine ps_if hc ha hb pins s σ H D I ⟨ρ, S.vw, (h.bind S.same).imp fun k _ q H' s' => ?_⟩
  cases k with
  | true => exact iteT ⟨ρ, B, S.grow s', q⟩
  | false => exact iteF ⟨ρ, B, S.grow s', q⟩
theorem sv_set (i : Nat) {x : Str} {pos' : Pos} (hN : C.X.N.Nodup) (hi : C.X.N[i]? = some x) (hx : Loc C.X.env.scope x) (he : EV C e f) (hs : swapsWith e (some (.Name x pos')) pos.line C.X.env = pure false := by rfl)
    (hf : C.X.fn x = true ∨ C.X.env.scope.names.lookup x = some .local := by first | exact .inl rfl | exact .inr rfl | assumption) :
    SV C (.Assign [.Name x pos'] e pos) (setF i f) := by
  intro pins s σ H D I ⟨ρ, B, S, h⟩
  exact ps_set hN hi hx he hs hf pins s σ H D I ⟨ρ, S.vw, (h.bind S.same).imp fun p _ k v H' s' r => k _ H' ((S.grow s').setV r)⟩
theorem sv_own (i : Nat) {x : Str} {pos' : Pos} (hN : C.X.N.Nodup) (hi : C.X.N[i]? = some x) (hx : Loc C.X.env.scope x) (he : EN C e f) (hs : swapsWith e (some (.Name x pos')) pos.line C.X.env = pure false := by rfl)
    (hf : C.X.fn x = true ∨ C.X.env.scope.names.lookup x = some .local := by first | exact .inl rfl | exact .inr rfl | assumption) :
    SV C (.Assign [.Name x pos'] e pos) (ownF i f) := by
  intro pins s σ H D I ⟨ρ, B, S, h⟩
  exact ps_set hN hi hx he hs hf pins s σ H D I ⟨ρ, S.vw, (h.bind S.same).imp fun p _ k a H' s' n r => k _ H' (S.setN s' n r)⟩
theorem frz_st {pins : List (Addr × Obj)} {s : Shared} {σ : L2.St} {H : Hp} {B : Hp × Hp} {ρ : PSt} (i : Nat) (I : Inv C.X pins σ H s) (S : StOk C.X.K B H σ ρ) : ∃ H', Inv C.X pins σ H' s ∧ StOk C.X.K B H' σ (frzF i ρ) := by
  unfold frzF
  split
  · rename_i p e
    obtain ⟨a, f, w⟩ := S.vw i _ e
    obtain ⟨H', I', rp, oth⟩ := L2.Inv.frz I w
    exact ⟨H', I', S.turn e f oth ⟨_, rfl, rp⟩⟩
  · exact ⟨H, I, S⟩
theorem SV.frz (i : Nat) (h : SV C st g) : SV C st (frzS i g) := by
  intro pins s σ H D I ⟨ρ, B, S, q⟩
  obtain ⟨H', I', S'⟩ := frz_st i I S
  exact h pins s σ H' D I' ⟨_, B, S', q⟩
theorem SVs.frz (i : Nat) (h : SVs C sts g) : SVs C sts (frzS i g) := by
  intro pins s σ H D I ⟨ρ, B, S, q⟩
  obtain ⟨H', I', S'⟩ := frz_st i I S
  exact h pins s σ H' D I' ⟨_, B, S', q⟩
def tTg (C : Cn) (h : PV → PSt → Option PSt) : TG := fun v σ H Q => ∃ ρ B p ρ', StOk C.X.K B H σ ρ ∧ Rep C.X.K H p v ∧ h p ρ = some ρ' ∧ ∀ σ', StOk C.X.K B H σ' ρ' → Q σ' H
def TGt (C : Cn) (tg : Expr) (h : PV → PSt → Option PSt) : Prop := PG C.X tg (tTg C h)
def tTgs (C : Cn) (h : List PV → PSt → Option PSt) : TGs := fun vs σ H Q => ∃ ρ B ps ρ', StOk C.X.K B H σ ρ ∧ Reps C.X.K H ps vs ∧ h ps ρ = some ρ' ∧ ∀ σ', StOk C.X.K B H σ' ρ' → Q σ' H
def TGts (C : Cn) (ts : List Expr) (h : List PV → PSt → Option PSt) : Prop := PGs C.X ts (tTgs C h)
theorem tg_name (i : Nat) {x : Str} (hN : C.X.N.Nodup) (hi : C.X.N[i]? = some x) (hx : Loc C.X.env.scope x) (hf : C.X.fn x = true ∨ C.X.env.scope.names.lookup x = some .local := by first | exact .inl rfl | exact .inr rfl | assumption) :
    TGt C (.Name x pos) (nameT i) := by
  intro pins s σ H v u Q I r ⟨ρ, B, p, ρ', S, rp, e, k⟩
  cases e
  exact pg_name hN hi hx hf pins s σ H v u Q I r (k _ (S.setV rp))
theorem tgs_nil : TGts C [] nilT := by
  intro pins s σ H vs us Q I r ⟨ρ, B, ps, ρ', S, rp, e, k⟩
  cases ps with
  | nil => cases e; cases rp; exact pgs_nil pins s σ H _ us Q I r ⟨rfl, k _ S⟩
  | cons _ _ => cases e
theorem tgs_cons {es : List Expr} {h : PV → PSt → Option PSt} {h' : List PV → PSt → Option PSt} (h1 : TGt C e h) (h2 : TGts C es h') (hs : (assignEach (e :: es) C.X.env).map (·.2) = assign e C.X.env :: (assignEach es C.X.env).map (·.2) := by rfl) : TGts C (e :: es) (consT h h') := by
  intro pins s σ H vs us Q I r ⟨ρ, B, ps, ρ', S, rp, ee, k⟩
  cases ps with
  | nil => cases ee
  | cons p qs =>
    obtain ⟨x, xs, rfl, rp1, rp2⟩ := rp
    have ee : (h p ρ).bind (fun ρ1 => h' qs ρ1) = some ρ' := ee
    obtain ⟨ρ1, e1, e2⟩ := Option.bind_eq_some_iff.mp ee
    exact pgs_cons h1 h2 hs pins s σ H _ us Q I r ⟨x, xs, rfl, ρ, B, p, ρ1, S, rp1, e1, fun σ1 S1 => ⟨ρ1, B, qs, ρ', S1, rp2, e2, k⟩⟩
end
end PU
end
section
namespace PU
open PySem PySem.Spec PyProof.Rows L2
variable [TW]
section
variable {C : Cn} {st : Stmt} {sts a b body : List Stmt} {e tg iter c : Expr} {f fk : PSt → R PV} {g g' : PSt → R Fl} {pos : Pos} {t : PSt → R Bool}
theorem tg_tup {es : List Expr} {k n : Nat} {h : List PV → PSt → Option PSt} (hc : C.X.calm = true) (hh : TGts C es h)
    (hn : (assignEach es C.X.env).length = n := by rfl) (hst : (assignEach es C.X.env).findIdx? (·.1) = none := by rfl) : TGt C (.Tuple es k pos) (tupT n h) := by
  intro pins s σ H v u Q I r ⟨ρ, B, p, ρ', S, rp, e, k⟩
  cases p with
  | tup ps =>
    have e : (if ps.length = n then h ps ρ else none) = some ρ' := e
    by_cases hl : ps.length = n
    · rw [if_pos hl] at e
      obtain ⟨a, xs, rfl, hq, r1⟩ := rp
      exact pg_tup hc hh hn hst pins s σ H _ u Q I r ⟨a, xs, rfl, hq, by rw [← r1.length]; exact hl, ρ, B, ps, ρ', S, r1, e, k⟩
    · rw [if_neg hl] at e
      cases e
  | _ => cases e
def ItP (K : PySem.W.Frag) (J : It) (H₁ : Hp) (ps : List PV) : Prop :=
  ∀ (i : Nat) (H : Hp), Kp H₁ H → (i = ps.length → J.stop i H) ∧ ∀ p, ps[i]? = some p → J.go i H ∧ ∀ x H', J.yld i H x H' → Same H H' ∧ Rep K H' p x
def tI (C : Cn) (f : PSt → R (List PV)) : TI := fun σ H Q => ∃ ρ, View C.X.K H σ ρ ∧ RQ C H (f ρ) fun ps => ∀ J H', Same H H' → ItP C.X.K J H' ps → Q J H'
def EI (C : Cn) (tg iter : Expr) (f : PSt → R (List PV)) : Prop := PI C.X tg iter (tI C f)
theorem drop_get {α : Type} {l : List α} {i : Nat} {x : α} (h : l[i]? = some x) : l.drop i = x :: l.drop (i + 1) := by
  obtain ⟨hl, e⟩ := List.getElem?_eq_some_iff.mp h
  rw [List.drop_eq_getElem_cons hl, e]
theorem sv_for {fi : PSt → R (List PV)} {h : PV → PSt → Option PSt} (hp : PassesOwn (model C.X.prog C.X.w) C.X.A C.X.env C.X.xe) (hc : C.X.calm = true) (hi : EI C tg iter fi) (hg : TGt C tg h) (hb : SVs C body g)
    (hs : ∀ x, foldedSetIterable iter C.X.env x = pure x := by intro _; rfl) : SV C (.For tg iter body [] pos) (forS fi h g) := by
  intro pins s σ H D I ⟨ρ, B, S, q⟩
  refine ps_for hp hc hi hg hb hs pins s σ H D I ⟨ρ, S.vw, (q.bind S.same).imp fun ps _ k J H1 s1 it => ?_⟩
  refine ⟨fun i m σ' H' => ∃ ρ', m = ps.length - i ∧ i ≤ ps.length ∧ StOk C.X.K (B.1, H1) H' σ' ρ' ∧ RS C B D (forF h g (ps.drop i) ρ'), ⟨ps.length, ρ, rfl, Nat.zero_le _, (S.grow s1).rebase (Kp.refl H1), by simpa using k⟩, ?_⟩
  rintro i m σ' H' ⟨ρ', rfl, hi', S', q'⟩
  have back : ∀ {σ2 : L2.St} {H2 : Hp} {ρ2 : PSt}, StOk C.X.K (B.1, H1) H2 σ2 ρ2 → StOk C.X.K B H2 σ2 ρ2 := fun {σ2 H2 ρ2} S2 => ⟨S2.len, S2.same, (S.kp.trans (Same.kp s1)).trans S2.kp, S2.vw, S2.fresh, S2.apart⟩
  obtain ⟨stp, stepp⟩ := it i H' S'.kp
  by_cases hlt : i < ps.length
  · have ei : ps[i]? = some ps[i] := by simp [hlt]
    obtain ⟨go, yl⟩ := stepp _ ei
    rw [drop_get ei] at q'
    obtain ⟨ρ1, e1, q1⟩ := RS.ofO q'
    refine .inr ⟨go, fun σ2 H2 => ∃ ρ2, StOk C.X.K (B.1, H1) H2 σ2 ρ2 ∧ RS C B D (forF h g (ps.drop (i + 1)) ρ2), fun σ2 H2 ⟨ρ2, S2, r2⟩ => ⟨ps.length - (i + 1), by omega, ρ2, rfl, hlt, S2, r2⟩, fun x H2 y => ?_⟩
    obtain ⟨s2, rp⟩ := yl x H2 y
    refine ⟨ρ', (B.1, H1), ps[i], ρ1, S'.grow s2, rp, e1, fun σ3 S3 => ⟨ρ1, (B.1, H1), S3, ?_⟩⟩
    cases hgr : g ρ1 with
    | ok fl =>
      rw [hgr] at q1
      cases fl with
      | next ρ2 => exact fun σ4 H4 S4 => ⟨ρ2, S4, q1⟩
      | cont ρ2 => exact fun σ4 H4 S4 => ⟨ρ2, S4, q1⟩
      | brk ρ2 => exact fun σ4 H4 S4 => q1 σ4 H4 (back S4)
      | ret p => exact q1
    | er x => rw [hgr] at q1; exact q1
    | no => rw [hgr] at q1; exact q1
  · have e : i = ps.length := by omega
    subst e
    rw [List.drop_length] at q'
    exact .inl ⟨stp rfl, q' σ' H' (back S')⟩
end
end PU
end
section
namespace PU
open PySem PySem.Spec PyProof.Rows L2
variable [TW]
def spP (K : PySem.W.Frag) (n : Nat) (F : List PV → Option PV) : Sp := fun vs H Q _ => vs.length = n ∧ ∃ ps p, Reps K H ps vs ∧ F ps = some p ∧ ∀ v H', Same H H' → Rep K H' p v → Q v H'
structure PF (P : Program) (w : World) (K : PySem.W.Frag) (mg : Str → Option Value) (base : Heap) (k : Nat) (x : Str) (F : List PV → Option PV) : Prop where
  ex : ∃ (f : Addr) (fd : FuncData) (ps : List Str), FnOk P w K mg base CX0 k f fd ps (spP K ps.length F) ∧ mg x = some (.ref f) ∧ PySem.W.keepIn K (.ref f) = true ∧ Binds K fd ps [] ∧ ∀ qs p, F qs = some p → qs.length = ps.length
theorem PF.mono {P : Program} {w : World} {K : PySem.W.Frag} {mg : Str → Option Value} {base : Heap} {j k : Nat} {x : Str} {F : List PV → Option PV} (h : PF P w K mg base j x F) (hk : j ≤ k) : PF P w K mg base k x F := by
  obtain ⟨f, fd, ps, a, b, c, d, l⟩ := h.ex
  exact ⟨f, fd, ps, a.mono hk, b, c, d, l⟩
theorem PF.imp {P : Program} {w : World} {K : PySem.W.Frag} {mg : Str → Option Value} {base : Heap} {k : Nat} {x : Str} {F F' : List PV → Option PV} (h : PF P w K mg base k x F) (hf : ∀ ps p, F' ps = some p → F ps = some p) : PF P w K mg base k x F' := by
  obtain ⟨f, fd, ps, a, b, c, d, l⟩ := h.ex
  refine ⟨f, fd, ps, ⟨fun vs H Q E h => h.1, fun A outer s H args us vs Q E hr e0 hb r hsp => ?_⟩, b, c, d, fun qs p h => l qs p (hf qs p h)⟩
  obtain ⟨hl, qs, p, r1, e, k⟩ := hsp
  exact a.run A outer s H args us vs Q E hr e0 hb r ⟨hl, qs, p, r1, hf qs p e, k⟩
section
variable {C : Cn} {e : Expr} {es : List Expr} {fs : PSt → R (List PV)} {x : Str} {k : Nat} {F : List PV → Option PV} {p pos : Pos}
theorem ev_call (G : PF C.X.prog C.X.w C.X.K C.X.mg C.X.base k x F) (hr : Room k C.X.A) (hg : Gl C.X x) (ha : EA C (e :: es) fs)
    (hdb : (x == ("__debug__" : Str)) = false := by decide) (he : starEach (e :: es) C.X.env = (false, eval e C.X.env) :: starEach es C.X.env := by exact star_cons rfl) (hpl : (backTo pos (starEach es C.X.env)).any (·.1) = false := by exact star_any rfl) :
    EV C (.Call (.Name x p) (e :: es) [] pos) (callF fs F) := by
  obtain ⟨f, fd, ps, a, b, c, d, l⟩ := G.ex
  intro pins s σ H Q I ⟨ρ, vw, q⟩
  refine pe_call (dvs := []) (ds := []) (E := E0) a hr hg b c d .nil pass0 ha hdb he hpl pins s σ H Q I ⟨ρ, vw, q.bind.imp fun qs _ k vs H1 s1 r1 => ?_⟩
  obtain ⟨z, ez, k⟩ := k.ofO
  rw [List.append_nil]
  exact ⟨by rw [← r1.length]; exact l qs z ez, qs, z, r1, ez, fun v H' s' r' => k v H' (s1.trans s') r'⟩
end
section
variable {P : Program} {w : World} {K : PySem.W.Frag} {mg : Str → Option Value} {base : Heap}
abbrev cnOf (P : Program) (w : World) (K : PySem.W.Frag) (mg : Str → Option Value) (base : Heap) (N : List Str) (qual : Str) (sc : Scope) (f : Addr) (cdv : Value) (A : Around) (outer : List Env) (s : Shared) (H : Hp) (E : XK) : Cn :=
  ⟨(cxOf CX0 P w K mg base N qual sc f cdv A outer s H E).nox, fun _ _ => False⟩
theorem no_own {ps : List PV} {n i : Nat} {p : PV} (e : (start n ps)[i]? = some (.own p)) : False := by
  unfold start at e
  by_cases hi : i < ps.length
  · rw [List.getElem?_append_left (by simpa using hi), List.getElem?_map] at e
    cases h : ps[i]? with
    | none => rw [h] at e; cases e
    | some p => rw [h] at e; cases e
  · rw [List.getElem?_append_right (by simpa using hi), List.getElem?_replicate] at e
    split at e <;> cases e
theorem start_ok {K : PySem.W.Frag} {H : Hp} {N : List Str} {ps : List PV} {vs : List V} (r : Reps K H ps vs) : StOk K (H, H) H (L2.start N vs) (start N.length ps) := by
  have hl := r.length
  refine ⟨by simp [start, L2.start, hl], Same.refl H, Kp.refl H, fun i l e => ?_, fun i p a e f => ?_, fun i j p q a e1 e2 f1 f2 => ?_⟩
  · unfold start at e
    by_cases hi : i < ps.length
    · rw [List.getElem?_append_left (by simpa using hi), List.getElem?_map] at e
      cases h : ps[i]? with
      | none => rw [h] at e; cases e
      | some p =>
        rw [h] at e
        cases e
        obtain ⟨v, ev, rp⟩ := r.get h
        refine ⟨v, ?_, rp⟩
        unfold L2.start
        rw [List.getElem?_append_left (by rw [List.length_map, ← hl]; exact hi), List.getElem?_map, ev]
        rfl
    · rw [List.getElem?_append_right (by simpa using hi), List.getElem?_replicate] at e
      split at e
      · cases e
        exact trivial
      · cases e
  all_goals exfalso
  · exact no_own e
  · exact no_own e1
theorem pf_of {x qual : Str} {st : Stmt} {f : Addr} {fd : FuncData} {N ps : List Str} {k : Nat} {g : PSt → R Fl} (F : Fun K x qual st f fd) (S : FnScope N ps (defScope st)) (hm : mg x = some (.ref f)) (hb : Binds K fd ps [])
    (hbody : ∀ (cdv : Value) (A : Around) (outer : List Env) (s : Shared) (H : Hp) (E : XK), Room k (A.deeper (envOfC qual (defScope st) s.heap.objs.size f cdv)) → SVs (cnOf P w K mg base N qual (defScope st) f cdv A outer s H E) (defBody st) g) :
    PF P w K mg base (k + 1) x (runF ps.length N.length g) := by
  refine ⟨f, fd, ps, F.ok S (fun vs H Q E h => h.1) (fun cdv A outer s H vs Q E hr h => ?_), hm, F.kp, hb, fun qs p h => ?_⟩
  · obtain ⟨hl, qs, p, r, e, k⟩ := h
    refine ⟨_, hbody cdv A outer s H E hr, start N.length qs, (H, H), start_ok r, ?_⟩
    unfold runF at e
    rw [if_pos (by rw [r.length]; exact hl)] at e
    cases hg : g (start N.length qs) with
    | ok fl =>
      rw [hg] at e
      cases fl with
      | next ρ => cases e; exact fun σ H' S' => k .non H' S'.same rfl
      | ret q => cases e; exact fun v H' s' r' => k v H' s' r'
      | brk ρ => cases e
      | cont ρ => cases e
    | er x => rw [hg] at e; cases e
    | no => rw [hg] at e; cases e
  · unfold runF at h
    split at h
    · rename_i hl; exact hl
    · cases h
end
end PU
end
section
namespace PU
open PySem PySem.Spec PyProof.Rows L2
variable [TW]
def compCx (X : Cx) (N' : List Str) (scope : Scope) (cl : List (Str × Addr)) (L : Addr) (s₂ : Shared) (H₂ : Hp) (fp : List Addr) : Cx where
  prog := X.prog
  w := X.w
  K := X.K
  mg := X.mg
  base := X.base
  A := X.A
  N := N'
  s₀ := s₂
  H₀ := H₂
  env := compEnvC scope cl L X.env
  outer := X.stack
  stack := X.stack
  ex := fp
  fn := fun _ => false
  calm := true
  pn := []
  xe := fun _ _ => False
abbrev compCn (C : Cn) (N' : List Str) (scope : Scope) (cl : List (Str × Addr)) (L : Addr) (s₂ : Shared) (H₂ : Hp) (fp : List Addr) : Cn := ⟨compCx C.X N' scope cl L s₂ H₂ fp, fun _ _ => False⟩
def tTc (C : Cn) (h : Tgt) : TG := fun v σ H Q => ∃ ρ p ρ', ρ.length = σ.length ∧ View C.X.K H σ ρ ∧ Rep C.X.K H p v ∧ h p ρ = some ρ' ∧ ∀ σ', ρ'.length = σ'.length → View C.X.K H σ' ρ' → Q σ' H
def TCt (C : Cn) (tg : Expr) (h : Tgt) : Prop := PG C.X tg (tTc C h)
def tTcs (C : Cn) (h : Tgts) : TGs := fun vs σ H Q => ∃ ρ ps ρ', ρ.length = σ.length ∧ View C.X.K H σ ρ ∧ Reps C.X.K H ps vs ∧ h ps ρ = some ρ' ∧ ∀ σ', ρ'.length = σ'.length → View C.X.K H σ' ρ' → Q σ' H
def TCts (C : Cn) (ts : List Expr) (h : Tgts) : Prop := PGs C.X ts (tTcs C h)
theorem View.setV {K : PySem.W.Frag} {H : Hp} {σ : L2.St} {ρ : PSt} {i : Nat} {p : PV} {v : V} (vw : View K H σ ρ) (hl : ρ.length = σ.length) (r : Rep K H p v) : View K H (σ.set i (some v)) (ρ.set i (.val p)) := fun j l e => by
  rcases set_get e with ⟨rfl, rfl, hl2⟩ | ⟨hj, e⟩
  · exact ⟨v, get_set_eq (by rw [← hl]; exact hl2), r⟩
  · rw [get_set_ne hj]
    exact vw j l e
section
variable {C : Cn} {e : Expr} {pos : Pos}
theorem tc_name (i : Nat) {x : Str} (hN : C.X.N.Nodup) (hi : C.X.N[i]? = some x) (hx : Loc C.X.env.scope x) (hf : C.X.fn x = true ∨ C.X.env.scope.names.lookup x = some .local := by first | exact .inl rfl | exact .inr rfl | assumption) :
    TCt C (.Name x pos) (nameT i) := by
  intro pins s σ H v u Q I r ⟨ρ, p, ρ', hl, vw, rp, e, k⟩
  cases e
  exact pg_name hN hi hx hf pins s σ H v u Q I r (k _ (by simp [hl]) (vw.setV hl rp))
theorem tcs_nil : TCts C [] nilT := by
  intro pins s σ H vs us Q I r ⟨ρ, ps, ρ', hl, vw, rp, e, k⟩
  cases ps with
  | nil => cases e; cases rp; exact pgs_nil pins s σ H _ us Q I r ⟨rfl, k _ hl vw⟩
  | cons _ _ => cases e
theorem tcs_cons {es : List Expr} {h : Tgt} {h' : Tgts} (h1 : TCt C e h) (h2 : TCts C es h') (hs : (assignEach (e :: es) C.X.env).map (·.2) = assign e C.X.env :: (assignEach es C.X.env).map (·.2) := by rfl) : TCts C (e :: es) (consT h h') := by
  intro pins s σ H vs us Q I r ⟨ρ, ps, ρ', hl, vw, rp, ee, k⟩
  cases ps with
  | nil => cases ee
  | cons p qs =>
    obtain ⟨x, xs, rfl, rp1, rp2⟩ := rp
    have ee : (h p ρ).bind (fun ρ1 => h' qs ρ1) = some ρ' := ee
    obtain ⟨ρ1, e1, e2⟩ := Option.bind_eq_some_iff.mp ee
    exact pgs_cons h1 h2 hs pins s σ H _ us Q I r ⟨x, xs, rfl, ρ, p, ρ1, hl, vw, rp1, e1, fun σ1 hl1 vw1 => ⟨ρ1, qs, ρ', hl1, vw1, rp2, e2, k⟩⟩
theorem tc_tup {es : List Expr} {k n : Nat} {h : Tgts} (hc : C.X.calm = true) (hh : TCts C es h)
    (hn : (assignEach es C.X.env).length = n := by rfl) (hst : (assignEach es C.X.env).findIdx? (·.1) = none := by rfl) : TCt C (.Tuple es k pos) (tupT n h) := by
  intro pins s σ H v u Q I r ⟨ρ, p, ρ', hl, vw, rp, e, k⟩
  cases p with
  | tup ps =>
    have e : (if ps.length = n then h ps ρ else none) = some ρ' := e
    by_cases hl2 : ps.length = n
    · rw [if_pos hl2] at e
      obtain ⟨a, xs, rfl, hq, r1⟩ := rp
      exact pg_tup hc hh hn hst pins s σ H _ u Q I r ⟨a, xs, rfl, hq, by rw [← r1.length]; exact hl2, ρ, ps, ρ', hl, vw, r1, e, k⟩
    · rw [if_neg hl2] at e
      cases e
  | _ => cases e
end
def LowT (n : Nat) (h : Tgt) : Prop := ∀ p ρ ρ1, h p ρ = some ρ1 → ρ1.length = ρ.length ∧ ∀ i, n ≤ i → ρ1[i]? = ρ[i]?
def LowTs (n : Nat) (h : Tgts) : Prop := ∀ p ρ ρ1, h p ρ = some ρ1 → ρ1.length = ρ.length ∧ ∀ i, n ≤ i → ρ1[i]? = ρ[i]?
theorem low_name {n i : Nat} (h : i < n) : LowT n (nameT i) := fun p ρ ρ1 e => by
  cases e
  exact ⟨by simp, fun j hj => get_set_ne (by omega)⟩
theorem low_nil {n : Nat} : LowTs n nilT := fun ps ρ ρ1 e => by
  cases ps with
  | nil => cases e; exact ⟨rfl, fun _ _ => rfl⟩
  | cons _ _ => cases e
theorem low_cons {n : Nat} {h : Tgt} {h' : Tgts} (a : LowT n h) (b : LowTs n h') : LowTs n (consT h h') := fun ps ρ ρ2 e => by
  cases ps with
  | nil => cases e
  | cons p qs =>
    have e : (h p ρ).bind (fun ρ1 => h' qs ρ1) = some ρ2 := e
    obtain ⟨ρ1, e1, e2⟩ := Option.bind_eq_some_iff.mp e
    obtain ⟨l1, g1⟩ := a p ρ ρ1 e1
    obtain ⟨l2, g2⟩ := b qs ρ1 ρ2 e2
    exact ⟨l2.trans l1, fun i hi => (g2 i hi).trans (g1 i hi)⟩
theorem low_tup {n m : Nat} {h : Tgts} (a : LowTs n h) : LowT n (tupT m h) := fun p ρ ρ1 e => by
  cases p with
  | tup ps =>
    have e : (if ps.length = m then h ps ρ else none) = some ρ1 := e
    split at e
    · exact a ps ρ ρ1 e
    · cases e
  | _ => cases e
def ETs (C : Cn) (ifs : List Expr) (t : PSt → R Bool) : Prop := (ifs = [] ∧ t = yesB) ∨ ∃ c, ifs = [c] ∧ ET C c t
theorem ets_nil {C : Cn} : ETs C [] yesB := .inl ⟨rfl, rfl⟩
def clOf (cells : List (Str × Addr)) : List (Str × NameKind) → List (Str × Addr) → List (Str × Addr)
  | [], acc => acc
  | (n, k) :: r, acc => if (k == .free) = true then (match cells.lookup n with
    | some c => clOf cells r ((n, c) :: acc)
    | none => clOf cells r acc) else clOf cells r acc
theorem closureFor_clOf {scope : Scope} {env : Env} (h : ∀ y ∈ scope.names, y.2 = .free → ∃ c, env.cells.lookup y.1 = some c) : closureFor scope env = pure (clOf env.cells scope.names []) := by
  have gen : ∀ (l : List (Str × NameKind)) (acc : List (Str × Addr)), (∀ y ∈ l, y.2 = .free → ∃ c, env.cells.lookup y.1 = some c) →
      (forIn l acc fun x r => (match x with | (name, kind) => if (kind == NameKind.free) = true then do let a ← cellOf env name; pure (ForInStep.yield ((name, a) :: r)) else pure (ForInStep.yield r) : Sem (ForInStep (List (Str × Addr))))) = pure (clOf env.cells l acc) := by
    intro l
    induction l with
    | nil => intro acc _; rfl
    | cons y r ih =>
      intro acc hy
      obtain ⟨n, k⟩ := y
      rw [List.forIn_cons]
      have hr := fun z hz => hy z (List.mem_cons_of_mem _ hz)
      by_cases hk : (k == NameKind.free) = true
      · obtain ⟨c, hc⟩ := hy (n, k) List.mem_cons_self (by simpa using hk)
        have hc : env.cells.lookup n = some c := hc
        have e1 : cellOf env n = pure c := by unfold cellOf; rw [hc]
        simp only [hk, if_true, e1, clOf, hc]
        exact ih _ hr
      · simp only [hk, if_false, clOf]
        exact ih _ hr
  have := gen scope.names [] h
  have e : closureFor scope env = ((forIn scope.names ([] : List (Str × Addr)) fun x r => (match x with | (name, kind) => if (kind == NameKind.free) = true then do let a ← cellOf env name; pure (ForInStep.yield ((name, a) :: r)) else pure (ForInStep.yield r) : Sem (ForInStep (List (Str × Addr))))) >>= fun cs => pure cs) := rfl
  rw [e, this]
  rfl
theorem clOf_lookup {cells : List (Str × Addr)} {x : Str} {c : Addr} : ∀ {l : List (Str × NameKind)} {acc : List (Str × Addr)}, (clOf cells l acc).lookup x = some c → cells.lookup x = some c ∨ acc.lookup x = some c
  | [], acc, h => .inr h
  | (n, k) :: r, acc, h => by
    unfold clOf at h
    split at h
    · split at h
      · rename_i d hd
        rcases clOf_lookup h with z | z
        · exact .inl z
        · rw [List.lookup_cons] at z
          by_cases e : (x == n) = true
          · rw [e] at z
            cases z
            rw [eq_of_beq e]
            exact .inl hd
          · simp only [Bool.not_eq_true] at e
            rw [e] at z
            exact .inr z
      · exact clOf_lookup h
    · exact clOf_lookup h
theorem clOf_keep {cells : List (Str × Addr)} {x : Str} : ∀ {l : List (Str × NameKind)} {acc : List (Str × Addr)}, (acc.lookup x).isSome = true → ((clOf cells l acc).lookup x).isSome = true
  | [], acc, h => h
  | (n, k) :: r, acc, h => by
    unfold clOf
    split
    · split
      · refine clOf_keep ?_
        rw [List.lookup_cons]
        split
        · rfl
        · exact h
      · exact clOf_keep h
    · exact clOf_keep h
theorem clOf_has {cells : List (Str × Addr)} {x : Str} {c : Addr} (hc : cells.lookup x = some c) : ∀ {l : List (Str × NameKind)} {acc : List (Str × Addr)}, (x, NameKind.free) ∈ l → (clOf cells l acc).lookup x = some c := by
  have fin : ∀ {l : List (Str × NameKind)} {acc : List (Str × Addr)}, (∀ d, acc.lookup x = some d → d = c) → ((clOf cells l acc).lookup x).isSome = true → (clOf cells l acc).lookup x = some c := fun {l acc} ha h => by
    obtain ⟨d, hd⟩ := Option.isSome_iff_exists.mp h
    rcases clOf_lookup hd with z | z
    · rw [hc] at z; cases z; exact hd
    · rw [hd, ha d z]
  intro l
  induction l with
  | nil => intro acc h; cases h
  | cons y r ih =>
    intro acc h
    obtain ⟨n, k⟩ := y
    have rest : ∀ acc, (x, NameKind.free) ∈ r → (clOf cells r acc).lookup x = some c := fun acc hr => ih hr
    rcases List.mem_cons.mp h with z | z
    · cases z
      unfold clOf
      rw [if_pos (show (NameKind.free == NameKind.free) = true from rfl), hc]
      show (clOf cells r ((x, c) :: acc)).lookup x = some c
      have hs : (((x, c) :: acc).lookup x) = some c := by rw [List.lookup_cons, beq_self_eq_true]
      exact fin (fun d hd => by rw [hs] at hd; cases hd; rfl) (clOf_keep (by rw [hs]; rfl))
    · unfold clOf
      split
      · split
        · exact rest _ z
        · exact rest _ z
      · exact rest _ z
theorem lookup_relabel {env : Env} {x : Str} : ∀ {names : List (Str × NameKind)}, names.lookup x = some .free →
    (names.map fun (n, k) => if (k == NameKind.free && env.scope.kind == .function && env.kindOf n == some .cell) then (n, NameKind.cell) else (n, k)).lookup x = some .cell ∨
    (names.map fun (n, k) => if (k == NameKind.free && env.scope.kind == .function && env.kindOf n == some .cell) then (n, NameKind.cell) else (n, k)).lookup x = some .free
  | [], h => by simp at h
  | (n, k) :: r, h => by
    have ih := @lookup_relabel env x r
    cases hx : x == n with
    | true =>
      simp only [List.lookup_cons, hx] at h
      cases h
      by_cases hc : (NameKind.free == NameKind.free && env.scope.kind == .function && env.kindOf n == some .cell) = true
      · left
        simp only [List.map_cons, hc, if_true, List.lookup_cons, hx]
      · right
        simp only [Bool.not_eq_true] at hc
        simp only [List.map_cons, hc, Bool.false_eq_true, if_false, List.lookup_cons, hx]
    | false =>
      simp only [List.lookup_cons, hx] at h
      by_cases hc : (k == NameKind.free && env.scope.kind == .function && env.kindOf n == some .cell) = true
      · simp only [List.map_cons, hc, if_true, List.lookup_cons, hx]
        exact ih h
      · simp only [Bool.not_eq_true] at hc
        simp only [List.map_cons, hc, List.lookup_cons, Bool.false_eq_true, if_false, hx]
        exact ih h
theorem compLoop_any {prog : Program} {w : World} {A : Around} {R : Result → Shared → Prop} {s : Shared} {elt target iter : Expr} {ifs : List Expr} {scope : Scope} {pos : Pos} {it acc : Value} {env : Env} (I : Nat → Shared → Prop)
    (turn : ∀ n s, I n s → wpAny (model prog w) A (pyNext it) (fun r s₁ => match r with
      | none => R (.ok .next) s₁
      | some v => wpAny (model prog w) A (letOwnedTupleGo target it v) (fun _ s₁ => wpAny (model prog w) A (assign target env v) (fun _ s₂ =>
          wpAny (model prog w) A (forIn ifs true fun c r => if r = true then do let ok ← isTrue c env (eval c env); pure (ForInStep.yield ok) else pure (ForInStep.yield r)) (fun ok s₃ =>
            if ok = true then wpAny (model prog w) A (eval elt env) (fun x s₄ =>
              wpAny (model prog w) A (call (.builtin "list.append") [acc, x]) (fun _ s₅ => ∃ m, m < n ∧ I m s₅) (fun _ _ => False) s₄) (fun _ _ => False) s₃
            else ∃ m, m < n ∧ I m s₃) (fun _ _ => False) s₂) (fun _ _ => False) s₁) (fun _ _ => False) s₁) (fun _ _ => False) s)
    (n : Nat) (h : I n s) :
    codeAny (model prog w) A (.compLoop (.ListComp elt [⟨target, iter, ifs, 0⟩] scope pos) 0 it acc env) R s := by
  refine codeAny_loop rfl I (fun n s hI => ?_) n h
  show wpAny _ A ((compTurn (.ListComp elt [⟨target, iter, ifs, 0⟩] scope pos) 0 it acc env).onRaise (fun x => do noteFrame x env; theTreesLotGoes x)) _ _ s
  refine wpAny_noted ?_
  rw [compTurn_list]
  refine wpAny_bind (wpAny_standAt (wpAny_bind (wpAny_mono (turn n s hI) (fun r s₁ h₁ => ?_) fun _ _ h' => h'.elim)))
  cases r with
  | none => exact wpAny_pure h₁
  | some v =>
    refine wpAny_bind (wpAny_mono h₁ (fun _ s₁ h₁ => ?_) fun _ _ h' => h'.elim)
    refine wpAny_bind (wpAny_mono h₁ (fun _ s₂ h₂ => wpAny_bind (wpAny_mono h₂ (fun ok s₃ h₃ => ?_) fun _ _ h' => h'.elim)) fun _ _ h' => h'.elim)
    cases ok with
    | false => exact wpAny_pure ⟨rfl, h₃⟩
    | true =>
      exact wpAny_bind (wpAny_bind (wpAny_mono h₃ (fun x s₄ h₄ => wpAny_bind (wpAny_mono h₄ (fun _ s₅ h₅ => wpAny_pure (wpAny_pure ⟨rfl, h₅⟩)) fun _ _ h' => h'.elim)) fun _ _ h' => h'.elim))
end PU
end
section
namespace PU
open PySem PySem.Spec PyProof.Rows L2
variable [TW]
structure CompOk (NX : List Str) (scX : Scope) (scope : Scope) (N' : List Str) (nt : Nat) (idx : List Nat) : Prop where
  kind : scope.kind = .function
  cell : ∀ y ∈ scope.names, y.2 ≠ .cell
  names : ∀ y ∈ scope.names, y.2 = .local → scope.names.lookup y.1 = some .local
  free : ∀ y ∈ scope.names, y.2 = .free → scX.names.lookup y.1 = some .cell ∨ scX.names.lookup y.1 = some .free
  len : N'.length = nt + idx.length
  ix : (idx.zip (N'.drop nt)).all (fun p => decide (NX[p.1]? = some p.2) && decide (scope.names.lookup p.2 = some .free)) = true
theorem CompOk.at {NX : List Str} {scX : Scope} {scope : Scope} {N' : List Str} {nt : Nat} {idx : List Nat} (O : CompOk NX scX scope N' nt idx) {k : Nat} {x : Str} (h : N'[nt + k]? = some x) :
    ∃ i, idx[k]? = some i ∧ NX[i]? = some x ∧ scope.names.lookup x = some .free := by
  have hk : k < idx.length := by
    have := (List.getElem?_eq_some_iff.mp h).1
    have := O.len
    omega
  have e1 : idx[k]? = some idx[k] := by simp [hk]
  have e2 : (N'.drop nt)[k]? = some x := by rw [List.getElem?_drop]; exact h
  have e3 : (idx.zip (N'.drop nt))[k]? = some (idx[k], x) := by
    rw [List.getElem?_zip_eq_some]
    exact ⟨e1, e2⟩
  have := List.all_eq_true.mp O.ix _ (List.mem_of_getElem? e3)
  simp only [Bool.and_eq_true, decide_eq_true_eq] at this
  exact ⟨_, e1, this.1, this.2⟩
section
variable {C : Cn} {elt tg iter : Expr} {ifs : List Expr} {scope : Scope} {pos : Pos} {N' : List Str} {nt : Nat} {idx : List Nat} {h : Tgt} {t : PSt → R Bool} {fe : PSt → R PV}
theorem comp_start {pins : List (Addr × Obj)} {σ : L2.St} {H₂ : Hp} {s₂ : Shared} {J : It} {fp : List Addr} {it : Addr} {tn : Nat → Heap → Prop} {ρ : PSt} (O : CompOk C.X.N C.X.env.scope scope N' nt idx) (hc : C.X.calm = true)
    (I : Inv C.X pins σ H₂ s₂) (T : Turn C.X.prog C.X.w C.X.K tg J fp it tn) (st : tn 0 s₂.heap) (hf : ∀ b ∈ fp, FpOk C.X pins H₂ b) (vw : View C.X.K H₂ σ ρ)
    {L D : Addr} {h₁ : Heap} {tk : Nat} (hD : D = s₂.heap.objs.size) (hL : s₂.heap.objs.size ≤ L) (hDL : D ≠ L) (ns : h₁.Ns L (fun _ => none)) (keep : ∀ b o, s₂.heap.get? b = some o → h₁.get? b = some o)
    (acc : h₁.get? D = some { cls := .type "list", data := .seq ([] : List Value).toArray }) :
    ∃ σ', Inv (compCx C.X N' scope (clOf C.X.env.cells scope.names []) L s₂ H₂ fp) [] σ' (upd H₂ D (.lst [])) { s₂ with heap := h₁, toks := tk } ∧ View C.X.K (upd H₂ D (.lst [])) σ' (compE nt idx ρ) ∧ (compE nt idx ρ).length = σ'.length ∧
      ∀ b ∈ fp, b < s₂.heap.objs.size := by
  have fl : ∀ b ∈ fp, b < s₂.heap.objs.size := fun b hb => by
    obtain ⟨o, e, _⟩ := T.obj 0 _ st b hb
    exact Heap.lt_size e
  have nD : H₂ D = none := by rw [hD]; exact I.fresh
  have frC : ∀ y ∈ scope.names, y.2 = .free → ∃ c, C.X.env.cells.lookup y.1 = some c := fun y hy hk => I.ok.has y.1 (O.free y hy hk)
  have clS : ∀ x c, (clOf C.X.env.cells scope.names []).lookup x = some c → C.X.env.cells.lookup x = some c := fun x c e => by
    rcases clOf_lookup e with z | z
    · exact z
    · cases z
  have cne : ∀ x c, (clOf C.X.env.cells scope.names []).lookup x = some c → c < s₂.heap.objs.size := fun x c e => by
    obtain ⟨v, q⟩ := I.cell x c (clS x c e)
    exact q.lt
  refine ⟨List.replicate nt none ++ idx.map (fun i => (σ[i]?).getD none), ⟨⟨I.ok.mod, O.kind, I.ok.glob, I.ok.blt, hL, fun x y c e1 e2 => I.ok.inj x y c (clS x c e1) (clS y c e2), fun x hx => ?_, (fun x c z => absurd (show false = true from z) Bool.false_ne_true), fun _ => I.ok.hd hc, I.ok.frames, .inl rfl,
    fun b hb => ⟨Nat.ne_of_lt (Nat.lt_of_lt_of_le (fl b hb) hL), fun x c e => (hf b hb).2.2.2.2.1 x c (clS x c e)⟩, I.bs, Nat.le_trans I.ok.bsz I.sz, fun b o e hb => ?_, fun b hb z => ?_, I.stack, I.stkFree⟩,
    rfl, I.bare, Un.laid keep (Nat.le_of_eq hD.symm) nD, ⟨_, ns, fun i x v hN hσ hv => ?_⟩, fun x c e => ?_, ?_, fun x c e => ?_, fun p hp => absurd (show p ∈ ([] : List (Addr × Obj)) from hp) (by simp), ?_, ?_⟩, ?_, ?_, fl⟩
  · -- has
    have hx : (relabel scope C.X.env).names.lookup x = some .cell ∨ (relabel scope C.X.env).names.lookup x = some .free := hx
    have : scope.names.lookup x = some .free := by
      have gen : ∀ (l : List (Str × NameKind)), (∀ y ∈ l, y.2 ≠ .cell) → ((l.map fun (n, k) => if (k == NameKind.free && C.X.env.scope.kind == .function && C.X.env.kindOf n == some .cell) then (n, NameKind.cell) else (n, k)).lookup x = some .cell ∨
          (l.map fun (n, k) => if (k == NameKind.free && C.X.env.scope.kind == .function && C.X.env.kindOf n == some .cell) then (n, NameKind.cell) else (n, k)).lookup x = some .free) → l.lookup x = some .free := by
        intro l
        induction l with
        | nil => intro _ z; simp at z
        | cons y r ih =>
          intro hy z
          obtain ⟨n, k⟩ := y
          have hk : k ≠ .cell := hy (n, k) List.mem_cons_self
          have ih := ih fun y' hy' => hy y' (List.mem_cons_of_mem _ hy')
          rw [List.lookup_cons]
          by_cases hc' : (k == NameKind.free && C.X.env.scope.kind == .function && C.X.env.kindOf n == some .cell) = true
          · simp only [List.map_cons, hc', if_true, List.lookup_cons] at z
            cases hx' : x == n with
            | true =>
              have : k = .free := by
                simp only [Bool.and_eq_true] at hc'
                exact eq_of_beq hc'.1.1
              rw [this]
            | false =>
              rw [hx'] at z
              exact ih z
          · simp only [Bool.not_eq_true] at hc'
            simp only [List.map_cons, hc', Bool.false_eq_true, if_false, List.lookup_cons] at z
            cases hx' : x == n with
            | true =>
              rw [hx'] at z
              rcases z with z | z
              · cases z; exact absurd rfl hk
              · cases z; rfl
            | false =>
              rw [hx'] at z
              exact ih z
      exact gen scope.names O.cell hx
    obtain ⟨c, e⟩ := frC (x, .free) (PySem.mem_of_lookup this) rfl
    exact ⟨c, clOf_has e (PySem.mem_of_lookup this)⟩
  · -- noex
    obtain ⟨e1, e2⟩ := I.bs b o e
    obtain ⟨g1, g2, g3, g4, _⟩ := hf b hb
    rcases g4 with z | z
    · exact I.ok.noex b o e z
    · exact absurd (Heap.lt_size (I.ok.bs b o e).1) (Nat.not_lt.mpr z)
  · -- exfs
    obtain ⟨g1, g2, g3, _⟩ := hf b hb
    exact (List.mem_cons.mp (I.stkSub b z)).elim g2 g3
  · -- loc
    by_cases hi : i < nt
    · rw [List.getElem?_append_left (by simpa using hi), List.getElem?_replicate, if_pos hi] at hσ
      cases hσ
    · obtain ⟨k, rfl⟩ : ∃ k, i = nt + k := ⟨i - nt, by omega⟩
      have hN : N'[nt + k]? = some x := hN
      obtain ⟨j, ej, ex, el⟩ := O.at hN
      rw [List.getElem?_append_right (by simp), List.length_replicate, Nat.add_sub_cancel_left, List.getElem?_map, ej] at hσ
      have hσ : some ((σ[j]?).getD none) = some (some v) := hσ
      have hσ : σ[j]? = some (some v) := by
        cases q : σ[j]? with
        | none => rw [q] at hσ; cases hσ
        | some z => rw [q] at hσ; cases hσ; rfl
      obtain ⟨m, hn, hl⟩ := I.loc
      have hfr := O.free (x, .free) (PySem.mem_of_lookup el) rfl
      obtain ⟨u, ru, lk⟩ := hl j x v ex hσ (by rcases hfr with z | z; exact .inr (.inl z); exact .inr (.inr z))
      refine ⟨u, ru, .inr ?_⟩
      rcases lk with ⟨z, _⟩ | ⟨_, c, ec, hcell⟩
      · exfalso
        have z : C.X.env.scope.names.lookup x = some .local := z
        rcases hfr with q | q <;> (rw [show C.X.env.scope.names.lookup x = _ from q] at z; cases z)
      · refine ⟨lookup_relabel (env := C.X.env) el, c, clOf_has ec (PySem.mem_of_lookup el), ?_⟩
        obtain ⟨o, ho, hd⟩ := hcell
        exact ⟨o, keep c o ho, hd⟩
  · obtain ⟨v, o, ho, hd⟩ := I.cell x c (clS x c e)
    exact ⟨v, o, keep c o ho, hd⟩
  · -- free
    show upd H₂ D _ L = none
    rw [upd_ne (Ne.symm hDL)]
    exact I.hok.fresh hL
  · show upd H₂ D _ c = none
    rw [upd_ne (by rw [hD]; exact Nat.ne_of_lt (cne x c e))]
    exact I.freeC x c (clS x c e)
  · exact I.hok.laid keep (Nat.le_of_eq hD.symm) ⟨by simp, [], 0, .nil, acc⟩
  · show _ = N'.length
    rw [O.len]
    simp
  · intro i l e
    unfold compE at e
    by_cases hi : i < nt
    · rw [List.getElem?_append_left (by simpa using hi), List.getElem?_replicate, if_pos hi] at e
      cases e
      exact trivial
    · obtain ⟨k, rfl⟩ : ∃ k, i = nt + k := ⟨i - nt, by omega⟩
      rw [List.getElem?_append_right (by simp), List.length_replicate, Nat.add_sub_cancel_left, List.getElem?_map] at e ⊢
      cases ej : idx[k]? with
      | none => rw [ej] at e; cases e
      | some j =>
        rw [ej] at e
        have e : some (roS ρ[j]?) = some l := e
        cases e
        cases q : ρ[j]? with
        | none => exact trivial
        | some l' =>
          have := (vw j l' q).same (Same.new (o := .lst []) nD)
          cases l' with
          | no => exact trivial
          | val p =>
            obtain ⟨v, ev, r⟩ := this
            exact ⟨v, by show some ((σ[j]?).getD none) = _; rw [ev]; rfl, r⟩
          | own p => exact trivial
  · simp [compE]
theorem compL_cons {ρ : PSt} {p : PV} {ps rest : List PV} (e : compL h t fe ρ (p :: ps) = .ok rest) : ∃ ρ1 b, h p ρ = some ρ1 ∧ t ρ1 = .ok b ∧
    ((b = true ∧ ∃ q r, fe ρ1 = .ok q ∧ compL h t fe ρ ps = .ok r ∧ rest = q :: r) ∨ (b = false ∧ compL h t fe ρ ps = .ok rest)) := by
  unfold compL at e
  cases h1 : h p ρ with
  | none => rw [h1] at e; cases e
  | some ρ1 =>
    rw [h1] at e
    simp only [R.ofO_some, R.ok_bind] at e
    cases h2 : t ρ1 with
    | ok b =>
      rw [h2] at e
      simp only [R.ok_bind] at e
      refine ⟨ρ1, b, rfl, h2, ?_⟩
      cases b with
      | true =>
        rw [if_pos rfl] at e
        cases h3 : fe ρ1 with
        | ok q =>
          rw [h3] at e
          simp only [R.ok_bind] at e
          cases h4 : compL h t fe ρ ps with
          | ok r =>
            rw [h4] at e
            cases e
            exact .inl ⟨rfl, q, r, rfl, rfl, rfl⟩
          | er x => rw [h4] at e; cases e
          | no => rw [h4] at e; cases e
        | er x => rw [h3] at e; cases e
        | no => rw [h3] at e; cases e
      | false =>
        rw [if_neg Bool.false_ne_true] at e
        exact .inr ⟨rfl, e⟩
    | er x => rw [h2] at e; cases e
    | no => rw [h2] at e; cases e
theorem View.weak {K : PySem.W.Frag} {H : Hp} {σ : L2.St} {ρ ρ1 : PSt} {n : Nat} (vw : View K H σ ρ1) (low : ∀ i, n ≤ i → ρ1[i]? = ρ[i]?) (no : ∀ i l, i < n → ρ[i]? = some l → l = .no) : View K H σ ρ := fun i l e => by
  by_cases hi : i < n
  · rw [no i l hi e]; exact trivial
  · exact vw i l (by rw [low i (by omega)]; exact e)
theorem compE_low {idx : List Nat} {nt : Nat} {ρ : PSt} {i : Nat} {l : Sl} (hi : i < nt) (e : (compE nt idx ρ)[i]? = some l) : l = .no := by
  unfold compE at e
  rw [List.getElem?_append_left (by simpa using hi), List.getElem?_replicate, if_pos hi] at e
  cases e
  rfl
theorem compE_own {idx : List Nat} {nt : Nat} {ρ : PSt} {i : Nat} {p : PV} (e : (compE nt idx ρ)[i]? = some (.own p)) : False := by
  unfold compE at e
  by_cases hi : i < nt
  · rw [List.getElem?_append_left (by simpa using hi), List.getElem?_replicate, if_pos hi] at e
    cases e
  · rw [List.getElem?_append_right (by simpa using hi), List.getElem?_map] at e
    cases q : idx[i - (List.replicate nt Sl.no).length]? with
    | none => rw [q] at e; cases e
    | some j =>
      rw [q] at e
      have e : some (roS ρ[j]?) = some (Sl.own p) := e
      unfold roS at e
      split at e <;> cases e
theorem View.noOwn {K : PySem.W.Frag} {H H' : Hp} {σ : L2.St} {ρ : PSt} (vw : View K H σ ρ) (no : ∀ (i : Nat) (p : PV), ρ[i]? ≠ some (Sl.own p)) (k : Kp H H') : View K H' σ ρ := fun i l e => by
  have := vw i l e
  cases l with
  | no => exact trivial
  | val p => obtain ⟨v, ev, r⟩ := this; exact ⟨v, ev, r.kp k⟩
  | own p => exact absurd e (no i p)
theorem comp_core {pins : List (Addr × Obj)} {σ : L2.St} {H₂ : Hp} {s₂ : Shared} {J : It} {fp : List Addr} {it : Addr} {tn : Nat → Heap → Prop} {ρ : PSt} {ps qs : List PV} {RR : Value → Addr → Result → Shared → Prop} {E : Value → Shared → Prop}
    (O : CompOk C.X.N C.X.env.scope scope N' nt idx) (hc : C.X.calm = true)
    (hg : ∀ cl L s H fp, TCt (compCn C N' scope cl L s H fp) tg h) (hlow : LowT nt h) (ht : ∀ cl L s H fp, ETs (compCn C N' scope cl L s H fp) ifs t) (he : ∀ cl L s H fp, EV (compCn C N' scope cl L s H fp) elt fe)
    (I : Inv C.X pins σ H₂ s₂) (T : Turn C.X.prog C.X.w C.X.K tg J fp it tn) (st : tn 0 s₂.heap) (hf : ∀ b ∈ fp, FpOk C.X pins H₂ b) (vw : View C.X.K H₂ σ ρ) (ip : ItP C.X.K J H₂ ps)
    (hq : compL h t fe (compE nt idx ρ) ps = .ok qs) (hz : qs.length ≤ sizeLine)
    (hRR : ∀ D L σ' H' s' xs, Inv (compCx C.X N' scope (clOf C.X.env.cells scope.names []) L s₂ H₂ fp) [] σ' H' s' → Same H₂ H' → H₂ D = none → H' D = some (.lst xs) → Reps C.X.K H' qs xs → s₂.heap.objs.size ≤ L → RR (.ref D) L (.ok .next) s') :
    wpAny (model C.X.prog C.X.w) C.X.A (newList []) (fun acc s₃ => wpAny (model C.X.prog C.X.w) C.X.A (newFunctionEnv scope C.X.env.globals (clOf C.X.env.cells scope.names []) [] C.X.env.qual none .none (some C.X.env)) (fun cenv s₄ =>
      codeAny (model C.X.prog C.X.w) C.X.A (.compStart (.ListComp elt [⟨tg, iter, ifs, 0⟩] scope pos) 0 (.ref it) acc { cenv with scope := relabel scope C.X.env }) (RR acc cenv.locals) s₄) E s₃) E s₂ := by
  refine wpAny_newObj_type (wpAny_newFunctionEnv O.cell (by intro y hy; simp at hy) (fun h₁ hns₁ hsb₁ => ?_) O.kind)
  dsimp only at hns₁ hsb₁ ⊢
  generalize hG : s₂.heap.push { cls := .type "list", dict := none, data := .seq ([] : List Value).toArray } = G at hns₁ hsb₁ ⊢
  have hC : G.objs.size = s₂.heap.objs.size + 1 := by rw [← hG, Heap.size_push]
  have hDL : s₂.heap.objs.size ≠ G.objs.size := by rw [hC]; exact Nat.ne_of_lt (Nat.lt_succ_self _)
  have keep : ∀ b o, s₂.heap.get? b = some o → h₁.get? b = some o := fun b o e =>
    hsb₁.extBut b o (by rw [hC]; exact Nat.ne_of_lt (Nat.lt_succ_of_lt (Heap.lt_size e))) (Heap.get?_push_of_some _ (hG ▸ Heap.get?_push_of_some _ e))
  have acc : h₁.get? s₂.heap.objs.size = some { cls := .type "list", data := .seq ([] : List Value).toArray } := hsb₁.extBut _ _ hDL (Heap.get?_push_of_some _ (hG ▸ Heap.get?_push_size _ rfl))
  have nD : H₂ s₂.heap.objs.size = none := I.fresh
  have hGe : s₂.heap.objs.size ≤ G.objs.size := by rw [hC]; exact Nat.le_succ _
  obtain ⟨σ0, I0, vw0, hl0, fl⟩ := comp_start O hc I T st hf vw (L := G.objs.size) (tk := s₂.toks + ([] : List (Str × Value)).length) rfl hGe hDL (by simpa using hns₁) keep acc
  have fpk : ∀ {H' : Hp} {pins' : List (Addr × Obj)}, (∀ b ∈ fp, H' b = none) → (∀ p ∈ pins', p.1 ∉ fp) → ∀ b ∈ fp, FpOk (compCx C.X N' scope (clOf C.X.env.cells scope.names []) G.objs.size s₂ H₂ fp) pins' H' b := fun {H' pins'} hn hp b hb => by
    obtain ⟨g1, g2, g3, g4, g5, g6⟩ := hf b hb
    refine ⟨hn b hb, Nat.ne_of_lt (Nat.lt_of_lt_of_le (fl b hb) hGe), fun z => ?_, .inl hb, fun x c e => ?_, fun p hp' z => ?_⟩
    · exact (List.mem_cons.mp (I.stkSub b z)).elim g2 g3
    · rcases clOf_lookup e with z | z
      · exact g5 x c z
      · cases z
    · subst z
      exact hp p ((show p ∈ ([] : List (Addr × Obj)) ++ pins' from hp')) hb
  have loop : codeAny (model C.X.prog C.X.w) C.X.A (.compLoop (.ListComp elt [⟨tg, iter, ifs, 0⟩] scope pos) 0 (.ref it) (.ref s₂.heap.objs.size) (compEnvC scope (clOf C.X.env.cells scope.names []) G.objs.size C.X.env))
      (RR (.ref s₂.heap.objs.size) G.objs.size) { s₂ with heap := h₁, toks := s₂.toks + ([] : List (Str × Value)).length } := by
    refine compLoop_any (fun n s => ∃ i σ' H' xs dn rest, n = ps.length - i ∧ i ≤ ps.length ∧ Inv (compCx C.X N' scope (clOf C.X.env.cells scope.names []) G.objs.size s₂ H₂ fp) [] σ' H' s ∧ tn i s.heap ∧ (∀ b ∈ fp, H' b = none) ∧ Same H₂ H' ∧
      H' s₂.heap.objs.size = some (.lst xs) ∧ Reps C.X.K H' dn xs ∧ View C.X.K H' σ' (compE nt idx ρ) ∧ (compE nt idx ρ).length = σ'.length ∧ compL h t fe (compE nt idx ρ) (ps.drop i) = .ok rest ∧ dn ++ rest = qs) ?_ ps.length
      ⟨0, σ0, _, [], [], qs, rfl, Nat.zero_le _, I0, T.keep _ _ _ st fun b _ o e => keep b o e, fun b hb => ?_, Same.new nD, upd_same, Reps.nil, vw0, hl0, by simpa using hq, rfl⟩
    · rintro n s ⟨i, σ', H', xs, dn, rest, rfl, hi, I', st', fr', sm', hD', rp', vw', hl', e', ea⟩
      obtain ⟨stp, stepp⟩ := ip i H' (Same.kp sm')
      by_cases hlt : i < ps.length
      · have ei : ps[i]? = some ps[i] := by simp [hlt]
        obtain ⟨go, yl⟩ := stepp _ ei
        rw [drop_get ei] at e'
        obtain ⟨ρ1, b, e1, e2, e3⟩ := compL_cons e'
        obtain ⟨l1, low1⟩ := hlow _ _ _ e1
        refine thn (T.item (compCx C.X N' scope (clOf C.X.env.cells scope.names []) G.objs.size s₂ H₂ fp) rfl rfl rfl rfl i [] s σ' H' _ I' (fpk fr' (by simp)) st' go) fun r s1 ⟨u, hr, h4⟩ => ?_
        subst hr
        refine thn h4 fun _ s2 ⟨x, H3, I3, r3, y3, st3, fr3⟩ => ?_
        obtain ⟨sm3, rp3⟩ := yl x H3 y3
        have I3' := I3.pinned (fpk fr3 (by simp)) (T.obj _ _ st3)
        refine thn (hg _ _ _ _ _ _ s2 σ' H3 x u (fun σ4 H4 => H4 = H3 ∧ ρ1.length = σ4.length ∧ View C.X.K H4 σ4 ρ1) I3' r3 ⟨_, _, ρ1, hl', vw'.same sm3, rp3, e1, fun σ4 hl4 vw4 => ⟨rfl, hl4, vw4⟩⟩) fun _ s4 ⟨σ4, H4, I4, q4⟩ => ?_
        obtain ⟨rfl, hl4, vw4⟩ := q4
        have tests : wpAny (model C.X.prog C.X.w) C.X.A (forIn ifs true fun c r => if r = true then do let ok ← isTrue c (compEnvC scope (clOf C.X.env.cells scope.names []) G.objs.size C.X.env) (eval c (compEnvC scope (clOf C.X.env.cells scope.names []) G.objs.size C.X.env)); pure (ForInStep.yield ok) else pure (ForInStep.yield r))
            (TP (compCx C.X N' scope (clOf C.X.env.cells scope.names []) G.objs.size s₂ H₂ fp) ([] ++ pinsAt fp s2.heap) σ4 (fun b' H5 => b' = b ∧ Same H4 H5)) (fun _ _ => False) s4 := by
          rcases ht (clOf C.X.env.cells scope.names []) G.objs.size s₂ H₂ fp with ⟨ez, et⟩ | ⟨c, ez, et⟩
          · subst ez
            subst et
            cases e2
            exact wpAny_tests_nil ⟨H4, I4, rfl, Same.refl _⟩
          · subst ez
            exact wpAny_tests_one (et _ s4 σ4 H4 _ I4 ⟨ρ1, vw4, by rw [e2]; exact fun H' s' => ⟨rfl, s'⟩⟩)
        refine thn tests fun b' s5 ⟨H5, I5, eb, sm5⟩ => ?_
        subst eb
        have fin : ∀ {H7 : Hp} {s7 : Shared}, Inv (compCx C.X N' scope (clOf C.X.env.cells scope.names []) G.objs.size s₂ H₂ fp) ([] ++ pinsAt fp s2.heap) σ4 H7 s7 → Inv (compCx C.X N' scope (clOf C.X.env.cells scope.names []) G.objs.size s₂ H₂ fp) [] σ4 H7 s7 ∧ tn (i + 1) s7.heap ∧ ∀ b ∈ fp, H7 b = none := fun {H7 s7} I7 => by
          refine ⟨I7.unpinned, T.keep _ _ _ st3 fun b hb o e => (I7.pin (b, o) (List.mem_append_right _ (List.mem_append_right _ (mem_pinsAt hb e)))).1, fun b hb => ?_⟩
          obtain ⟨o, e, _⟩ := T.obj _ _ st3 b hb
          exact (I7.pin (b, o) (List.mem_append_right _ (List.mem_append_right _ (mem_pinsAt hb e)))).2.1
        have sm25 : Same H₂ H5 := (sm'.trans sm3).trans sm5
        have smd : Same H' H5 := sm3.trans sm5
        have vw5 : View C.X.K H5 σ4 (compE nt idx ρ) := View.weak (vw4.same sm5) low1 fun i l hi e => compE_low hi e
        have hl5 : (compE nt idx ρ).length = σ4.length := by rw [← l1]; exact hl4
        rcases e3 with ⟨rfl, q, r, e4, e5, rfl⟩ | ⟨rfl, e4⟩
        · rw [if_pos rfl]
          refine thn (he _ _ _ _ _ _ s5 σ4 H5 (fun v H6 => Same H5 H6 ∧ Rep C.X.K H6 q v) I5 ⟨ρ1, vw4.same sm5, by rw [e4]; exact fun v H' s' r => ⟨s', r⟩⟩) fun u6 s6 ⟨v, H6, I6, r6, sm6, rp6⟩ => ?_
          have hD6 : H6 s₂.heap.objs.size = some (.lst xs) := sm6 _ _ (smd _ _ hD')
          have hx : xs.length < sizeLine := by
            have a1 := rp'.length
            have a2 : qs.length = dn.length + (r.length + 1) := by rw [← ea]; simp
            omega
          refine thn (mt_append (X := compCx C.X N' scope (clOf C.X.env.cells scope.names []) G.objs.size s₂ H₂ fp) _ s6 σ4 H6 (.ref s₂.heap.objs.size) [v] (.ref s₂.heap.objs.size) [u6] (fun _ H7 => H7 = upd H6 s₂.heap.objs.size (.lst (xs ++ [v]))) I6 rfl (.cons r6 .nil) ⟨_, xs, v, rfl, rfl, hD6, hx, rfl⟩) fun _ s7 ⟨_, H7, I7, _, e7⟩ => ?_
          subst e7
          obtain ⟨J7, st7, fr7⟩ := fin I7
          have kp7 : Kp H6 (upd H6 s₂.heap.objs.size (.lst (xs ++ [v]))) := Kp.upd hD6 rfl
          refine ⟨ps.length - (i + 1), by omega, i + 1, σ4, _, xs ++ [v], dn ++ [q], r, rfl, hlt, J7, st7, fr7, fun b o e => ?_, upd_same, ?_, ?_, hl5, e5, by rw [← ea]; simp⟩
          · rw [upd_ne (ne_of_none e nD)]
            exact sm6 _ _ (sm25 b o e)
          · exact Reps.append (Reps.kp kp7 _ ((rp'.same smd).same sm6)) (Reps.cons (Rep.kp kp7 _ rp6) Reps.nil)
          · exact (vw5.same sm6).noOwn (fun i p e => compE_own e) kp7
        · rw [if_neg Bool.false_ne_true]
          obtain ⟨J7, st7, fr7⟩ := fin I5
          exact ⟨ps.length - (i + 1), by omega, i + 1, σ4, H5, xs, dn, rest, rfl, hlt, J7, st7, fr7, sm25, smd _ _ hD', rp'.same smd, vw5, hl5, e4, ea⟩
      · have e : i = ps.length := by omega
        subst e
        rw [List.drop_length] at e'
        cases e'
        rw [List.append_nil] at ea
        subst ea
        refine thn (T.done (compCx C.X N' scope (clOf C.X.env.cells scope.names []) G.objs.size s₂ H₂ fp) rfl rfl rfl rfl ps.length [] s σ' H' _ I' (fpk fr' (by simp)) st' (stp rfl)) fun r s1 ⟨hr, I1⟩ => ?_
        subst hr
        exact hRR _ _ σ' H' s1 xs I1 sm' nD hD' rp' hGe
    · show upd H₂ _ _ b = none
      rw [upd_ne (Nat.ne_of_lt (fl b hb))]
      exact (hf b hb).1
  exact codeAny_compStart_list loop (T.self _ 0 _ _ _ (T.keep _ _ _ st fun b _ o e => keep b o e) loop)
end
end PU
end
section
namespace PU
open PySem PySem.Spec PyProof.Rows L2
variable [TW]
section
variable {C : Cn} {elt tg iter : Expr} {ifs : List Expr} {scope : Scope} {pos : Pos} {N' : List Str} {nt : Nat} {idx : List Nat} {fi : PSt → R (List PV)} {h : Tgt} {t : PSt → R Bool} {fe : PSt → R PV}
theorem comp_back {pins : List (Addr × Obj)} {σ σ' : L2.St} {H₂ H' : Hp} {s₂ s' : Shared} {fp : List Addr} {cl : List (Str × Addr)} {L : Addr} (I : Inv C.X pins σ H₂ s₂) (hf : ∀ b ∈ fp, FpOk C.X pins H₂ b)
    (I' : Inv (compCx C.X N' scope cl L s₂ H₂ fp) [] σ' H' s') : Inv C.X pins σ H' s' :=
  I.call' (ch := fp) I'.os I'.base I'.hok I'.bare fun b hb => by
    obtain ⟨g1, g2, g3, g4, g5, g6⟩ := hf b hb
    exact ⟨g4, g2, g5, g6⟩
theorem noEr_ok {α : Type} {H : Hp} {r : R α} {k : α → Prop} (q : RQ C H (noEr r) k) : ∃ a, r = .ok a ∧ k a := by
  cases r with
  | ok a => exact ⟨a, rfl, q⟩
  | er x => exact False.elim q
  | no => exact False.elim q
theorem comp_gone {pins : List (Addr × Obj)} {σ : L2.St} {H : Hp} {s : Shared} {L : Addr} {h' : Heap} (I : Inv C.X pins σ H s) (hn : H L = none) (hL : L ≠ C.X.env.locals) (h1 : C.X.s₀.heap.objs.size ≤ L) (h2 : ∀ x c, C.X.env.cells.lookup x = some c → c ≠ L)
    (h3 : ∀ p ∈ C.X.pn ++ pins, p.1 ≠ L) (sb : Heap.SameBut L s.heap h') : Inv C.X pins σ H { s with heap := h' } :=
  I.turned (t' := s.toks) (fun b o hb e => (sb.2 b hb).trans e) hn hL (.inr h1) h2 h3
theorem en_comp (O : CompOk C.X.N C.X.env.scope scope N' nt idx) (hc : C.X.calm = true) (hi : EI C tg iter fi)
    (hg : ∀ cl L s H fp, TCt (compCn C N' scope cl L s H fp) tg h) (hlow : LowT nt h) (ht : ∀ cl L s H fp, ETs (compCn C N' scope cl L s H fp) ifs t) (he : ∀ cl L s H fp, EV (compCn C N' scope cl L s H fp) elt fe)
    (hs : ∀ x, foldedSetIterable iter C.X.env x = pure x := by intro _; rfl) : EN C (.ListComp elt [⟨tg, iter, ifs, 0⟩] scope pos) (compF fi h t fe nt idx) := by
  intro pins s σ H Q I ⟨ρ, vw, q⟩
  rw [eval_ListComp]
  refine wpAny_comprehension_free (use := none) rfl hs (closureFor_clOf fun y hy hk => I.ok.has y.1 (O.free y hy hk)) O.kind O.names ?_
  refine thn (hi pins s σ H (fun J H' => ∃ ps qs, Same H H' ∧ ItP C.X.K J H' ps ∧ compL h t fe (compE nt idx ρ) ps = .ok qs ∧ qs.length ≤ sizeLine ∧ ∀ a H'', Same H H'' → H a = none → NewAt C.X.K H'' a (.lst qs) → Q (.ref a) H'') I
    ⟨ρ, vw, q.bind.imp fun ps _ k J H' s' ip => ?_⟩) fun v s1 h1 => thn h1 fun itv s2 h2 => ?_
  · obtain ⟨qs, e1, k⟩ := noEr_ok k.bind
    obtain ⟨z, k⟩ := guardL_ok k
    exact ⟨ps, qs, s', ip, e1, z, k⟩
  · obtain ⟨it, fp, tn, J, H2, e, I2, T, st2, f2, ps, qs, sm, ip, e1, hz, k⟩ := h2
    subst e
    refine comp_core O hc hg hlow ht he I2 T st2 f2 (vw.same sm) ip e1 hz fun D L σ' H' s' xs I' sm' nD hD rp hL => ?_
    obtain ⟨m, hn, _⟩ := id I'.loc
    have IB := comp_back I2 f2 I'
    refine ⟨m, hn, fun h' sb => ⟨.ref D, H', comp_gone IB I'.free ?_ (Nat.le_trans I2.sz hL) ?_ ?_ sb, rfl, k D H' (sm.trans sm') (sm.free nD) ⟨xs, hD, rp⟩⟩⟩
    · exact Nat.ne_of_gt (Nat.lt_of_lt_of_le I2.lt hL)
    · intro x c ec z
      obtain ⟨v, qc⟩ := I2.cell x c ec
      have z : c = L := z
      exact Nat.lt_irrefl _ (Nat.lt_of_lt_of_le (z ▸ qc.lt) hL)
    · intro p hp z
      have z : p.1 = L := z
      exact Nat.lt_irrefl _ (Nat.lt_of_lt_of_le (z ▸ Heap.lt_size (I2.pin p hp).1) hL)
theorem RS.bind' {C : Cn} {B : Hp × Hp} {D : Ends} {H : Hp} {fi : PSt → R (List PV)} {h : Tgt} {t : PSt → R Bool} {fe : PSt → R PV} {nt : Nat} {idx : List Nat} {ρ : PSt} {g : PV → Sl} {i : Nat}
    (q : RS C B D (compF fi h t fe nt idx ρ >>= fun p => .ok (.next (ρ.set i (g p))))) (s : Same B.1 H) :
    RQ C H (fi ρ) fun ps => ∃ qs, compL h t fe (compE nt idx ρ) ps = .ok qs ∧ qs.length ≤ sizeLine ∧ ∀ σ' H'', StOk C.X.K B H'' σ' (ρ.set i (g (.lst qs))) → D.nx σ' H'' := by
  unfold compF at q
  rw [R.bind_assoc] at q
  refine (q.bind s).imp fun ps _ k => ?_
  rw [R.bind_assoc] at k
  cases hc : compL h t fe (compE nt idx ρ) ps with
  | ok qs =>
    rw [hc] at k
    have k : RS C B D ((guardL qs >>= fun qs => R.ok (.lst qs)) >>= fun p => .ok (.next (ρ.set i (g p)))) := k
    unfold guardL at k
    by_cases hz : qs.length ≤ 16777216
    · rw [if_pos hz] at k
      exact ⟨qs, rfl, by rw [sizeLine_eq]; exact hz, k⟩
    · rw [if_neg hz] at k
      exact False.elim k
  | er x => rw [hc] at k; exact False.elim k
  | no => rw [hc] at k; exact False.elim k
theorem sv_comp (own : Bool) (i : Nat) {x : Str} {px : Pos} {spos : Pos} (hN : C.X.N.Nodup) (hi' : C.X.N[i]? = some x) (hx : Loc C.X.env.scope x) (O : CompOk C.X.N C.X.env.scope scope N' nt idx) (hc : C.X.calm = true) (hi : EI C tg iter fi)
    (hg : ∀ cl L s H fp, TCt (compCn C N' scope cl L s H fp) tg h) (hlow : LowT nt h) (ht : ∀ cl L s H fp, ETs (compCn C N' scope cl L s H fp) ifs t) (he : ∀ cl L s H fp, EV (compCn C N' scope cl L s H fp) elt fe)
    (hsw : swapsWith (.ListComp elt [⟨tg, iter, ifs, 0⟩] scope pos) (some (.Name x px)) spos.line C.X.env = pure true := by rfl)
    (hs : ∀ x, foldedSetIterable iter C.X.env x = pure x := by intro _; rfl)
    (hf : C.X.fn x = true ∨ C.X.env.scope.names.lookup x = some .local := by first | exact .inl rfl | exact .inr rfl | assumption) :
    SV C (.Assign [.Name x px] (.ListComp elt [⟨tg, iter, ifs, 0⟩] scope pos) spos) ((if own = true then ownF else setF) i (compF fi h t fe nt idx)) := by
  intro pins s σ H D I ⟨ρ, B, S, q⟩
  rw [exec_Assign_Name_used _ _ _ _ hsw]
  refine wpAny_bind (wpAny_standAt (wpAny_bind ?_))
  show wpAny _ C.X.A (do let _ ← comprehension (.ListComp elt [⟨tg, iter, ifs, 0⟩] scope pos) scope C.X.env _ (newList []) false (eval iter C.X.env) (some (assign (.Name x px) C.X.env))) _ _ s
  refine wpAny_bind (wpAny_mono (wpAny_comprehension_free (use := some (assign (.Name x px) C.X.env)) (Q := fun _ s' => SP C.X pins D .next s') rfl hs (closureFor_clOf fun y hy hk => I.ok.has y.1 (O.free y hy hk)) O.kind O.names ?_)
    (fun _ s' hq => wpAny_pure (wpAny_pure hq)) fun _ _ e => e)
  have q' : RS C B D (compF fi h t fe nt idx ρ >>= fun p => .ok (.next (ρ.set i (if own = true then .own p else .val p)))) := by
    cases own with
    | true => exact q
    | false => exact q
  refine thn (hi pins s σ H (fun J H' => ∃ ps qs, Same H H' ∧ ItP C.X.K J H' ps ∧ compL h t fe (compE nt idx ρ) ps = .ok qs ∧ qs.length ≤ sizeLine ∧ ∀ σ' H'', StOk C.X.K B H'' σ' (ρ.set i (if own = true then .own (.lst qs) else .val (.lst qs))) → D.nx σ' H'') I
    ⟨ρ, S.vw, (RS.bind' q' S.same).imp fun ps _ k J H' s' ip => ?_⟩) fun v s1 h1 => thn h1 fun itv s2 h2 => ?_
  · obtain ⟨qs, e1, z, k⟩ := k
    exact ⟨ps, qs, s', ip, e1, z, k⟩
  · obtain ⟨it, fp, tn, J, H2, e, I2, T, st2, f2, ps, qs, sm, ip, e1, hz, k⟩ := h2
    subst e
    refine comp_core O hc hg hlow ht he I2 T st2 f2 (S.vw.same sm) ip e1 hz fun Da L σ' H' s' xs I' sm' nD hD rp hL => ?_
    obtain ⟨m, ⟨o, es, ep, ho, hrest⟩, _⟩ := id I'.loc
    have IB := comp_back I2 f2 I'
    have nL : L ≠ C.X.env.locals := Nat.ne_of_gt (Nat.lt_of_lt_of_le I2.lt hL)
    have nC : ∀ x c, C.X.env.cells.lookup x = some c → c ≠ L := fun x c ec z => by
      obtain ⟨v, qc⟩ := I2.cell x c ec
      have z : c = L := z
      exact Nat.lt_irrefl _ (Nat.lt_of_lt_of_le (z ▸ qc.lt) hL)
    have nP : ∀ p ∈ C.X.pn ++ pins, p.1 ≠ L := fun p hp z => by
      have z : p.1 = L := z
      exact Nat.lt_irrefl _ (Nat.lt_of_lt_of_le (z ▸ Heap.lt_size (I2.pin p hp).1) hL)
    have IP : Inv C.X (pins ++ [(L, o)]) σ H' s' := IB.pins_of fun p hp => by
      rcases List.mem_append.mp hp with z | z
      · exact IB.pin p (List.mem_append_right _ z)
      · have : p = (L, o) := by simpa using z
        subst this
        exact ⟨ho, I'.free, nL, I2.nofs hL, fun v z => by rw [hrest.1] at z; cases z⟩
    have S2 := S.grow (sm.trans sm')
    have fin : ∀ {H3 : Hp} {v : V}, Inv C.X (pins ++ [(L, o)]) σ H3 s' → v = .ref Da → (∀ σ3, σ3 = σ.set i (some v) → D.nx σ3 H3) →
        wpAny (model C.X.prog C.X.w) C.X.A (assign (.Name x px) C.X.env (.ref Da)) (fun _ s'' => ∃ m, s''.heap.Ns L m ∧ ∀ h', Heap.SameBut L s''.heap h' → SP C.X pins D .next { s'' with heap := h' }) C.X.xe s' := fun {H3 v} I3 ev k3 => by
      refine thn (pg_name hN hi' hx hf (pins ++ [(L, o)]) s' σ H3 v (.ref Da) (fun σ4 H4 => σ4 = σ.set i (some v) ∧ H4 = H3) I3 (by subst ev; rfl) ⟨rfl, rfl⟩) fun _ s4 ⟨σ4, H4, I4, e4, e5⟩ => ?_
      have hp := I4.pin (L, o) (by simp)
      have IU : Inv C.X pins σ4 H4 s4 := I4.unpinned
      refine ⟨m, ⟨o, es, ep, hp.1, hrest⟩, fun h' sb => ⟨σ4, H4, comp_gone IU hp.2.1 nL (Nat.le_trans I2.sz hL) nC nP sb, ?_⟩⟩
      subst e5
      exact k3 σ4 e4
    cases own with
    | true =>
      exact fin IP rfl fun σ3 e3 => by
        subst e3
        exact k _ _ (S.setN (sm.trans sm') (sm.free nD) ⟨xs, hD, rp⟩)
    | false =>
      obtain ⟨H3, I3, rp3, oth⟩ := L2.Inv.frz (a := Da) (p := .lst qs) IP ⟨xs, hD, rp⟩
      refine fin I3 rfl fun σ3 e3 => ?_
      subst e3
      refine k _ _ ((S.grow fun b ob eb => ?_).setV rp3)
      have hb := ne_of_none eb (sm.free nD)
      rw [oth b hb]
      exact (sm.trans sm') b ob eb
end
end PU
end
section
namespace PU
open PySem PySem.Spec PyProof.Rows L2 PySem.SeqAt
variable [TW]
section
variable {X : Cx} {pins : List (Addr × Obj)} {σ : L2.St} {H : Hp} {s : Shared}
theorem ref_apart_tl {a : Addr} {xs ys : List V} (I : Inv X pins σ H s) (h1 : SqT X.K H a xs) (h2 : SqO X.K H a ys) : False := by
  obtain ⟨its, _, ⟨o, e, c, _⟩, _⟩ := I.tuple h1
  obtain ⟨_, its2, n, _, e2⟩ := h2.is I
  rw [e] at e2
  cases e2
  have c : Value.type "list" = Value.type "tuple" := c
  exact absurd c (by decide)
theorem sqO_inj {a : Addr} {xs ys : List V} (I : Inv X pins σ H s) (h1 : SqO X.K H a xs) (h2 : SqO X.K H a ys) : xs = ys := I.list_inj h1.l h2.l
mutual
theorem peq_same (I : Inv X pins σ H s) : ∀ (p q : PV) (v : V) (b : Bool), RepO X.K H p v → RepO X.K H q v → peqO p q = some b → b = true
  | .non, q, v, b, h1, h2, e => by
    cases (show v = .non from h1)
    cases q with
    | non => simpa [peqO] using e.symm
    | bl j => cases (show V.non = .bl j from h2)
    | int j => cases (show V.non = .int j from h2)
    | str j => cases (show V.non = .str j from h2)
    | tup qs => obtain ⟨a, xs, z, _⟩ := RepO.tup_inv h2; cases z
    | lst qs => obtain ⟨a, xs, z, _⟩ := RepO.lst_inv h2; cases z
    | _ => simp [peqO] at e
  | .bl i, q, v, b, h1, h2, e => by
    cases (show v = .bl i from h1)
    cases q with
    | bl j => cases (show V.bl i = .bl j from h2); simpa [peqO] using e.symm
    | non => cases (show V.bl i = .non from h2)
    | int j => cases (show V.bl i = .int j from h2)
    | str j => cases (show V.bl i = .str j from h2)
    | tup qs => obtain ⟨a, xs, z, _⟩ := RepO.tup_inv h2; cases z
    | lst qs => obtain ⟨a, xs, z, _⟩ := RepO.lst_inv h2; cases z
    | _ => simp [peqO] at e
  | .int i, q, v, b, h1, h2, e => by
    cases (show v = .int i from h1)
    cases q with
    | int j => cases (show V.int i = .int j from h2); simpa [peqO] using e.symm
    | bl j => cases (show V.int i = .bl j from h2)
    | non => cases (show V.int i = .non from h2)
    | str j => cases (show V.int i = .str j from h2)
    | tup qs => obtain ⟨a, xs, z, _⟩ := RepO.tup_inv h2; cases z
    | lst qs => obtain ⟨a, xs, z, _⟩ := RepO.lst_inv h2; cases z
    | _ => simp [peqO] at e
  | .str i, q, v, b, h1, h2, e => by
    cases (show v = .str i from h1)
    cases q with
    | str j => cases (show V.str i = .str j from h2); simpa [peqO] using e.symm
    | bl j => cases (show V.str i = .bl j from h2)
    | non => cases (show V.str i = .non from h2)
    | int j => cases (show V.str i = .int j from h2)
    | tup qs => obtain ⟨a, xs, z, _⟩ := RepO.tup_inv h2; cases z
    | lst qs => obtain ⟨a, xs, z, _⟩ := RepO.lst_inv h2; cases z
    | _ => simp [peqO] at e
  | .tup ps, q, v, b, h1, h2, e => by
    obtain ⟨a, xs, rfl, g1, r1⟩ := RepO.tup_inv h1
    cases q with
    | tup qs =>
      obtain ⟨a2, ys, z, g2, r2⟩ := RepO.tup_inv h2
      cases z
      cases I.tuple_inj g1 g2
      exact peqs_same I ps qs xs b r1 r2 (by simpa [peqO] using e)
    | lst qs =>
      obtain ⟨a2, ys, z, g2, r2⟩ := RepO.lst_inv h2
      cases z
      exact (ref_apart_tl I g1 g2).elim
    | non => cases (show V.ref a = .non from h2)
    | bl j => cases (show V.ref a = .bl j from h2)
    | int j => cases (show V.ref a = .int j from h2)
    | str j => cases (show V.ref a = .str j from h2)
    | _ => simp [peqO] at e
  | .lst ps, q, v, b, h1, h2, e => by
    obtain ⟨a, xs, rfl, g1, r1⟩ := RepO.lst_inv h1
    cases q with
    | lst qs =>
      obtain ⟨a2, ys, z, g2, r2⟩ := RepO.lst_inv h2
      cases z
      cases sqO_inj I g1 g2
      exact peqs_same I ps qs xs b r1 r2 (by simpa [peqO] using e)
    | tup qs =>
      obtain ⟨a2, ys, z, g2, r2⟩ := RepO.tup_inv h2
      cases z
      exact (ref_apart_tl I g2 g1).elim
    | non => cases (show V.ref a = .non from h2)
    | bl j => cases (show V.ref a = .bl j from h2)
    | int j => cases (show V.ref a = .int j from h2)
    | str j => cases (show V.ref a = .str j from h2)
    | _ => simp [peqO] at e
  | .dct _ _, _, _, _, _, _, e => by simp [peqO] at e
  | .dtt _ _, _, _, _, _, _, e => by simp [peqO] at e
theorem peqs_same (I : Inv X pins σ H s) : ∀ (ps qs : List PV) (xs : List V) (b : Bool), Reps X.K H ps xs → Reps X.K H qs xs → peqsO ps qs = some b → b = true
  | [], qs, xs, b, r1, r2, e => by
    cases r1
    cases qs with
    | nil => simpa [peqsO] using e.symm
    | cons q qs => obtain ⟨x, r, z, _⟩ := r2; cases z
  | p :: ps, qs, xs, b, r1, r2, e => by
    obtain ⟨x, r, rfl, h1, t1⟩ := r1
    cases qs with
    | nil => cases (show x :: r = [] from r2)
    | cons q qs =>
      obtain ⟨x2, r2', z, h2, t2⟩ := r2
      cases z
      simp only [peqsO] at e
      obtain ⟨b1, e1, e⟩ := Option.bind_eq_some_iff.mp e
      obtain ⟨b2, e2, e⟩ := Option.bind_eq_some_iff.mp e
      cases e
      rw [peq_same I p q x b1 h1.o h2.o e1, peqs_same I ps qs r b2 t1 t2 e2]
      rfl
end
theorem pairB_cons {p q : PV} {ps qs : List PV} {j : Nat} : pairB (p :: ps) (q :: qs) (j + 1) = pairB ps qs j := by simp [pairB]
theorem peqs_all : ∀ (ps qs : List PV) (b : Bool), peqsO ps qs = some b → ((List.range (min ps.length qs.length)).all (pairB ps qs) && ps.length == qs.length) = b
  | [], [], b, e => by simp [peqsO] at e; simp [e]
  | [], _ :: _, b, e => by simp [peqsO] at e; simp [e]
  | _ :: _, [], b, e => by simp [peqsO] at e; simp [e]
  | p :: ps, q :: qs, b, e => by
    simp only [peqsO] at e
    obtain ⟨b1, e1, e⟩ := Option.bind_eq_some_iff.mp e
    obtain ⟨b2, e2, e⟩ := Option.bind_eq_some_iff.mp e
    cases e
    have ih := peqs_all ps qs b2 e2
    have hm : min (p :: ps).length (q :: qs).length = min ps.length qs.length + 1 := by simp only [List.length_cons]; omega
    rw [hm, List.range_succ_eq_map, List.all_cons, List.all_map]
    have h0 : pairB (p :: ps) (q :: qs) 0 = b1 := by simp [pairB, e1]
    have hs : (pairB (p :: ps) (q :: qs) ∘ Nat.succ) = pairB ps qs := by funext j; exact pairB_cons
    rw [h0, hs, ← ih, List.length_cons, List.length_cons]
    simp [Bool.and_assoc]
theorem pdeps_le : ∀ {ps : List PV} {j : Nat} {p : PV}, ps[j]? = some p → pdep p ≤ pdeps ps
  | [], _, _, h => by simp at h
  | p :: ps, 0, _, h => by simp at h; subst h; simp only [pdeps]; omega
  | p :: ps, j + 1, q, h => by
    have := pdeps_le (ps := ps) (j := j) (p := q) (by simpa using h)
    simp only [pdeps]
    omega
mutual
theorem eq_rep (I : Inv X pins σ H s) : ∀ (p q : PV) (A : Around) (v u : V) (v' u' : Value) (b : Bool), RepO X.K H p v → RepO X.K H q u → RelV v v' → RelV u u' → peqO p q = some b → A.units + pdep p < cLine → EqAt A s v' u' b
  | .non, q, A, v, u, v', u', b, h1, h2, e1, e2, e, hu => by
    cases (show v = .non from h1)
    cases e1
    have hu := Nat.lt_of_le_of_lt (Nat.le_add_right _ _) hu
    cases q with
    | non => cases (show u = .non from h2); cases e2; simp [peqO] at e; subst e; exact EqAt.same _
    | bl j => cases (show u = .bl j from h2); cases e2; simp [peqO] at e; subst e; exact EqAt.none_bool j
    | int j => cases (show u = .int j from h2); obtain ⟨t, rfl⟩ := e2; simp [peqO] at e; subst e; exact EqAt.none_int j t
    | str j => cases (show u = .str j from h2); obtain ⟨t, rfl⟩ := e2; simp [peqO] at e; subst e; exact EqAt.none_str j t
    | tup qs => obtain ⟨a, xs, rfl, g, _⟩ := RepO.tup_inv h2; cases e2; obtain ⟨its, _, pl, _⟩ := I.tuple g; simp [peqO] at e; subst e; exact EqAt.none_tuple pl hu
    | lst qs => obtain ⟨a, xs, rfl, g, _⟩ := RepO.lst_inv h2; cases e2; obtain ⟨its, _, pl, _⟩ := I.list g.l; simp [peqO] at e; subst e; exact EqAt.none_list pl.isList hu
    | _ => simp [peqO] at e
  | .bl i, q, A, v, u, v', u', b, h1, h2, e1, e2, e, hu => by
    cases (show v = .bl i from h1)
    cases e1
    have hu := Nat.lt_of_le_of_lt (Nat.le_add_right _ _) hu
    cases q with
    | non => cases (show u = .non from h2); cases e2; simp [peqO] at e; subst e; exact EqAt.bool_none i
    | bl j => cases (show u = .bl j from h2); cases e2; simp only [peqO, Option.some.injEq] at e; subst e; exact EqAt.bool_bool i j
    | int j => cases (show u = .int j from h2); obtain ⟨t, rfl⟩ := e2; simp only [peqO, Option.some.injEq] at e; subst e; exact EqAt.bool_int i j t
    | str j => cases (show u = .str j from h2); obtain ⟨t, rfl⟩ := e2; simp [peqO] at e; subst e; exact EqAt.bool_str i j t
    | tup qs => obtain ⟨a, xs, rfl, g, _⟩ := RepO.tup_inv h2; cases e2; obtain ⟨its, _, pl, _⟩ := I.tuple g; simp [peqO] at e; subst e; exact EqAt.bool_tuple i pl hu
    | lst qs => obtain ⟨a, xs, rfl, g, _⟩ := RepO.lst_inv h2; cases e2; obtain ⟨its, _, pl, _⟩ := I.list g.l; simp [peqO] at e; subst e; exact EqAt.bool_list i pl.isList hu
    | _ => simp [peqO] at e
  | .int i, q, A, v, u, v', u', b, h1, h2, e1, e2, e, hu => by
    cases (show v = .int i from h1)
    obtain ⟨t', rfl⟩ := e1
    have hu := Nat.lt_of_le_of_lt (Nat.le_add_right _ _) hu
    cases q with
    | non => cases (show u = .non from h2); cases e2; simp [peqO] at e; subst e; exact EqAt.int_none i t'
    | bl j => cases (show u = .bl j from h2); cases e2; simp only [peqO, Option.some.injEq] at e; subst e; exact EqAt.int_bool i t' j
    | int j => cases (show u = .int j from h2); obtain ⟨t, rfl⟩ := e2; simp only [peqO, Option.some.injEq] at e; subst e; exact EqAt.int_int i t' j t
    | str j => cases (show u = .str j from h2); obtain ⟨t, rfl⟩ := e2; simp [peqO] at e; subst e; exact EqAt.int_str i t' j t
    | tup qs => obtain ⟨a, xs, rfl, g, _⟩ := RepO.tup_inv h2; cases e2; obtain ⟨its, _, pl, _⟩ := I.tuple g; simp [peqO] at e; subst e; exact EqAt.int_tuple i t' pl hu
    | lst qs => obtain ⟨a, xs, rfl, g, _⟩ := RepO.lst_inv h2; cases e2; obtain ⟨its, _, pl, _⟩ := I.list g.l; simp [peqO] at e; subst e; exact EqAt.int_list i t' pl.isList hu
    | _ => simp [peqO] at e
  | .str i, q, A, v, u, v', u', b, h1, h2, e1, e2, e, hu => by
    cases (show v = .str i from h1)
    obtain ⟨t', rfl⟩ := e1
    have hu := Nat.lt_of_le_of_lt (Nat.le_add_right _ _) hu
    cases q with
    | non => cases (show u = .non from h2); cases e2; simp [peqO] at e; subst e; exact EqAt.str_none i t'
    | bl j => cases (show u = .bl j from h2); cases e2; simp [peqO] at e; subst e; exact EqAt.str_bool i t' j
    | int j => cases (show u = .int j from h2); obtain ⟨t, rfl⟩ := e2; simp [peqO] at e; subst e; exact EqAt.str_int i t' j t
    | str j => cases (show u = .str j from h2); obtain ⟨t, rfl⟩ := e2; simp only [peqO, Option.some.injEq] at e; subst e; exact EqAt.str_str i t' j t
    | tup qs => obtain ⟨a, xs, rfl, g, _⟩ := RepO.tup_inv h2; cases e2; obtain ⟨its, _, pl, _⟩ := I.tuple g; simp [peqO] at e; subst e; exact EqAt.str_tuple i t' pl hu
    | lst qs => obtain ⟨a, xs, rfl, g, _⟩ := RepO.lst_inv h2; cases e2; obtain ⟨its, _, pl, _⟩ := I.list g.l; simp [peqO] at e; subst e; exact EqAt.str_list i t' pl.isList hu
    | _ => simp [peqO] at e
  | .tup ps, q, A, v, u, v', u', b, h1, h2, e1, e2, e, hu => by
    obtain ⟨a, xs, rfl, g1, r1⟩ := RepO.tup_inv h1
    cases e1
    obtain ⟨its, rv, pl, _⟩ := I.tuple g1
    simp only [pdep] at hu
    have hu0 : A.units < cLine := by omega
    cases q with
    | non => cases (show u = .non from h2); cases e2; simp [peqO] at e; subst e; exact EqAt.tuple_none pl hu0
    | bl j => cases (show u = .bl j from h2); cases e2; simp [peqO] at e; subst e; exact EqAt.tuple_bool j pl hu0
    | int j => cases (show u = .int j from h2); obtain ⟨t, rfl⟩ := e2; simp [peqO] at e; subst e; exact EqAt.tuple_int j t pl hu0
    | str j => cases (show u = .str j from h2); obtain ⟨t, rfl⟩ := e2; simp [peqO] at e; subst e; exact EqAt.tuple_str j t pl hu0
    | lst qs => obtain ⟨a2, ys, rfl, g, _⟩ := RepO.lst_inv h2; cases e2; obtain ⟨its2, _, pl2, _⟩ := I.list g.l; simp [peqO] at e; subst e; exact EqAt.tuple_list pl pl2.isList hu0
    | tup qs =>
      by_cases hv : V.ref a = u
      · subst hv
        rw [peq_same I _ _ _ b h1 h2 e]
        cases e2
        exact EqAt.same _
      · obtain ⟨a2, ys, rfl, g2, r2⟩ := RepO.tup_inv h2
        cases e2
        obtain ⟨its2, rv2, pl2, _⟩ := I.tuple g2
        have l1 := r1.length
        have l2 := r2.length
        have l3 := rv.length
        have l4 := rv2.length
        have e' : peqsO ps qs = some b := by simpa [peqO] using e
        rw [← peqs_all ps qs b e', show ps.length = its.toArray.size by simp; omega, show qs.length = its2.toArray.size by simp; omega]
        refine EqAt.of_refs (fun z => hv (by rw [z])) (RcAt.tuples pl pl2 hu0 fun j j1 j2 => ?_)
        have := eq_reps I ps qs A.in1 xs ys its its2 b r1 r2 rv rv2 e' (by show A.units + 1 + _ < _; omega) j (by simpa using j1) (by simpa using j2)
        simpa using this
    | _ => simp [peqO] at e
  | .lst ps, q, A, v, u, v', u', b, h1, h2, e1, e2, e, hu => by
    obtain ⟨a, xs, rfl, g1, r1⟩ := RepO.lst_inv h1
    cases e1
    obtain ⟨its, rv, pl, _⟩ := I.list g1.l
    simp only [pdep] at hu
    have hu0 : A.units < cLine := by omega
    cases q with
    | non => cases (show u = .non from h2); cases e2; simp [peqO] at e; subst e; exact EqAt.list_none pl.isList hu0
    | bl j => cases (show u = .bl j from h2); cases e2; simp [peqO] at e; subst e; exact EqAt.list_bool j pl.isList hu0
    | int j => cases (show u = .int j from h2); obtain ⟨t, rfl⟩ := e2; simp [peqO] at e; subst e; exact EqAt.list_int j t pl.isList hu0
    | str j => cases (show u = .str j from h2); obtain ⟨t, rfl⟩ := e2; simp [peqO] at e; subst e; exact EqAt.list_str j t pl.isList hu0
    | tup qs => obtain ⟨a2, ys, rfl, g, _⟩ := RepO.tup_inv h2; cases e2; obtain ⟨its2, _, pl2, _⟩ := I.tuple g; simp [peqO] at e; subst e; exact EqAt.list_tuple pl.isList pl2 hu0
    | lst qs =>
      by_cases hv : V.ref a = u
      · subst hv
        rw [peq_same I _ _ _ b h1 h2 e]
        cases e2
        exact EqAt.same _
      · obtain ⟨a2, ys, rfl, g2, r2⟩ := RepO.lst_inv h2
        cases e2
        obtain ⟨its2, rv2, pl2, _⟩ := I.list g2.l
        have l1 := r1.length
        have l2 := r2.length
        have l3 := rv.length
        have l4 := rv2.length
        have e' : peqsO ps qs = some b := by simpa [peqO] using e
        have hp := peqs_all ps qs b e'
        refine EqAt.of_refs (fun z => hv (by rw [z])) ?_
        by_cases hl : ps.length = qs.length
        · have hb : (List.range its.toArray.size).all (pairB ps qs) = b := by
            rw [← hp, hl, Nat.min_self, beq_self_eq_true, Bool.and_true, show its.toArray.size = qs.length by simp; omega]
          rw [← hb]
          refine RcAt.lists pl.isList pl2.isList (by simp; omega) hu0 fun j j1 j2 => ?_
          have := eq_reps I ps qs A.in1 xs ys its its2 b r1 r2 rv rv2 e' (by show A.units + 1 + _ < _; omega) j (by simpa using j1) (by simpa using j2)
          simpa using this
        · have hb : b = false := by
            rw [← hp, beq_eq_false_iff_ne.mpr hl, Bool.and_false]
          rw [hb]
          exact RcAt.lists_lengths pl.isList pl2.isList (by simp; omega) hu0
    | _ => simp [peqO] at e
  | .dct _ _, _, _, _, _, _, _, _, _, _, _, _, e, _ => by simp [peqO] at e
  | .dtt _ _, _, _, _, _, _, _, _, _, _, _, _, e, _ => by simp [peqO] at e
theorem eq_reps (I : Inv X pins σ H s) : ∀ (ps qs : List PV) (A : Around) (xs ys : List V) (vs ws : List Value) (b : Bool), Reps X.K H ps xs → Reps X.K H qs ys → Vals xs vs → Vals ys ws → peqsO ps qs = some b → A.units + pdeps ps < cLine →
    ∀ j (h1 : j < vs.length) (h2 : j < ws.length), EqAt A s vs[j] ws[j] (pairB ps qs j)
  | [], qs, A, xs, ys, vs, ws, b, r1, r2, rv, rw', e, hu, j, h1, h2 => by
    cases r1
    cases rv
    exact absurd h1 (Nat.not_lt_zero _)
  | p :: ps, [], A, xs, ys, vs, ws, b, r1, r2, rv, rw', e, hu, j, h1, h2 => by
    cases r2
    cases rw'
    exact absurd h2 (Nat.not_lt_zero _)
  | p :: ps, q :: qs, A, xs, ys, vs, ws, b, r1, r2, rv, rw', e, hu, j, h1, h2 => by
    obtain ⟨x, r, rfl, p1, t1⟩ := r1
    obtain ⟨y, r', rfl, p2, t2⟩ := r2
    cases rv with
    | cons a1 c1 =>
      cases rw' with
      | cons a2 c2 =>
        simp only [peqsO] at e
        obtain ⟨b1, e1, e⟩ := Option.bind_eq_some_iff.mp e
        obtain ⟨b2, e2, e⟩ := Option.bind_eq_some_iff.mp e
        simp only [pdeps] at hu
        cases j with
        | zero =>
          have : pairB (p :: ps) (q :: qs) 0 = b1 := by simp [pairB, e1]
          rw [this]
          exact eq_rep I p q A x y _ _ b1 p1.o p2.o a1 a2 e1 (by omega)
        | succ j =>
          rw [pairB_cons]
          exact eq_reps I ps qs A r r' _ _ b2 t1 t2 c1 c2 e2 (by omega) j (Nat.lt_of_succ_lt_succ h1) (Nat.lt_of_succ_lt_succ h2)
end
end
end PU
end
section
namespace PU
open PySem PySem.Spec PyProof.Rows L2 PySem.SeqAt PySem.Calls PyProof.V
variable [TW]
def EqW (P : Program) (w : World) (A : Around) (s : Shared) (y x : Value) (b : Bool) : Prop := ∀ (E : Value → Shared → Prop) (Q : Bool → Shared → Prop), Q b s → wpAny (model P w) A (eqBool y x) Q E s
theorem EqW.of {P : Program} {w : World} {A : Around} {s : Shared} {y x : Value} {b : Bool} (h : EqAt A s y x b) : EqW P w A s y x b := fun E Q q => h P w E Q q
section
variable {P : Program} {w : World} {κ : Type} [DecidableEq κ] {kd : KeyKind P w κ} {A : Around} {E : Value → Shared → Prop} {s : Shared}
inductive HitW (P : Program) (w : World) (A : Around) (s : Shared) (other : List (κ × Value)) : List (κ × Value) → Bool → Prop
  | done : HitW P w A s other [] true
  | lacks {k : κ} {v : Value} {t : List (κ × Value)} : valueAt other k = none → HitW P w A s other ((k, v) :: t) false
  | meets {k : κ} {v y : Value} {t : List (κ × Value)} {e b : Bool} : valueAt other k = some y → EqW P w A s v y e → HitW P w A s other t b → HitW P w A s other ((k, v) :: t) (e && b)
theorem HitW.split {other : List (κ × Value)} {k : κ} {v : Value} {t : List (κ × Value)} {b : Bool} (h : HitW P w A s other ((k, v) :: t) b) :
    (valueAt other k = none ∧ b = false) ∨ ∃ y e c, valueAt other k = some y ∧ EqW P w A s v y e ∧ HitW P w A s other t c ∧ b = (e && c) := by
  cases h with
  | lacks n => exact .inl ⟨n, rfl⟩
  | meets y1 y2 y3 => exact .inr ⟨_, _, _, y1, y2, y3, rfl⟩
theorem same_pairs {nm : String} {d1 d2 : Addr} {l1 l2 : List (κ × Value)} {r : Bool} {Q : Bool → Shared → Prop} (n1 : (d1 == sysModules) = false) (n2 : (d2 == sysModules) = false) (D1 : s.heap.DictOf kd d1 l1) (D2 : s.heap.DictOf kd d2 l2)
    (hh : l1.length = l2.length → HitW P w A s l2 l1 r) (q : Q (l1.length == l2.length && r) s) : wpAny (model P w) A (Builtin.Dict.samePairs nm d1 d2) Q E s := by
  obtain ⟨o1, es1, c1, get1, _, dat1, ks1, prs1, _⟩ := D1
  obtain ⟨o2, es2, c2, get2, _, dat2, ks2, prs2, _⟩ := D2
  have len1 : l1.length = es1.size := by rw [← prs1.length]; exact Array.length_toList
  have len2 : l2.length = es2.size := by rw [← prs2.length]; exact Array.length_toList
  have seek : ∀ k, findBy kd.is es2 k = valueAt l2 k := fun k => by
    rw [← prs2.find k]
    clear len2 prs2 ks2 dat2 get2
    cases es2
    simp [findBy]
  rw [len1, len2] at q
  unfold Builtin.Dict.samePairs Builtin.Dict.showsAll
  rw [if_neg (by rw [n1]; exact Bool.false_ne_true), if_neg (by rw [n2]; exact Bool.false_ne_true)]
  refine wpAny_bind (wpAny_pure (wpAny_bind (wpAny_pure (wpAny_bind (wpAny_dictEntries get1 dat1 ?_)))))
  dsimp only
  refine wpAny_bind (wpAny_dictEntries get2 dat2 ?_)
  by_cases sz : es1.size = es2.size
  case neg =>
    rw [if_pos (by simpa using sz)]
    have no : (es1.size == es2.size) = false := by simpa using sz
    rw [no, Bool.false_and] at q
    exact wpAny_bind (wpAny_rule (wpAny_pure q))
  case pos =>
    have q' : Q r s := by simpa [sz] using q
    have hh' := hh (by rw [len1, len2]; exact sz)
    rw [if_neg (by rw [sz]; simp)]
    refine wpAny_bind (wpAny_dictEpoch get1 dat1 (wpAny_bind ?_))
    rw [Std.Legacy.Range.forIn_eq_forIn_range']
    simp only [Std.Legacy.Range.size, Nat.sub_zero, Nat.add_sub_cancel, Nat.div_one]
    refine wpAny_forIn_list _ (fun todo z s' => s' = s ∧ z = (none, ()) ∧ ∃ j, todo = List.range' j (es1.size - j) ∧ j ≤ es1.size ∧ HitW P w A s l2 (l1.drop j) r) _ ?_ ?_ _ _ ⟨rfl, rfl, 0, by simp, Nat.zero_le _, hh'⟩
    · rintro x todo z s' ⟨rfl, rfl, j, et, hj, rest⟩
      have lt : j < es1.size := by
        rcases Nat.lt_or_ge j es1.size with g | g
        · exact g
        · rw [Nat.sub_eq_zero_of_le g] at et; simp at et
      have e1 : es1.size - j = (es1.size - (j + 1)) + 1 := by omega
      rw [e1, List.range'_succ] at et
      injection et with ex et
      subst ex
      refine wpAny_bind (wpAny_dictEntries get1 dat1 ?_)
      rw [Array.getElem?_eq_getElem lt]
      have lt' : x < l1.length := by rw [len1]; exact lt
      obtain ⟨k, v, ekv⟩ : ∃ k v, l1[x] = (k, v) := ⟨_, _, rfl⟩
      have cut : l1.drop x = (k, v) :: l1.drop (x + 1) := by rw [← ekv]; exact List.drop_eq_getElem_cons lt'
      obtain ⟨isk, isv⟩ := prs1.get? (i := x) (e := es1[x]) (k := k) (v := v) (by rw [Array.getElem?_toList]; exact Array.getElem?_eq_getElem lt) (by rw [List.getElem?_eq_getElem lt', ekv])
      obtain ⟨k', isk', hs⟩ := ks1 es1[x] (Array.getElem_mem lt)
      have ek : k' = k := kd.inj _ _ _ isk' isk
      rw [ek] at hs
      rw [cut] at rest
      show wpAny _ _ (holding [es1[x].key, es1[x].val] _ >>= _) _ _ _
      rw [hs]
      refine wpAny_bind (wpAny_holding (wpAny_bind (wpAny_dictFind_of isk get2 dat2 ks2 ?_)))
      cases at2 : es2.findIdx? fun e => kd.is k e.key with
      | none =>
        have nn : valueAt l2 k = none := by rw [← seek k, findBy_of_findIdx?, at2]
        rcases rest.split with ⟨_, er⟩ | ⟨y, _, _, hy, _⟩
        · rw [er] at q'
          refine wpAny_pure ?_
          show wpAny _ _ (if (!false) = true then _ else _) _ _ _
          rw [if_pos (by decide)]
          exact wpAny_pure (wpAny_pure q')
        · rw [nn] at hy; cases hy
      | some m =>
        obtain ⟨mlt, _, _⟩ := Array.findIdx?_eq_some_iff_getElem.mp at2
        have vv : valueAt l2 k = some es2[m].val := by
          rw [← seek k, findBy_of_findIdx?, at2]
          simp [Array.getElem?_eq_getElem mlt]
        refine wpAny_bind (wpAny_dictEntries get2 dat2 ?_)
        rw [Array.getElem?_eq_getElem mlt]
        rcases rest.split with ⟨nn, _⟩ | ⟨y, e, c, hy, he, ht, er⟩
        · rw [vv] at nn; cases nn
        · have ey : es2[m].val = y := Option.some.inj (vv.symm.trans hy)
          rw [← ey, ← isv] at he
          refine wpAny_holding (he _ _ ?_)
          cases e with
          | false =>
            rw [er, Bool.false_and] at q'
            show wpAny _ _ (if (!false) = true then _ else _) _ _ _
            rw [if_pos (by decide)]
            exact wpAny_pure (wpAny_pure q')
          | true =>
            rw [Bool.true_and] at er
            rw [← er] at ht
            show wpAny _ _ (if (!true) = true then _ else _) _ _ _
            rw [if_neg (by decide)]
            refine wpAny_bind (wpAny_dictEpoch get1 dat1 ?_)
            rw [if_neg (by simp)]
            exact wpAny_pure ⟨rfl, rfl, x + 1, et, lt, ht⟩
    · rintro z s' ⟨rfl, rfl, j, et, hj, rest⟩
      have ej : j = es1.size := by
        rcases Nat.lt_or_ge j es1.size with g | g
        · have e1 : es1.size - j = (es1.size - (j + 1)) + 1 := by omega
          rw [e1, List.range'_succ] at et
          cases et
        · exact Nat.le_antisymm hj g
      refine wpAny_pure ?_
      rw [ej, ← len1, List.drop_length] at rest
      cases rest
      exact q'
theorem dict_eqW {d1 d2 : Addr} {l1 l2 : List (κ × Value)} {r : Bool} {Q : Value → Shared → Prop} (n1 : (d1 == sysModules) = false) (n2 : (d2 == sysModules) = false) (D1 : s.heap.DictOf kd d1 l1) (D2 : s.heap.DictOf kd d2 l2) (hu : A.units < cLine)
    (hh : l1.length = l2.length → HitW P w A.in1 s l2 l1 r) (q : Q (.bool (l1.length == l2.length && r)) s) : wpAny (model P w) A (richCompare .Eq (.ref d1) (.ref d2)) Q E s := by
  refine wpAny_richCompare_same_room (op := .Eq) D1.typeIs D2.typeIs PySem.F.slot_dict_eq (wpAny_call_entry PySem.F.slot_dict_eq D1.typeIs PySem.F.entry_dict_eq ?_ (PySem.F.args_dict_eq_2 _ _)) hu
  show wpAny _ _ (Builtin.Dict.dictSlotArgs "__eq__" ⟨[.ref d1, .ref d2], []⟩ >>= _) _ _ s
  unfold Builtin.Dict.dictSlotArgs
  refine wpAny_bind (wpAny_bind (wpAny_notOrdered_dict D1.typeIs ?_))
  show wpAny _ _ (pure (Value.ref d1, Value.ref d2)) _ _ s
  refine wpAny_pure (wpAny_bind (wpAny_isInstance (T := "dict") D2.typeIs PySem.F.sub_dict_dict ?_))
  simp only [Bool.not_true, Bool.false_eq_true, if_false]
  refine wpAny_bind (wpAny_pure (wpAny_bind (wpAny_pure (wpAny_bind (same_pairs n1 n2 D1 D2 hh (wpAny_pure ⟨_, rfl, (fun z => nomatch z), ?_⟩))))))
  simpa using q
end
section
variable {X : Cx} {pins : List (Addr × Obj)} {σ : L2.St} {H : Hp} {s : Shared}
theorem valueAt_kv {kvs : List (Key × V)} {vs : List (Key × Value)} (r : KV kvs vs) (k : Key) : (valV kvs k = none ∧ valueAt vs k = none) ∨ ∃ v u, valV kvs k = some v ∧ valueAt vs k = some u ∧ RelV v u := by
  induction r with
  | nil => exact .inl ⟨rfl, rfl⟩
  | @cons p q ps qs h t ih =>
    obtain ⟨h1, h2⟩ := h
    by_cases e : p.1 = k
    · refine .inr ⟨p.2, q.2, valV_pos e, ?_, h2⟩
      simp [valueAt, List.find?_cons, ← h1, e]
    · rw [valV_neg e]
      have e2 : valueAt (q :: qs) k = valueAt qs k := by simp [valueAt, List.find?_cons, ← h1, e]
      rw [e2]
      exact ih
theorem lookP_none {k : Key} : ∀ {ks : List Key} {ps : List PV} {kvs : List (Key × V)}, kvs.map (·.1) = ks → ps.length = kvs.length → lookP ks ps k = none → valV kvs k = none
  | [], _, kvs, e, _, _ => by
    have : kvs = [] := by simpa using e
    subst this
    rfl
  | j :: ks, [], kvs, e, hl, _ => by
    have : kvs.length = 0 := by simpa using hl.symm
    have : kvs = [] := List.eq_nil_of_length_eq_zero this
    subst this
    cases e
  | j :: ks, p :: ps, kv :: kvs, e, hl, h => by
    have e1 : kv.1 = j := by simpa using congrArg List.head? e
    have e2 : kvs.map (·.1) = ks := by simpa using congrArg List.tail e
    have h : (if j = k then some p else lookP ks ps k) = none := h
    split at h
    · cases h
    · rename_i hn
      rw [valV_neg (by rw [e1]; exact hn)]
      exact lookP_none e2 (by simpa using hl) h
  | j :: ks, p :: ps, [], e, _, _ => by cases e
theorem lookP_val {K : PySem.W.Frag} {H : Hp} {k : Key} : ∀ {ks : List Key} {ps : List PV} {kvs : List (Key × V)} {p : PV}, kvs.map (·.1) = ks → Reps K H ps (kvs.map (·.2)) → lookP ks ps k = some p → ∃ v, valV kvs k = some v ∧ Rep K H p v
  | _, _, [], _, h1, h2, e => by
    subst h1
    simp only [List.map_nil, lookP] at e
    cases e
  | _, [], kv :: kvs, _, h1, h2, e => by
    cases h2
  | _, q :: ps, kv :: kvs, p, h1, h2, e => by
    subst h1
    obtain ⟨x, r, ex, hx, ht⟩ := h2
    simp only [List.map_cons, List.cons.injEq] at ex
    obtain ⟨rfl, rfl⟩ := ex
    simp only [List.map_cons, lookP] at e
    by_cases hk : kv.1 = k
    · rw [if_pos hk] at e
      cases e
      exact ⟨kv.2, valV_pos hk, hx⟩
    · rw [if_neg hk] at e
      rw [valV_neg hk]
      exact lookP_val rfl ht e
theorem hits_rep (A : Around) (eqf : PV → PV → Option Bool) (I : Inv X pins σ H s) {ls : List Key} {qs : List PV} {kvs2 : List (Key × V)} {vs2 : List (Key × Value)} (e2 : kvs2.map (·.1) = ls) (r2 : Reps X.K H qs (kvs2.map (·.2))) (kv2 : KV kvs2 vs2) :
    ∀ (ks : List Key) (ps : List PV) (kvs1 : List (Key × V)) (vs1 : List (Key × Value)) (b : Bool), kvs1.map (·.1) = ks → Reps X.K H ps (kvs1.map (·.2)) → KV kvs1 vs1 → hitsP eqf ks ps ls qs = some b →
      (∀ p ∈ ps, ∀ (q : PV) (v u : V) (v' u' : Value) (c : Bool), RepO X.K H p v → RepO X.K H q u → RelV v v' → RelV u u' → eqf p q = some c → EqW X.prog X.w A s v' u' c) → HitW X.prog X.w A s vs2 vs1 b
  | [], [], kvs1, vs1, b, e1, r1, kv1, h, _ => by
    have : kvs1 = [] := by simpa using e1
    subst this
    cases kv1
    have h : some true = some b := h
    cases h
    exact .done
  | k :: ks, p :: ps, kvs1, vs1, b, e1, r1, kv1, h, he => by
    cases kvs1 with
    | nil => cases e1
    | cons kv kvs =>
      have ek : kv.1 = k := by simpa using congrArg List.head? e1
      have et : kvs.map (·.1) = ks := by simpa using congrArg List.tail e1
      obtain ⟨x, r, ex, rp, rt⟩ := r1
      have exx : kv.2 = x := by simpa using congrArg List.head? ex
      have err : kvs.map (·.2) = r := by simpa using congrArg List.tail ex
      cases kv1 with
      | @cons _ q _ qs' hd tl =>
        obtain ⟨k', u1⟩ := q
        obtain ⟨h1, h2⟩ := hd
        have h1 : kv.1 = k' := h1
        have h2 : RelV kv.2 u1 := h2
        subst err
        rw [← h1, ek]
        unfold hitsP at h
        cases hl : lookP ls qs k with
        | none =>
          rw [hl] at h
          have h : some false = some b := h
          cases h
          have := lookP_none e2 (by rw [r2.length, List.length_map]) hl
          rcases valueAt_kv kv2 k with ⟨_, z⟩ | ⟨v, u, z, _⟩
          · exact .lacks z
          · rw [this] at z; cases z
        | some q2 =>
          rw [hl] at h
          have h : ((eqf p q2).bind fun a => (hitsP eqf ks ps ls qs).bind fun b => some (a && b)) = some b := h
          obtain ⟨c1, g1, h⟩ := Option.bind_eq_some_iff.mp h
          obtain ⟨c2, g2, h⟩ := Option.bind_eq_some_iff.mp h
          cases h
          obtain ⟨v2, ev2, rp2⟩ := lookP_val e2 r2 hl
          rcases valueAt_kv kv2 k with ⟨z, _⟩ | ⟨v, u, z, z2, z3⟩
          · rw [ev2] at z; cases z
          · rw [ev2] at z
            cases z
            exact .meets z2 (he p List.mem_cons_self q2 kv.2 v2 u1 u c1 (exx ▸ rp.o) rp2.o h2 z3 g1) (hits_rep A eqf I e2 r2 kv2 ks ps kvs qs' c2 et rt tl g2 fun p' hp' => he p' (List.mem_cons_of_mem _ hp'))
  | [], _ :: _, _, _, _, _, _, _, h, _ => by cases h
  | _ :: _, [], _, _, _, _, _, _, h, _ => by cases h
theorem look_at {k : Key} {r : PV} : ∀ (ks : List Key) (ps : List PV), ks.length = ps.length → k ∉ ks → ∀ (ls : List Key) (qs : List PV), lookP (ks ++ k :: ls) (ps ++ r :: qs) k = some r
  | [], [], _, _, ls, qs => by
    show (if k = k then some r else _) = _
    rw [if_pos rfl]
  | j :: ks, p :: ps, hl, hn, ls, qs => by
    show (if j = k then some p else lookP (ks ++ k :: ls) (ps ++ r :: qs) k) = _
    rw [if_neg (fun e => hn (by rw [e]; exact List.mem_cons_self))]
    exact look_at ks ps (by simpa using hl) (fun h => hn (List.mem_cons_of_mem _ h)) ls qs
  | [], _ :: _, h, _, _, _ => by simp at h
  | _ :: _, [], h, _, _, _ => by simp at h
theorem pairs_inj {P : Program} {w : World} {κ : Type} [DecidableEq κ] {kd : KeyKind P w κ} : ∀ {es : List DictEntry} {l1 l2 : List (κ × Value)}, Pairs kd es l1 → Pairs kd es l2 → l1 = l2
  | _, _, _, .nil, .nil => rfl
  | _, _, _, .cons a b c, .cons a' b' c' => by
    rw [pairs_inj c c']
    have h1 := kd.inj _ _ _ a a'
    have h2 := b.symm.trans b'
    rw [Prod.ext h1 h2]
theorem dictOf_inj {P : Program} {w : World} {κ : Type} [DecidableEq κ] {kd : KeyKind P w κ} {h : Heap} {a : Addr} {l1 l2 : List (κ × Value)} (d1 : h.DictOf kd a l1) (d2 : h.DictOf kd a l2) : l1 = l2 := by
  obtain ⟨o1, es1, c1, get1, _, dat1, _, prs1, _⟩ := d1
  obtain ⟨o2, es2, c2, get2, _, dat2, _, prs2, _⟩ := d2
  rw [get1] at get2
  cases get2
  rw [dat1] at dat2
  cases dat2
  exact pairs_inj prs1 prs2
theorem kv_inj : ∀ {l1 l2 : List (Key × V)} {vs : List (Key × Value)}, KV l1 vs → KV l2 vs → l1 = l2
  | _, _, _, .nil, .nil => rfl
  | _, _, _, .cons a c, .cons a' c' => by
    rw [kv_inj c c']
    rw [Prod.ext (a.1.trans a'.1.symm) (RelV.inj a.2 a'.2)]
theorem kv_keys : ∀ {l : List (Key × V)} {vs : List (Key × Value)}, KV l vs → l.map (·.1) = vs.map (·.1)
  | _, _, .nil => rfl
  | _, _, .cons a c => by rw [List.map_cons, List.map_cons, kv_keys c, a.1]
theorem hits_same (eqf : PV → PV → Option Bool) (he : ∀ (p q : PV) (v : V) (c : Bool), Rep X.K H p v → Rep X.K H q v → eqf p q = some c → c = true) : ∀ (kvs kvs0 : List (Key × V)) (qs0 qs ps : List PV) (b : Bool),
    ((kvs0 ++ kvs).map (·.1)).Nodup → Reps X.K H qs0 (kvs0.map (·.2)) → Reps X.K H qs (kvs.map (·.2)) → Reps X.K H ps (kvs.map (·.2)) → hitsP eqf (kvs.map (·.1)) ps ((kvs0 ++ kvs).map (·.1)) (qs0 ++ qs) = some b → b = true
  | [], kvs0, qs0, qs, ps, b, nd, r0, rq, rp, h => by
    have : ps = [] := List.eq_nil_of_length_eq_zero (by rw [rp.length]; rfl)
    subst this
    have h : some true = some b := h
    cases h
    rfl
  | kv :: kvs, kvs0, qs0, [], ps, b, nd, r0, rq, rp, h => by
    have := rq.length
    simp at this
  | kv :: kvs, kvs0, qs0, q :: qs, [], b, nd, r0, rq, rp, h => by
    have := rp.length
    simp at this
  | kv :: kvs, kvs0, qs0, q :: qs, p :: ps, b, nd, r0, rq, rp, h => by
    obtain ⟨x, r, ex, rp1, rpt⟩ := rp
    obtain ⟨y, r', ey, rq1, rqt⟩ := rq
    have exx : kv.2 = x := by simpa using congrArg List.head? ex
    have err : kvs.map (·.2) = r := by simpa using congrArg List.tail ex
    have eyy : kv.2 = y := by simpa using congrArg List.head? ey
    have err' : kvs.map (·.2) = r' := by simpa using congrArg List.tail ey
    subst exx eyy err
    rw [← err'] at rqt
    have nk : kv.1 ∉ kvs0.map (·.1) := fun z => by
      rw [List.map_append, List.nodup_append] at nd
      exact nd.2.2 _ z _ (by simp) rfl
    have lk : lookP ((kvs0 ++ kv :: kvs).map (·.1)) (qs0 ++ q :: qs) kv.1 = some q := by
      rw [List.map_append, List.map_cons]
      exact look_at _ _ (by rw [List.length_map, r0.length, List.length_map]) nk _ _
    rw [List.map_cons] at h
    unfold hitsP at h
    rw [lk] at h
    have h : ((eqf p q).bind fun a => (hitsP eqf (kvs.map (·.1)) ps ((kvs0 ++ kv :: kvs).map (·.1)) (qs0 ++ q :: qs)).bind fun b => some (a && b)) = some b := h
    obtain ⟨c1, g1, h⟩ := Option.bind_eq_some_iff.mp h
    obtain ⟨c2, g2, h⟩ := Option.bind_eq_some_iff.mp h
    cases h
    rw [he p q kv.2 c1 rp1 rq1 g1]
    have := hits_same eqf he kvs (kvs0 ++ [kv]) (qs0 ++ [q]) qs ps c2 (by simpa using nd) (by rw [List.map_append]; exact r0.append (Reps.cons rq1 Reps.nil)) rqt rpt (by simpa using g2)
    rw [this]
    rfl
theorem peqN_same (hw : X.w = TW.w) (I : Inv X pins σ H s) : ∀ (n : Nat) (p q : PV) (v : V) (b : Bool), RepO X.K H p v → RepO X.K H q v → peqN n p q = some b → b = true := by
  intro n
  induction n with
  | zero =>
    intro p q v b h1 h2 e
    have e : peqO p q = some b := by cases p <;> exact e
    exact peq_same I p q v b h1 h2 e
  | succ n ih =>
    intro p q v b h1 h2 e
    by_cases hd : ∃ ks ps ls qs, p = .dct ks ps ∧ q = .dct ls qs
    · obtain ⟨ks, ps, ls, qs, rfl, rfl⟩ := hd
      have e : (if ks.length = ls.length then hitsP (peqN n) ks ps ls qs else some false) = some b := e
      obtain ⟨a1, kvs1, rfl, d1, k1, r1⟩ := h1
      obtain ⟨a2, kvs2, ea, d2, k2, r2⟩ := h2
      cases ea
      obtain ⟨_, n1, vs1, kv1, D1⟩ := DkR.at hw I d1
      obtain ⟨_, n2, vs2, kv2, D2⟩ := DkR.at hw I d2
      have := dictOf_inj D1 D2
      subst this
      have := kv_inj kv1 kv2
      subst this
      subst k1
      subst k2
      rw [if_pos rfl] at e
      obtain ⟨_, _, _, _, _, _, _, _, nd⟩ := D1
      exact hits_same (peqN n) (fun p q v c g1 g2 g => ih p q v c g1.o g2.o g) kvs1 [] [] qs ps b (by rw [List.nil_append, kv_keys kv1]; exact nd) Reps.nil r2 r1 (by simpa using e)
    · have e : peqO p q = some b := by
        rw [← e]
        cases p with
        | dct ks ps =>
          cases q with
          | dct ls qs => exact absurd ⟨ks, ps, ls, qs, rfl, rfl⟩ hd
          | _ => rfl
        | _ => rfl
      exact peq_same I p q v b h1 h2 e
theorem eq_repN (hw : X.w = TW.w) (I : Inv X pins σ H s) : ∀ (n : Nat) (p q : PV) (A : Around) (v u : V) (v' u' : Value) (b : Bool), RepO X.K H p v → RepO X.K H q u → RelV v v' → RelV u u' → peqN n p q = some b → A.units + pdep p < cLine → EqW X.prog X.w A s v' u' b := by
  intro n
  induction n with
  | zero =>
    intro p q A v u v' u' b h1 h2 e1 e2 e hu
    have e : peqO p q = some b := by cases p <;> exact e
    exact .of (eq_rep I p q A v u v' u' b h1 h2 e1 e2 e hu)
  | succ n ih =>
    intro p q A v u v' u' b h1 h2 e1 e2 e hu
    by_cases hd : ∃ ks ps ls qs, p = .dct ks ps ∧ q = .dct ls qs
    · obtain ⟨ks, ps, ls, qs, rfl, rfl⟩ := hd
      have e0 := e
      have h10 := h1
      have h20 := h2
      have e : (if ks.length = ls.length then hitsP (peqN n) ks ps ls qs else some false) = some b := e
      obtain ⟨a1, kvs1, rfl, d1, k1, r1⟩ := h1
      obtain ⟨a2, kvs2, rfl, d2, k2, r2⟩ := h2
      cases e1
      cases e2
      obtain ⟨_, n1, vs1, kv1, D1⟩ := DkR.at hw I d1
      obtain ⟨_, n2, vs2, kv2, D2⟩ := DkR.at hw I d2
      have l1 : vs1.length = ks.length := by rw [← k1, List.length_map]; exact (Paired.length kv1).symm
      have l2 : vs2.length = ls.length := by rw [← k2, List.length_map]; exact (Paired.length kv2).symm
      simp only [pdep] at hu
      have hu0 : A.units < cLine := by omega
      have dep : ∀ p ∈ ps, pdep p ≤ pdeps ps := fun p hp => by
        obtain ⟨j, hj⟩ := List.mem_iff_getElem?.mp hp
        exact pdeps_le hj
      by_cases same : a1 = a2
      · subst same
        rw [peqN_same hw I (n + 1) _ _ _ b h10 h20 e0]
        exact .of (EqAt.same _)
      · intro E Q hq
        unfold eqBool
        refine wpAny_holding (wpAny_ite_split (fun hab => absurd (by have := eq_of_beq hab; injection this) same) fun _ => wpAny_bind ?_)
        by_cases hl : ks.length = ls.length
        · rw [if_pos hl] at e
          refine dict_eqW (r := b) n1 n2 D1 D2 hu0 (fun _ => hits_rep A.in1 (peqN n) I k2 r2 kv2 ks ps kvs1 vs1 b k1 r1 kv1 e fun p hp q v u v' u' c g1 g2 g3 g4 g5 => ih p q A.in1 v u v' u' c g1 g2 g3 g4 g5 ?_) (wpAny_truthy_bool ?_)
          · have := dep p hp
            show A.units + 1 + _ < _
            omega
          · have : (vs1.length == vs2.length) = true := by rw [l1, l2, hl]; simp
            rw [this, Bool.true_and]
            exact hq
        · rw [if_neg hl] at e
          cases e
          refine dict_eqW (r := false) n1 n2 D1 D2 hu0 (fun z => absurd (by rw [← l1, ← l2]; exact z) hl) (wpAny_truthy_bool ?_)
          rw [Bool.and_false]
          exact hq
    · have e : peqO p q = some b := by
        rw [← e]
        cases p with
        | dct ks ps =>
          cases q with
          | dct ls qs => exact absurd ⟨ks, ps, ls, qs, rfl, rfl⟩ hd
          | _ => rfl
        | _ => rfl
      exact .of (eq_rep I p q A v u v' u' b h1 h2 e1 e2 e hu)
end
end PU
end
section
namespace PU
open PySem PySem.Spec PyProof.Rows L2 PySem.SeqAt
variable [TW]
theorem isSc_rep {K : PySem.W.Frag} {H : Hp} {p : PV} {v : V} (h : isSc p = true) (r : RepO K H p v) : v = scV p := by
  cases p with
  | non => exact r
  | bl b => exact r
  | int i => exact r
  | str x => exact r
  | _ => cases h
section
variable {X : Cx}
theorem seq_eq {pins : List (Addr × Obj)} {σ : L2.St} {H : Hp} {s : Shared} {ps qs : List PV} {v u : V} {v' u' : Value} {b : Bool} (hu : X.A.units + 64 < cLine) (I : Inv X pins σ H s) (e : peqsO ps qs = some b) (hd : pdeps ps ≤ 60) :
    (RepO X.K H (.tup ps) v → RepO X.K H (.tup qs) u → RelV v v' → RelV u u' → RcAt X.A s v' u' b ∧ RcNeAt X.A s v' u' (!b)) ∧
    (RepO X.K H (.lst ps) v → RepO X.K H (.lst qs) u → RelV v v' → RelV u u' → RcAt X.A s v' u' b ∧ RcNeAt X.A s v' u' (!b)) := by
  have hu0 : X.A.units < cLine := by omega
  have hp := peqs_all ps qs b e
  constructor
  · intro h1 h2 e1 e2
    obtain ⟨a, xs, rfl, g1, r1⟩ := RepO.tup_inv h1
    obtain ⟨a2, ys, rfl, g2, r2⟩ := RepO.tup_inv h2
    cases e1
    cases e2
    obtain ⟨its, rv, pl, _⟩ := I.tuple g1
    obtain ⟨its2, rv2, pl2, _⟩ := I.tuple g2
    have l1 := r1.length
    have l2 := r2.length
    have l3 := rv.length
    have l4 := rv2.length
    have each : ∀ j (j1 : j < its.toArray.size) (j2 : j < its2.toArray.size), EqAt X.A.in1 s its.toArray[j] its2.toArray[j] (pairB ps qs j) := fun j j1 j2 => by
      have := eq_reps I ps qs X.A.in1 xs ys its its2 b r1 r2 rv rv2 e (by show X.A.units + 1 + _ < _; omega) j (by simpa using j1) (by simpa using j2)
      simpa using this
    rw [← hp, show ps.length = its.toArray.size by simp; omega, show qs.length = its2.toArray.size by simp; omega]
    exact ⟨RcAt.tuples pl pl2 hu0 each, RcNeAt.tuples pl pl2 hu0 each⟩
  · intro h1 h2 e1 e2
    obtain ⟨a, xs, rfl, g1, r1⟩ := RepO.lst_inv h1
    obtain ⟨a2, ys, rfl, g2, r2⟩ := RepO.lst_inv h2
    cases e1
    cases e2
    obtain ⟨its, rv, pl, _⟩ := I.list g1.l
    obtain ⟨its2, rv2, pl2, _⟩ := I.list g2.l
    have l1 := r1.length
    have l2 := r2.length
    have l3 := rv.length
    have l4 := rv2.length
    have each : ∀ j (j1 : j < its.toArray.size) (j2 : j < its2.toArray.size), EqAt X.A.in1 s its.toArray[j] its2.toArray[j] (pairB ps qs j) := fun j j1 j2 => by
      have := eq_reps I ps qs X.A.in1 xs ys its its2 b r1 r2 rv rv2 e (by show X.A.units + 1 + _ < _; omega) j (by simpa using j1) (by simpa using j2)
      simpa using this
    by_cases hl : ps.length = qs.length
    · have hb : (List.range its.toArray.size).all (pairB ps qs) = b := by
        rw [← hp, hl, Nat.min_self, beq_self_eq_true, Bool.and_true, show its.toArray.size = qs.length by simp; omega]
      rw [← hb]
      exact ⟨RcAt.lists pl.isList pl2.isList (by simp; omega) hu0 each, RcNeAt.lists pl.isList pl2.isList (by simp; omega) hu0 each⟩
    · have hb : b = false := by
        rw [← hp, beq_eq_false_iff_ne.mpr hl, Bool.and_false]
      rw [hb]
      exact ⟨RcAt.lists_lengths pl.isList pl2.isList (by simp; omega) hu0, RcNeAt.lists_lengths pl.isList pl2.isList (by simp; omega) hu0⟩
theorem opEq (hu : X.A.units + 64 < cLine) (hw : X.w = TW.w := by rfl) : OpR X (compareOp .Eq) (rP X.K gEq) := by
  intro pins s σ H x y v u Q I rx ry ⟨p, q, z, hp, hq, e, k⟩
  unfold gEq at e
  split at e
  · rename_i ks ps ls qs
    split at e
    · rename_i hd
      obtain ⟨b, eb, ez⟩ := Option.map_eq_some_iff.mp e
      subst ez
      have eb : (if ks.length = ls.length then hitsP (peqN 2) ks ps ls qs else some false) = some b := eb
      obtain ⟨a1, kvs1, rfl, d1, k1, r1⟩ := hp
      obtain ⟨a2, kvs2, rfl, d2, k2, r2⟩ := hq
      cases rx
      cases ry
      obtain ⟨_, n1, vs1, kv1, D1⟩ := DkR.at hw I d1
      obtain ⟨_, n2, vs2, kv2, D2⟩ := DkR.at hw I d2
      have l1 : vs1.length = ks.length := by rw [← k1, List.length_map]; exact (Paired.length kv1).symm
      have l2 : vs2.length = ls.length := by rw [← k2, List.length_map]; exact (Paired.length kv2).symm
      have fin : EP X pins σ Q (.bool b) s := ⟨.bl b, H, I, rfl, k _ H (Same.refl H) rfl⟩
      have hu0 : X.A.units < cLine := by omega
      by_cases hl : ks.length = ls.length
      · rw [if_pos hl] at eb
        refine dict_eqW (r := b) n1 n2 D1 D2 hu0 (fun _ => hits_rep X.A.in1 (peqN 2) I k2 r2 kv2 ks ps kvs1 vs1 b k1 r1 kv1 eb fun p hp q v u v' u' c g1 g2 g3 g4 g5 => eq_repN hw I 2 p q X.A.in1 v u v' u' c g1 g2 g3 g4 g5 ?_) ?_
        · obtain ⟨j, hj⟩ := List.mem_iff_getElem?.mp hp
          have := pdeps_le hj
          show X.A.units + 1 + _ < _
          omega
        · have : (vs1.length == vs2.length) = true := by rw [l1, l2, hl]; simp
          rw [this, Bool.true_and]
          exact fin
      · rw [if_neg hl] at eb
        cases eb
        refine dict_eqW (r := false) n1 n2 D1 D2 hu0 (fun z => absurd (by rw [← l1, ← l2]; exact z) hl) ?_
        rw [Bool.and_false]
        exact fin
    · cases e
  · split at e
    · rename_i hd
      obtain ⟨b, eb, ez⟩ := Option.map_eq_some_iff.mp e
      subst ez
      exact ((seq_eq hu I eb hd).1 hp hq rx ry).1 _ _ _ _ ⟨.bl b, H, I, rfl, k _ H (Same.refl H) rfl⟩
    · cases e
  · split at e
    · rename_i hd
      obtain ⟨b, eb, ez⟩ := Option.map_eq_some_iff.mp e
      subst ez
      exact ((seq_eq hu I eb hd).2 hp hq rx ry).1 _ _ _ _ ⟨.bl b, H, I, rfl, k _ H (Same.refl H) rfl⟩
    · cases e
  · split at e
    · rename_i hc
      obtain ⟨h1, h2, h3⟩ := hc
      cases e
      rw [isSc_rep h1 hp] at rx
      rw [isSc_rep h2 hq] at ry
      exact op_eq pins s σ H _ _ v u Q I rx ry ⟨h3, k _ H (Same.refl H) rfl⟩
    · cases e
theorem opNe (hu : X.A.units + 64 < cLine) : OpR X (compareOp .NotEq) (rP X.K gNe) := by
  intro pins s σ H x y v u Q I rx ry ⟨p, q, z, hp, hq, e, k⟩
  unfold gNe at e
  split at e
  · split at e
    · rename_i hd
      obtain ⟨b, eb, ez⟩ := Option.map_eq_some_iff.mp e
      subst ez
      exact ((seq_eq hu I eb hd).1 hp hq rx ry).2 _ _ _ _ ⟨.bl (!b), H, I, rfl, k _ H (Same.refl H) rfl⟩
    · cases e
  · split at e
    · rename_i hd
      obtain ⟨b, eb, ez⟩ := Option.map_eq_some_iff.mp e
      subst ez
      exact ((seq_eq hu I eb hd).2 hp hq rx ry).2 _ _ _ _ ⟨.bl (!b), H, I, rfl, k _ H (Same.refl H) rfl⟩
    · cases e
  · split at e
    · rename_i hc
      obtain ⟨h1, h2, h3⟩ := hc
      cases e
      rw [isSc_rep h1 hp] at rx
      rw [isSc_rep h2 hq] at ry
      exact op_ne pins s σ H _ _ v u Q I rx ry ⟨h3, k _ H (Same.refl H) rfl⟩
    · cases e
theorem opLt : OpR X (compareOp .Lt) (rP X.K gLt) := by
  intro pins s σ H x y v u Q I rx ry ⟨p, q, z, hp, hq, e, k⟩
  unfold gLt at e
  split at e
  · rename_i i j
    cases e
    cases (show x = .int i from hp)
    cases (show y = .int j from hq)
    exact op_lt pins s σ H _ _ v u Q I rx ry ⟨i, j, rfl, rfl, k _ H (Same.refl H) rfl⟩
  · rename_i i j
    cases e
    cases (show x = .str i from hp)
    cases (show y = .str j from hq)
    exact op_lt_str pins s σ H _ _ v u Q I rx ry ⟨i, j, rfl, rfl, k _ H (Same.refl H) rfl⟩
  · cases e
theorem opLe : OpR X (compareOp .LtE) (rP X.K gLe) := by
  intro pins s σ H x y v u Q I rx ry ⟨p, q, z, hp, hq, e, k⟩
  unfold gLe at e
  split at e
  · rename_i i j
    cases e
    cases (show x = .int i from hp)
    cases (show y = .int j from hq)
    exact op_le pins s σ H _ _ v u Q I rx ry ⟨i, j, rfl, rfl, k _ H (Same.refl H) rfl⟩
  · rename_i i j
    cases e
    cases (show x = .str i from hp)
    cases (show y = .str j from hq)
    obtain ⟨t, rfl⟩ := rx
    obtain ⟨t', rfl⟩ := ry
    exact PySem.P.le_str ⟨.bl _, H, I, rfl, k _ H (Same.refl H) rfl⟩
  · cases e
theorem rep_non {K : PySem.W.Frag} {H : Hp} {p : PV} {v : V} (r : RepO K H p v) : decide (v = .non) = isNon p := by
  cases p with
  | non => cases (show v = .non from r); rfl
  | bl b => cases (show v = .bl b from r); rfl
  | int b => cases (show v = .int b from r); rfl
  | str b => cases (show v = .str b from r); rfl
  | tup ps => obtain ⟨a, xs, rfl, _⟩ := RepO.tup_inv r; rfl
  | lst ps => obtain ⟨a, xs, rfl, _⟩ := RepO.lst_inv r; rfl
  | dct ks ps => obtain ⟨a, kvs, rfl, _⟩ := r; rfl
  | dtt ks ps => obtain ⟨a, kvs, rfl, _⟩ := r; rfl
theorem opIsN : OpR X (compareOp .Is) (rP X.K gIsN) := by
  intro pins s σ H x y v u Q I rx ry ⟨p, q, z, hp, hq, e, k⟩
  unfold gIsN at e
  split at e
  · cases e
    cases (show y = .non from hq)
    refine op_isN pins s σ H _ _ v u Q I rx ry ⟨rfl, ?_⟩
    rw [rep_non hp]
    exact k _ H (Same.refl H) rfl
  · cases e
end
end PU
end
section
namespace PU
open PySem PySem.Spec PyProof.Rows L2 PySem.SeqAt
variable [TW]
theorem toKey_rep {K : PySem.W.Frag} {H : Hp} {p : PV} {v : V} {k : Key} (e : toKey p = some k) (r : RepO K H p v) : v = kV k := by
  cases p with
  | int i => cases e; exact r
  | str i => cases e; exact r
  | _ => cases e
theorem reps_atI {K : PySem.W.Frag} {H : Hp} {ps : List PV} {xs : List V} {i : Int} {p : PV} (r : Reps K H ps xs) (e : atI ps i = some p) : ∃ v, atI xs i = some v ∧ Rep K H p v := by
  unfold atI at e ⊢
  rw [← r.length]
  obtain ⟨j, ej, e2⟩ := Option.bind_eq_some_iff.mp e
  obtain ⟨v, ev, rp⟩ := r.get e2
  exact ⟨v, by rw [ej]; exact ev, rp⟩
section
variable {X : Cx}
theorem ixP (hu : X.A.units + 64 < cLine) (hw : X.w = TW.w := by rfl) : IxR X (rP X.K gIx) := by
  intro value slice pins s σ H x y v u Q I rx ry ⟨p, q, z, hp, hq, e, k⟩ hs
  have h16 := sizeLine_eq
  unfold gIx at e
  split at e
  · rename_i ps i
    obtain ⟨a, xs, rfl, g, r⟩ := RepO.lst_inv hp
    cases (show y = .int i from hq)
    obtain ⟨w, ew, rp⟩ := reps_atI r e
    exact ix_list value slice pins s σ H _ _ v u Q I rx ry ⟨a, xs, i, w, rfl, rfl, g.l, ew, k w H (Same.refl H) rp⟩ hs
  · rename_i ps i
    obtain ⟨a, xs, rfl, g, r⟩ := RepO.tup_inv hp
    cases (show y = .int i from hq)
    obtain ⟨w, ew, rp⟩ := reps_atI r e
    exact ix_tup value slice pins s σ H _ _ v u Q I rx ry ⟨a, xs, i, w, rfl, rfl, g, ew, k w H (Same.refl H) rp⟩ hs
  · rename_i t i
    split at e
    · rename_i hl
      obtain ⟨c, ec, ez⟩ := Option.map_eq_some_iff.mp e
      subst ez
      cases (show x = .str t from hp)
      cases (show y = .int i from hq)
      exact ix_str value slice pins s σ H _ _ v u Q I rx ry ⟨t, i, c, rfl, rfl, by omega, ec, k _ H (Same.refl H) rfl⟩ hs
    · cases e
  · rename_i ks ps
    obtain ⟨kk, ek, e⟩ := Option.bind_eq_some_iff.mp e
    obtain ⟨a, kvs, rfl, g, e1, r⟩ := hp
    cases rx
    have hy := toKey_rep ek hq
    subst hy
    obtain ⟨w, ew, rp⟩ := lookP_val e1 r e
    obtain ⟨zz, hd, vs, rel, dd⟩ := DkR.at hw I g
    obtain ⟨w', hw, rw'⟩ := RelO.some_of (v := w) (o := valueAt vs kk) (by rw [← ew]; exact rel.val kk)
    exact tail_any dd.typeIs PySem.F.slot_dict_getitem.lookup (wpAny_getItem_of (kV_is ry) dd.mapOf hw ⟨w, H, I.tok _, rw', k w H (Same.refl H) rp⟩) hs
  · cases e
theorem all_sc {K : PySem.W.Frag} {H : Hp} : ∀ {qs : List PV} {xs : List V}, qs.all isSc = true → Reps K H qs xs → xs = qs.map scV ∧ xs.all flatV = true
  | [], _, _, r => by cases r; exact ⟨rfl, rfl⟩
  | q :: qs, _, h, ⟨x, t, e, h1, h2⟩ => by
    subst e
    simp only [List.all_cons, Bool.and_eq_true] at h
    obtain ⟨e1, e2⟩ := all_sc h.2 h2
    have hx := isSc_rep h.1 h1.o
    refine ⟨by rw [List.map_cons, hx, e1], ?_⟩
    rw [List.all_cons, e2, Bool.and_true, hx]
    cases q <;> first | rfl | cases h.1
theorem sc_flat {p : PV} (h : isSc p = true) : flatV (scV p) = true := by
  cases p <;> first | rfl | cases h
theorem opIn (hu : X.A.units + 64 < cLine) (hw : X.w = TW.w := by rfl) : OpR X (compareOp .In) (rP X.K gIn) := by
  intro pins s σ H x y v u Q I rx ry ⟨p, q, z, hp, hq, e, k⟩
  unfold gIn at e
  split at e
  · rename_i i j
    cases e
    cases (show x = .str i from hp)
    cases (show y = .str j from hq)
    exact op_in_str pins s σ H _ _ v u Q I rx ry ⟨i, j, rfl, rfl, k _ H (Same.refl H) rfl⟩
  · rename_i qs _
    split at e
    · rename_i hc
      cases e
      obtain ⟨a, xs, rfl, g, r⟩ := RepO.lst_inv hq
      obtain ⟨e1, e2⟩ := all_sc hc.2 r
      refine op_in_seq pins s σ H _ _ v u Q I rx ry ⟨a, xs, rfl, .inl g.l, by rw [isSc_rep hc.1 hp]; exact sc_flat hc.1, e2, ?_⟩
      rw [isSc_rep hc.1 hp, e1]
      exact k _ H (Same.refl H) rfl
    · cases e
  · rename_i qs _
    split at e
    · rename_i hc
      cases e
      obtain ⟨a, xs, rfl, g, r⟩ := RepO.tup_inv hq
      obtain ⟨e1, e2⟩ := all_sc hc.2 r
      refine op_in_seq pins s σ H _ _ v u Q I rx ry ⟨a, xs, rfl, .inr g, by rw [isSc_rep hc.1 hp]; exact sc_flat hc.1, e2, ?_⟩
      rw [isSc_rep hc.1 hp, e1]
      exact k _ H (Same.refl H) rfl
    · cases e
  · rename_i ks ps _
    obtain ⟨kk, ek, ez⟩ := Option.map_eq_some_iff.mp e
    subst ez
    obtain ⟨a, kvs, rfl, g, e1, r⟩ := hq
    cases ry
    have hx := toKey_rep ek hp
    subst hx
    obtain ⟨zz, hd, vs, rel, dd⟩ := DkR.at hw I g
    refine wpAny_in_of (kV_is rx) hd dd.mapOf ?_
    rw [← (rel.val kk).isSome_eq, ← valV_any]
    refine ⟨.bl _, H, I.tok _, rfl, k _ H (Same.refl H) ?_⟩
    subst e1
    rw [List.any_map]
    rfl
  · cases e
theorem opNotIn (hu : X.A.units + 64 < cLine) (hw : X.w = TW.w := by rfl) : OpR X (compareOp .NotIn) (rP X.K gNotIn) := by
  intro pins s σ H x y v u Q I rx ry ⟨p, q, z, hp, hq, e, k⟩
  have e := e
  obtain ⟨z0, e1, ez⟩ := Option.bind_eq_some_iff.mp e
  clear e
  have e := e1
  clear e1
  unfold gIn at e
  split at e
  · rename_i i j _
    cases e
    cases ez
    cases (show x = .str i from hp)
    cases (show y = .str j from hq)
    exact op_notIn_str pins s σ H _ _ v u Q I rx ry ⟨i, j, rfl, rfl, k _ H (Same.refl H) rfl⟩
  · rename_i qs _
    split at e
    · rename_i hc
      cases e
      cases ez
      obtain ⟨a, xs, rfl, g, r⟩ := RepO.lst_inv hq
      obtain ⟨e1, e2⟩ := all_sc hc.2 r
      refine op_notIn_seq pins s σ H _ _ v u Q I rx ry ⟨a, xs, rfl, .inl g.l, by rw [isSc_rep hc.1 hp]; exact sc_flat hc.1, e2, ?_⟩
      rw [isSc_rep hc.1 hp, e1]
      exact k _ H (Same.refl H) rfl
    · cases e
  · rename_i qs _
    split at e
    · rename_i hc
      cases e
      cases ez
      obtain ⟨a, xs, rfl, g, r⟩ := RepO.tup_inv hq
      obtain ⟨e1, e2⟩ := all_sc hc.2 r
      refine op_notIn_seq pins s σ H _ _ v u Q I rx ry ⟨a, xs, rfl, .inr g, by rw [isSc_rep hc.1 hp]; exact sc_flat hc.1, e2, ?_⟩
      rw [isSc_rep hc.1 hp, e1]
      exact k _ H (Same.refl H) rfl
    · cases e
  · rename_i ks ps _
    obtain ⟨kk, ek, ez'⟩ := Option.map_eq_some_iff.mp e
    subst ez'
    cases ez
    obtain ⟨a, kvs, rfl, g, e1, r⟩ := hq
    cases ry
    have hx := toKey_rep ek hp
    subst hx
    obtain ⟨zz, hd, vs, rel, dd⟩ := DkR.at hw I g
    refine wpAny_notIn_of (kV_is rx) hd dd.mapOf ?_
    rw [← (rel.val kk).isSome_eq, ← valV_any]
    refine ⟨.bl _, H, I.tok _, rfl, k _ H (Same.refl H) ?_⟩
    subst e1
    rw [List.any_map]
    rfl
  · cases e
theorem tru_rep (hw : X.w = TW.w) : TruR X (fun v H Q => ∃ p b, RepO X.K H p v ∧ truB p = some b ∧ Q b H) := by
  intro pins s σ H x v Q I rx ⟨p, b, rp, e, q⟩
  have h16 := sizeLine_eq
  cases p with
  | non =>
    cases (show x = .non from rp)
    cases e
    exact tru_ok pins s σ H _ v Q I rx ⟨_, rfl, q⟩
  | bl i =>
    cases (show x = .bl i from rp)
    cases e
    exact tru_ok pins s σ H _ v Q I rx ⟨_, rfl, q⟩
  | int i =>
    cases (show x = .int i from rp)
    cases e
    exact tru_ok pins s σ H _ v Q I rx ⟨_, rfl, q⟩
  | str i =>
    cases (show x = .str i from rp)
    simp only [truB] at e
    split at e
    · cases e
      exact tru_ok pins s σ H _ v Q I rx ⟨_, ⟨by omega, rfl⟩, q⟩
    · cases e
  | tup ps =>
    obtain ⟨a, xs, rfl, g, r⟩ := RepO.tup_inv rp
    cases e
    have : ps.isEmpty = xs.isEmpty := by have := r.length; cases ps <;> cases xs <;> simp_all
    exact tru_ok pins s σ H _ v Q I rx ⟨_, .inr (.inl ⟨xs, g, by rw [this]⟩), q⟩
  | lst ps =>
    obtain ⟨a, xs, rfl, g, r⟩ := RepO.lst_inv rp
    cases e
    have : ps.isEmpty = xs.isEmpty := by have := r.length; cases ps <;> cases xs <;> simp_all
    exact tru_ok pins s σ H _ v Q I rx ⟨_, .inl ⟨xs, g.l, by rw [this]⟩, q⟩
  | dct ks ps =>
    obtain ⟨a, kvs, rfl, g, e1, r⟩ := rp
    cases rx
    cases e
    obtain ⟨hz, hS, vs, rel, m⟩ := DkR.at hw I g
    have hlen : kvs.length = vs.length := Paired.length rel
    refine wpAny_truthy_dict hS m (by omega) ⟨H, I.tok _, ?_⟩
    rw [isEmpty_kv rel]
    subst e1
    have : (kvs.map (·.1)).isEmpty = kvs.isEmpty := by cases kvs <;> rfl
    rw [this] at q
    exact q
  | dtt ks ps => cases e
end
section
variable {C : Cn} {a b c e : Expr} {f fa fb fc : PSt → R PV} {t u : PSt → R Bool} {rest : List Expr} {pos : Pos}
theorem et_truth (ha : EO C a f) (he : ∀ whole, isTrue a C.X.env whole = (do let v ← whole; standAt a.pos; holding [v] (truthy v)) := by intro _; rfl) (hw : C.X.w = TW.w := by rfl) : ET C a (truF f) := by
  intro pins s σ H Q I ⟨ρ, vw, q⟩
  refine isTrue_plain (thn (ha pins s σ H (fun v H' => ∃ p b, RepO C.X.K H' p v ∧ truB p = some b ∧ Q b H') I ⟨ρ, vw, q.bind.imp fun p _ k v H' s' r => ?_⟩) fun v s1 ⟨x, H1, I1, r1, q1⟩ => tru_rep hw pins s1 σ H1 x v Q I1 r1 q1) (he _)
  obtain ⟨b, eb, k⟩ := k.ofO
  exact ⟨p, b, r, eb, k H' s'⟩
def isBl (g : PV → PV → Option PV) : Prop := ∀ p q z, g p q = some z → ∃ b, z = .bl b
theorem et_cmp {op : CmpOp} {g : PV → PV → Option PV} (ho : OpR C.X (compareOp op) (rP C.X.K g)) (hg : isBl g) (ha : EO C a fa) (hb : EO C b fb) (hm : behindInMarks op b = false) : ET C (.Compare a [op] [b] pos) (truF (bin2 fa fb g)) := by
  intro pins s σ H Q I ⟨ρ, vw, q⟩
  refine pt_cmpR ho ha hb hm pins s σ H Q I ?_
  refine t2 vw (g := g) (q.bind.imp fun p e k v H' s' r => ?_) fun _ _ _ _ h => h
  have : ∃ b, p = .bl b := by
    unfold bin2 at e
    cases h1 : fa ρ with
    | ok x =>
      rw [h1] at e
      cases h2 : fb ρ with
      | ok y =>
        rw [h2] at e
        cases h3 : g x y with
        | some z =>
          simp only [R.ok_bind, h3, R.ofO_some] at e
          cases e
          exact hg x y _ h3
        | none => simp only [R.ok_bind, h3, R.ofO_none] at e; cases e
      | er x => rw [h2] at e; cases e
      | no => rw [h2] at e; cases e
    | er x => rw [h1] at e; cases e
    | no => rw [h1] at e; cases e
  obtain ⟨b, rfl⟩ := this
  cases (show v = .bl b from r)
  exact ⟨b, rfl, k H' s'⟩
theorem EW.et (h : EW C e t) : ET C e t := PW.pt h
theorem ew_or1 (ha : ET C a t) : EW C (.BoolOp .Or [a] pos) t := pw_or1 ha
theorem ew_or (ha : ET C a t) (hb : EW C (.BoolOp .Or (b :: rest) pos) u) : EW C (.BoolOp .Or (a :: b :: rest) pos) (orB t u) := by
  intro wh pins s σ H Q I ⟨ρ, vw, q⟩
  refine pw_or ha hb wh pins s σ H Q I ⟨ρ, vw, q.bind.imp fun c _ k H' s' => ?_⟩
  cases c with
  | true => exact iteT (k H' s')
  | false => exact iteF ⟨ρ, vw.same s', (k.same s').imp fun b _ k2 H2 s2 => k2 H2 (s'.trans s2)⟩
theorem et_not (ha : ET C a t) : ET C (.UnaryOp .Not a pos) (notB t) := by
  intro pins s σ H Q I ⟨ρ, vw, q⟩
  exact pt_not ha pins s σ H Q I ⟨ρ, vw, q.bind.imp fun c _ k H' s' => k H' s'⟩
theorem ev_one {op} (h : EV C a f) : EV C (.BoolOp op [a] pos) f := pe_one h
theorem ev_and (ha : EV C a fa) (hb : EV C (.BoolOp .And (b :: rest) pos) fb) : EV C (.BoolOp .And (a :: b :: rest) pos) (andV fa fb) := by
  intro pins s σ H Q I ⟨ρ, vw, q⟩
  refine pe_and ha hb pins s σ H Q I ⟨ρ, vw, q.bind.imp fun p _ k v H' s' r => ?_⟩
  cases p with
  | bl c =>
    cases (show v = .bl c from r)
    refine ⟨c, rfl, ?_⟩
    cases c with
    | true => exact iteT ⟨ρ, vw.same s', (RQ.same k s').imp fun z _ k2 v2 H2 s2 r2 => k2 v2 H2 (s'.trans s2) r2⟩
    | false => exact iteF (k _ H' s' rfl)
  | _ => exact False.elim k
theorem ev_not (ha : EV C a fa) : EV C (.UnaryOp .Not a pos) (notV fa) := by
  intro pins s σ H Q I ⟨ρ, vw, q⟩
  refine pe_not ha pins s σ H Q I ⟨ρ, vw, q.bind.imp fun p _ k v H' s' r => ?_⟩
  cases p with
  | bl c =>
    cases (show v = .bl c from r)
    exact ⟨c, rfl, k _ H' s' rfl⟩
  | _ => exact False.elim k
theorem ev_if (hc : ET C c t) (ha : EV C a fa) (hb : EV C b fb) : EV C (.IfExp c a b pos) (ifV t fa fb) := by
  intro pins s σ H Q I ⟨ρ, vw, q⟩
  refine pe_ifExp hc ha hb pins s σ H Q I ⟨ρ, vw, q.bind.imp fun c _ k H' s' => ?_⟩
  cases c with
  | true => exact iteT ⟨ρ, vw.same s', (RQ.same k s').imp fun z _ k2 v2 H2 s2 r2 => k2 v2 H2 (s'.trans s2) r2⟩
  | false => exact iteF ⟨ρ, vw.same s', (RQ.same k s').imp fun z _ k2 v2 H2 s2 r2 => k2 v2 H2 (s'.trans s2) r2⟩
end
theorem isBl_eq : isBl gEq := fun p q z e => by
  unfold gEq at e
  split at e
  · split at e
    · obtain ⟨b, _, ez⟩ := Option.map_eq_some_iff.mp e
      exact ⟨b, ez.symm⟩
    · cases e
  · split at e
    · obtain ⟨b, _, ez⟩ := Option.map_eq_some_iff.mp e
      exact ⟨b, ez.symm⟩
    · cases e
  · split at e
    · obtain ⟨b, _, ez⟩ := Option.map_eq_some_iff.mp e
      exact ⟨b, ez.symm⟩
    · cases e
  · split at e
    · cases e
      exact ⟨_, rfl⟩
    · cases e
theorem isBl_ne : isBl gNe := fun p q z e => by
  unfold gNe at e
  split at e
  · split at e
    · obtain ⟨b, _, ez⟩ := Option.map_eq_some_iff.mp e; exact ⟨_, ez.symm⟩
    · cases e
  · split at e
    · obtain ⟨b, _, ez⟩ := Option.map_eq_some_iff.mp e; exact ⟨_, ez.symm⟩
    · cases e
  · split at e
    · cases e; exact ⟨_, rfl⟩
    · cases e
theorem isBl_lt : isBl gLt := fun p q z e => by unfold gLt at e; split at e <;> cases e <;> exact ⟨_, rfl⟩
theorem isBl_le : isBl gLe := fun p q z e => by unfold gLe at e; split at e <;> cases e <;> exact ⟨_, rfl⟩
theorem isBl_isN : isBl gIsN := fun p q z e => by unfold gIsN at e; split at e <;> cases e <;> exact ⟨_, rfl⟩
theorem isBl_in : isBl gIn := fun p q z e => by
  unfold gIn at e
  split at e
  · cases e; exact ⟨_, rfl⟩
  · split at e <;> cases e; exact ⟨_, rfl⟩
  · split at e <;> cases e; exact ⟨_, rfl⟩
  · obtain ⟨b, _, ez⟩ := Option.map_eq_some_iff.mp e; exact ⟨_, ez.symm⟩
  · cases e
theorem isBl_notIn : isBl gNotIn := fun p q z e => by
  obtain ⟨z0, e, ez⟩ := Option.bind_eq_some_iff.mp e
  cases z0 <;> cases ez
  exact ⟨_, rfl⟩
end PU
end
section
namespace PU
open PySem PySem.Spec PyProof.Rows L2 PySem.SeqAt
variable [TW]
def r1 (K : PySem.W.Frag) (g : PV → Option PV) : List V → Hp → VK → Prop := fun vs H Q => ∃ v p z, vs = [v] ∧ RepO K H p v ∧ g p = some z ∧ ∀ w H', Same H H' → Rep K H' z w → Q w H'
def rn1 (K : PySem.W.Frag) (g : PV → Option PV) : List V → Hp → VK → Prop := fun vs H Q => ∃ v p z, vs = [v] ∧ RepO K H p v ∧ g p = some z ∧ ∀ a H', Same H H' → H a = none → NewAt K H' a z → Q (.ref a) H'
section
variable {C : Cn} {e : Expr} {f : PSt → R PV} {g : PV → Option PV} {x : Str} {p pos : Pos} {id T : String}
theorem t1 {σ : L2.St} {H : Hp} {Q : VK} {ρ : PSt} (vw : View C.X.K H σ ρ) (q : RQ C H (un1 f g ρ) fun p => ∀ v H', Same H H' → Rep C.X.K H' p v → Q v H') : tCB (r1 C.X.K g) (tA1 C f) σ H Q := by
  refine ⟨ρ, vw, q.bind.imp fun p _ k v H1 s1 r1 => ?_⟩
  obtain ⟨z, ez, k⟩ := k.ofO
  exact ⟨v, p, z, rfl, r1, ez, fun w H' s' r' => k w H' (s1.trans s') r'⟩
theorem tn1 {σ : L2.St} {H : Hp} {Q : VK} {ρ : PSt} (vw : View C.X.K H σ ρ) (q : RQ C H (un1 f g ρ) fun p => ∀ a H', Same H H' → H a = none → NewAt C.X.K H' a p → Q (.ref a) H') : tCB (rn1 C.X.K g) (tA1 C f) σ H Q := by
  refine ⟨ρ, vw, q.bind.imp fun p _ k v H1 s1 r1 => ?_⟩
  obtain ⟨z, ez, k⟩ := k.ofO
  exact ⟨v, p, z, rfl, r1, ez, fun a H' s' n' r' => k a H' (s1.trans s') (s1.free n') r'⟩
theorem ev_b1 (hc : CallR C.X (.builtin id) (r1 C.X.K g)) (hg : Gl C.X x) (hm : C.X.mg x = none) (hv : bootBuiltins x = some (.builtin id)) (ha : EO C e f) (hn : x ≠ "__name__" := by decide) (hdb : (x == ("__debug__" : Str)) = false := by decide)
    (hs : starEach [e] C.X.env = [(false, eval e C.X.env)] := by exact star_one rfl) : EV C (.Call (.Name x p) [e] [] pos) (un1 f g) := by
  intro pins s σ H Q I ⟨ρ, vw, q⟩
  exact pe_callB hc hg hm hv (ea_one ha hs) hn hdb hs (by rfl) pins s σ H Q I (t1 vw q)
theorem ev_t1 (hc : CallR C.X (.type T) (r1 C.X.K g)) (hg : Gl C.X x) (hm : C.X.mg x = none) (hv : bootBuiltins x = some (.type T)) (ha : EO C e f) (hn : x ≠ "__name__" := by decide) (hdb : (x == ("__debug__" : Str)) = false := by decide)
    (hs : starEach [e] C.X.env = [(false, eval e C.X.env)] := by exact star_one rfl) : EV C (.Call (.Name x p) [e] [] pos) (un1 f g) := by
  intro pins s σ H Q I ⟨ρ, vw, q⟩
  exact pe_callTy hc hg hm hv (ea_one ha hs) hn hdb hs (by rfl) pins s σ H Q I (t1 vw q)
theorem en_t1 (hc : CallR C.X (.type T) (rn1 C.X.K g)) (hg : Gl C.X x) (hm : C.X.mg x = none) (hv : bootBuiltins x = some (.type T)) (ha : EO C e f) (hn : x ≠ "__name__" := by decide) (hdb : (x == ("__debug__" : Str)) = false := by decide)
    (hs : starEach [e] C.X.env = [(false, eval e C.X.env)] := by exact star_one rfl) : EN C (.Call (.Name x p) [e] [] pos) (un1 f g) := by
  intro pins s σ H Q I ⟨ρ, vw, q⟩
  exact pe_callTy hc hg hm hv (ea_one ha hs) hn hdb hs (by rfl) pins s σ H Q I (tn1 vw q)
end
section
variable {X : Cx}
theorem cLen (hw : X.w = TW.w := by rfl) : CallR X (.builtin "len") (r1 X.K gLen) := by
  intro pins s σ H xs us Q I r ⟨v, p, z, e1, rp, ez, k⟩
  have h16 := sizeLine_eq
  subst e1
  cases p with
  | lst ps =>
    obtain ⟨a, xs, rfl, g, rr⟩ := RepO.lst_inv rp
    cases ez
    exact call_len pins s σ H _ us Q I r ⟨_, _, rfl, .inl ⟨xs, g.l, rfl⟩, by rw [← rr.length]; exact k _ H (Same.refl H) rfl⟩
  | tup ps =>
    obtain ⟨a, xs, rfl, g, rr⟩ := RepO.tup_inv rp
    cases ez
    exact call_len pins s σ H _ us Q I r ⟨_, _, rfl, .inr ⟨xs, g, rfl⟩, by rw [← rr.length]; exact k _ H (Same.refl H) rfl⟩
  | str x =>
    simp only [gLen] at ez
    split at ez
    · cases ez
      cases (show v = .str x from rp)
      exact call_len pins s σ H _ us Q I r ⟨_, _, rfl, ⟨by omega, rfl⟩, k _ H (Same.refl H) rfl⟩
    · cases ez
  | dct ks ps =>
    obtain ⟨a, kvs, rfl, g, e1, rr⟩ := rp
    cases ez
    obtain ⟨u, rfl, ru⟩ := vals1 r
    cases ru
    obtain ⟨hz, hS, vs, rel, m⟩ := DkR.at hw I g
    have hlen : kvs.length = vs.length := Paired.length rel
    subst e1
    rw [List.length_map, hlen] at k
    exact call_len_dict hS m (by omega) ⟨.int vs.length, H, I.tok _, ⟨_, rfl⟩, k _ H (Same.refl H) rfl⟩
  | _ => cases ez
theorem cInt : CallR X (.type "int") (r1 X.K gInt) := by
  intro pins s σ H xs us Q I r ⟨v, p, z, e1, rp, ez, k⟩
  subst e1
  cases p with
  | int i => cases ez; cases (show v = .int i from rp); exact call_int1 pins s σ H _ us Q I r (.inl ⟨i, rfl, k _ H (Same.refl H) rfl⟩)
  | bl i => cases ez; cases (show v = .bl i from rp); exact call_int1 pins s σ H _ us Q I r (.inr ⟨i, rfl, k _ H (Same.refl H) rfl⟩)
  | _ => cases ez
theorem cTuple : CallR X (.type "tuple") (r1 X.K gTuple) := by
  intro pins s σ H xs us Q I r ⟨v, p, z, e1, rp, ez, k⟩
  subst e1
  cases p with
  | lst ps =>
    obtain ⟨a, xs, rfl, g, rr⟩ := RepO.lst_inv rp
    cases ez
    exact call_tuple_of pins s σ H _ us Q I r ⟨a, xs, rfl, .inl ⟨g.l, fun l hl => k _ _ (Same.new hl) ⟨l, xs, rfl, .inl (.inl upd_same), rr.same (Same.new hl)⟩⟩⟩
  | tup ps =>
    obtain ⟨a, xs, rfl, g, rr⟩ := RepO.tup_inv rp
    cases ez
    exact call_tuple_of pins s σ H _ us Q I r ⟨a, xs, rfl, .inr ⟨g, k _ H (Same.refl H) ⟨a, xs, rfl, g, rr⟩⟩⟩
  | _ => cases ez
end
section
variable {C : Cn} {e tg : Expr} {f : PSt → R PV} {pos : Pos}
theorem it_list {K : PySem.W.Frag} {H : Hp} {a : Addr} {xs : List V} {ps : List PV} (g : SqF K H a xs) (r : Reps K H ps xs) : ItP K (Itl K a) H ps := fun i H' k => by
  have g' := (k.sqF g).l.l
  have r' := Reps.kp k ps r
  have hl := r'.length
  refine ⟨fun h => ⟨xs, g', by omega⟩, fun p e => ?_⟩
  obtain ⟨x, ex, rp⟩ := r'.get e
  exact ⟨⟨xs, x, g', ex⟩, fun y H2 ⟨eh, hy⟩ => by
    subst eh
    have := hy xs g'
    rw [ex] at this
    cases this
    exact ⟨Same.refl _, rp⟩⟩
theorem it_tup {K : PySem.W.Frag} {H : Hp} {a : Addr} {xs : List V} {ps : List PV} (g : SqT K H a xs) (r : Reps K H ps xs) : ItP K (Itt K a) H ps := fun i H' k => by
  have g' := k.sqT g
  have r' := Reps.kp k ps r
  have hl := r'.length
  refine ⟨fun h => ⟨xs, g', by omega⟩, fun p e => ?_⟩
  obtain ⟨x, ex, rp⟩ := r'.get e
  exact ⟨⟨xs, x, g', ex⟩, fun y H2 ⟨eh, hy⟩ => by
    subst eh
    have := hy xs g'
    rw [ex] at this
    cases this
    exact ⟨Same.refl _, rp⟩⟩
theorem it_range {K : PySem.W.Frag} {H : Hp} {lo : Int} {n : Nat} : ItP K (Itr lo n) H (rangeP lo n) := fun i H' k => by
  refine ⟨fun h => ?_, fun p e => ?_⟩
  · have : n ≤ i := by simp [rangeP] at h; omega
    exact this
  · unfold rangeP at e
    rw [List.getElem?_map] at e
    have hi : i < n := by
      by_cases hi : i < n
      · exact hi
      · rw [List.getElem?_eq_none (by simpa using hi)] at e
        cases e
    rw [List.getElem?_range hi] at e
    cases e
    exact ⟨hi, fun y H2 ⟨eh, hy⟩ => by subst eh hy; exact ⟨Same.refl _, rfl⟩⟩
theorem ei_range1 {p : Pos} (hg : Gl C.X "range") (hm : C.X.mg "range" = none) (he : EV C e f) (hs : starEach [e] C.X.env = [(false, eval e C.X.env)] := by exact star_one rfl) : EI C tg (.Call (.Name "range" p) [e] [] pos) (rng1 f) := by
  intro pins s σ H Rk I ⟨ρ, vw, q⟩
  refine pi_range1 hg hm (pa_cons he pa_nil hs) hs pins s σ H Rk I ⟨ρ, vw, q.bind.imp fun p _ k v H1 s1 r1 => ?_⟩
  cases p with
  | int j =>
    cases (show v = .int j from r1)
    by_cases hj : j.natAbs < 1000000000
    · have k : RQ C H (if j.natAbs < 1000000000 then R.ok (rangeP 0 j.toNat) else R.no) fun ps => ∀ J H', Same H H' → ItP C.X.K J H' ps → Rk J H' := k
      rw [if_pos hj] at k
      exact ⟨j, rfl, by omega, by omega, k _ H1 s1 it_range⟩
    · have k : RQ C H (if j.natAbs < 1000000000 then R.ok (rangeP 0 j.toNat) else R.no) fun ps => ∀ J H', Same H H' → ItP C.X.K J H' ps → Rk J H' := k
      rw [if_neg hj] at k
      exact False.elim k
  | _ => exact False.elim k
end
section
variable {C : Cn} {e : Expr} {f : PSt → R PV} {pos apos cpos : Pos}
theorem sv_append (i : Nat) {x : Str} {np : Pos} (hN : C.X.N[i]? = some x) (hv : Vis C.X.env.scope x) (he : EV C e f) (hs : starEach [e] C.X.env = [(false, eval e C.X.env)] := by exact star_one rfl)
    (hb : attributeBase (.Name x np) "append" C.X.env (eval (.Name x np) C.X.env) = eval (.Name x np) C.X.env := by rfl) (hline : (apos.endLine == cpos.line) = true := by rfl)
    (hd : (x == ("__debug__" : Str)) = false := by decide) (hcd : (x == ("__classdict__" : Str)) = false := by decide) : SV C (.Expr (.Call (.Attribute (.Name x np) "append" apos) [e] [] cpos) pos) (appF i f) := by
  intro pins s σ H D I ⟨ρ, B, S, q⟩
  unfold appF at q
  split at q
  · rename_i ps e1
    obtain ⟨a, e2, xs, hx, rr⟩ := S.vw i _ e1
    refine ps_expr (pe_bm PySem.F.plainAttrs_list PySem.F.slot_list_append PySem.F.type_list_append mt_append (pe_var hN hv hd hcd) (pa_cons he pa_nil hs) hb (by rw [hs]; rfl) hline hs (by rfl)) (by rfl) pins s σ H D I ?_
    refine ⟨_, e2, .inl ⟨rfl, xs, SqL.of hx⟩, ρ, S.vw, (RS.bind q S.same).imp fun p _ q' v H1 s1 r1 => ?_⟩
    by_cases hl : ps.length < 16777216
    · rw [if_pos hl] at q'
      refine ⟨a, xs, v, rfl, rfl, s1 _ _ hx, by rw [sizeLine_eq, ← rr.length]; exact hl, ?_⟩
      refine q' σ _ ((S.grow s1).turn e1 e2 (fun b hb => upd_ne hb) ?_)
      have kp : Kp H1 (upd H1 a (.lst (xs ++ [v]))) := Kp.upd (s1 _ _ hx) rfl
      exact ⟨a, rfl, xs ++ [v], upd_same, Reps.append (Reps.kp kp _ (rr.same s1)) (Reps.cons (Rep.kp kp _ r1) Reps.nil)⟩
    · rw [if_neg hl] at q'
      exact False.elim q'
  · exact False.elim q
end
end PU
end
section
namespace PU
open PySem PySem.Spec PyProof.Rows L2 PySem.SeqAt
variable [TW]
section
variable {C : Cn}
theorem ev_v (i : Nat) {x : Str} {pos : Pos} (hN : C.X.N[i]? = some x := by rfl) (hv : Vis C.X.env.scope x := by first | exact Or.inl rfl | exact Or.inr (Or.inl rfl) | exact Or.inr (Or.inr rfl))
    (hd : (x == ("__debug__" : Str)) = false := by decide) (hcd : (x == ("__classdict__" : Str)) = false := by decide) : EV C (.Name x pos) (getV i) := ev_var i hN hv hd hcd
theorem eo_v (i : Nat) {x : Str} {pos : Pos} (hN : C.X.N[i]? = some x := by rfl) (hv : Vis C.X.env.scope x := by first | exact Or.inl rfl | exact Or.inr (Or.inl rfl) | exact Or.inr (Or.inr rfl))
    (hd : (x == ("__debug__" : Str)) = false := by decide) (hcd : (x == ("__classdict__" : Str)) = false := by decide) : EO C (.Name x pos) (getO i) := eo_var i hN hv hd hcd
variable {a b c : Expr} {fa fb fc : PSt → R PV} {pos : Pos}
end
end PU
end
section
namespace PU
open PySem PySem.Spec PyProof.Rows L2 PySem.SeqAt
variable [TW]
section
variable {X : Cx} {pins : List (Addr × Obj)} {σ : L2.St} {H : Hp} {s : Shared}
theorem _root_.L2.Inv.turnedL {wr : List Addr} {h' : Heap} {t' : Nat} (I : L2.Inv X pins σ H s) (k : ∀ b o, b ∉ wr → s.heap.get? b = some o → h'.get? b = some o) (hw : ∀ b ∈ wr, FpOk X pins H b) : L2.Inv X pins σ H { s with heap := h', toks := t' } := by
  have nw : ∀ b u, H b = some u → b ∉ wr := fun b u e z => by rw [(hw b z).1] at e; cases e
  refine I.step (g' := s.gens) (d' := s.drawn) (ch := wr) (fun b hb => ?_) (fun b o _ _ hc e _ => k b o hc e) (fun b o _ _ hc e _ => ⟨o.slots, k b o hc e⟩) (fun _ _ _ _ n => n)
    (fun b o hc e => ⟨o, k b o hc e⟩) (fun _ _ e => e) (fun _ _ _ e => e) (fun b ps e => ⟨#[], by rw [e]; simp⟩) (fun m hm => ?_) (fun b u e => ?_) I.bare
  · obtain ⟨g1, g2, g3, g4, g5, g6⟩ := hw b hb
    exact ⟨g4, g2, g5, g6⟩
  · obtain ⟨o, es, ep, ho, r⟩ := hm
    exact ⟨o, es, ep, k _ o (fun z => (hw _ z).2.1 rfl) ho, r⟩
  · refine (I.hok b u e).stay (fun c v hc q => k c v ?_ q) (fun _ q => q) fun _ _ q => q
    rcases hc with z | z
    · rw [z]; exact nw b u e
    · exact nw c _ z
theorem _root_.L2.Inv.tupled {wr : List Addr} {h' : Heap} {t' : Nat} {T : Addr} {vals : List Value} {xs : List V} (I : L2.Inv X pins σ H s) (k : ∀ b o, b ∉ wr → s.heap.get? b = some o → h'.get? b = some o) (hw : ∀ b ∈ wr, FpOk X pins H b) (hws : ∀ b ∈ wr, b < s.heap.objs.size)
    (hT : s.heap.objs.size ≤ T) (ht : h'.IsTuple T vals.toArray) (rv : Vals xs vals) (hz : xs.length ≤ sizeLine) (hnr : ¬ ∀ v ∈ vals, ∃ b, v = Value.ref b) : L2.Inv X pins σ (upd H T (.tup xs)) { s with heap := h', toks := t' } := by
  have nw : ∀ b u, H b = some u → b ∉ wr := fun b u e z => by rw [(hw b z).1] at e; cases e
  have nT : H T = none := I.hok.fresh hT
  have neT : ∀ b u, H b = some u → b ≠ T := fun b u e => ne_of_none e nT
  have lo : ∀ b o, s.heap.get? b = some o → b ≠ T := fun b o e z => by
    subst z
    exact absurd (Heap.lt_size e) (Nat.not_lt.mpr hT)
  have hlt : X.env.locals ≠ T := fun z => absurd I.lt (by rw [z]; exact Nat.not_lt.mpr hT)
  refine I.step (g' := s.gens) (d' := s.drawn) (ch := wr) (fun b hb => ?_) (fun b o _ _ hc e _ => k b o hc e) (fun b o _ _ hc e _ => ⟨o.slots, k b o hc e⟩) (fun b o _ e n => by rw [upd_ne (lo b o e)]; exact n)
    (fun b o hc e => ⟨o, k b o hc e⟩) (fun b xs e => by rw [upd_ne (neT _ _ e)]; exact e) (fun b o u e => by rw [upd_ne (neT _ _ e)]; exact e) (fun b ps e => ⟨#[], by rw [upd_ne (neT _ _ e), e]; simp⟩) (fun m hm => ?_) (fun b u e => ?_) I.bare
  · obtain ⟨g1, g2, g3, g4, g5, g6⟩ := hw b hb
    exact ⟨g4, g2, g5, g6⟩
  · obtain ⟨o, es, ep, ho, r⟩ := hm
    exact ⟨o, es, ep, k _ o (fun z => (hw _ z).2.1 rfl) ho, r⟩
  · by_cases hb : b = T
    · subst hb
      rw [upd_same] at e
      cases e
      obtain ⟨o, e1, e2, e3⟩ := ht
      exact ⟨hz, vals, rv, o, e1, e2, e3, fun h => absurd h hnr⟩
    · rw [upd_ne hb] at e
      refine (I.hok b u e).stay (fun c v hc q => k c v ?_ q) (fun c q => by rw [upd_ne (neT _ _ q)]; exact q) fun c ys q => by rw [upd_ne (neT _ _ q)]; exact q
      rcases hc with z | z
      · rw [z]; exact nw b u e
      · exact nw c _ z
end
theorem turn_T {P : Program} {w : World} {K : PySem.W.Frag} {elts : List Expr} {kk : Nat} {tp : Pos} {it : Addr} {fp wr : List Addr} {n : Nat} {own : Nat → Heap → Prop} {J : It}
    (W : ∀ (X : Cx) (pins : List (Addr × Obj)) (σ : L2.St) (H : Hp) (s : Shared) (i : Nat), X.prog = P → X.w = w → X.K = K → X.calm = true → L2.Inv X pins σ H s → own i s.heap → J.go i H ∨ J.stop i H →
      ∃ (more : List Addr) (Pt : Nat → Array Value → Prop) (St : Nat → Heap → Prop) (Mid : Nat → Addr → Heap → Prop), WalksT P w X.A it more wr n Pt St Mid ∧ St i s.heap ∧ (∀ j h, St j h → own j h) ∧
        ∀ vals, Pt i vals → ∃ xs, Vals xs vals.toList ∧ xs.length ≤ sizeLine ∧ (¬ ∀ v ∈ vals.toList, ∃ b, v = Value.ref b) ∧ ∀ T, H T = none → J.yld i H (.ref T) (upd H T (.tup xs)))
    (hI : it ∈ fp) (hwr : ∀ b ∈ wr, b ∈ fp)
    (obj : ∀ i h, own i h → ∀ b ∈ fp, ∃ o, h.get? b = some o ∧ ∀ v, o.data ≠ .cell v) (keep : ∀ i h h', own i h → (∀ b ∈ fp, ∀ o, h.get? b = some o → h'.get? b = some o) → own i h')
    (hgo : ∀ i H, J.go i H → i < n) (hstop : ∀ i H, J.stop i H → i = n)
    (self : ∀ (A : Around) (i : Nat) (s : Shared) (Q : Value → Shared → Prop) (E : Value → Shared → Prop), own i s.heap → Q (.ref it) s → wpAny (model P w) A (pyIter (.ref it)) Q E s) :
    Turn P w K (.Tuple elts kk tp) J fp it own where
  mem := hI
  obj := obj
  keep := keep
  item := by
    intro X hP hw hK hc i pins s σ H E I hf st hg
    obtain ⟨more, Pt, St, Mid, W', st', ofSt, hval⟩ := W X pins σ H s i hP hw hK hc I st (.inl hg)
    subst hP hw hK
    refine W'.item i s _ _ (hgo i H hg) st' fun T vals h' tk hPt hT hTup hMid hk => ?_
    obtain ⟨xs, rv, hz, hnr, hy⟩ := hval vals hPt
    have nT : H T = none := I.hok.fresh hT
    have hfw : ∀ b ∈ wr, FpOk X pins H b := fun b hb => hf b (hwr b hb)
    have hws : ∀ b ∈ wr, b < s.heap.objs.size := fun b hb => by
      obtain ⟨o, e, _⟩ := obj i _ st b (hwr b hb)
      exact Heap.lt_size e
    have I1 : L2.Inv X pins σ (upd H T (.tup xs)) { s with heap := h', toks := tk } := I.tupled (vals := vals.toList) hk hfw hws hT (by simpa using hTup) rv hz hnr
    refine ⟨_, rfl, W'.go elts kk tp i T _ _ _ hMid fun h'' st'' hk'' => ?_⟩
    have fne : ∀ b ∈ fp, upd H T (.tup xs) b = none := fun b hb => by
      obtain ⟨o, e, _⟩ := obj i _ st b hb
      rw [upd_ne (Nat.ne_of_lt (Nat.lt_of_lt_of_le (Heap.lt_size e) hT))]
      exact (hf b hb).1
    have I2 : L2.Inv X pins σ (upd H T (.tup xs)) { s with heap := h'', toks := tk } := L2.Inv.turnedL (s := { s with heap := h', toks := tk }) (wr := wr) (t' := tk) I1 hk'' fun b hb => ⟨fne b (hwr b hb), (hfw b hb).2⟩
    exact ⟨.ref T, _, I2, rfl, hy T nT, ofSt _ _ st'', fne⟩
  done := by
    intro X hP hw hK hc i pins s σ H E I hf st hg
    obtain ⟨more, Pt, St, Mid, W', st', ofSt, hval⟩ := W X pins σ H s i hP hw hK hc I st (.inr hg)
    subst hP hw hK
    have e := hstop i H hg
    subst e
    refine W'.done s _ _ st' fun h' tk hk => ⟨rfl, ?_⟩
    exact I.turnedL hk fun b hb => hf b (hwr b hb)
  self := self
def ItPairs (n : Nat) (Gd : Hp → Prop) (xs : List (List V)) : It :=
  ⟨fun i H => i < n ∧ Gd H, fun i H x H' => ∃ T ys, x = .ref T ∧ H T = none ∧ xs[i]? = some ys ∧ H' = upd H T (.tup ys), fun i H => i = n ∧ Gd H⟩
theorem itPairs {K : PySem.W.Frag} {H₁ : Hp} {n : Nat} {Gd : Hp → Prop} {xs : List (List V)} {pss : List (List PV)} (hn : pss.length = n) (hg : ∀ H, Kp H₁ H → Gd H) (r : ∀ (i : Nat) (ps : List PV) (ys : List V), pss[i]? = some ps → xs[i]? = some ys → Reps K H₁ ps ys) :
    ItP K (ItPairs n Gd xs) H₁ (pss.map PV.tup) := fun i H k => by
  refine ⟨fun h => ⟨by rw [h, List.length_map, hn], hg H k⟩, fun p e => ?_⟩
  rw [List.getElem?_map] at e
  cases hp : pss[i]? with
  | none => rw [hp] at e; cases e
  | some ps =>
    rw [hp] at e
    cases e
    have hi : i < n := by rw [← hn]; exact (List.getElem?_eq_some_iff.mp hp).1
    refine ⟨⟨hi, hg H k⟩, fun x H' ⟨T, ys, ex, nT, ey, eH⟩ => ?_⟩
    subst ex eH
    refine ⟨Same.new nT, T, ys, rfl, .inl (.inl upd_same), ?_⟩
    exact (Reps.kp k ps (r i ps ys hp ey)).same (Same.new nT)
end PU
end
section
namespace PU
open PySem PySem.Spec PyProof.Rows L2 PySem.SeqAt
variable [TW]
def signsV (x : Str) : List V := x.cps.toList.map fun c => .str ⟨#[c]⟩
def numV (xs : List V) : List (List V) := (List.range xs.length).zipWith (fun (i : Nat) x => [.int (i : Int), x]) xs
section
variable {P : Program} {w : World} {K : PySem.W.Frag} {elts : List Expr} {kk : Nat} {tp : Pos}
end
end PU
end
section
namespace PU
open PySem PySem.Spec PyProof.Rows L2 PySem.SeqAt
variable [TW]
def pairsV (kvs : List (Key × V)) : List (List V) := kvs.map fun kv => [kV kv.1, kv.2]
theorem keyP_rep {K : PySem.W.Frag} {H : Hp} (k : Key) : Rep K H (keyP k) (kV k) := by
  cases k <;> rfl
section
variable {P : Program} {w : World} {K : PySem.W.Frag} {elts : List Expr} {kk : Nat} {tp : Pos}
theorem paired_get {kvs : List (Key × V)} {vs : List (Key × Value)} (rel : KV kvs vs) : ∀ {i : Nat} {a : Key × V} {b : Key × Value}, kvs[i]? = some a → vs[i]? = some b → a.1 = b.1 ∧ RelV a.2 b.2 := by
    induction rel with
    | nil => intro i a b h _; simp at h
    | cons h t ih =>
      intro i a b h1 h2
      cases i with
      | zero => simp at h1 h2; subst h1 h2; exact h
      | succ i => exact ih (by simpa using h1) (by simpa using h2)
def DObj (K : PySem.W.Frag) (H : Hp) (d : Addr) (o : Obj) (kvs : List (Key × V)) : Prop := H d = some (.frz o (.dK kvs)) ∨ (K.lookup d = some o ∧ KDict K d kvs)
theorem DObj.at {X : Cx} {pins : List (Addr × Obj)} {σ : L2.St} {H : Hp} {s : Shared} {d : Addr} {o : Obj} {kvs : List (Key × V)} {es : Array DictEntry} {ep : Nat} (hw : X.w = TW.w) (I : L2.Inv X pins σ H s) (h : DObj X.K H d o kvs) (ho : o.data = .dict es ep) :
    ∃ vs, KV kvs vs ∧ s.heap.DictAt (mixKind X.prog X.w) d vs ep ∧ s.heap.get? d = some o ∧ o.ExactDict := by
  rcases h with hq | ⟨hk, _, _, o2, es2, ep2, e, x, d2, r⟩
  · obtain ⟨e0, z, _, vs, rel, o', es', ep', e1, x1, d1, rest⟩ := I.hok d _ hq
    rw [e0] at e1
    cases e1
    rw [ho] at d1
    cases d1
    exact ⟨vs, rel, ⟨o, es, e0, x1, ho, rest⟩, e0, x1⟩
  · rw [hk] at e
    cases e
    rw [ho] at d2
    cases d2
    obtain ⟨vs, rel, rest⟩ := r X.prog
    rw [← hw] at rest
    exact ⟨vs, rel, ⟨o, es, I.kIn _ _ hk, x, ho, rest⟩, I.kIn _ _ hk, x⟩
end
end PU
end
section
namespace PU
open PySem PySem.Spec PyProof.Rows L2 PySem.SeqAt
variable [TW]
section
variable {P : Program} {w : World} {K : PySem.W.Frag} {tg : Expr}
def ItKeys (K : PySem.W.Frag) (d : Addr) (o : Obj) (kvs : List (Key × V)) : It :=
  ⟨fun i H => i < kvs.length ∧ DObj K H d o kvs, fun i H x H' => H' = H ∧ ∃ kv, kvs[i]? = some kv ∧ x = kV kv.1, fun i H => i = kvs.length ∧ DObj K H d o kvs⟩
theorem DObj.kp {H H' : Hp} {d : Addr} {o : Obj} {kvs : List (Key × V)} (k : Kp H H') (h : DObj K H d o kvs) : DObj K H' d o kvs := by
  rcases h with h | h
  · exact .inl (k _ _ h rfl)
  · exact .inr h
theorem it_keys {H : Hp} {d : Addr} {o : Obj} {kvs : List (Key × V)} {ks : List Key} (g : DObj K H d o kvs) (e : kvs.map (·.1) = ks) : ItP K (ItKeys K d o kvs) H (ks.map keyP) := fun i H' k => by
  subst e
  refine ⟨fun h => ⟨by simpa using h, g.kp k⟩, fun p ep => ?_⟩
  rw [List.getElem?_map, List.getElem?_map] at ep
  cases hk : kvs[i]? with
  | none => rw [hk] at ep; cases ep
  | some kv =>
    rw [hk] at ep
    cases ep
    refine ⟨⟨(List.getElem?_eq_some_iff.mp hk).1, g.kp k⟩, fun x H2 ⟨eh, kv', e1, e2⟩ => ?_⟩
    rw [hk] at e1
    cases e1
    subst eh e2
    exact ⟨Same.refl _, keyP_rep kv.1⟩
theorem turn_keys (d it : Addr) (o : Obj) (es : Array DictEntry) (ep : Nat) (ho : o.data = .dict es ep) (kvs : List (Key × V)) (hw : w = TW.w) : Turn P w K tg (ItKeys K d o kvs) [it] it (fun i h => h.IsKeyIter it d i kvs.length ep) where
  mem := by simp
  obj := fun i h st b hb => by
    have e : b = it := by simpa using hb
    subst e
    obtain ⟨o, e, c, dd⟩ := st
    exact ⟨o, e, fun v z => by rw [dd] at z; cases z⟩
  keep := fun i h h' st k => st.at fun o e => k it (by simp) o e
  item := by
    intro X hP hw hK hc i pins s σ H E I hf st hg
    subst hP hw hK
    obtain ⟨hi, hq⟩ := hg
    obtain ⟨vs, rel, dat, _, _⟩ := hq.at hw I ho
    have hl : kvs.length = vs.length := Paired.length rel
    obtain ⟨f0, f1, f2, f3, f4, f5⟩ := hf it (by simp)
    have eg : vs[i]? = some vs[i] := by simp [← hl, hi]
    have egk : kvs[i]? = some kvs[i] := by simp [hi]
    obtain ⟨hk1, hk2⟩ : kvs[i].1 = vs[i].1 ∧ RelV kvs[i].2 vs[i].2 := paired_get rel egk eg
    rw [hl] at st
    refine wpAny_pyNext_dict_item st dat (k := vs[i].1) (v := vs[i].2) eg fun key h' hkey st' sb => ?_
    have I1 : Inv X pins σ H { s with heap := h' } := I.turned (t' := s.toks) (fun b o hb e => (sb.2 b hb).trans e) f0 f1 f3 f4 f5
    obtain ⟨oi, e, c, dd⟩ := id st'
    have rk : RelV (kV kvs[i].1) key := by
      rw [hk1]
      rcases keyIs_shape hkey with ⟨j, t, e1, e2⟩ | ⟨y, t, e1, e2⟩
      · rw [e1, e2]; exact ⟨t, rfl⟩
      · rw [e1, e2]; exact ⟨t, rfl⟩
    exact ⟨key, rfl, go_of (s := { s with heap := h' }) e c dd (by decide) ⟨kV kvs[i].1, H, I1, rk, ⟨rfl, _, egk, rfl⟩, by rw [hl]; exact st', fun b hb => (hf b hb).1⟩⟩
  done := by
    intro X hP hw hK hc i pins s σ H E I hf st hg
    subst hP hw hK
    obtain ⟨hi, hq⟩ := hg
    obtain ⟨vs, rel, dat, _, _⟩ := hq.at hw I ho
    have hl : kvs.length = vs.length := Paired.length rel
    obtain ⟨f0, f1, f2, f3, f4, f5⟩ := hf it (by simp)
    rw [hl] at st
    exact wpAny_pyNext_dict_end (I.ok.hd hc) st dat (by simp [← hl, hi]) fun h' eb => ⟨rfl, I.turned (t' := s.toks) (fun b o hb e => eb b o hb e) f0 f1 f3 f4 f5⟩
  self := fun _ _ _ _ _ st h => wpAny_pyIter_keyiter st h
def ItSigns (x : Str) : It := ⟨fun i _ => i < x.cps.size, fun i H y H' => H' = H ∧ ∃ c, x.cps[i]? = some c ∧ y = .str ⟨#[c]⟩, fun i _ => i = x.cps.size⟩
theorem it_signs {H : Hp} {x : Str} : ItP K (ItSigns x) H (signsP x) := fun i H' k => by
  refine ⟨fun h => show i = x.cps.size by simpa [signsP] using h, fun p ep => ?_⟩
  unfold signsP at ep
  rw [List.getElem?_map] at ep
  cases hk : x.cps.toList[i]? with
  | none => rw [hk] at ep; cases ep
  | some c =>
    rw [hk] at ep
    cases ep
    refine ⟨show i < x.cps.size by simpa using (List.getElem?_eq_some_iff.mp hk).1, fun y H2 ⟨eh, c', e1, e2⟩ => ?_⟩
    have : c' = c := by
      rw [Array.getElem?_toList] at hk
      rw [hk] at e1
      exact (Option.some.inj e1).symm
    subst this eh e2
    exact ⟨Same.refl _, rfl⟩
theorem walks_str {A : Around} (hh : A.handled = none) (it : Addr) (x : Str) (t : Tok) : Walks P w A it [it] [it] x.cps.size (SignAt x) (fun i h => h.IsStrIter it (strIterType x) x t i) := by
  unfold strIterType
  split
  · exact Walks.strAscii hh it x t
  · exact Walks.strWide hh it x t
theorem strIt_plain (x : Str) : ["enumerate", "zip", "dict_itemiterator", "dict_reverseitemiterator", "odict_iterator", "itertools.zip_longest", "itertools.pairwise"].contains (strIterType x) = false := by
  unfold strIterType
  split <;> decide
theorem turn_signs (it : Addr) (x : Str) (t : Tok) : Turn P w K tg (ItSigns x) [it] it (fun i h => h.IsStrIter it (strIterType x) x t i) where
  mem := by simp
  obj := fun i h st b hb => by
    have e : b = it := by simpa using hb
    subst e
    obtain ⟨o, e, c, dd⟩ := st
    exact ⟨o, e, fun v z => by rw [dd] at z; cases z⟩
  keep := fun i h h' st k => by
    obtain ⟨o, e, r⟩ := st
    exact ⟨o, k it (by simp) o e, r⟩
  item := by
    intro X hP hw hK hc i pins s σ H E I hf st hg
    subst hP hw hK
    obtain ⟨f0, f1, f2, f3, f4, f5⟩ := hf it (by simp)
    have W := walks_str (P := X.prog) (w := X.w) (I.ok.hd hc) it x t
    refine W.item i s _ _ hg st fun v h' tk hv st' kk => ?_
    obtain ⟨c, u, ec, rfl⟩ := hv
    have I1 : Inv X pins σ H { s with heap := h', toks := tk } := I.turned (fun b o hb e => kk b o (by simpa using hb) e) f0 f1 f3 f4 f5
    obtain ⟨oi, e, cc, dd⟩ := id st'
    exact ⟨_, rfl, go_of (s := { s with heap := h', toks := tk }) e cc dd (strIt_plain x) ⟨.str ⟨#[c]⟩, H, I1, ⟨u, rfl⟩, ⟨rfl, c, ec, rfl⟩, st', fun b hb => (hf b hb).1⟩⟩
  done := by
    intro X hP hw hK hc i pins s σ H E I hf st hg
    subst hP hw hK
    obtain ⟨f0, f1, f2, f3, f4, f5⟩ := hf it (by simp)
    have W := walks_str (P := X.prog) (w := X.w) (I.ok.hd hc) it x t
    have hg : i = x.cps.size := hg
    subst hg
    refine W.done s _ _ st fun h' tk hk => ⟨rfl, I.turned (fun b o hb e => hk b o (by simpa using hb) e) f0 f1 f3 f4 f5⟩
  self := fun A i s Q E st h => by
    unfold strIterType at st
    split at st
    · exact wpAny_pyIter_striter_ascii st h
    · exact wpAny_pyIter_striter_wide st h
end
section
variable {C : Cn} {e tg : Expr} {f : PSt → R PV}
theorem ei_val (he : EV C e f) (hw : C.X.w = TW.w := by rfl) : EI C tg e (itF f) := by
  intro pins s σ H R I ⟨ρ, vw, q⟩
  refine thn (he pins s σ H (fun v H' => ∃ p ps, Same H H' ∧ Rep C.X.K H' p v ∧ iterP p = some ps ∧ ∀ J H2, Same H' H2 → ItP C.X.K J H2 ps → R J H2) I ⟨ρ, vw, q.bind.imp fun p _ k v H' s' r => ?_⟩) fun v s1 ⟨x, H1, I1, r1, p, ps, sm, rp, ep, k⟩ => ?_
  · obtain ⟨ps, ep, k⟩ := k.ofO
    exact ⟨p, ps, s', r, ep, fun J H2 s2 it => k J H2 (s'.trans s2) it⟩
  · cases p with
    | lst qs =>
      cases ep
      obtain ⟨a, xs, rfl, g, rr⟩ := rp
      cases r1
      obtain ⟨its, rv, pl, hz⟩ := I1.list g.l.l
      refine wpAny_pyIter_list pl.isList ?_
      refine ⟨s1.heap.objs.size, [s1.heap.objs.size], _, _, H1, rfl, I1.kept (t' := s1.toks) fun b o e => Heap.get?_push_of_some _ e, turn_list a _, ⟨_, Heap.get?_push_size _ rfl, rfl, rfl⟩, fun b hb => ?_, k _ H1 (Same.refl H1) (it_list g rr)⟩
      have e : b = s1.heap.objs.size := by simpa using hb
      subst e
      exact I1.fpOk (Nat.le_refl _) (I1.hok.fresh (Nat.le_refl _))
    | tup qs =>
      cases ep
      obtain ⟨a, xs, rfl, g, rr⟩ := rp
      cases r1
      obtain ⟨its, rv, pl, hz⟩ := I1.tuple g
      refine wpAny_pyIter_tuple (show s1.heap.IsTuple a its.toArray from pl) ?_
      refine ⟨s1.heap.objs.size, [s1.heap.objs.size], _, _, H1, rfl, I1.kept (t' := s1.toks) fun b o e => Heap.get?_push_of_some _ e, turn_tuple a _, ⟨_, Heap.get?_push_size _ rfl, rfl, rfl⟩, fun b hb => ?_, k _ H1 (Same.refl H1) (it_tup g rr)⟩
      have e : b = s1.heap.objs.size := by simpa using hb
      subst e
      exact I1.fpOk (Nat.le_refl _) (I1.hok.fresh (Nat.le_refl _))
    | dct ks qs =>
      cases ep
      obtain ⟨a, kvs, rfl, g, ek, rr⟩ := rp
      cases r1
      obtain ⟨o, es, ep, ho, hq, hs⟩ : ∃ o es ep, o.data = .dict es ep ∧ DObj C.X.K H1 a o kvs ∧ (a == sysModules) = false := by
        rcases g with ⟨o, g⟩ | g
        · obtain ⟨e0, z, hs, vs, rel, o', es', ep', e1, x1, d1, rest⟩ := I1.hok a _ g
          rw [e0] at e1
          cases e1
          exact ⟨o, es', ep', d1, .inl g, hs⟩
        · obtain ⟨_, hs, o, es, ep, e, x, d, r⟩ := id g
          exact ⟨o, es, ep, d, .inr ⟨e, g⟩, hs⟩
      obtain ⟨vs, rel, dat, _, _⟩ := hq.at hw I1 ho
      have hl : kvs.length = vs.length := Paired.length rel
      refine wpAny_pyIter_dict hs dat ?_
      refine ⟨s1.heap.objs.size, [s1.heap.objs.size], _, _, H1, rfl, I1.kept (t' := s1.toks) fun b o e => Heap.get?_push_of_some _ e, turn_keys a _ o es ep ho kvs hw, ⟨_, Heap.get?_push_size _ rfl, rfl, by rw [hl]; rfl⟩, fun b hb => ?_, k _ H1 (Same.refl H1) (it_keys hq ek)⟩
      have e : b = s1.heap.objs.size := by simpa using hb
      subst e
      exact I1.fpOk (Nat.le_refl _) (I1.hok.fresh (Nat.le_refl _))
    | str y =>
      cases ep
      cases (show x = .str y from rp)
      obtain ⟨t, rfl⟩ := r1
      refine wpAny_pyIter_strU ?_
      refine ⟨s1.heap.objs.size, [s1.heap.objs.size], _, _, H1, rfl, I1.kept (t' := s1.toks) fun b o e => Heap.get?_push_of_some _ e, turn_signs _ y t, ⟨_, Heap.get?_push_size _ rfl, rfl, rfl⟩, fun b hb => ?_, k _ H1 (Same.refl H1) it_signs⟩
      have e : b = s1.heap.objs.size := by simpa using hb
      subst e
      exact I1.fpOk (Nat.le_refl _) (I1.hok.fresh (Nat.le_refl _))
    | _ => cases ep
end
end PU
end
section
namespace PU
open PySem PySem.Spec PyProof.Rows L2 PySem.SeqAt
variable [TW]
def IsiC (K : PySem.W.Frag) (c : String) : Prop := ∀ t ∈ ["NoneType", "bool", "int", "str", "tuple", "list", "dict"], PySem.W.kitOne K (.type t) (.type c) = some (isiB t c)
theorem isi_bool {K : PySem.W.Frag} : IsiC K "bool" := by intro t ht; simp only [List.mem_cons, List.not_mem_nil, or_false] at ht; rcases ht with rfl | rfl | rfl | rfl | rfl | rfl | rfl <;> first | rfl | kernel_rfl
theorem isi_tuple {K : PySem.W.Frag} : IsiC K "tuple" := by intro t ht; simp only [List.mem_cons, List.not_mem_nil, or_false] at ht; rcases ht with rfl | rfl | rfl | rfl | rfl | rfl | rfl <;> first | rfl | kernel_rfl
def rIsi (K : PySem.W.Frag) (c : String) : List V → Hp → VK → Prop := fun vs H Q => ∃ v p, vs = [v, .ty c] ∧ RepO K H p v ∧ Q (.bl (isiB (tyN p) c)) H
theorem cIsi {X : Cx} {c : String} (hw : X.w = TW.w) (h : IsiC X.K c) : CallR X (.builtin "isinstance") (rIsi X.K c) := by
  intro pins s σ H xs us Q I r ⟨v, p, e1, rp, q⟩
  subst e1
  obtain ⟨u, u2, rfl, ru, ru2⟩ := vals2 r
  cases (show u2 = Value.type c from ru2)
  have fin : ∀ tk, EP X pins σ Q (.bool (isiB (tyN p) c)) { s with toks := tk } := fun tk => ⟨.bl _, H, I.tok _, rfl, q⟩
  have hk := fun t ht => h t ht
  cases p with
  | non => cases (show v = .non from rp); cases ru; exact PySem.W.kia_one PySem.W.kitx_none I.kIn True.intro (hk _ (by simp [tyN])) (fun z => nomatch z) fin
  | bl b => cases (show v = .bl b from rp); cases ru; exact PySem.W.kia_one PySem.W.kitx_bool I.kIn True.intro (hk _ (by simp [tyN])) (fun z => nomatch z) fin
  | int i => cases (show v = .int i from rp); obtain ⟨t, rfl⟩ := ru; exact PySem.W.kia_one PySem.W.kitx_int I.kIn True.intro (hk _ (by simp [tyN])) (fun z => nomatch z) fin
  | str i => cases (show v = .str i from rp); obtain ⟨t, rfl⟩ := ru; exact PySem.W.kia_one PySem.W.kitx_str I.kIn True.intro (hk _ (by simp [tyN])) (fun z => nomatch z) fin
  | tup ps =>
    obtain ⟨a, ys, rfl, g, _⟩ := RepO.tup_inv rp
    cases ru
    obtain ⟨its, _, ⟨o, e, c', _⟩, _⟩ := I.tuple g
    exact PySem.W.kia_one PySem.W.kitx_tuple I.kIn ⟨o, e, c'⟩ (hk _ (by simp [tyN])) (fun z => nomatch z) fin
  | lst ps =>
    obtain ⟨a, ys, rfl, g, _⟩ := RepO.lst_inv rp
    cases ru
    obtain ⟨_, its, n, _, e⟩ := g.is I
    exact PySem.W.kia_one PySem.W.kitx_list I.kIn ⟨_, e, rfl⟩ (hk _ (by simp [tyN])) (fun z => nomatch z) fin
  | dct ks ps =>
    obtain ⟨a, kvs, rfl, g, _⟩ := rp
    cases ru
    obtain ⟨_, _, vs, _, o, es, ep, e, x, _⟩ := DkR.at hw I g
    exact PySem.W.kia_one PySem.W.kitx_dict I.kIn ⟨o, e, x.1⟩ (hk _ (by simp [tyN])) (fun z => nomatch z) fin
  | dtt ks ps =>
    obtain ⟨a, kvs, rfl, g, _⟩ := rp
    cases ru
    obtain ⟨_, _, _, _, o, es, ep, e, x, _⟩ := dt_rd I.hok g
    exact PySem.W.kia_one PySem.W.kitx_dict I.kIn ⟨o, e, x.1⟩ (hk _ (by simp [tyN])) (fun z => nomatch z) fin
theorem ev_isi {C : Cn} {e : Expr} {f : PSt → R PV} {c : Str} {cs : String} {p p2 pos : Pos} (h : IsiC C.X.K cs) (hg : Gl C.X "isinstance") (hm : C.X.mg "isinstance" = none) (hg2 : Gl C.X c) (hm2 : C.X.mg c = none) (hb2 : bootBuiltins c = some (.type cs)) (ha : EO C e f)
    (hs : starEach [e, .Name c p2] C.X.env = [(false, eval e C.X.env), (false, eval (.Name c p2) C.X.env)] := by exact star_two rfl rfl) (hs2 : starEach [.Name c p2] C.X.env = [(false, eval (.Name c p2) C.X.env)] := by rfl)
    (hn : c ≠ "__name__" := by decide) (hd : (c == ("__debug__" : Str)) = false := by decide) (hw : C.X.w = TW.w := by rfl) : EV C (.Call (.Name "isinstance" p) [e, .Name c p2] [] pos) (un1 f (gIsi cs)) := by
  intro pins s σ H Q I ⟨ρ, vw, q⟩
  have hpa : PA C.X [e, .Name c p2] (tCons (tO C f) (tCons (tC (.ty cs)) tNil)) := pa_cons ha (pa_cons (pe_bltn hg2 hm2 hb2 rfl hn hd) pa_nil hs2) (by rw [hs, hs2])
  refine pe_callB (cIsi hw h) hg hm (by decide +kernel) hpa (by decide) (by decide) (by rw [hs, hs2]) (by rw [hs2]; rfl) pins s σ H Q I ⟨ρ, vw, q.bind.imp fun p _ k v H1 s1 r1 => ?_⟩
  exact ⟨v, p, rfl, r1, RQ.ofO k |>.elim fun z hz => by obtain ⟨e, k⟩ := hz; cases e; exact k _ H1 s1 rfl⟩
theorem ev_neg {C : Cn} {e : Expr} {f : PSt → R PV} {pos : Pos} (h : EV C e f) : EV C (.UnaryOp .USub e pos) (un1 f gNeg) := by
  intro pins s σ H Q I ⟨ρ, vw, q⟩
  refine pe_un un_neg h pins s σ H Q I ⟨ρ, vw, q.bind.imp fun p _ k v H1 s1 r1 => ?_⟩
  obtain ⟨z, ez, k⟩ := k.ofO
  cases p with
  | int i => cases ez; cases (show v = .int i from r1); exact ⟨i, rfl, k _ H1 s1 rfl⟩
  | _ => cases ez
def rM1 (K : PySem.W.Frag) (g : PV → PV → Option PV) : V → List V → Hp → VK → Prop := fun v vs H Q => ∃ p q z u, vs = [u] ∧ RepO K H p v ∧ RepO K H q u ∧ g p q = some z ∧ ∀ w H', Same H H' → Rep K H' z w → Q w H'
structure StrM (name : Str) (id : String) : Prop where
  slot : Slot "str" name id
  ty : typeOf (.builtin id) = pure (.type "method_descriptor")
theorem ev_m1 {C : Cn} {o e : Expr} {fo fe : PSt → R PV} {g : PV → PV → Option PV} {name : Str} {id : String} {apos cpos : Pos} (S : StrM name id) (hm : MtR C.X id (rM1 C.X.K g)) (ho : EV C o fo) (he : EO C e fe)
    (hbase : attributeBase o name C.X.env (eval o C.X.env) = eval o C.X.env := by rfl) (hline : (apos.endLine == cpos.line) = true := by rfl) (hs : starEach [e] C.X.env = [(false, eval e C.X.env)] := by exact star_one rfl) :
    EV C (.Call (.Attribute o name apos) [e] [] cpos) (meth1 fo fe g) := by
  intro pins s σ H Q I ⟨ρ, vw, q⟩
  refine pe_bm PySem.F.plainAttrs_str S.slot S.ty hm ho (ea_one he hs) hbase (by rw [hs]; rfl) hline hs (by rfl) pins s σ H Q I ⟨ρ, vw, q.bind.imp fun p _ k v H1 s1 r1 => ?_⟩
  cases p with
  | str x =>
    cases (show v = .str x from r1)
    have k : RQ C H (fe ρ >>= fun q => R.ofO (g (.str x) q)) fun p => ∀ v H', Same H H' → Rep C.X.K H' p v → Q v H' := k
    refine ⟨rfl, ρ, vw.same s1, (k.bind.same s1).imp fun p2 _ k2 u H2 s2 r2 => ?_⟩
    obtain ⟨z, ez, k3⟩ := k2.ofO
    exact ⟨.str x, p2, z, u, rfl, rfl, r2, ez, fun w H3 s3 r3 => k3 w H3 ((s1.trans s2).trans s3) r3⟩
  | _ => exact False.elim k
theorem allStr_are {K : PySem.W.Frag} {H : Hp} : ∀ {ps : List PV} {xs : List V} {us : List Value} {ys : List Str}, allStr ps = some ys → Reps K H ps xs → Vals xs us → StrsAre us ys
  | [], _, _, _, e, r, rv => by cases e; cases r; cases rv; exact .nil
  | p :: ps, _, _, _, e, ⟨x, t, ex, h1, h2⟩, rv => by
    subst ex
    cases p with
    | str y =>
      obtain ⟨r, er, ez⟩ := Option.map_eq_some_iff.mp (show (allStr ps).map (y :: ·) = some _ from e)
      subst ez
      cases (show x = .str y from h1)
      cases rv with
      | cons a b =>
        obtain ⟨tt, rfl⟩ := a
        exact .cons y tt (allStr_are er h2 b)
    | _ => cases e
theorem sJoin : StrM "join" "str.join" := ⟨PySem.F.slot_str_join, PySem.F.type_str_join⟩
theorem mJoin {X : Cx} : MtR X "str.join" (rM1 X.K gJoin) := by
  intro pins s σ H x xs v us Q I rx rs ⟨p, q, z, u, e1, rp, rq, ez, k⟩
  subst e1
  obtain ⟨u', rfl, ru⟩ := vals1 rs
  unfold gJoin at ez
  split at ez
  · rename_i y ps
    obtain ⟨ys, ey, ez⟩ := Option.bind_eq_some_iff.mp ez
    split at ez
    · rename_i hl
      cases ez
      cases (show x = .str y from rp)
      obtain ⟨t, rfl⟩ := rx
      obtain ⟨a, zs, rfl, g, rr⟩ := RepO.lst_inv rq
      cases ru
      obtain ⟨_, its, n, rv, e⟩ := g.is I
      exact join_list (items := its.toArray) ⟨_, e, rfl, _, rfl⟩ (allStr_are ey rr (by simpa using rv)) hl fun t' k' => ⟨.str _, H, I.tok _, ⟨_, rfl⟩, k _ H (Same.refl H) rfl⟩
    · cases ez
  · rename_i y ps
    obtain ⟨ys, ey, ez⟩ := Option.bind_eq_some_iff.mp ez
    split at ez
    · rename_i hl
      cases ez
      cases (show x = .str y from rp)
      obtain ⟨t, rfl⟩ := rx
      obtain ⟨a, zs, rfl, g, rr⟩ := RepO.tup_inv rq
      cases ru
      obtain ⟨its, rv, pl, _⟩ := I.tuple g
      exact join_tuple (items := its.toArray) pl (allStr_are ey rr (by simpa using rv)) hl fun t' k' => ⟨.str _, H, I.tok _, ⟨_, rfl⟩, k _ H (Same.refl H) rfl⟩
    · cases ez
  · cases ez
end PU
end
section
namespace PU
open PySem PySem.Spec PyProof.Rows L2 PySem.SeqAt
variable [TW]
def rSlP (K : PySem.W.Frag) : V → Option Int → Option Int → Hp → VK → Prop := fun v lo hi H Q => ∃ p z, RepO K H p v ∧ gSl p lo hi = some z ∧ ∀ w H', Same H H' → Rep K H' z w → Q w H'
def OptI := Option Int
def tOI (C : Cn) (f : PSt → R (Option Int)) : TO := fun σ H Q => ∃ ρ, View C.X.K H σ ρ ∧ RQ C H (f ρ) fun o => ∀ H', Same H H' → Q o H'
def EOI (C : Cn) (e : Option Expr) (f : PSt → R (Option Int)) : Prop := PO C.X e (tOI C f)
theorem cut_reps {K : PySem.W.Frag} {H : Hp} {ps : List PV} {xs : List V} (r : Reps K H ps xs) (lo hi : Option Int) : Reps K H (cutP ps lo hi) (cutV xs lo hi) := by
  unfold cutP cutV
  rw [r.length]
  exact (r.drop _).take _
section
variable {C : Cn} {e : Expr} {f : PSt → R PV} {lo hi : Option Expr} {l h : PSt → R (Option Int)} {pos p2 : Pos}
theorem so_none : EOI C none noPart := fun pins s σ H Q I ⟨ρ, vw, q⟩ => po_none pins s σ H Q I (q H (Same.refl H))
theorem so_some (he : EV C e f) : EOI C (some e) (aPart f) := by
  intro pins s σ H Q I ⟨ρ, vw, q⟩
  refine po_some he pins s σ H Q I ⟨ρ, vw, q.bind.imp fun p _ k v H1 s1 r1 => ?_⟩
  cases p with
  | int i => cases (show v = .int i from r1); exact ⟨i, rfl, k H1 s1⟩
  | _ => exact False.elim k
theorem slP {X : Cx} : SlR X (rSlP X.K) := by
  intro pins s σ H x v vl vu lo hi sl Q I rx hs pl pu ⟨p, z, rp, ez, k⟩
  cases p with
  | lst ps =>
    cases ez
    obtain ⟨a, xs, rfl, g, rr⟩ := RepO.lst_inv rp
    obtain ⟨T, id, h1, h2, h3⟩ := sl_list pins s σ H _ v vl vu lo hi sl (fun w H' => ∃ b, w = .ref b ∧ H b = none ∧ H' = upd H b (.lst (cutV xs lo hi))) I rx hs pl pu ⟨a, xs, rfl, g.l, fun b hb => ⟨b, rfl, hb, rfl⟩⟩
    refine ⟨T, id, h1, h2, thn h3 fun u s' ⟨w, H', I', rw', b, ew, nb, eH⟩ => ?_⟩
    subst ew eH
    obtain ⟨H2, I2, rp2, oth⟩ := L2.Inv.frz (a := b) (p := .lst (cutP ps lo hi)) I' ⟨_, upd_same, (cut_reps rr lo hi).same (Same.new nb)⟩
    refine ⟨.ref b, H2, I2, rw', k _ H2 (fun c o ec => ?_) rp2⟩
    have hc := ne_of_none ec nb
    rw [oth c hc, upd_ne hc]
    exact ec
  | tup ps =>
    simp only [gSl] at ez
    obtain ⟨a, xs, rfl, g, rr⟩ := RepO.tup_inv rp
    by_cases hw : HT.sIx ps.length 0 lo = 0 ∧ HT.sIx ps.length ps.length hi = ps.length
    · rw [if_pos hw] at ez
      cases ez
    · rw [if_neg hw] at ez
      cases ez
      exact sl_tup pins s σ H _ v vl vu lo hi sl Q I rx hs pl pu ⟨a, xs, rfl, g, by rw [← rr.length]; exact hw, fun b hb => k _ _ (Same.new hb) ⟨b, _, rfl, .inl (.inl upd_same), (cut_reps rr lo hi).same (Same.new hb)⟩⟩
  | _ => cases ez
theorem ev_slice (ha : EO C e f) (hl : EOI C lo l) (hh : EOI C hi h) : EV C (.Subscript e (.Slice lo hi none p2) pos) (sliceF f l h) := by
  intro pins s σ H Q I ⟨ρ, vw, q⟩
  refine pe_slice slP ha hl hh pins s σ H Q I ⟨ρ, vw, q.bind.imp fun p _ k v H1 s1 r1 => ⟨ρ, vw.same s1, (k.bind.same s1).imp fun o1 _ k2 H2 s2 => ⟨ρ, (vw.same s1).same s2, (k2.bind.same (s1.trans s2)).imp fun o2 _ k3 H3 s3 => ?_⟩⟩⟩
  obtain ⟨z, ez, k4⟩ := k3.ofO
  exact ⟨p, z, (r1.same s2).same s3, ez, fun w H4 s4 r4 => k4 w H4 (((s1.trans s2).trans s3).trans s4) r4⟩
end
theorem repl_reps {K : PySem.W.Frag} {H : Hp} {k : Key} {p : PV} {v : V} (rp : Rep K H p v) : ∀ {kvs : List (Key × V)} {ps : List PV}, Reps K H ps (kvs.map (·.2)) → Reps K H (replP (kvs.map (·.1)) ps k p) ((kvs.map fun kv => if kv.1 = k then (kv.1, v) else kv).map (·.2))
  | [], ps, r => by
    cases ps with
    | nil => rfl
    | cons q qs => obtain ⟨x, t, e, _⟩ := r; cases e
  | kv :: kvs, ps, r => by
    cases ps with
    | nil => cases r
    | cons q qs =>
      obtain ⟨x, t, e, h1, h2⟩ := r
      simp only [List.map_cons, List.cons.injEq] at e
      obtain ⟨rfl, rfl⟩ := e
      have ih := repl_reps (k := k) rp h2
      simp only [List.map_cons, replP, List.zipWith_cons_cons]
      by_cases hk : kv.1 = k
      · rw [if_pos hk, if_pos hk]; exact ⟨_, _, rfl, rp, ih⟩
      · rw [if_neg hk, if_neg hk]; exact ⟨_, _, rfl, h1, ih⟩
theorem put_reps {K : PySem.W.Frag} {H : Hp} {kvs : List (Key × V)} {ps : List PV} {k : Key} {p : PV} {v : V} (rr : Reps K H ps (kvs.map (·.2))) (rp : Rep K H p v) :
    ∃ ks' ps', putP (kvs.map (·.1)) ps k p = .dct ks' ps' ∧ (putK kvs k v).map (·.1) = ks' ∧ Reps K H ps' ((putK kvs k v).map (·.2)) := by
  unfold putP
  have e : ((kvs.map (·.1)).any fun j => decide (j = k)) = (kvs.any fun kv => decide (kv.1 = k)) := by rw [List.any_map]; rfl
  rw [e]
  unfold putK
  split
  · refine ⟨_, _, rfl, ?_, repl_reps rp rr⟩
    rw [List.map_map]
    apply List.map_congr_left
    intro kv _
    simp only [Function.comp]
    split <;> rfl
  · refine ⟨_, _, rfl, by simp, ?_⟩
    rw [List.map_append]
    exact Reps.append rr ⟨_, _, rfl, rp, rfl⟩
theorem put_new {K : PySem.W.Frag} {H : Hp} {a : Addr} {kvs : List (Key × V)} {ps : List PV} {k : Key} {p : PV} {v : V} (rr : Reps K H ps (kvs.map (·.2))) (rp : Rep K H p v) (ha : H a = some (.dK (putK kvs k v))) : NewAt K H a (putP (kvs.map (·.1)) ps k p) := by
  obtain ⟨ks', ps', e, e1, e2⟩ := put_reps (k := k) rr rp
  rw [e]
  exact ⟨_, ha, e1, e2⟩
theorem sv_put {C : Cn} (i : Nat) {x : Str} {ke e : Expr} {fk fv : PSt → R PV} {np pos' pos : Pos} (hu : C.X.A.units + 64 < cLine) (hk : EV C ke fk) (hv : EV C e fv) (hN : C.X.N[i]? = some x := by rfl) (hvis : Vis C.X.env.scope x := by first | exact Or.inl rfl | exact Or.inr (Or.inl rfl))
    (hs : swapsWith e (some (.Subscript (.Name x np) ke pos')) pos.line C.X.env = pure false := by rfl) (hd : (x == ("__debug__" : Str)) = false := by decide) (hcd : (x == ("__classdict__" : Str)) = false := by decide) :
    SV C (.Assign [.Subscript (.Name x np) ke pos'] e pos) (putF i fk fv) := by
  intro pins s σ H D I ⟨ρ, B, S, q⟩
  unfold putF at q
  split at q
  · rename_i ks ps e1
    obtain ⟨a, e2, kvs, hx, ek, rr⟩ := S.vw i _ e1
    refine ps_dput (by omega) (pe_var hN hvis hd hcd) hk hv hs pins s σ H D I ⟨ρ, S.vw, (q.bind S.same).imp fun p _ q1 v H1 s1 r1 => ⟨_, e2, ρ, S.vw.same s1, (q1.bind (S.same.trans s1)).imp fun kp _ q2 y H2 s2 r2 => ?_⟩⟩
    obtain ⟨k, e3, q3⟩ := RS.ofO q2
    by_cases hl : ks.length < 16777216
    · rw [if_pos hl] at q3
      have hy := toKey_rep e3 r2.o
      subst hy
      subst ek
      have hx2 : H2 a = some (.dK kvs) := s2 _ _ (s1 _ _ hx)
      refine ⟨a, _, rfl, DPut.k hx2 (by rw [sizeLine_eq]; simpa using hl), ?_⟩
      have kp : Kp H2 (upd H2 a (.dK (putK kvs k v))) := Kp.upd hx2 rfl
      refine q3 σ _ (((S.grow s1).grow s2).turn e1 e2 (fun b hb => upd_ne hb) ⟨a, rfl, ?_⟩)
      exact put_new (Reps.kp kp _ ((rr.same s1).same s2)) (Rep.kp kp _ (r1.same s2)) upd_same
    · rw [if_neg hl] at q3
      exact False.elim q3
  · exact False.elim q
theorem en_dnew {C : Cn} {pos : Pos} : EN C (.Dict [] [] pos) newD := fun pins s σ H Q I ⟨ρ, vw, q⟩ => pe_dnewK pins s σ H Q I fun p hp => q p _ (Same.new hp) hp ⟨[], upd_same, rfl, rfl⟩
def KReps (K : PySem.W.Frag) (H : Hp) : List (Key × PV) → List (Key × V) → Prop
  | [], xs => xs = []
  | kp :: r, xs => ∃ v t, xs = (kp.1, v) :: t ∧ Rep K H kp.2 v ∧ KReps K H r t
theorem KReps.kp {K : PySem.W.Frag} {H H' : Hp} (k : Kp H H') : ∀ {kps : List (Key × PV)} {xs : List (Key × V)}, KReps K H kps xs → KReps K H' kps xs
  | [], _, h => h
  | kp :: r, _, ⟨v, t, e, h1, h2⟩ => ⟨v, t, e, Rep.kp k _ h1, KReps.kp k h2⟩
def ED (C : Cn) (pos : Pos) (ks : List (Option Expr)) (vs : List Expr) (f : PSt → R (List (Key × PV))) : Prop := ∃ trs, PPs C.X pos ks vs trs ∧
  ∀ σ H Q, (∃ ρ, View C.X.K H σ ρ ∧ RQ C H (f ρ) fun kps => ∀ kvs H', Same H H' → KReps C.X.K H' kps kvs → Q (kvs.map fun kv => (kV kv.1, kv.2)) H') → tPairs trs σ H Q
theorem ed_nil {C : Cn} {pos : Pos} : ED C pos [] [] nilD := ⟨[], pps_nil, fun σ H Q ⟨ρ, vw, q⟩ => q [] H (Same.refl H) rfl⟩
theorem ed_cons {C : Cn} {pos : Pos} {k v : Expr} {ks : List (Option Expr)} {vs : List Expr} {fk fv : PSt → R PV} {f : PSt → R (List (Key × PV))} (hk : EV C k fk) (hv : EV C v fv) (h : ED C pos ks vs f) : ED C pos (some k :: ks) (v :: vs) (consD fk fv f) := by
  obtain ⟨trs, hp, ht⟩ := h
  refine ⟨_, pps_cons hk hv hp, fun σ H Q ⟨ρ, vw, q⟩ => ⟨ρ, vw, q.bind.imp fun kp _ q1 x H1 s1 r1 => ?_⟩⟩
  obtain ⟨kk, ek, q1⟩ : ∃ kk, toKey kp = some kk ∧ RQ C H (fv ρ >>= fun p => f ρ >>= fun r => R.ok ((kk, p) :: r)) _ := by
    cases h : toKey kp with
    | none => rw [h] at q1; exact False.elim q1
    | some kk => rw [h] at q1; exact ⟨kk, rfl, q1⟩
  refine ⟨ρ, vw.same s1, (q1.bind.same s1).imp fun p _ q2 y H2 s2 r2 => ht σ H2 _ ⟨ρ, (vw.same s1).same s2, (q2.bind.same (s1.trans s2)).imp fun kps _ q3 kvs H3 s3 r3 => ?_⟩⟩
  have hx := toKey_rep ek r1.o
  subst hx
  exact q3 ((kk, y) :: kvs) H3 ((s1.trans s2).trans s3) ⟨y, kvs, rfl, r2.same s3, r3⟩
def addP (d : PV) (kp : Key × PV) : PV := match d with
  | .dct ks ps => putP ks ps kp.1 kp.2
  | d => d
theorem merge_eq (kps : List (Key × PV)) : mergeP kps = kps.foldl addP (.dct [] []) := rfl
theorem merge_new {K : PySem.W.Frag} {H : Hp} : ∀ {kps : List (Key × PV)} {kvs acc : List (Key × V)} {ps : List PV}, KReps K H kps kvs → Reps K H ps (acc.map (·.2)) →
    ∃ ks' ps', kps.foldl addP (PV.dct (acc.map (·.1)) ps) = PV.dct ks' ps' ∧ (mergeK acc kvs).map (·.1) = ks' ∧ Reps K H ps' ((mergeK acc kvs).map (·.2))
  | [], kvs, acc, ps, h, r => by cases h; exact ⟨_, _, rfl, rfl, r⟩
  | kp :: kps, kvs, acc, ps, ⟨v, t, e, h1, h2⟩, r => by
    subst e
    obtain ⟨ks', ps', g, g1, g2⟩ := put_reps (k := kp.1) r h1
    obtain ⟨ks2, ps2, f, f1, f2⟩ := merge_new (acc := putK acc kp.1 v) h2 g2
    refine ⟨ks2, ps2, ?_, f1, f2⟩
    rw [List.foldl_cons]
    have : addP (PV.dct (acc.map (·.1)) ps) kp = PV.dct ((putK acc kp.1 v).map (·.1)) ps' := by
      show putP _ _ _ _ = _
      rw [g, g1]
    rw [this]
    exact f
theorem KReps.length {K : PySem.W.Frag} {H : Hp} : ∀ {kps : List (Key × PV)} {xs : List (Key × V)}, KReps K H kps xs → kps.length = xs.length
  | [], _, h => by cases h; rfl
  | kp :: r, _, ⟨v, t, e, h1, h2⟩ => by subst e; simp [KReps.length h2]
theorem en_dict {C : Cn} {pos : Pos} {ks : List (Option Expr)} {vs : List Expr} {f : PSt → R (List (Key × PV))} (h : ED C pos ks vs f) (hall : ks.all (·.isSome) = true := by rfl) (hl : ks.length = vs.length := by rfl) (h0 : ks ≠ [] := by exact fun z => nomatch z)
    (h15 : ks.length ≤ 15 := by decide) : EN C (.Dict ks vs pos) (dictF f) := by
  obtain ⟨trs, hp, ht⟩ := h
  intro pins s σ H Q I ⟨ρ, vw, q⟩
  refine pe_disp hp hall hl h0 h15 pins s σ H Q I fun p hn => ht σ _ _ ⟨ρ, vw.same (Same.new hn), (q.bind.same (Same.new hn)).imp fun kps _ q1 kvs H3 s3 r3 => ?_⟩
  have sm : Same H H3 := (Same.new hn).trans s3
  have e3 : H3 p = some (.dK []) := s3 _ _ upd_same
  by_cases hk : kps.length ≤ 15
  · rw [if_pos hk] at q1
    refine ⟨e3, kvs, rfl, by rw [← r3.length]; exact hk, ?_⟩
    have kp : Kp H3 (upd H3 p (.dK (mergeK [] kvs))) := Kp.upd e3 rfl
    obtain ⟨ks', ps', g, g1, g2⟩ := merge_new (acc := []) (ps := []) (KReps.kp kp r3) Reps.nil
    refine q1 p _ (fun b o eb => ?_) hn ?_
    · rw [upd_ne (ne_of_none eb hn)]
      exact sm b o eb
    · rw [merge_eq]
      have g : kps.foldl addP (PV.dct [] []) = PV.dct ks' ps' := g
      rw [g]
      exact ⟨_, upd_same, g1, g2⟩
  · rw [if_neg hk] at q1
    exact False.elim q1
end PU
end
section
namespace PU
open PySem PySem.Spec PyProof.Rows L2 PySem.SeqAt
variable [TW]
structure Con (K : PySem.W.Frag) (mg : Str → Option Value) (x : Str) (c : PV) : Prop where
  ex : ∃ v u, mg x = some u ∧ RelV v u ∧ ∀ H, Rep K H c v
theorem ev_con {C : Cn} {x : Str} {c : PV} {pos : Pos} (hg : Gl C.X x) (h : Con C.X.K C.X.mg x c) (hd : (x == ("__debug__" : Str)) = false := by decide) : EV C (.Name x pos) (kP c) := by
  obtain ⟨v, u, hm, r, rp⟩ := h.ex
  exact ev_glob hg hm r rp hd
def entS (p : Params) (e : Str × Tok × Value) : DictEntry := { hash := PyData.keyHash p e.1, key := .str e.1 e.2.1, val := e.2.2 }
omit [TW] in
theorem keyHash_eq (w : World) (x : Str) : PyData.keyHash w.params x = hashStr w x := rfl
omit [TW] in
theorem pairs_entS {P : Program} {w : World} : ∀ (es : List (Str × Tok × Value)), Pairs (mixKind P w) (es.map (entS w.params)) (es.map fun e => ((Sum.inr e.1 : Key), e.2.2))
  | [] => .nil
  | e :: es => .cons (mixKind_str P w e.1 e.2.1) rfl (pairs_entS es)
omit [TW] in
theorem kv_entS : ∀ {xs : List V} {es : List (Str × Tok × Value)}, Vals xs (es.map (·.2.2)) → KV ((es.map fun e => (Sum.inr e.1 : Key)).zip xs) (es.map fun e => ((Sum.inr e.1 : Key), e.2.2))
  | [], [], _ => .nil
  | x :: xs, e :: es, r => by
    cases r with
    | cons a b => exact .cons ⟨rfl, a⟩ (kv_entS b)
  | [], _ :: _, r => by cases r
  | _ :: _, [], r => by cases r
omit [TW] in
theorem con_dct {w : World} {K : PySem.W.Frag} {h : Heap} {mg : Str → Option Value} {x : Str} {a : Addr} {o : Obj} (es : List (Str × Tok × Value)) {ep : Nat} {ps : List PV} {xs : List V} (X : K.In h) (G : h.Ns mainGlobals mg)
    (n1 : PySem.W.nsIn K mainGlobals x = some (some (.ref a))) (n2 : K.lookup a = some o) (n3 : o = { cls := .type "dict", data := .dict (es.map (entS w.params)).toArray ep }) (hs : (a == sysModules) = false)
    (nd : (es.map (·.1)).Nodup) (hz : es.length ≤ sizeLine) (vals : Vals xs (es.map (·.2.2))) (reps : ∀ H, @Reps ⟨w⟩ K H ps xs) : @Con ⟨w⟩ K mg x (.dct (es.map fun e => .inr e.1) ps) := by
  letI : TW := ⟨w⟩
  have hl : xs.length = es.length := by rw [vals.length, List.length_map]
  have e1 : ((es.map fun e => (Sum.inr e.1 : Key)).zip xs).map (·.1) = es.map fun e => .inr e.1 := List.map_fst_zip (by rw [List.length_map]; omega)
  have e2 : ((es.map fun e => (Sum.inr e.1 : Key)).zip xs).map (·.2) = xs := List.map_snd_zip (by rw [List.length_map]; omega)
  refine ⟨.ref a, _, PySem.W.mg_of X G n1, rfl, fun H => ⟨a, (es.map fun e => (Sum.inr e.1 : Key)).zip xs, rfl, .inr ⟨?_, hs, o, _, _, n2, ?_, by rw [n3], fun P => ⟨es.map fun e => ((Sum.inr e.1 : Key), e.2.2), kv_entS vals, ?_, ?_, ?_⟩⟩, e1, by rw [e2]; exact reps H⟩⟩
  · rw [List.length_zip, List.length_map, hl]
    omega
  · rw [n3]
    exact ⟨rfl, rfl, rfl⟩
  · intro e he
    have he : e ∈ es.map (entS w.params) := by simpa using he
    obtain ⟨z, _, rfl⟩ := List.mem_map.mp he
    exact ⟨.inr z.1, mixKind_str P w z.1 z.2.1, keyHash_eq w z.1⟩
  · have e3 : (es.map (entS w.params)).toArray.toList = es.map (entS w.params) := by simp
    rw [e3]
    exact pairs_entS (P := P) (w := w) es
  · rw [List.map_map]
    have : ((·.1) ∘ fun e : Str × Tok × Value => ((Sum.inr e.1 : Key), e.2.2)) = Sum.inr ∘ (·.1) := rfl
    rw [this, ← List.map_map]
    exact List.Pairwise.map _ (fun a b hab e => hab (Sum.inr.inj e)) nd
theorem ok_of {P : Program} {w : World} {K : PySem.W.Frag} {mg : Str → Option Value} {base : Heap} {x qual : Str} {st : Stmt} {f : Addr} {fd : FuncData} {N ps : List Str} {k : Nat} {g : PSt → R Fl} (F : Fun K x qual st f fd) (S : FnScope N ps (defScope st))
    (hbody : ∀ (cdv : Value) (A : Around) (outer : List Env) (s : Shared) (H : Hp) (E : XK), Room k (A.deeper (envOfC qual (defScope st) s.heap.objs.size f cdv)) → SVs (cnOf P w K mg base N qual (defScope st) f cdv A outer s H E) (defBody st) g) :
    FnOk P w K mg base CX0 (k + 1) f fd ps (spP K ps.length (runF ps.length N.length g)) := by
  refine F.ok S (fun vs H Q E h => h.1) (fun cdv A outer s H vs Q E hr h => ?_)
  obtain ⟨hl, qs, p, r, e, k⟩ := h
  refine ⟨_, hbody cdv A outer s H E hr, start N.length qs, (H, H), start_ok r, ?_⟩
  unfold runF at e
  rw [if_pos (by rw [r.length]; exact hl)] at e
  cases hg : g (start N.length qs) with
  | ok fl =>
    rw [hg] at e
    cases fl with
    | next ρ => cases e; exact fun σ H' S' => k .non H' S'.same rfl
    | ret q => cases e; exact fun v H' s' r' => k v H' s' r'
    | brk ρ => cases e
    | cont ρ => cases e
  | er x => rw [hg] at e; cases e
  | no => rw [hg] at e; cases e
theorem script_rep {K : PySem.W.Frag} {H : Hp} {a : Addr} {ns : List Int} (h : SqF K H a (ns.map V.int)) : Reps K H [.lst (ns.map .int)] [.ref a] := by
  have : ∀ l : List Int, Reps K H (l.map PV.int) (l.map V.int) := by
    intro l
    induction l with
    | nil => rfl
    | cons x l ih => exact ⟨_, _, rfl, rfl, ih⟩
  exact ⟨_, _, rfl, ⟨a, _, rfl, h, this ns⟩, rfl⟩
end PU
end
section
namespace PU
open PySem PySem.Spec PyProof.Rows L2 PySem.SeqAt
section
variable {P : Program} {w : World} {κ : Type} [DecidableEq κ] {kd : KeyKind P w κ} {A : Around} {E : Value → Shared → Prop} {s : Shared}
def SetL (kd : KeyKind P w κ) (h : Heap) (a : Addr) (led : Bool) (S : κ → Bool) (n : Nat) : Prop :=
  ∃ o es ep t, h.get? a = some o ∧ o.ExactSet ∧ o.data = .set es ep t ∧ ElemsOf kd es.toList ∧ (∀ k, S k = true ↔ ∃ e ∈ es.toList, kd.is k e.2 = true) ∧ es.size < scanBound ∧ t.fits es.size = true ∧ es.size = n ∧ t.led = led ∧ (1 ≤ es.size → t.plain = false)
end
end PU
end
section
namespace PU
open PySem PySem.Spec PyProof.Rows L2 PySem.SeqAt
def addD (dd : List Str) (y : Str) : List Str := if y ∈ dd then dd else dd ++ [y]
def distinct (ys : List Str) : List Str := ys.foldl addD []
section
variable {P : Program} {w : World} {A : Around}
def memS (dd : List Str) : Key → Bool
  | .inr x => decide (x ∈ dd)
  | .inl _ => false
end
end PU
end
section
namespace PU
open PySem PySem.Spec PyProof.Rows L2 PySem.SeqAt
section
variable {P : Program} {w : World} {A : Around} {E : Value → Shared → Prop} {s : Shared}
abbrev ledW (w : World) : Bool := !w.params.followText "set-order"
abbrev newSetObj (w : World) : Obj := { cls := .type "set", dict := none, data := .set #[] 0 (.fresh 0 0 (ledW w)) }
end
end PU
end
section
namespace PU
open PySem PySem.Spec PyProof.Rows L2 PySem.SeqAt
abbrev siObj (first : Value) (i : Nat) (a : Addr) (n ep : Nat) : Obj := { cls := .type "set_iterator", dict := none, data := .fields #[first, .int i 0, .ref a, .int n 0, .int ep 0], slots := #[] }
section
variable {P : Program} {w : World} {A : Around} {E : Value → Shared → Prop} {s : Shared} {it a T : Addr} {i n ep : Nat}
end
end PU
end
section
namespace PU
open PySem PySem.Spec PyProof.Rows L2 PySem.SeqAt
section
variable {P : Program} {w : World} {A : Around} {E : Value → Shared → Prop} {s : Shared} {it a : Addr} {i n ep slot : Nat}
def Tells (P : Program) (w : World) (s : Shared) (a : Addr) (slot i ep : Nat) (r : Option (Value × Nat)) : Prop := ∀ (A : Around) (E : Value → Shared → Prop) (Q : Option (Value × Nat) → Shared → Prop), Q r s → wpAny (model P w) A (setNext a slot i ep) Q E s
end
end PU
end
section
namespace PU
open PySem PySem.Spec PyProof.Rows L2 PySem.SeqAt
section
variable {P : Program} {w : World} {A : Around} {E : Value → Shared → Prop} {s : Shared} {a : Addr} {n ep : Nat} {o : Obj} {es : Array (Int × Value)} {t : SetTable}
end
end PU
end
section
namespace PU
open PySem PySem.Spec PyProof.Rows L2 PySem.SeqAt
section
variable {P : Program} {w : World} {A : Around} {E : Value → Shared → Prop} {s : Shared} {a : Addr} {ep : Nat} {o : Obj} {es : Array (Int × Value)} {t : SetTable}
end
end PU
end
section
namespace PU
open PySem PySem.Spec PyProof.Rows L2 PySem.SeqAt
section
variable {P : Program} {w : World} {A : Around} {E : Value → Shared → Prop} {s : Shared} {a : Addr} {ep : Nat} {o : Obj} {es : Array (Int × Value)} {t : SetTable}
end
end PU
end
section
namespace PU
open PySem PySem.Spec PyProof.Rows L2 PySem.SeqAt
section
variable {P : Program} {w : World} {A : Around} {E : Value → Shared → Prop} {s : Shared} {a : Addr}
end
end PU
end
section
namespace PU
open PySem PySem.Spec PyProof.Rows L2 PySem.SeqAt
variable [TW]
end PU
end
section
namespace PU
def whF (t : PSt → R Bool) (g : PSt → R Fl) : Nat → PSt → R Fl
  | 0, _ => .no
  | n + 1, ρ => t ρ >>= fun b => if b = true then g ρ >>= fun fl => (match fl with
    | .next ρ2 => whF t g n ρ2
    | .cont ρ2 => whF t g n ρ2
    | .brk ρ2 => .ok (.next ρ2)
    | .ret q => .ok (.ret q)) else .ok (.next ρ)
def whS (n : Nat) (t : PSt → R Bool) (g : PSt → R Fl) : PSt → R Fl := whF t g n
end PU
namespace PU
open PySem PySem.Spec PyProof.Rows L2 PySem.SeqAt
variable [TW]
theorem sv_while {C : Cn} {c : Expr} {body : List Stmt} {t : PSt → R Bool} {g : PSt → R Fl} {pos : Pos} (n : Nat) (hp : PassesOwn (model C.X.prog C.X.w) C.X.A C.X.env C.X.xe) (hc : ET C c t) (hb : SVs C body g) : SV C (.While c body [] pos) (whS n t g) := by
  intro pins s σ H D I ⟨ρ, B, S, q⟩
  refine ps_while hp hc hb pins s σ H D I ⟨fun m σ' H' => ∃ ρ', StOk C.X.K B H' σ' ρ' ∧ RS C B D (whF t g m ρ'), ⟨n, ρ, S, q⟩, ?_⟩
  rintro m σ' H' ⟨ρ', S', q'⟩
  cases m with
  | zero => exact False.elim q'
  | succ m =>
    have q' : RS C B D (t ρ' >>= fun b => if b = true then g ρ' >>= fun fl => (match fl with
      | .next ρ2 => whF t g m ρ2
      | .cont ρ2 => whF t g m ρ2
      | .brk ρ2 => .ok (.next ρ2)
      | .ret q => .ok (.ret q)) else .ok (.next ρ')) := q'
    refine ⟨ρ', S'.vw, (q'.bind S'.same).imp fun b _ k H1 s1 => ?_⟩
    cases b with
    | false =>
      rw [if_neg Bool.false_ne_true] at k ⊢
      exact k σ' H1 (S'.grow s1)
    | true =>
      rw [if_pos rfl] at k ⊢
      refine ⟨fun σ2 H2 => ∃ ρ2, StOk C.X.K B H2 σ2 ρ2 ∧ RS C B D (whF t g m ρ2), fun σ2 H2 z => ⟨m, Nat.lt_succ_self m, z⟩, ρ', B, S'.grow s1, ?_⟩
      cases hgr : g ρ' with
      | ok fl =>
        rw [hgr] at k
        cases fl with
        | next ρ2 => exact fun σ4 H4 S4 => ⟨ρ2, S4, k⟩
        | cont ρ2 => exact fun σ4 H4 S4 => ⟨ρ2, S4, k⟩
        | brk ρ2 => exact fun σ4 H4 S4 => k σ4 H4 S4
        | ret p => exact k
      | er x => rw [hgr] at k; exact k
      | no => rw [hgr] at k; exact k
end PU
end
section
namespace PU
open PySem
def gStarts : PV → PV → Option PV
  | .str x, .str y => some (.bl (Txt.startswith x y))
  | _, _ => none
def gEnds : PV → PV → Option PV
  | .str x, .str y => some (.bl (Txt.endswith x y))
  | _, _ => none
def gCount : PV → PV → Option PV
  | .str x, .str y => some (.int (Txt.count x y))
  | _, _ => none
def gFind : PV → PV → Option PV
  | .str x, .str y => some (.int (Txt.find x y))
  | _, _ => none
def allBl : List PV → Option (List Bool)
  | [] => some []
  | .bl b :: r => (allBl r).map (b :: ·)
  | _ :: _ => none
def gAll : PV → Option PV
  | .lst ps => (allBl ps).bind fun bs => some (.bl (bs.all id))
  | _ => none
def gAny : PV → Option PV
  | .lst ps => (allBl ps).bind fun bs => some (.bl (bs.any id))
  | _ => none
end PU
namespace PU
open PySem PySem.Spec PyProof.Rows L2 PySem.SeqAt
variable [TW]
end PU
end
section
namespace PU
open PySem PySem.Spec PyProof.Rows L2 PySem.SeqAt
variable [TW]
theorem ei_range2 {C : Cn} {tg a b : Expr} {f f2 : PSt → R PV} {p pos : Pos} (hg : Gl C.X "range") (hm : C.X.mg "range" = none) (ha : EV C a f) (hb : EV C b f2) (hs : starEach [a, b] C.X.env = [(false, eval a C.X.env), (false, eval b C.X.env)] := by rfl)
    (hs2 : starEach [b] C.X.env = [(false, eval b C.X.env)] := by exact star_one rfl) : EI C tg (.Call (.Name "range" p) [a, b] [] pos) (rng2 f f2) := by
  intro pins s σ H Rk I ⟨ρ, vw, q⟩
  refine pi_range2 hg hm (pa_cons ha (pa_cons hb pa_nil hs2) (by rw [hs, hs2])) hs hs2 pins s σ H Rk I ⟨ρ, vw, q.bind.imp fun p _ k v H1 s1 r1 => ⟨ρ, vw.same s1, (k.bind.same s1).imp fun p2 _ k2 v2 H2 s2 r2 => ?_⟩⟩
  cases p with
  | int i =>
    cases p2 with
    | int j =>
      cases (show v = .int i from r1)
      cases (show v2 = .int j from r2)
      have k2 : RQ C H (if i.natAbs < 1000000000 ∧ j.natAbs < 1000000000 then R.ok (rangeP i (j - i).toNat) else R.no) fun ps => ∀ J H', Same H H' → ItP C.X.K J H' ps → Rk J H' := k2
      by_cases hj : i.natAbs < 1000000000 ∧ j.natAbs < 1000000000
      · rw [if_pos hj] at k2
        exact ⟨i, j, rfl, ⟨by omega, by omega, by omega, by omega⟩, k2 _ H2 (s1.trans s2) it_range⟩
      · rw [if_neg hj] at k2
        exact False.elim k2
    | _ => exact False.elim k2
  | _ => exact False.elim k2
end PU
end
section
namespace PU
def isDct : PV → Bool
  | .dct _ _ => true
  | _ => false
def methD (fo fe : PSt → R PV) (g : PV → PV → Option PV) : PSt → R PV := fun ρ => fo ρ >>= fun p => if isDct p = true then fe ρ >>= fun q => R.ofO (g p q) else .no
def gGet : PV → PV → Option PV
  | .dct ks ps, q => (toKey q).bind fun k => some ((lookP ks ps k).getD .non)
  | _, _ => none
end PU
namespace PU
open PySem PySem.Spec PyProof.Rows L2 PySem.SeqAt
variable [TW]
theorem lookR_none {K : PySem.W.Frag} {H : Hp} {k : Key} : ∀ {ks : List Key} {ps : List PV} {kvs : List (Key × V)}, kvs.map (·.1) = ks → Reps K H ps (kvs.map (·.2)) → lookP ks ps k = none → valV kvs k = none
  | _, _, [], h1, h2, e => rfl
  | _, [], kv :: kvs, h1, h2, e => by
    cases h2
  | _, q :: ps, kv :: kvs, h1, h2, e => by
    subst h1
    obtain ⟨x, r, ex, hx, ht⟩ := h2
    simp only [List.map_cons, List.cons.injEq] at ex
    obtain ⟨rfl, rfl⟩ := ex
    simp only [List.map_cons, lookP] at e
    by_cases hk : kv.1 = k
    · rw [if_pos hk] at e
      cases e
    · rw [if_neg hk] at e
      rw [valV_neg hk]
      exact lookR_none rfl ht e
end PU
end
section
namespace PU
open PySem
def insL (x : Str) : List Str → List Str
  | [] => [x]
  | y :: r => if y.cps.toList < x.cps.toList then y :: insL x r else x :: y :: r
def sortL (l : List Str) : List Str := l.foldr insL []
def gSorted : PV → Option PV
  | .lst ps => (allStr ps).bind fun ys => if ys.length < 64 then some (.lst ((sortL ys).map .str)) else none
  | _ => none
end PU
namespace PU
open PySem PySem.Spec PyProof.Rows L2 PySem.SeqAt
variable [TW]
end PU
end
section
namespace PU
open PySem PySem.Spec PyProof.Rows L2 PySem.SeqAt
theorem sub_dict_self : isSubtype (.type "dict") (.type "dict") = pure true := by rw [isSubtype_type]; kernel_rfl
section
variable {P : Program} {w : World} {A : Around} {E : Value → Shared → Prop} {s : Shared} {d : Addr} {kvs : List (Key × Value)} {ep : Nat}
theorem list_of_dict {Q : Value → Shared → Prop} (hh : A.handled = none) (hd : (d == sysModules) = false) (m : s.heap.DictAt (mixKind P w) d kvs ep) (hz : kvs.length ≤ sizeLine)
    (q : ∀ (h' : Heap) (tk : Nat) (acc : Array Value) (c : Nat), (∀ b o, s.heap.get? b = some o → h'.get? b = some o) → h'.get? s.heap.objs.size = some { cls := .type "list", data := .seq acc c } →
      ItemsOf (fun i v => ∃ k x, kvs[i]? = some (k, x) ∧ (mixKind P w).is k v = true) acc kvs.length → Q (.ref s.heap.objs.size) { s with heap := h', toks := tk }) : wpAny (model P w) A (call (.type "list") [.ref d]) Q E s := by
  have ld : d < s.heap.objs.size := by obtain ⟨o, es, ho, _⟩ := m; exact Heap.lt_size ho
  refine callType_codes (Q₁ := fun obj s₁ => obj = .ref s.heap.objs.size ∧ s₁ = { s with heap := s.heap.push { cls := .type "list", data := .seq #[] } }) PySem.F.called_list (PySem.F.typeCall_list_1 _) PySem.F.entry_list_init (code_list_new _ ⟨rfl, rfl⟩) fun obj s₁ h₁ => ?_
  obtain ⟨rfl, rfl⟩ := h₁
  have g0 : (s.heap.push { cls := .type "list", data := .seq #[] }).get? s.heap.objs.size = some { cls := .type "list", data := .seq #[] } := Heap.get?_push_size _ rfl
  refine ⟨⟨_, g0, rfl⟩, PySem.F.args_list_init_2 _ _, ?_⟩
  show wpAny _ _ (do let old ← Builtin.List.listItems (.ref s.heap.objs.size); Builtin.List.listUpdate (.ref s.heap.objs.size) (fun _ => #[]); letGo old.toList.reverse; Builtin.List.listExtendWith (.ref s.heap.objs.size) (.ref d) .none) _ _ _
  refine wpAny_bind ?_
  unfold Builtin.List.listItems
  refine wpAny_bind (wpAny_seqItems g0 rfl (wpAny_pure ?_))
  show wpAny _ _ (updateSeq s.heap.objs.size (fun _ => #[]) >>= fun _ => letGo (#[] : Array Value).toList.reverse >>= fun _ => Builtin.List.listExtendWith (.ref s.heap.objs.size) (.ref d) .none) _ _ _
  refine wpAny_bind (wpAny_updateSeq g0 rfl ?_ (Nat.zero_le _) (Nat.zero_le _))
  have g1 := Heap.get?_update_self (Obj.mapSeq (fun _ => (#[] : Array Value))) g0 rfl
  have k1 : ∀ b o, s.heap.get? b = some o → ((s.heap.push { cls := .type "list", data := .seq #[] }).update s.heap.objs.size (Obj.mapSeq (fun _ => (#[] : Array Value)))).get? b = some o :=
    fun b o e => (Heap.get?_update_other _ _ (Nat.ne_of_gt (Heap.lt_size e))).trans (Heap.get?_push_of_some _ e)
  have z1 : ((s.heap.push { cls := .type "list", data := .seq #[] }).update s.heap.objs.size (Obj.mapSeq (fun _ => (#[] : Array Value)))).objs.size = s.heap.objs.size + 1 := by rw [Heap.size_update, Heap.size_push]
  refine wpAny_bind (wpAny_letGo ?_)
  generalize (s.heap.push { cls := .type "list", data := .seq #[] }).update s.heap.objs.size (Obj.mapSeq (fun _ => (#[] : Array Value))) = h1 at g1 k1 z1 ⊢
  have m1 : h1.DictAt (mixKind P w) d kvs ep := by
    obtain ⟨o, es, ho, r⟩ := m
    exact ⟨o, es, k1 _ _ ho, r⟩
  have t1 : ({ s with heap := h1 } : Shared).TypeIs (.ref d) "dict" := m1.dictOf.typeIs
  unfold Builtin.List.listExtendWith
  refine wpAny_bind (wpAny_typeOf (T := "dict") t1 ?_)
  have r1 : Builtin.List.listSameRef (.ref s.heap.objs.size) (.ref d) = false := by
    show (s.heap.objs.size == d) = false
    simpa using Nat.ne_of_gt ld
  have r2 : (Value.type "dict" == Value.type "list") = false := by decide
  have r3 : (Value.type "dict" == Value.type "tuple") = false := by decide
  simp only [r1, r2, r3, Bool.or_false, Bool.false_eq_true, if_false]
  refine wpAny_bind (wpAny_pyIter_dict (knd := mixKind P w) (s := { s with heap := h1 }) hd m1 ?_)
  refine wpAny_bind (wpAny_holding ?_)
  have m2 : (h1.push { cls := .type "dict_keyiterator", data := .fields #[.ref d, .int 0 0, .int kvs.length 0, .int ep 0] }).DictAt (mixKind P w) d kvs ep := by
    obtain ⟨o, es, ho, r⟩ := m1
    exact ⟨o, es, Heap.get?_push_of_some _ ho, r⟩
  have t2 := (show ({ s with heap := h1.push { cls := .type "dict_keyiterator", data := .fields #[.ref d, .int 0 0, .int kvs.length 0, .int ep 0] } } : Shared).TypeIs (.ref d) "dict" from m2.dictOf.typeIs)
  unfold Builtin.List.listLengthHint
  refine wpAny_bind (wpAny_specialOf (T := "dict") (v := .ref d) t2 PySem.F.slot_dict_len.lookup ?_)
  wp_delta
  refine wpAny_bind (wpAny_isInstance (T := "dict") (v := .ref d) (b := true) t2 sub_dict_self ?_)
  show wpAny _ _ (typeOf (Value.ref d) >>= _) _ _ _
  refine wpAny_bind (wpAny_typeOf (T := "dict") (v := .ref d) t2 (wpAny_pure ?_))
  rw [if_pos (by decide)]
  refine wpAny_bind (wpAny_rule (wpAny_bind ?_))
  unfold Builtin.List.listTouch
  have nI : h1.objs.size ≠ s.heap.objs.size := by rw [z1]; exact Nat.succ_ne_self _
  have gL2 : (h1.push { cls := .type "dict_keyiterator", data := .fields #[.ref d, .int 0 0, .int kvs.length 0, .int ep 0] }).get? s.heap.objs.size = some _ := Heap.get?_push_of_some _ g1
  have gI2 : (h1.push { cls := .type "dict_keyiterator", data := .fields #[.ref d, .int 0 0, .int kvs.length 0, .int ep 0] }).get? h1.objs.size = some _ := Heap.get?_push_size _ rfl
  have k2 : ∀ b o, s.heap.get? b = some o → (h1.push { cls := .type "dict_keyiterator", data := .fields #[.ref d, .int 0 0, .int kvs.length 0, .int ep 0] }).get? b = some o := fun b o e => Heap.get?_push_of_some _ (k1 b o e)
  refine wpAny_bind (wpAny_updateSeq gL2 rfl ?_ (Nat.zero_le _) (by show 1 ≤ _; rw [sizeLine_eq]; decide))
  have g3 := Heap.get?_update_self (Obj.mapSeq (·.push Value.none)) gL2 rfl
  refine wpAny_updateSeq g3 rfl ?_ (by show 1 ≤ _; rw [sizeLine_eq]; decide) (Nat.zero_le _)
  have g4 := Heap.get?_update_self (Obj.mapSeq (·.pop)) g3 rfl
  have k4 : ∀ b ob, b ≠ s.heap.objs.size → (h1.push { cls := .type "dict_keyiterator", data := .fields #[.ref d, .int 0 0, .int kvs.length 0, .int ep 0] }).get? b = some ob → (((h1.push { cls := .type "dict_keyiterator", data := .fields #[.ref d, .int 0 0, .int kvs.length 0, .int ep 0] }).update s.heap.objs.size (Obj.mapSeq (·.push Value.none))).update s.heap.objs.size (Obj.mapSeq (·.pop))).get? b = some ob := fun b ob hb e =>
    (Heap.get?_update_other _ _ (Ne.symm hb)).trans ((Heap.get?_update_other _ _ (Ne.symm hb)).trans e)
  show wpAny _ _ _ _ _ { s with heap := (((h1.push { cls := .type "dict_keyiterator", data := .fields #[.ref d, .int 0 0, .int kvs.length 0, .int ep 0] }).update s.heap.objs.size (Obj.mapSeq (·.push Value.none))).update s.heap.objs.size (Obj.mapSeq (·.pop))) }
  generalize ((h1.push { cls := .type "dict_keyiterator", data := .fields #[.ref d, .int 0 0, .int kvs.length 0, .int ep 0] }).update s.heap.objs.size (Obj.mapSeq (·.push Value.none))).update s.heap.objs.size (Obj.mapSeq (·.pop)) = h4 at g4 k4 ⊢
  have nd : d ≠ s.heap.objs.size := Nat.ne_of_lt ld
  have ndI : d ≠ h1.objs.size := by rw [z1]; exact Nat.ne_of_lt (Nat.lt_succ_of_lt ld)
  have st4 : h4.IsKeyIter h1.objs.size d 0 kvs.length ep ∧ h4.DictAt (mixKind P w) d kvs ep := by
    refine ⟨⟨_, k4 _ _ nI gI2, rfl, rfl⟩, ?_⟩
    obtain ⟨o, es, ho, r⟩ := m2
    exact ⟨o, es, k4 _ _ nd ho, r⟩
  have nL : s.heap.objs.size ∉ [h1.objs.size, d] := fun z => by
    rcases List.mem_cons.mp z with e | z
    · exact nI e.symm
    · exact nd (List.mem_singleton.mp z).symm
  have W : ∀ A' : Around, A'.handled = none → Walks P w A' h1.objs.size [h1.objs.size, d] [h1.objs.size] kvs.length _ _ := fun A' hA => Walks.dictKeys (knd := mixKind P w) hA h1.objs.size d ndI kvs ep
  refine wpAny_pure ⟨plainId_quiet PySem.F.plain_extend_loop _, codeAny_extend_loopS (W A.in1.in1 hh).toS hz _ nL _ kvs.length 0 _ _ _ rfl (Nat.zero_le _) st4 g4 (ItemsOf.nil _) fun s' acc c mm gA it' => ?_⟩
  rw [Moved.eq_with mm]
  refine ⟨rfl, q s'.heap s'.toks acc c (fun b o e => mm.heap b o (fun hb => ?_) (k4 b o (Nat.ne_of_lt (Heap.lt_size e)) (k2 b o e))) gA it'⟩
  have lt := Heap.lt_size e
  rcases List.mem_cons.mp hb with z | z
  · exact absurd lt (z ▸ Nat.lt_irrefl _)
  · rw [List.mem_singleton.mp z, z1] at lt
    exact absurd lt (Nat.not_lt.mpr (Nat.le_succ _))
end
end PU
end
section
namespace PU
def gListA : PV → Option PV
  | .lst ps => some (.lst ps)
  | .tup ps => some (.lst ps)
  | .dct ks _ => some (.lst (ks.map keyP))
  | _ => none
end PU
namespace PU
open PySem PySem.Spec PyProof.Rows L2 PySem.SeqAt
variable [TW]
theorem keyP_reps {K : PySem.W.Frag} {H : Hp} : ∀ ks : List Key, Reps K H (ks.map keyP) (ks.map kV)
  | [] => rfl
  | k :: ks => by
    refine ⟨kV k, ks.map kV, rfl, ?_, keyP_reps ks⟩
    cases k <;> exact rfl
omit [TW] in
theorem key_rel {P : Program} {w : World} {k : Key} {v : Value} (h : (mixKind P w).is k v = true) : RelV (kV k) v := by
  rcases keyIs_shape (show keyIs k v = true from h) with ⟨i, t, rfl, rfl⟩ | ⟨x, t, rfl, rfl⟩
  · exact ⟨t, rfl⟩
  · exact ⟨t, rfl⟩
omit [TW] in
theorem vals_of {P : Program} {w : World} : ∀ (kvs : List (Key × Value)) (us : List Value), us.length = kvs.length → (∀ (i : Nat) (v : Value), us[i]? = some v → ∃ k x, kvs[i]? = some (k, x) ∧ (mixKind P w).is k v = true) → Vals ((kvs.map (·.1)).map kV) us
  | [], us, hl, _ => by
    cases us with
    | nil => exact .nil
    | cons a r => cases hl
  | kv :: kvs, us, hl, h => by
    cases us with
    | nil => cases hl
    | cons a r =>
      obtain ⟨k, x, e, hk⟩ := h 0 a rfl
      cases e
      exact .cons (key_rel hk) (vals_of kvs r (by simpa using hl) fun i v e => h (i + 1) v e)
theorem cListA {X : Cx} (hc : X.calm = true := by rfl) (hw : X.w = TW.w := by rfl) : CallR X (.type "list") (rn1 X.K gListA) := by
  intro pins s σ H xs us Q I r ⟨v, p, z, e1, rp, ez, k⟩
  subst e1
  cases p with
  | lst ps =>
    obtain ⟨a, xs, rfl, g, rr⟩ := RepO.lst_inv rp
    cases ez
    exact call_list_of pins s σ H _ us Q I r ⟨a, xs, rfl, .inl g.l, fun l hl => k _ _ (Same.new hl) hl ⟨xs, upd_same, rr.same (Same.new hl)⟩⟩
  | tup ps =>
    obtain ⟨a, xs, rfl, g, rr⟩ := RepO.tup_inv rp
    cases ez
    exact call_list_of pins s σ H _ us Q I r ⟨a, xs, rfl, .inr g, fun l hl => k _ _ (Same.new hl) hl ⟨xs, upd_same, rr.same (Same.new hl)⟩⟩
  | dct ks ps =>
    obtain ⟨a, kvs, rfl, g, e1, rr⟩ := rp
    cases ez
    obtain ⟨u, rfl, ru⟩ := vals1 r
    cases ru
    obtain ⟨hz, hS, vs, rel, o, es, ep, ho, x1, d1, rest⟩ := DkR.at hw I g
    have hl : kvs.length = vs.length := Paired.length rel
    have hk : kvs.map (·.1) = vs.map (·.1) := by
      clear hl hz e1 rr g rest
      induction rel with
      | nil => rfl
      | cons a b ih => rw [List.map_cons, List.map_cons, ih, a.1]
    refine list_of_dict (kvs := vs) (ep := ep) (I.ok.hd hc) hS ⟨o, es, ho, x1, d1, rest⟩ (by omega) fun h' tk acc c keep gA it' => ?_
    obtain ⟨i1, i2⟩ := it'
    have rv : Vals (ks.map kV) acc.toList := by
      rw [← e1, hk]
      exact vals_of (P := X.prog) (w := X.w) vs acc.toList (by simpa using i1) fun i v e => i2 i v (by simpa using e)
    have hlk : ks.length = kvs.length := by rw [← e1, List.length_map]
    have I2 := I.laid (a := s.heap.objs.size) (o := .lst (ks.map kV)) (h' := h') (t' := tk) keep (Nat.le_refl _) ⟨by rw [List.length_map]; omega, acc.toList, c, rv, by rw [Array.toArray_toList]; exact gA⟩
    have nf : H s.heap.objs.size = none := I.fresh
    exact ⟨.ref _, _, I2, rfl, k _ _ (Same.new nf) nf ⟨_, upd_same, keyP_reps ks⟩⟩
  | _ => cases ez
end PU
end
section
namespace PU
def methD2 (fo fe fd : PSt → R PV) (g : PV → PV → PV → Option PV) : PSt → R PV := fun ρ => fo ρ >>= fun p => if isDct p = true then fe ρ >>= fun q => fd ρ >>= fun y => R.ofO (g p q y) else .no
def gGet2 : PV → PV → PV → Option PV
  | .dct ks ps, q, y => (toKey q).bind fun k => some ((lookP ks ps k).getD y)
  | _, _, _ => none
end PU
namespace PU
open PySem PySem.Spec PyProof.Rows L2 PySem.SeqAt
variable [TW]
theorem ev_get2 {C : Cn} {o e d : Expr} {fo fe fd : PSt → R PV} {apos cpos : Pos} (ho : EO C o fo) (he : EV C e fe) (hd : EV C d fd) (hw : C.X.w = TW.w := by rfl)
    (hbase : attributeBase o "get" C.X.env (eval o C.X.env) = eval o C.X.env := by rfl) (hline : (apos.endLine == cpos.line) = true := by rfl) (hs : starEach [e, d] C.X.env = [(false, eval e C.X.env), (false, eval d C.X.env)] := by rfl) (hs2 : starEach [d] C.X.env = [(false, eval d C.X.env)] := by exact star_one rfl) :
    EV C (.Call (.Attribute o "get" apos) [e, d] [] cpos) (methD2 fo fe fd gGet2) := by
  intro pins s σ H Q I ⟨ρ, vw, q⟩
  refine wpAny_Call_method_late hbase (by rw [hs]; rfl) hline rfl (thn (ho pins s σ H (fun v H1 => ∃ p, RepO C.X.K H1 p v ∧ Same H H1 ∧ RQ C H (if isDct p = true then fe ρ >>= fun q => fd ρ >>= fun y => R.ofO (gGet2 p q y) else .no) fun p => ∀ v H', Same H H' → Rep C.X.K H' p v → Q v H') I ⟨ρ, vw, q.bind.imp fun p _ k v H1 s1 r1 => ⟨p, r1, s1, k⟩⟩) fun v s1 ⟨x, H1, I1, r1, p, ro, sm, k⟩ => ?_)
  cases p with
  | dct ks ps =>
    have ro' := ro
    obtain ⟨a, kvs, rfl, g, e1, r⟩ := ro
    cases r1
    obtain ⟨hz, hdd, vs, rel, dd⟩ := DkR.at hw I1 g
    have k : RQ C H (fe ρ >>= fun q => fd ρ >>= fun y => R.ofO (gGet2 (.dct ks ps) q y)) fun p => ∀ v H', Same H H' → Rep C.X.K H' p v → Q v H' := k
    refine ⟨"dict", "dict.get", PySem.F.plainAttrs_dict, PySem.F.slot_dict_get, PySem.F.type_dict_get, dd.typeIs, dd.mapOf.noDict, ?_⟩
    have hA := (pa_cons he (pa_cons hd pa_nil hs2) (by rw [hs, hs2])) cpos pins s1 σ H1 (fun xs H2 => ∃ q y z u x, xs = [u, x] ∧ Rep C.X.K H2 q u ∧ Rep C.X.K H2 y x ∧ gGet2 (.dct ks ps) q y = some z ∧ Same H1 H2 ∧ ∀ v H', Same H H' → Rep C.X.K H' z v → Q v H') I1 ⟨ρ, vw.same sm, (k.bind.same sm).imp fun q _ k2 u H2 s2 r2 => ⟨ρ, vw.same (sm.trans s2), (k2.bind.same (sm.trans s2)).imp fun y _ k4 x H3 s3 r3 => by
      obtain ⟨z, ez, k3⟩ := k4.ofO
      exact ⟨q, y, z, u, x, rfl, r2.same s3, r3, ez, s2.trans s3, k3⟩⟩⟩
    rw [hs] at hA ⊢
    refine Calls.callWith_builtin rfl (Calls.evalArgs_plain ?_)
    refine thn hA fun us s2 ⟨xs, H2, I2, r2, q, y, z, u, x, eu, rq, ry, ez, s2', k3⟩ => ?_
    subst eu
    obtain ⟨u', x', rfl, ru, rx⟩ : ∃ u' x', us = [u', x'] ∧ RelV u u' ∧ RelV x x' := by
      cases r2 with
      | cons a b =>
        obtain ⟨x', e, rx⟩ := vals1 b
        subst e
        exact ⟨_, x', rfl, a, rx⟩
    obtain ⟨kk, ek, ez⟩ := Option.bind_eq_some_iff.mp (show (toKey q).bind (fun k => some ((lookP ks ps k).getD y)) = some z from ez)
    cases ez
    have hy := toKey_rep ek rq.o
    subst hy
    obtain ⟨a2, kvs2, ea, g2, e2, rr2⟩ := ro'.same s2'
    cases ea
    obtain ⟨_, hd2, vs2, rel2, dd2⟩ := DkR.at hw I2 g2
    refine call_meetsIn PySem.F.slot_dict_get dd2.typeIs PySem.F.entry_dict_get (PySem.F.args_dict_get_3 _ _ _) (meets_dict_get_default (mixKind C.X.prog C.X.w) a (kV_is ru) hd2 x') ⟨_, dd2.mapOf, ?_⟩
    cases el : lookP ks ps kk with
    | some p' =>
      obtain ⟨w, ew, rp⟩ := lookP_val e2 rr2 el
      obtain ⟨w', hw', rw'⟩ := RelO.some_of (v := w) (o := valueAt vs2 kk) (by rw [← ew]; exact rel2.val kk)
      rw [hw']
      rw [el] at k3
      exact ⟨w, H2, I2.tok _, rw', k3 w H2 (sm.trans s2') rp⟩
    | none =>
      have ew := lookR_none (k := kk) e2 rr2 el
      have hn : valueAt vs2 kk = none := RelO.none_of (by rw [← ew]; exact rel2.val kk)
      rw [hn]
      rw [el] at k3
      exact ⟨x, H2, I2.tok _, rx, k3 x H2 (sm.trans s2') ry⟩
  | _ => exact False.elim k
end PU
end
section
namespace PU
open PySem
def gIndex : PV → PV → Option PV
  | .str x, .str y => match Builtin.Str.occurrences x y 0 x.length 1 with
    | i :: _ => some (.int i)
    | [] => none
  | _, _ => none
end PU
namespace PU
open PySem PySem.Spec PyProof.Rows L2 PySem.SeqAt
variable [TW]
end PU
end
section
namespace PU
open PySem L2
def keyStrs : List Key → Option (List Str)
  | [] => some []
  | .inr x :: r => (keyStrs r).map (x :: ·)
  | .inl _ :: _ => none
def gSortedA : PV → Option PV
  | .lst ps => (allStr ps).bind fun ys => if ys.length < 64 then some (.lst ((sortL ys).map .str)) else none
  | .dct ks _ => (keyStrs ks).bind fun ys => if ys.length < 64 then some (.lst ((sortL ys).map .str)) else none
  | _ => none
end PU
namespace PU
open PySem PySem.Spec PyProof.Rows L2 PySem.SeqAt
section
variable {P : Program} {w : World} {A : Around} {E : Value → Shared → Prop} {s : Shared} {d : Addr} {kvs : List (Key × Value)} {ep : Nat}
end
section
variable {P : Program} {w : World} {A : Around} {E : Value → Shared → Prop} {s : Shared} {d : Addr} {kvs : List (Key × Value)} {ep : Nat}
end
variable [TW]
end PU
end
section
namespace PU
open PySem PySem.Spec PyProof.Rows L2 PySem.SeqAt
variable [TW]
def extF (i : Nat) (f : PSt → R PV) : PSt → R Fl := fun ρ => match ρ[i]? with
  | some (.own (.lst ps)) => f ρ >>= fun p => (match p with
    | .lst qs => if ps.length + qs.length ≤ 16777216 then .ok (.next (ρ.set i (.own (.lst (ps ++ qs))))) else .no
    | _ => .no)
  | _ => .no
def rExtO (K : PySem.W.Frag) : V → List V → Hp → VK → Prop := fun x vs H Q => ∃ l b xs zs, x = .ref l ∧ vs = [.ref b] ∧ H l = some (.lst xs) ∧ SqO K H b zs ∧ xs.length + zs.length ≤ sizeLine ∧ Q .non (upd H l (.lst (xs ++ zs)))
section
variable {C : Cn} {e : Expr} {f : PSt → R PV} {pos apos cpos : Pos}
end
end PU
end
section
namespace PU
open PySem PySem.Spec PyProof.Rows L2 PySem.SeqAt
theorem con_str {w : World} {K : PySem.W.Frag} {h : Heap} {mg : Str → Option Value} {x : Str} {i : Str} {t : Tok} (X : K.In h) (G : h.Ns mainGlobals mg) (n1 : PySem.W.nsIn K mainGlobals x = some (some (.str i t))) : @Con ⟨w⟩ K mg x (.str i) := by
  letI : TW := ⟨w⟩
  exact ⟨.str i, .str i t, PySem.W.mg_of X G n1, ⟨t, rfl⟩, fun H => rfl⟩
end PU
end
section
namespace PU
open PySem PySem.Spec PyProof.Rows L2 PySem.SeqAt
variable [TW]
theorem et_chain {C : Cn} {a b c : Expr} {fa fb fc : PSt → R PV} {pos : Pos} {op op' : CmpOp} {g g' : PV → PV → Option PV} (ho : OpR C.X (compareOp op) (rP C.X.K g)) (ho' : OpR C.X (compareOp op') (rP C.X.K g')) (hg : isBl g) (hg' : isBl g') (ha : EO C a fa) (hb : EO C b fb) (hc : EO C c fc)
    (hm : lastMarks [op, op'] [b, c] = false := by with_unfolding_all rfl) : ET C (.Compare a [op, op'] [b, c] pos) (truF (chain2 fa fb fc g g')) := by
  intro pins s σ H Q I ⟨ρ, vw, q⟩
  refine pt_chain ho ho' ha hb hc hm pins s σ H Q I ?_
  have q1 := q.bind
  refine ⟨ρ, vw, q1.bind.imp fun p _ k v H1 s1 r1 => ⟨ρ, vw.same s1, (k.bind.same s1).imp fun p2 _ k2 u H2 s2 r2 => ?_⟩⟩
  obtain ⟨z, ez, k3⟩ := k2.bind.ofO
  obtain ⟨bb, rfl⟩ := hg _ _ _ ez
  refine ⟨p, p2, .bl bb, r1.same s2, r2, ez, fun w H3 s3 r3 => ?_⟩
  cases (show w = .bl bb from r3)
  refine ⟨bb, rfl, ?_⟩
  have s13 := (s1.trans s2).trans s3
  cases bb with
  | true =>
    refine iteT ⟨ρ, vw.same s13, ?_⟩
    refine (RQ.same (RQ.bind k3) s13).imp fun p3 _ k4 w4 H4 s4 r4 => ?_
    obtain ⟨z2, ez2, k5⟩ := k4.ofO
    obtain ⟨b2, rfl⟩ := hg' _ _ _ ez2
    refine ⟨p2, p3, .bl b2, (r2.same s3).same s4, r4, ez2, fun w5 H5 s5 r5 => ?_⟩
    cases (show w5 = .bl b2 from r5)
    obtain ⟨b3, eb, k6⟩ := k5.ofO
    cases eb
    exact ⟨b2, rfl, k6 H5 ((s13.trans s4).trans s5)⟩
  | false =>
    have k3 : RQ C H (R.ofO (truB (.bl false))) (fun b => ∀ H', Same H H' → Q b H') := k3
    obtain ⟨b3, eb, k6⟩ := RQ.ofO k3
    cases eb
    exact iteF ⟨false, rfl, k6 H3 s13⟩
end PU
end
section
namespace PU
open PySem PySem.Spec PyProof.Rows L2 PySem.SeqAt
def gSlA : PV → Option Int → Option Int → Option PV
  | .str x, lo, hi => if x.length ≤ 16777216 then some (.str (PySem.Txt.slice x lo hi)) else none
  | .lst ps, lo, hi => gSl (.lst ps) lo hi
  | .tup ps, lo, hi => gSl (.tup ps) lo hi
  | _, _, _ => none
def sliceA (f : PSt → R PV) (l h : PSt → R (Option Int)) : PSt → R PV := fun ρ => f ρ >>= fun p => l ρ >>= fun lo => h ρ >>= fun hi => R.ofO (gSlA p lo hi)
variable [TW]
def rSlA (K : PySem.W.Frag) : V → Option Int → Option Int → Hp → VK → Prop := fun v lo hi H Q => ∃ p z, RepO K H p v ∧ gSlA p lo hi = some z ∧ ∀ w H', Same H H' → Rep K H' z w → Q w H'
theorem slA {X : Cx} : SlR X (rSlA X.K) := by
  intro pins s σ H x v vl vu lo hi sl Q I rx hs pl pu ⟨p, z, rp, ez, k⟩
  cases p with
  | lst ps => exact slP pins s σ H x v vl vu lo hi sl Q I rx hs pl pu ⟨_, z, rp, ez, k⟩
  | tup ps => exact slP pins s σ H x v vl vu lo hi sl Q I rx hs pl pu ⟨_, z, rp, ez, k⟩
  | str y =>
    simp only [gSlA] at ez
    split at ez
    · rename_i hz
      cases ez
      cases (show x = .str y from rp)
      obtain ⟨t, rfl⟩ := rx
      have fin : ∀ (lo hi : Option Int) t' kk, (∀ w H', Same H H' → Rep X.K H' (.str (PySem.Txt.slice y lo hi)) w → Q w H') → EP X pins σ Q (.str (PySem.Txt.slice y lo hi) t') { s with toks := kk } := fun lo hi t' kk k => ⟨.str _, H, I.tok _, ⟨t', rfl⟩, k _ H (Same.refl H) rfl⟩
      obtain ⟨o, e1, e2, e3⟩ := hs
      have hz : y.length ≤ sizeLine := by rw [sizeLine_eq]; exact hz
      refine ⟨"str", _, PySem.F.slot_str_getitem.lookup, typeIs_str _ _ _, ?_⟩
      cases pl with
      | none =>
        cases pu with
        | none => exact wpAny_getItem_str_slice (l := none) (u := none) (st := none) ⟨o, e1, e2, e3⟩ rfl (post_val_or_str ⟨Nat.le_trans (PySem.Txt.slice_le y _ _) hz, fun t' kk => fin none none t' kk k⟩)
        | int j uj => exact wpAny_getItem_str_slice (l := none) (u := some (j, uj)) (st := none) ⟨o, e1, e2, e3⟩ rfl (post_val_or_str ⟨Nat.le_trans (PySem.Txt.slice_le y _ _) hz, fun t' kk => fin none (some j) t' kk k⟩)
      | int i ui =>
        cases pu with
        | none => exact wpAny_getItem_str_slice (l := some (i, ui)) (u := none) (st := none) ⟨o, e1, e2, e3⟩ rfl (post_val_or_str ⟨Nat.le_trans (PySem.Txt.slice_le y _ _) hz, fun t' kk => fin (some i) none t' kk k⟩)
        | int j uj => exact wpAny_getItem_str_slice (l := some (i, ui)) (u := some (j, uj)) (st := none) ⟨o, e1, e2, e3⟩ rfl (post_val_or_str ⟨Nat.le_trans (PySem.Txt.slice_le y _ _) hz, fun t' kk => fin (some i) (some j) t' kk k⟩)
    · cases ez
  | _ => cases ez
theorem ev_sliceA {C : Cn} {e : Expr} {f : PSt → R PV} {lo hi : Option Expr} {l h : PSt → R (Option Int)} {pos p2 : Pos} (ha : EO C e f) (hl : EOI C lo l) (hh : EOI C hi h) : EV C (.Subscript e (.Slice lo hi none p2) pos) (sliceA f l h) := by
  intro pins s σ H Q I ⟨ρ, vw, q⟩
  refine pe_slice slA ha hl hh pins s σ H Q I ⟨ρ, vw, q.bind.imp fun p _ k v H1 s1 r1 => ⟨ρ, vw.same s1, (k.bind.same s1).imp fun o1 _ k2 H2 s2 => ⟨ρ, (vw.same s1).same s2, (k2.bind.same (s1.trans s2)).imp fun o2 _ k3 H3 s3 => ?_⟩⟩⟩
  obtain ⟨z, ez, k4⟩ := k3.ofO
  exact ⟨p, z, (r1.same s2).same s3, ez, fun w H4 s4 r4 => k4 w H4 (((s1.trans s2).trans s3).trans s4) r4⟩
end PU
end
section
namespace PU
open PySem PySem.Spec PyProof.Rows L2 PySem.SeqAt
theorem mro_rev : mroOf (.type "reversed") = pure [.type "reversed", .type "object"] := by rw [mroOf_type]; kernel_rfl
theorem lookup_rev_new : typeLookup (.type "reversed") "__new__" = pure (some (.builtin "reversed.__new__")) := by rw [typeLookup_type, builtinLookup_eq_fast]; kernel_rfl
theorem made_rev : Bind.madeBy (.type "reversed") = pure (some "reversed.__new__") := madeBy_type mro_rev lookup_rev_new (by decide +kernel)
theorem typeCall_rev (a : Value) : checkTypeCall "reversed" ⟨[a], []⟩ = pure () := by kernel_rfl
theorem newCall_rev (a : Value) : checkBuiltinCall "reversed.__new__" ⟨[.type "reversed", a], []⟩ = pure () := by kernel_rfl
theorem entry_rev_new : entryFor table "reversed.__new__" = some Builtin.«reversed.__new__» := entryFor_of_tree (by kernel_rfl)
theorem plain_rev_new : plainId "reversed.__new__" = true := by decide +kernel
theorem sub_rev : isSubtype (.type "reversed") (.type "reversed") = pure true := by rw [isSubtype_type]; kernel_rfl
section
variable {prog : Program} {w : World} {A : Around} {E : Value → Shared → Prop} {s : Shared}
def IsRev (h : Heap) (it l : Addr) (i : Int) : Prop := ∃ o, h.get? it = some o ∧ o.cls = .type "list_reverseiterator" ∧ o.data = .fields #[.ref l, rawInt (i - 1)]
theorem IsRev.typeIs {it l : Addr} {i : Int} (h : IsRev s.heap it l i) : s.TypeIs (.ref it) "list_reverseiterator" := by
  obtain ⟨o, e, c, _⟩ := h
  exact ⟨o, e, c⟩
end
def Itv (K : PySem.W.Frag) (a : Addr) (n : Nat) : It :=
  ⟨fun i H => ∃ xs x, SqL K H a xs ∧ xs.length = n ∧ i < n ∧ xs[n - 1 - i]? = some x, fun i H x H' => H' = H ∧ ∀ xs, SqL K H a xs → xs[n - 1 - i]? = some x, fun i H => ∃ xs, SqL K H a xs ∧ xs.length = n ∧ i = n⟩
def revL (f : PSt → R PV) : PSt → R (List PV) := fun ρ => f ρ >>= fun p => (match p with
  | .lst ps => .ok ps.reverse
  | _ => .no)
variable [TW]
end PU
end
section
namespace PU
open PySem PySem.Spec PyProof.Rows L2 PySem.SeqAt PySem.Calls PyProof.V
def gNeA : PV → PV → Option PV
  | .dct ks ps, .dct ls qs => if pdeps ps ≤ 60 then (peqN 3 (.dct ks ps) (.dct ls qs)).map fun b => .bl (!b) else none
  | p, q => gNe p q
variable [TW]
section
variable {P : Program} {w : World} {κ : Type} [DecidableEq κ] {kd : KeyKind P w κ} {A : Around} {E : Value → Shared → Prop} {s : Shared}
end
end PU
end
section
namespace PU
open PySem PySem.Spec PyProof.Rows L2 PySem.SeqAt
def zipP (ps qs : List PV) : List (List PV) := ps.zipWith (fun a b => [a, b]) qs
def flatP : PV → Bool
  | .non | .bl _ | .int _ | .str _ => true
  | _ => false
def zipF (f g : PSt → R PV) : PSt → R (List PV) := fun ρ => f ρ >>= fun p => g ρ >>= fun q => (match p, q with
  | .lst ps, .lst qs => if (ps.all flatP || qs.all flatP) = true then .ok ((zipP ps qs).map .tup) else .no
  | _, _ => .no)
variable [TW]
section
variable {P : Program} {w : World} {K : PySem.W.Frag} {elts : List Expr} {kk : Nat} {tp : Pos}
def zipV (xs ys : List V) : List (List V) := xs.zipWith (fun a b => [a, b]) ys
theorem flat_val {x : V} {u : Value} (r : RelV x u) (h : ∀ b, x ≠ .ref b) : ¬ ∃ b, u = Value.ref b := fun ⟨b, e⟩ => by
  subst e
  cases x with
  | ref a => exact h a rfl
  | non => cases r
  | bl b => cases r
  | ty n => cases r
  | int i => obtain ⟨t, r⟩ := r; cases r
  | str i => obtain ⟨t, r⟩ := r; cases r
  | byt i => obtain ⟨t, r⟩ := r; cases r
  | flt i => obtain ⟨t, r⟩ := r; cases r
theorem flat_rep {K : PySem.W.Frag} {H : Hp} {p : PV} {x : V} (hf : flatP p = true) (r : Rep K H p x) : ∀ b, x ≠ .ref b := fun b e => by
  subst e
  cases p with
  | non => cases (show V.ref b = _ from r)
  | bl _ => cases (show V.ref b = _ from r)
  | int _ => cases (show V.ref b = _ from r)
  | str _ => cases (show V.ref b = _ from r)
  | _ => cases hf
theorem flat_reps {K : PySem.W.Frag} {H : Hp} {ps : List PV} {xs : List V} (hf : ps.all flatP = true) (r : Reps K H ps xs) : ∀ x ∈ xs, ∀ b, x ≠ .ref b := fun x hx => by
  obtain ⟨i, hi⟩ := List.mem_iff_getElem?.mp hx
  have hl := r.length
  have hlt : i < ps.length := by rw [hl]; exact (List.getElem?_eq_some_iff.mp hi).1
  have e1 : ps[i]? = some ps[i] := by simp [hlt]
  obtain ⟨y, ey, ry⟩ := r.get e1
  rw [hi] at ey
  cases ey
  exact flat_rep (List.all_eq_true.mp hf _ (List.getElem_mem hlt)) ry
theorem turn_zip (z TI TO i1 i2 a b : Addr) (D : ZipApart z TI TO i1 i2 a b) (xs ys : List V) (hfl : (∀ x ∈ xs, ∀ b, x ≠ V.ref b) ∨ (∀ y ∈ ys, ∀ b, y ≠ V.ref b)) :
    Turn P w K (.Tuple elts kk tp) (ItPairs (min xs.length ys.length) (fun H => SqL K H a xs ∧ SqL K H b ys) (zipV xs ys)) [z, TI, TO, i1, i2] z
      (fun i h => IsZip h z TI TO .none ∧ IsPair h TI (.ref i1) (.ref i2) ∧ (∃ a b, IsPair h TO a b) ∧ h.IsListIter i1 a i ∧ h.IsListIter i2 b i) := by
  refine turn_T (wr := [z, TO, i1, i2]) (n := min xs.length ys.length) (fun X pins σ H s i hP hw hK hc I st hg => ?_) (by simp) (fun b hb => by simp at hb ⊢; rcases hb with rfl | rfl | rfl | rfl <;> simp) (fun i h st b hb => ?_) (fun i h h' st k => ?_) (fun i H h => h.1) (fun i H h => h.1) fun A i s Q E st h => wpAny_pyIter_zip st.1 h
  · subst hP hw hK
    obtain ⟨hq1, hq2⟩ : SqL X.K H a xs ∧ SqL X.K H b ys := by rcases hg with h | h <;> exact h.2
    obtain ⟨its1, rv1, pl1, hz1⟩ := I.list hq1
    obtain ⟨its2, rv2, pl2, hz2⟩ := I.list hq2
    have hl1 := rv1.length
    have hl2 := rv2.length
    have W := WalksT.zip2 (prog := X.prog) (w := X.w) (A := X.A) (I.ok.hd hc) z TI TO i1 i2 a b D its1.toArray its2.toArray
    rw [show min its1.toArray.size its2.toArray.size = min xs.length ys.length by simp [hl1, hl2]] at W
    refine ⟨_, _, _, _, W, ⟨st.1, st.2.1, st.2.2.1, st.2.2.2.1, st.2.2.2.2, pl1.isList, pl2.isList⟩, fun j h st => ⟨st.1, st.2.1, st.2.2.1, st.2.2.2.1, st.2.2.2.2.1⟩, fun vals hv => ?_⟩
    obtain ⟨x, y, hx, hy, rfl⟩ := hv
    have hx : its1[i]? = some x := by simpa using hx
    have hy : its2[i]? = some y := by simpa using hy
    have h1 : i < xs.length := by rw [hl1]; exact (List.getElem?_eq_some_iff.mp hx).1
    have h2 : i < ys.length := by rw [hl2]; exact (List.getElem?_eq_some_iff.mp hy).1
    have e1 : xs[i]? = some xs[i] := by simp [h1]
    have e2 : ys[i]? = some ys[i] := by simp [h2]
    obtain ⟨u, eu, ru⟩ := rv1.get e1
    rw [hx] at eu
    cases eu
    obtain ⟨v, ev, rv⟩ := rv2.get e2
    rw [hy] at ev
    cases ev
    refine ⟨[xs[i], ys[i]], .cons ru (.cons rv .nil), by show 2 ≤ sizeLine; decide, fun z => ?_, fun T hT => ⟨T, _, rfl, hT, ?_, rfl⟩⟩
    · rcases hfl with g | g
      · exact flat_val ru (g _ (List.getElem_mem h1)) (z _ List.mem_cons_self)
      · exact flat_val rv (g _ (List.getElem_mem h2)) (z _ (List.mem_cons_of_mem _ List.mem_cons_self))
    unfold zipV
    rw [List.getElem?_zipWith, e1, e2]
  · obtain ⟨hz, hTI, ⟨u, v, hTO⟩, ⟨o1, ho1, _, hd1⟩, o2, ho2, _, hd2⟩ := st
    simp only [List.mem_cons, List.not_mem_nil, or_false] at hb
    rcases hb with rfl | rfl | rfl | rfl | rfl
    · exact ⟨_, hz, fun v z => by cases (show Data.fields _ = Data.cell v from z)⟩
    · exact ⟨_, hTI, fun v z => by cases (show Data.seq _ _ = Data.cell v from z)⟩
    · exact ⟨_, hTO, fun v z => by cases (show Data.seq _ _ = Data.cell v from z)⟩
    · exact ⟨o1, ho1, fun v z => by rw [hd1] at z; cases z⟩
    · exact ⟨o2, ho2, fun v z => by rw [hd2] at z; cases z⟩
  · obtain ⟨hz, hTI, ⟨u, v, hTO⟩, h1, h2⟩ := st
    exact ⟨k z (by simp) _ hz, k TI (by simp) _ hTI, ⟨u, v, k TO (by simp) _ hTO⟩, h1.at fun o x => k i1 (by simp) o x, h2.at fun o x => k i2 (by simp) o x⟩
end
theorem zip_reps {K : PySem.W.Frag} {H : Hp} {ps qs : List PV} {xs ys : List V} (r1 : Reps K H ps xs) (r2 : Reps K H qs ys) : ∀ (i : Nat) (zs : List PV) (ws : List V), (zipP ps qs)[i]? = some zs → (zipV xs ys)[i]? = some ws → Reps K H zs ws := fun i zs ws h1 h2 => by
  unfold zipP at h1
  unfold zipV at h2
  rw [List.getElem?_zipWith] at h1 h2
  cases e : ps[i]? with
  | none => rw [e] at h1; cases h1
  | some p =>
    cases e2 : qs[i]? with
    | none => rw [e, e2] at h1; cases h1
    | some q =>
      rw [e, e2] at h1
      obtain ⟨x, ex, rp⟩ := r1.get e
      obtain ⟨y, ey, rq⟩ := r2.get e2
      rw [ex, ey] at h2
      cases h1
      cases h2
      exact ⟨_, _, rfl, rp, _, _, rfl, rq, rfl⟩
theorem ei_zip {C : Cn} {e e2 : Expr} {elts : List Expr} {kk : Nat} {tp p pos : Pos} {f g : PSt → R PV} (hg : Gl C.X "zip") (hm : C.X.mg "zip" = none) (he : EV C e f) (he2 : EV C e2 g)
    (hs : starEach [e, e2] C.X.env = [(false, eval e C.X.env), (false, eval e2 C.X.env)] := by exact star_two rfl rfl) (hs2 : starEach [e2] C.X.env = [(false, eval e2 C.X.env)] := by exact star_one rfl) :
    EI C (.Tuple elts kk tp) (.Call (.Name "zip" p) [e, e2] [] pos) (zipF f g) := by
  intro pins s σ H Rk I ⟨ρ, vw, q⟩
  refine Call_ (ld_blt I hg hm PyProof.Rows.boot_zip (PyProof.Rows.callWith_type1 (thn ((pa_cons he (pa_cons he2 pa_nil hs2) (by rw [hs, hs2])) pos pins s σ H (fun vs H' => ∃ v u ps qs, vs = [v, u] ∧ Same H H' ∧ Rep C.X.K H' (.lst ps) v ∧ Rep C.X.K H' (.lst qs) u ∧ (ps.all flatP || qs.all flatP) = true ∧ ∀ J H2, Same H' H2 → ItP C.X.K J H2 ((zipP ps qs).map .tup) → Rk J H2) I ⟨ρ, vw, q.bind.imp fun p _ k v H1 s1 r1 => ⟨ρ, vw.same s1, (k.bind.same s1).imp fun p2 _ k2 u H2 s2 r2 => ?_⟩⟩)
    fun us s1 ⟨vs, H1, I1, r1, v, u, ps, qs, ev, sm, rp, rq, hfl, k⟩ => ?_) (by rw [hs, hs2]) (by rw [hs2]; rfl)))
  · cases p with
    | lst ps =>
      cases p2 with
      | lst qs =>
        by_cases hfl : (ps.all flatP || qs.all flatP) = true
        · simp only [if_pos hfl] at k2
          exact ⟨v, u, ps, qs, rfl, s1.trans s2, r1.same s2, r2, hfl, fun J H3 s3 it => k2 J H3 ((s1.trans s2).trans s3) it⟩
        · simp only [if_neg hfl] at k2
          exact False.elim k2
      | _ => exact False.elim k2
    | _ => exact False.elim k2
  · subst ev
    obtain ⟨w1, w2, rfl, rw1, rw2⟩ := vals2 r1
    obtain ⟨a, xs, rfl, g1, rr1⟩ := rp
    obtain ⟨b, ys, rfl, g2, rr2⟩ := rq
    cases rw1
    cases rw2
    obtain ⟨its1, rv1, pl1, hz1⟩ := I1.list g1.l.l
    obtain ⟨its2, rv2, pl2, hz2⟩ := I1.list g2.l.l
    have ha : a < s1.heap.objs.size := by obtain ⟨o, n, ho, _⟩ := pl1; exact Heap.lt_size ho
    have hb : b < s1.heap.objs.size := by obtain ⟨o, n, ho, _⟩ := pl2; exact Heap.lt_size ho
    have hfl2 : (∀ x ∈ xs, ∀ b, x ≠ V.ref b) ∨ (∀ y ∈ ys, ∀ b, y ≠ V.ref b) := by
      cases hA : ps.all flatP with
      | true => exact .inl (flat_reps hA rr1)
      | false =>
        rw [hA, Bool.false_or] at hfl
        exact .inr (flat_reps hfl rr2)
    refine call_zip_2 pl1.isList pl2.isList fun h' z1 z2 z3 z4 z5 hsz hk => wpAny_pyIter_zip z1 ?_
    refine ⟨_, [s1.heap.objs.size + 4, s1.heap.objs.size + 2, s1.heap.objs.size + 3, s1.heap.objs.size, s1.heap.objs.size + 1], _, _, H1, rfl, I1.kept (t' := s1.toks) hk, turn_zip (s1.heap.objs.size + 4) (s1.heap.objs.size + 2) (s1.heap.objs.size + 3) s1.heap.objs.size (s1.heap.objs.size + 1) a b (zipApart_new ha hb) xs ys hfl2, ⟨z1, z2, ⟨_, _, z3⟩, z4, z5⟩, fun c hc => ?_, k _ H1 (Same.refl H1) ?_⟩
    · have hc : s1.heap.objs.size ≤ c := by
        simp only [List.mem_cons, List.not_mem_nil, or_false] at hc
        rcases hc with rfl | rfl | rfl | rfl | rfl <;> omega
      exact I1.fpOk hc (I1.hok.fresh hc)
    · refine itPairs ?_ (fun H2 k2 => ⟨(k2.sqF g1).l.l, (k2.sqF g2).l.l⟩) (zip_reps rr1 rr2)
      unfold zipP
      rw [List.length_zipWith, rr1.length, rr2.length]
end PU
end
section
namespace PU
open PySem PySem.Spec PyProof.Rows L2 PySem.SeqAt
def gDictC : PV → Option PV
  | .dct ks ps => some (.dct ks ps)
  | _ => none
section
variable [TW]
theorem cDictC {X : Cx} (hw : X.w = TW.w := by rfl) : CallR X (.type "dict") (rn1 X.K gDictC) := by
  intro pins s σ H xs us Q I r ⟨v, p, z, e1, rp, ez, k⟩
  subst e1
  cases p with
  | dct ks ps =>
    obtain ⟨a, kvs, rfl, g, e1, rr⟩ := rp
    cases ez
    obtain ⟨u, rfl, ru⟩ := vals1 r
    cases ru
    obtain ⟨hz, hS, vs, rel, D⟩ := DkR.at hw I g
    have hl : kvs.length = vs.length := Paired.length rel
    refine kt_call_dict hS D (by omega) fun h' D' sb => ?_
    have nf : H s.heap.objs.size = none := I.fresh
    have keep : ∀ b u, s.heap.get? b = some u → h'.get? b = some u := fun b u q => by
      have hb : b ≠ s.heap.objs.size := Nat.ne_of_lt (Heap.lt_size q)
      rw [sb.2 b hb]
      exact Heap.get?_push_of_some _ q
    have hne : (s.heap.objs.size == sysModules) = false := by
      have hb := I.big
      refine beq_eq_false_iff_ne.mpr fun e => ?_
      rw [e] at hb
      exact Nat.lt_irrefl _ hb
    have I2 := I.laid (a := s.heap.objs.size) (o := .dK kvs) (h' := h') (t' := s.toks) keep (Nat.le_refl _) ⟨hz, hne, vs, rel, D'⟩
    exact ⟨.ref _, _, I2, rfl, k _ _ (Same.new nf) nf ⟨_, upd_same, e1, rr.same (Same.new nf)⟩⟩
  | _ => cases ez
end
theorem lk_tuple_rev : typeLookup (.type "tuple") "__reversed__" = pure none := by rw [typeLookup_type, builtinLookup_eq_fast]; kernel_rfl
theorem sub_tuple_dict : isSubtype (.type "tuple") (.type "dict") = pure false := by rw [isSubtype_type]; kernel_rfl
theorem slot_rev_init : Slot "reversed" "__init__" "object.__init__" :=
  .of (owner := "object") (n := "__init__") (by rw [typeLookup_type, builtinLookup_eq_fast]; kernel_rfl) (by decide +kernel) (by decide +kernel) (by decide +kernel)
    (by first | exact .inl (by decide +kernel) | exact .inr (by decide +kernel)) (by rw [isSubtype_type]; kernel_rfl)
theorem called_rev : TypeCalled "reversed" "reversed.__new__" "object.__init__" :=
  ⟨by decide +kernel, by decide +kernel, ⟨_, _, mro_rev⟩, made_rev, by decide +kernel, sub_rev, slot_rev_init⟩
theorem slot_rev_next : Slot "reversed" "__next__" "reversed.__next__" :=
  .of (owner := "reversed") (n := "__next__") (by rw [typeLookup_type, builtinLookup_eq_fast]; kernel_rfl) (by decide +kernel) (by decide +kernel) (by decide +kernel)
    (by first | exact .inl (by decide +kernel) | exact .inr (by decide +kernel)) (by rw [isSubtype_type]; kernel_rfl)
theorem entry_rev_next : entryFor table "reversed.__next__" = some Builtin.«reversed.__next__» := entryFor_of_tree (by kernel_rfl)
theorem slot_rev_iter : Slot "reversed" "__iter__" "reversed.__iter__" :=
  .of (owner := "reversed") (n := "__iter__") (by rw [typeLookup_type, builtinLookup_eq_fast]; kernel_rfl) (by decide +kernel) (by decide +kernel) (by decide +kernel)
    (by first | exact .inl (by decide +kernel) | exact .inr (by decide +kernel)) (by rw [isSubtype_type]; kernel_rfl)
theorem entry_rev_iter : entryFor table "reversed.__iter__" = some Builtin.«dict_keyiterator.__iter__» :=
  entryFor_alias (id' := "dict_keyiterator.__iter__") (by kernel_rfl) (by first | rfl | decide +kernel | (unfold String.splitOn; simp +decide [String.splitOnAux])) (by decide +kernel) (by kernel_rfl)
theorem owner_rev : Manifest.owners.lookup (String.ofList "reversed".toList.reverse.reverse) = some Manifest.sig_reversed := by kernel_rfl
theorem args_rev_next (a : Value) : argsOk "reversed.__next__" ⟨[a], []⟩ := by
  unfold argsOk; rw [signature?_of (id := "reversed.__next__") (n := "__next__".toList.reverse) (o := "reversed".toList.reverse) (by kernel_rfl) owner_rev]; kernel_rfl
theorem args_rev_iter (a : Value) : argsOk "reversed.__iter__" ⟨[a], []⟩ := by
  unfold argsOk; rw [signature?_of (id := "reversed.__iter__") (n := "__iter__".toList.reverse) (o := "reversed".toList.reverse) (by kernel_rfl) owner_rev]; kernel_rfl
section
variable {prog : Program} {w : World} {A : Around} {E : Value → Shared → Prop} {s : Shared}
def IsRvt (h : Heap) (it l : Addr) (i : Int) : Prop := ∃ o, h.get? it = some o ∧ o.cls = .type "reversed" ∧ o.data = .fields #[.ref l, rawInt (i - 1)]
theorem IsRvt.typeIs {it l : Addr} {i : Int} (h : IsRvt s.heap it l i) : s.TypeIs (.ref it) "reversed" := by
  obtain ⟨o, e, c, _⟩ := h
  exact ⟨o, e, c⟩
theorem code_rvt_new {l : Addr} {items : Array Value} {Q₁ : Value → Shared → Prop} (hl : s.heap.IsTuple l items) (hz : items.size ≤ sizeLine)
    (h : ∀ tk, Q₁ (.ref s.heap.objs.size) { s with heap := s.heap.push { cls := .type "reversed", data := .fields #[.ref l, rawInt ((items.size : Int) - 1)] }, toks := tk }) :
    codeAny (model prog w) A (.call (.builtin "reversed.__new__") ⟨[.type "reversed", .ref l], []⟩) (wants Q₁ E) s := by
  refine codeAny_call_builtin plain_rev_new entry_rev_new (wpAny_of_eq (newCall_rev _) ?_)
  have hsub := sub_rev
  have hmro := mro_rev
  have hT : s.TypeIs (.ref l) "tuple" := by obtain ⟨o, e, c, _⟩ := hl; exact ⟨o, e, c⟩
  have h1 := lk_tuple_rev
  have h2 := sub_tuple_dict
  have h3 := PyProof.Rows.slot_tuple_getitem.lookup
  unfold Builtin.«reversed.__new__»
  have hf : (items.size : Int) < 2 ^ 63 := by have := line63; omega
  obtain ⟨hp, g, d, tk, os⟩ := s
  have hl' : IsTup (Shared.heap ⟨hp, g, d, tk, os⟩) l items := hl
  wp_walk using PyProof.Rows.len_tuple hl' hf
  exact h _
theorem call_rvt {l : Addr} {items : Array Value} {Q : Value → Shared → Prop} (hl : s.heap.IsTuple l items) (hz : items.size ≤ sizeLine)
    (h : ∀ tk, Q (.ref s.heap.objs.size) { s with heap := s.heap.push { cls := .type "reversed", data := .fields #[.ref l, rawInt ((items.size : Int) - 1)] }, toks := tk }) :
    wpAny (model prog w) A (call (.type "reversed") [.ref l]) Q E s := by
  refine callType_codes (Q₁ := fun obj s₁ => s₁.TypeIs obj "reversed" ∧ Q obj s₁) called_rev (typeCall_rev _) PySem.F.entry_object_init (code_rvt_new hl hz fun tk => ⟨⟨_, Heap.get?_push_size _ rfl, rfl⟩, h tk⟩) fun obj s₁ hq => ⟨hq.1, PySem.F.args_object_init_2 obj _, ?_⟩
  exact object_init_meets called_rev.init.lookup called_rev.made (by decide) prog w A.in1 _ s₁ ⟨hq.1, rfl, hq.2⟩
theorem next_rvt_item {it l : Addr} {j : Nat} {items : Array Value} {x : Value} {Q : Option Value → Shared → Prop} (hit : IsRvt s.heap it l ((j : Int) + 1)) (hl : s.heap.IsTuple l items) (hne : l ≠ it) (hz : items.size ≤ sizeLine) (hx : items[j]? = some x)
    (hQ : ∀ h' tk, IsRvt h' it l (j : Int) → Heap.SameBut it s.heap h' → Q (some x) { s with heap := h', toks := tk }) : wpAny (model prog w) A (pyNext (.ref it)) Q E s := by
  obtain ⟨o, ho, hc, hd⟩ := id hit
  have hT : s.TypeIs (.ref l) "tuple" := by obtain ⟨o, e, c, _⟩ := hl; exact ⟨o, e, c⟩
  have hj : j < items.size := (Array.getElem?_eq_some_iff.mp hx).1
  unfold pyNext
  refine wpAny_bind (wpAny_attempt (wpAny_callSpecial?_slot (name := Str.ofString "__next__") hit.typeIs slot_rev_next
    (wpAny_call_entry slot_rev_next hit.typeIs entry_rev_next ?_ (args_rev_next _))))
  show wpAny _ _ (field (.ref it) 0 >>= _) _ _ s
  have e1 : (j : Int) + 1 - 1 = j := by omega
  rw [e1] at hd
  refine wpAny_bind (wpAny_field ho hd (x := .ref l) rfl ?_)
  show wpAny _ _ (field (.ref it) 1 >>= _) _ _ s
  refine wpAny_bind (wpAny_field ho hd (x := rawInt (j : Int)) rfl ?_)
  show wpAny _ _ (if ((j : Int) < 0) then _ else _) _ _ s
  rw [if_neg (by omega)]
  refine wpAny_bind (wpAny_specialOf hT PyProof.Rows.slot_tuple_getitem.lookup ?_)
  dsimp only
  rw [if_neg (by simp)]
  refine wpAny_bind (wpAny_mkInt ?_)
  have hseq : seqIndex? (j : Int) items.size = some j := by
    unfold seqIndex?
    simp
    omega
  have hl63 := line63
  refine wpAny_bind (wpAny_attempt (PyProof.Rows.getItem_tuple (s := { s with toks := s.toks + 1 }) hl (by omega) (by omega) hseq hx ?_))
  dsimp only
  refine wpAny_bind (wpAny_field (s := { s with toks := s.toks + 1 }) ho hd (x := rawInt (j : Int)) rfl ?_)
  show wpAny _ _ (setField (.ref it) 1 (rawInt ((j : Int) - 1)) >>= _) _ _ _
  refine wpAny_bind (wpAny_setField (s := { s with toks := s.toks + 1 }) ho hd (by simp) (wpAny_pure ⟨x, rfl, wpAny_pure (hQ _ _ ?_ (Heap.SameBut.update ..))⟩))
  exact ⟨_, Heap.get?_update_self _ ho (Obj.isFreed_of_fields (Obj.data_mapFields hd _)), (Obj.cls_mapFields ..).trans hc, by
    rw [Obj.data_mapFields hd]; simp [rawInt]⟩
theorem next_rvt_end {it l : Addr} {Q : Option Value → Shared → Prop} (hh : A.handled = none) (hit : IsRvt s.heap it l 0)
    (hQ : ∀ h' tk, Heap.ExtBut it s.heap h' → Q none { s with heap := h', toks := tk }) : wpAny (model prog w) A (pyNext (.ref it)) Q E s := by
  obtain ⟨o, ho, hc, hd⟩ := id hit
  unfold pyNext
  refine wpAny_bind (wpAny_attempt (wpAny_callSpecial?_slot (name := Str.ofString "__next__") hit.typeIs slot_rev_next
    (wpAny_call_entry slot_rev_next hit.typeIs entry_rev_next ?_ (args_rev_next _))))
  show wpAny _ _ (field (.ref it) 0 >>= _) _ _ s
  refine wpAny_bind (wpAny_field ho hd (x := .ref l) rfl ?_)
  show wpAny _ _ (field (.ref it) 1 >>= _) _ _ s
  refine wpAny_bind (wpAny_field ho hd (x := rawInt (0 - 1 : Int)) rfl ?_)
  show wpAny _ _ (if ((0 - 1 : Int) < 0) then _ else _) _ _ s
  rw [if_pos (by omega)]
  refine wpAny_bind (wpAny_rule (wpAny_bind ?_))
  show wpAny _ _ (setField (.ref it) 1 (rawInt (-1)) >>= fun _ => setField (.ref it) 0 .none) _ _ _
  refine wpAny_bind (wpAny_setField ho hd (by simp) ?_)
  have ho1 := Heap.get?_update_self (Obj.mapFields fun x => x.setIfInBounds 1 (rawInt (-1))) ho (Obj.isFreed_of_fields (Obj.data_mapFields hd _))
  have hd1 := Obj.data_mapFields hd (fun x : Array Value => x.setIfInBounds 1 (rawInt (-1)))
  refine wpAny_setField ho1 hd1 (by simp) (wpAny_bind ?_)
  unfold Builtin.SmallTypes.stopIteration
  refine wpAny_bind ?_
  simp only [newExc, newTuple]
  refine wpAny_bind (wpAny_newObj_type ?_ (by size_fits))
  refine wpAny_bind (m := firstArgMember _ _) (wpAny_of_eq (a := Value.none) (by first | rfl | (simp only [firstArgMember]; rfl)) ?_)
  refine wpAny_newObj_type ?_ (by size_fits)
  simp only [raiseNew]
  refine wpAny_bind (wpAny_handled ?_)
  first | rw [show A.in1.handled = none from hh] | rw [hh]
  refine wpAny_bind (wpAny_pure (wpAny_throw ?_))
  refine wpAny_bind (wpAny_isInstance (T := "StopIteration") (b := true) ⟨_, Heap.get?_push_size _ rfl, rfl⟩ isSubtype_stop ?_)
  refine wpAny_pure (hQ _ s.toks fun b ob hb e => ?_)
  refine Heap.get?_push_of_some _ (Heap.get?_push_of_some _ ?_)
  rw [Heap.get?_update_other _ _ (Ne.symm hb), Heap.get?_update_other _ _ (Ne.symm hb)]
  exact e
theorem iter_rvt {it l : Addr} {i : Int} {Q : Value → Shared → Prop} (hit : IsRvt s.heap it l i) (h : Q (.ref it) s) : wpAny (model prog w) A (pyIter (.ref it)) Q E s := by
  refine wpAny_pyIter_slot hit.typeIs slot_rev_iter (wpAny_call_entry slot_rev_iter hit.typeIs entry_rev_iter ?_ (args_rev_iter _))
  show wpAny _ _ (PySem.ret (.ref it)) _ _ s
  exact wpAny_pure ⟨_, rfl, "reversed", _, hit.typeIs, slot_rev_next.lookup, h⟩
end
def Itw (K : PySem.W.Frag) (a : Addr) (n : Nat) : It :=
  ⟨fun i H => ∃ xs x, SqT K H a xs ∧ xs.length = n ∧ i < n ∧ xs[n - 1 - i]? = some x, fun i H x H' => H' = H ∧ ∀ xs, SqT K H a xs → xs[n - 1 - i]? = some x, fun i H => ∃ xs, SqT K H a xs ∧ xs.length = n ∧ i = n⟩
theorem turn_rvt {P : Program} {w : World} {K : PySem.W.Frag} {tg : Expr} (a it : Addr) (n : Nat) (hne : a ≠ it) : Turn P w K tg (Itw K a n) [it] it (fun i h => IsRvt h it a ((n : Int) - i)) where
  mem := by simp
  obj := fun i h st b hb => by
    have e : b = it := by simpa using hb
    subst e
    obtain ⟨o, e, c, d⟩ := st
    exact ⟨o, e, fun v z => by rw [d] at z; cases z⟩
  keep := fun i h h' st k => by
    obtain ⟨o, e, c, d⟩ := st
    exact ⟨o, k it (by simp) o e, c, d⟩
  item := by
    intro X hP hw hK hc i pins s σ H E I hf st hg
    subst hP hw hK
    obtain ⟨xs, x, hq, hn, hi, hx⟩ := hg
    obtain ⟨its, rv, p, hz⟩ := I.tuple hq
    obtain ⟨u, hu, ru⟩ := rv.get hx
    obtain ⟨f0, f1, f2, f3, f4, f5⟩ := hf it (by simp)
    have e1 : (n : Int) - i = ((n - 1 - i : Nat) : Int) + 1 := by omega
    have e2 : ((n - 1 - i : Nat) : Int) = (n : Int) - ((i + 1 : Nat) : Int) := by omega
    rw [e1] at st
    refine next_rvt_item st (show s.heap.IsTuple a its.toArray from p) hne (by rw [List.size_toArray, ← rv.length]; exact hz) (x := u) (by simpa using hu) fun h' tk st' sb => ?_
    rw [e2] at st'
    have I1 : L2.Inv X pins σ H { s with heap := h', toks := tk } := I.turned (t' := tk) (fun b o hb e => (sb.2 b hb).trans e) f0 f1 f3 f4 f5
    obtain ⟨o, e, c, d⟩ := id st'
    exact ⟨u, rfl, go_of (s := { s with heap := h', toks := tk }) e c d (by decide) ⟨x, H, I1, ru, ⟨rfl, fun ys hy => by rw [I.tuple_inj hy hq]; exact hx⟩, st', fun b hb => (hf b hb).1⟩⟩
  done := by
    intro X hP hw hK hc i pins s σ H E I hf st hg
    subst hP hw hK
    obtain ⟨xs, hq, hn, hi⟩ := hg
    obtain ⟨f0, f1, f2, f3, f4, f5⟩ := hf it (by simp)
    have e1 : (n : Int) - i = 0 := by omega
    rw [e1] at st
    exact next_rvt_end (I.ok.hd hc) st fun h' tk eb => ⟨rfl, I.turned (t' := tk) (fun b o hb e => eb b o hb e) f0 f1 f3 f4 f5⟩
  self := fun _ _ _ _ _ st h => iter_rvt st h
def revT (f : PSt → R PV) : PSt → R (List PV) := fun ρ => f ρ >>= fun p => (match p with
  | .tup ps => .ok ps.reverse
  | _ => .no)
section
variable [TW]
theorem it_rvt {K : PySem.W.Frag} {H : Hp} {a : Addr} {xs : List V} {ps : List PV} (g : SqT K H a xs) (r : Reps K H ps xs) : ItP K (Itw K a xs.length) H ps.reverse := fun i H' k => by
  have g' := k.sqT g
  have r' := Reps.kp k ps r
  have hl := r'.length
  refine ⟨fun h => ⟨xs, g', rfl, by rw [List.length_reverse] at h; omega⟩, fun p e => ?_⟩
  have hi : i < ps.length := by
    have := (List.getElem?_eq_some_iff.mp e).1
    rwa [List.length_reverse] at this
  rw [List.getElem?_reverse hi] at e
  obtain ⟨x, ex, rp⟩ := r'.get e
  rw [hl] at ex
  exact ⟨⟨xs, x, g', rfl, by omega, ex⟩, fun y H2 ⟨eh, hy⟩ => by
    subst eh
    have := hy xs g'
    rw [ex] at this
    cases this
    exact ⟨Same.refl _, rp⟩⟩
theorem ei_revT {C : Cn} {e tg : Expr} {p pos : Pos} {f : PSt → R PV} (hg : Gl C.X "reversed") (hm : C.X.mg "reversed" = none) (he : EV C e f) (hs : starEach [e] C.X.env = [(false, eval e C.X.env)] := by exact star_one rfl) :
    EI C tg (.Call (.Name "reversed" p) [e] [] pos) (revT f) := by
  intro pins s σ H Rk I ⟨ρ, vw, q⟩
  refine Call_ (ld_blt I hg hm PyProof.Rows.boot_reversed (PyProof.Rows.callWith_type1 (thn ((pa_cons he pa_nil hs) pos pins s σ H (fun vs H' => ∃ v ps, vs = [v] ∧ Same H H' ∧ Rep C.X.K H' (.tup ps) v ∧ ∀ J H2, Same H' H2 → ItP C.X.K J H2 ps.reverse → Rk J H2) I ⟨ρ, vw, q.bind.imp fun p _ k v H' s' r => ?_⟩)
    fun us s1 ⟨vs, H1, I1, r1, v, ps, ev, sm, rp, k⟩ => ?_) hs rfl))
  · cases p with
    | tup ps => exact ⟨v, ps, rfl, s', r, fun J H2 s2 it => k J H2 (s'.trans s2) it⟩
    | _ => exact False.elim k
  · subst ev
    obtain ⟨u, rfl, ru⟩ := vals1 r1
    obtain ⟨a, xs, rfl, g, rr⟩ := rp
    cases ru
    obtain ⟨its, rv, p, hz⟩ := I1.tuple g
    have hl : its.toArray.size = xs.length := by rw [List.size_toArray, rv.length]
    have ha : a < s1.heap.objs.size := by obtain ⟨o, ho, _⟩ := p; exact Heap.lt_size ho
    refine call_rvt (show s1.heap.IsTuple a its.toArray from p) (by rw [hl]; exact hz) fun tk => iter_rvt (l := a) (i := (its.toArray.size : Int)) ⟨_, Heap.get?_push_size _ rfl, rfl, rfl⟩ ?_
    refine ⟨s1.heap.objs.size, [s1.heap.objs.size], _, _, H1, rfl, I1.kept (t' := tk) fun b o e => Heap.get?_push_of_some _ e, turn_rvt a _ xs.length (Nat.ne_of_lt ha), ⟨_, Heap.get?_push_size _ rfl, rfl, ?_⟩, fun b hb => ?_, k _ H1 (Same.refl H1) (it_rvt g rr)⟩
    · rw [hl]
      simp
    · have e : b = s1.heap.objs.size := by simpa using hb
      subst e
      exact I1.fpOk (Nat.le_refl _) (I1.hok.fresh (Nat.le_refl _))
end
end PU
end
section
namespace PU
open PySem PySem.Spec PyProof.Rows L2
variable [TW]
def spN (K : PySem.W.Frag) (n : Nat) (F : List PV → Option PV) : Sp := fun vs H Q _ => vs.length = n ∧ ∃ ps p, Reps K H ps vs ∧ F ps = some p ∧ ∀ a H', Same H H' → H a = none → NewAt K H' a p → Q (.ref a) H'
structure PFN (P : Program) (w : World) (K : PySem.W.Frag) (mg : Str → Option Value) (base : Heap) (k : Nat) (x : Str) (F : List PV → Option PV) : Prop where
  ex : ∃ (f : Addr) (fd : FuncData) (ps : List Str), FnOk P w K mg base CX0 k f fd ps (spN K ps.length F) ∧ mg x = some (.ref f) ∧ PySem.W.keepIn K (.ref f) = true ∧ Binds K fd ps [] ∧ ∀ qs p, F qs = some p → qs.length = ps.length
section
variable {C : Cn} {e : Expr} {es : List Expr} {fs : PSt → R (List PV)} {x : Str} {k : Nat} {F : List PV → Option PV} {p pos : Pos}
end
section
variable {P : Program} {w : World} {K : PySem.W.Frag} {mg : Str → Option Value} {base : Heap}
end
def ItS (K : PySem.W.Frag) (J : It) (H₁ : Hp) (ps : List PV) : Prop :=
  ∀ (i : Nat) (H : Hp), Same H₁ H → (i = ps.length → J.stop i H) ∧ ∀ p, ps[i]? = some p → J.go i H ∧ ∀ x H', J.yld i H x H' → Same H H' ∧ Rep K H' p x
def tIS (C : Cn) (f : PSt → R (List PV)) : TI := fun σ H Q => ∃ ρ, View C.X.K H σ ρ ∧ RQ C H (f ρ) fun ps => ∀ J H', Same H H' → ItS C.X.K J H' ps → Q J H'
def EIS (C : Cn) (tg iter : Expr) (f : PSt → R (List PV)) : Prop := PI C.X tg iter (tIS C f)
def itemsL : PV → Option (List PV)
  | .lst ps => some ps
  | _ => none
def itL (f : PSt → R PV) : PSt → R (List PV) := fun ρ => f ρ >>= fun p => R.ofO (itemsL p)
section
variable {C : Cn} {elt tg iter : Expr} {ifs : List Expr} {scope : Scope} {pos : Pos} {N' : List Str} {nt : Nat} {idx : List Nat} {fi : PSt → R (List PV)} {h : Tgt} {t : PSt → R Bool} {fe : PSt → R PV}
end
end PU
end
section
namespace PU
open PySem PySem.Spec PyProof.Rows L2 PySem.SeqAt
section
variable {prog : Program} {w : World} {A : Around} {E : Value → Shared → Prop} {s : Shared}
end
variable [TW]
section
variable {P : Program} {w : World} {K : PySem.W.Frag} {elts : List Expr} {kk : Nat} {tp : Pos}
end
def enumRv (f : PSt → R PV) : PSt → R (List PV) := fun ρ => f ρ >>= fun p => (match p with
  | .lst ps => .ok ((numP ps.reverse).map .tup)
  | _ => .no)
end PU
end
section
namespace PU
open PySem PySem.Spec PyProof.Rows L2
variable [TW]
def RN (C : Cn) (B : Hp × Hp) (D : Ends) : R Fl → Prop
  | .ok (.ret p) => ∀ a H, Same B.1 H → B.1 a = none → NewAt C.X.K H a p → D.rt (.ref a) H
  | _ => False
def tSN (C : Cn) (g : PSt → R Fl) : TS := fun D σ H => ∃ ρ B, StOk C.X.K B H σ ρ ∧ RN C B D (g ρ)
def SVN (C : Cn) (st : List Stmt) (g : PSt → R Fl) : Prop := PSs C.X st (tSN C g)
section
variable {C : Cn} {st : Stmt} {sts : List Stmt} {e : Expr} {f : PSt → R PV} {g g' : PSt → R Fl} {pos : Pos}
end
section
variable {P : Program} {w : World} {K : PySem.W.Frag} {mg : Str → Option Value} {base : Heap}
end
def isOwn : Sl → Bool
  | .own _ => true
  | _ => false
def thawB (i : Nat) (f : PSt → R Bool) : PSt → R Bool := fun ρ => match ρ[i]? with
  | some (.own (.lst ps)) => if (ρ.set i (.val (.lst ps))).any isOwn = false then noEr (f (ρ.set i (.val (.lst ps)))) else .no
  | _ => .no
def rClear : V → List V → Hp → VK → Prop := fun x vs H Q => ∃ l xs, x = .ref l ∧ vs = [] ∧ H l = some (.lst xs) ∧ Q .non (upd H l (.lst []))
def clrF (i : Nat) : PSt → R Fl := fun ρ => match ρ[i]? with
  | some (.own (.lst _)) => .ok (.next (ρ.set i (.own (.lst []))))
  | _ => .no
end PU
end
section
namespace PU
open PySem PySem.Spec PyProof.Rows L2
variable [TW]
def lputF (i : Nat) (fk fv : PSt → R PV) : PSt → R Fl := fun ρ => match ρ[i]? with
  | some (.own (.lst ps)) => fv ρ >>= fun p => fk ρ >>= fun kp => (match kp with
    | .int j => if 0 ≤ j ∧ j < ps.length then .ok (.next (ρ.set i (.own (.lst (ps.set j.toNat p))))) else .no
    | _ => .no)
  | _ => .no
end PU
end
section
namespace PU
open PySem PySem.Spec PyProof.Rows L2 PySem.SeqAt
theorem tuple_keys_none : typeLookup (.type "tuple") "keys" = pure none := by rw [typeLookup_type, builtinLookup_eq_fast]; kernel_rfl
theorem askAttr_miss_tuple {prog : Program} {w : World} {A : Around} {E : Value → Shared → Prop} {s : Shared} {a : Addr} {o : Obj} {xs : Array Value} {k : Nat} {name : Str} {Q : Option Value → Shared → Prop}
    (hx : s.heap.get? a = some o) (hc : o.cls = .type "tuple") (hdat : o.data = .seq xs k) (hd : o.dict = none) (hmiss : typeLookup (.type "tuple") name = pure none) (hname : (["__module__", "__name__", "__qualname__", "__doc__", "__annotations__"] : List Str).contains name = false) (hA : A.handled = none)
    (h : ∀ h' tk e, Heap.NewExcOf s.heap h' e "AttributeError" → Q none { s with heap := h', toks := tk }) (hsz : name.length + 100 ≤ sizeLine := by size_fits) :
    wpAny (model prog w) A (getAttr? (.ref a) name) Q E s := by
  obtain ⟨c, dct, dat, sl⟩ := o
  simp only at hc hdat hd
  subst hc hdat hd
  obtain ⟨hp, g, d, tk, os⟩ := s
  have hT : ∀ tk', (⟨hp, g, d, tk', os⟩ : Shared).TypeIs (.ref a) "tuple" := fun _ => ⟨_, hx, rfl⟩
  have f1 := sub_AttributeError
  have f3 := F.slot_tuple_getattribute.lookup
  have f4 := F.slot_tuple_getattribute.bind (.ref a)
  have f5 := am_tuple_getattr_none
  unfold getAttr? getAttrBy? getAttrBy
  repeat (any_goals (first | assumption | exact hT _ | ((with_reducible show wpAny _ _ (call (Value.builtin "tuple.__getattribute__") _ _) _ _ _); refine call_meets F.slot_tuple_getattribute (hT _) am_entry_tuple_getattribute (F.args_tuple_getattribute_2 _ _) (meets_getattribute_miss_tuple a xs k sl name _ hmiss hname hsz) ⟨hx, hA, fun h' tk' e hx' => ?_⟩) | wp_step))
  obtain ⟨t', u', he⟩ := hx'.there
  show wpAny _ _ (getattributeRaised _ _ _ _ _ _ _) _ _ _
  unfold getattributeRaised
  repeat (any_goals (first | assumption | wp_step))
  exact h _ _ _ hx'.of
theorem entry_upd_loop : entryFor table "dict.update.loop" = some Builtin.«dict.update.loop» := entryFor_of_tree (by kernel_rfl)
section
variable {prog : Program} {w : World} {K : Type} [DecidableEq K] {knd : KeyKind prog w K} {A : Around}
def storeAll (acc : List (K × Value)) (l : List (K × Value)) : List (K × Value) := l.foldl (fun a p => stored a p.1 p.2) acc
theorem upd_loop {R : Result → Shared → Prop} {h0 : Heap} {d it a : Addr} {items : Array Value} {kvs : List (K × Value)} {result : Value} (hh : A.handled = none) (hda : a ≠ d) (hia : a ≠ it) (hdi : d ≠ it) (ha : h0.IsTuple a items) (hn : items.size = kvs.length)
    (hp : ∀ (j : Nat) (x : Value), items[j]? = some x → ∃ (p : Addr) (key : Value) (k : K) (v : Value), x = .ref p ∧ kvs[j]? = some (k, v) ∧ p ≠ d ∧ p ≠ it ∧ h0.IsTuple p #[key, v] ∧ knd.is k key = true) :
    ∀ (m i : Nat) (s : Shared) (acc : List (K × Value)), m = items.size - i → i ≤ items.size → (∀ b o, b ≠ d → b ≠ it → h0.get? b = some o → s.heap.get? b = some o) → s.heap.IsTupleIter it a i → s.heap.DictOf knd d acc → acc.length + m ≤ sizeLine →
      (∀ h' tk, (∀ b o, b ≠ d → b ≠ it → h0.get? b = some o → h'.get? b = some o) → h'.DictOf knd d (storeAll acc (kvs.drop i)) → R (.ok (.ret result)) { s with heap := h', toks := tk }) →
      codeAny (model prog w) A (.builtin "dict.update.loop" ⟨[.ref d, .ref it, rawInt (i : Int), result], []⟩) R s
  | 0, i, s, acc, hm, hi, hk, hit, hd, hz, hR => by
    have e : i = items.size := by omega
    have hq : s.heap.IsTuple a items := ha.at fun o e => hk a o hda hia e
    refine codeAny_builtin entry_upd_loop ?_
    unfold Builtin.«dict.update.loop»
    show wpAny _ _ (pyNext (.ref it) >>= _) _ _ s
    refine wpAny_bind (wpAny_pyNext_tuple_end (by exact hh) hit hq (by rw [e]; simp) fun h' eb => ?_)
    have hd' : h'.DictOf knd d acc := hd.extBut eb hdi
    show wpAny _ _ (Builtin.Dict.addKeywords d [] >>= _) _ _ _
    refine wpAny_bind (wpAny_pure (wpAny_pure (hR h' s.toks (fun b o hb1 hb2 q => eb b o hb2 (hk b o hb1 hb2 q)) ?_)))
    rw [e, hn, List.drop_length]
    exact hd'
  | m + 1, i, s, acc, hm, hi, hk, hit, hd, hz, hR => by
    have hlt : i < items.size := by omega
    have hq : s.heap.IsTuple a items := ha.at fun o e => hk a o hda hia e
    have hx : items[i]? = some items[i] := by simp [hlt]
    obtain ⟨p, key, k, v, ex, ek, h1, h2, h3, h4⟩ := hp i _ hx
    refine codeAny_builtin entry_upd_loop ?_
    unfold Builtin.«dict.update.loop»
    show wpAny _ _ (pyNext (.ref it) >>= _) _ _ s
    refine wpAny_bind (wpAny_pyNext_tuple_item hit hq hx fun h' hit' sb => ?_)
    rw [ex]
    have hd' : h'.DictOf knd d acc := hd.extBut sb.extBut hdi
    have hpt : h'.IsTuple p #[key, v] := h3.at fun o e => (sb.2 p h2).trans (hk p o h1 h2 e)
    obtain ⟨op, hop, hcp, np, hdp⟩ := id hpt
    dsimp only
    refine wpAny_bind (wpAny_holding (wpAny_bind (wpAny_tryCatch ?_)))
    unfold Builtin.Dict.pairItems
    refine wpAny_bind (wpAny_typeOf hpt.typeIs ?_)
    rw [if_pos (by decide)]
    refine wpAny_bind ?_
    have hsi : wpAny (model prog w) (A.under (Code.builtin "dict.update.loop" ⟨[.ref d, .ref it, rawInt (i : Int), result], []⟩)) (seqItems? (.ref p)) (fun r s' => r = some #[key, v] ∧ s' = { s with heap := h' }) (fun _ _ => False) { s with heap := h' } := by
      repeat (any_goals (first | assumption | wp_step))
      rw [hdp]
      exact wpAny_pure ⟨rfl, rfl⟩
    refine wpAny_mono hsi (fun r s' hr => ?_) fun _ _ h => h.elim
    obtain ⟨rfl, rfl⟩ := hr
    refine wpAny_pure ?_
    show wpAny _ _ (holding [key, v] (dictSet d key v)) _ _ _
    refine wpAny_holding (wpAny_dictSet_pairs h4 hd' (fun h'' hd'' sb' => ?_) (by omega))
    refine wpAny_pure ⟨Code.quiet_builtin _ (by decide +kernel), ?_⟩
    have ei : ((i : Int) + 1) = ((i + 1 : Nat) : Int) := by omega
    rw [ei]
    have hlen := stored_length_le acc k v
    refine upd_loop hh hda hia hdi ha hn hp m (i + 1) _ (stored acc k v) (by omega) hlt (fun b o hb1 hb2 q => ?_) ?_ hd'' (by omega) fun h3 tk hk3 hd3 => hR h3 tk hk3 ?_
    · exact (sb'.2 b hb1).trans ((sb.2 b hb2).trans (hk b o hb1 hb2 q))
    · exact hit'.at fun o e => (sb'.2 it (Ne.symm hdi)).trans e
    · have hdr : kvs.drop i = (k, v) :: kvs.drop (i + 1) := by
        obtain ⟨hl, e⟩ := List.getElem?_eq_some_iff.mp ek
        rw [List.drop_eq_getElem_cons hl, e]
      rw [hdr]
      exact hd3
theorem call_dict_pairs {E : Value → Shared → Prop} {s : Shared} {a : Addr} {o : Obj} {items : Array Value} {n0 : Nat} {kvs : List (K × Value)} {Q : Value → Shared → Prop} (hA : A.handled = none) (hx : s.heap.get? a = some o) (hc : o.cls = .type "tuple") (hdat : o.data = .seq items n0) (hdn : o.dict = none)
    (hn : items.size = kvs.length) (hz : kvs.length ≤ sizeLine)
    (hp : ∀ (j : Nat) (x : Value), items[j]? = some x → ∃ (p : Addr) (key : Value) (k : K) (v : Value), x = .ref p ∧ kvs[j]? = some (k, v) ∧ s.heap.IsTuple p #[key, v] ∧ knd.is k key = true)
    (h : ∀ h' tk, (∀ b o, s.heap.get? b = some o → h'.get? b = some o) → h'.DictOf knd s.heap.objs.size (storeAll [] kvs) → Q (.ref s.heap.objs.size) { s with heap := h', toks := tk }) :
    wpAny (model prog w) A (call (.type "dict") [.ref a]) Q E s := by
  refine callType_codes (Q₁ := fun obj s₁ => obj = .ref s.heap.objs.size ∧ s₁ = { s with heap := s.heap.push { cls := .type "dict", data := .dict #[] } }) F.kt_called_dict (F.kt_typeCall_dict_1 _) F.entry_dict_init (kt_code_dict_new _ ⟨rfl, rfl⟩) ?_
  rintro obj s₁ ⟨rfl, rfl⟩
  have hnew : (s.heap.push { cls := .type "dict", data := .dict #[] }).DictOf knd s.heap.objs.size [] := Heap.DictOf.new s.heap
  have hx' : (s.heap.push { cls := .type "dict", data := .dict #[] }).get? a = some o := Heap.get?_push_of_some _ hx
  have hT : Shared.TypeIs { s with heap := s.heap.push { cls := .type "dict", data := .dict #[] } } (.ref a) "tuple" := ⟨o, hx', hc⟩
  refine ⟨hnew.typeIs, F.args_dict_init_2 _ _, ?_⟩
  unfold Builtin.«dict.__init__»
  refine wpAny_bind ?_
  unfold Builtin.Dict.selfAndRest
  refine wpAny_bind (wpAny_notOrdered_dict hnew.typeIs ?_)
  show wpAny _ _ (pure (s.heap.objs.size, [Value.ref a])) _ _ _
  refine wpAny_pure ?_
  show wpAny _ _ (Builtin.Dict.updateFrom "dict.__init__" s.heap.objs.size (.ref a) [] .none) _ _ _
  unfold Builtin.Dict.updateFrom
  refine wpAny_bind (wpAny_typeOf hT ?_)
  rw [if_pos (by decide)]
  refine wpAny_bind (askAttr_miss_tuple hx' hc hdat hdn tuple_keys_none (by decide +kernel) (by exact hA) fun h1 tk1 e1 ne => ?_)
  have k1 : ∀ b u, (s.heap.push { cls := .type "dict", data := .dict #[] }).get? b = some u → h1.get? b = some u := fun b u q => ne.keeps b u q
  rw [if_pos (show (none : Option Value).isNone = true from rfl)]
  have ht : h1.IsTuple a items := ⟨o, k1 a o hx', hc, n0, hdat⟩
  refine wpAny_bind (wpAny_rule (wpAny_bind (wpAny_pyIter_tuple ht ?_)))
  have sD : s.heap.objs.size < h1.objs.size := by
    obtain ⟨od, _, _, hod, _⟩ := hnew
    exact Heap.lt_size (k1 _ _ hod)
  have k2 : ∀ b u, s.heap.get? b = some u → (h1.push { cls := .type "tuple_iterator", data := .fields #[.ref a, .int 0 0] }).get? b = some u := fun b u q => Heap.get?_push_of_some _ (k1 b u (Heap.get?_push_of_some _ q))
  refine wpAny_pure ⟨Code.quiet_builtin _ (by decide +kernel), ?_⟩
  have lts : ∀ b u, s.heap.get? b = some u → b ≠ s.heap.objs.size ∧ b ≠ h1.objs.size := fun b u q => ⟨Nat.ne_of_lt (Heap.lt_size q), Nat.ne_of_lt (Nat.lt_trans (Heap.lt_size q) sD)⟩
  refine upd_loop (knd := knd) (h0 := h1.push { cls := .type "tuple_iterator", data := .fields #[.ref a, .int 0 0] }) (kvs := kvs) (by exact hA) (lts a o hx).1 (lts a o hx).2 (Nat.ne_of_lt sD) (ht.push _) hn (fun j x hj => ?_) items.size 0 _ [] (by omega) (Nat.zero_le _) (fun b u _ _ q => q) ⟨_, Heap.get?_push_size _ rfl, rfl, rfl⟩ ?_ (by simp; omega) fun h' tk hk' hd' => ?_
  · obtain ⟨p, key, k, v, e1, e2, e3, e4⟩ := hp j x hj
    obtain ⟨op, hop, r⟩ := id e3
    exact ⟨p, key, k, v, e1, e2, (lts p op hop).1, (lts p op hop).2, ⟨op, k2 p op hop, r⟩, e4⟩
  · obtain ⟨od, es, ep, hod, r⟩ := hnew
    exact ⟨od, es, ep, Heap.get?_push_of_some _ (k1 _ _ hod), r⟩
  · exact ⟨rfl, h h' tk (fun b u q => hk' b u (lts b u q).1 (lts b u q).2 (k2 b u q)) hd'⟩
end
end PU
end
section
namespace PU
open PySem L2
def pairsK : List PV → Option (List (Key × PV))
  | [] => some []
  | .tup [.str k, v] :: r => (pairsK r).map fun l => (.inr k, v) :: l
  | _ => none
def gDictP : PV → Option PV
  | .tup ps => if ps.length ≤ 1000 then (pairsK ps).map mergeP else none
  | _ => none
end PU
end
section
namespace PU
open PySem PySem.Spec PyProof.Rows L2 PySem.SeqAt
variable [TW]
theorem pairs_at {X : Cx} {pins : List (Addr × Obj)} {σ : L2.St} {H : Hp} {s : Shared} (I : L2.Inv X pins σ H s) : ∀ {ps : List PV} {kps : List (Key × PV)} {xs : List V} {its : List Value}, pairsK ps = some kps → Reps X.K H ps xs → Vals xs its →
    ∃ (kvs : List (Key × V)) (vs : List (Key × Value)), KReps X.K H kps kvs ∧ KV kvs vs ∧ its.length = vs.length ∧ ∀ (j : Nat) (x : Value), its[j]? = some x → ∃ (p : Addr) (key : Value) (k : Key) (v : Value), x = .ref p ∧ vs[j]? = some (k, v) ∧ s.heap.IsTuple p #[key, v] ∧ (mixKind X.prog X.w).is k key = true
  | [], kps, xs, its, e, r, rv => by
    cases e
    cases r
    cases rv
    exact ⟨[], [], rfl, .nil, rfl, fun j x h => by simp at h⟩
  | p :: ps, kps, xs, its, e, r, rv => by
    obtain ⟨x, t, rfl, r1, r2⟩ := r
    cases rv with
    | cons ru rv =>
    unfold pairsK at e
    split at e
    · rename_i h; cases h
    · rename_i k v r' h
      cases h
      obtain ⟨l, el, ez⟩ := Option.map_eq_some_iff.mp e
      cases ez
      obtain ⟨kvs, vs, q1, q2, q3, q4⟩ := pairs_at I el r2 rv
      obtain ⟨a, ys, rfl, g, rr⟩ := r1
      obtain ⟨y1, t1, rfl, h1, y2, t2, rfl, h2, h3⟩ := rr
      cases h3
      cases h1
      cases ru
      obtain ⟨its2, rv2, pl, hz⟩ := I.tuple g
      cases rv2 with
      | cons ra rv2 =>
      cases rv2 with
      | cons rb rv2 =>
      cases rv2
      obtain ⟨tk, rfl⟩ := ra
      refine ⟨(.inr k, y2) :: kvs, (.inr k, _) :: vs, ⟨y2, kvs, rfl, h2, q1⟩, .cons ⟨rfl, rb⟩ q2, by simp [q3], fun j x hj => ?_⟩
      cases j with
      | zero =>
        simp at hj
        subst hj
        exact ⟨a, _, _, _, rfl, rfl, pl, mixKind_str _ _ _ _⟩
      | succ j =>
        obtain ⟨p, key, k', v', e1, e2, e3, e4⟩ := q4 j x (by simpa using hj)
        exact ⟨p, key, k', v', e1, by simpa using e2, e3, e4⟩
    · cases e
omit [TW] in
theorem storeAll_len {K : Type} [DecidableEq K] : ∀ (l acc : List (K × Value)), (storeAll acc l).length ≤ acc.length + l.length
  | [], acc => by simp [storeAll]
  | p :: l, acc => by
    have h1 := storeAll_len l (stored acc p.1 p.2)
    have h2 := stored_length_le acc p.1 p.2
    have e : storeAll acc (p :: l) = storeAll (stored acc p.1 p.2) l := rfl
    rw [e, List.length_cons]
    omega
theorem cDictP {X : Cx} (hc : X.calm = true := by rfl) (hw : X.w = TW.w := by rfl) : CallR X (.type "dict") (rn1 X.K gDictP) := by
  intro pins s σ H xs us Q I r ⟨v, p, z, e1, rp, ez, k⟩
  subst e1
  cases p with
  | tup ps =>
    have ez : (if ps.length ≤ 1000 then (pairsK ps).map mergeP else none) = some z := ez
    by_cases hlen : ps.length ≤ 1000
    · rw [if_pos hlen] at ez
      obtain ⟨kps, ek, rfl⟩ := Option.map_eq_some_iff.mp ez
      obtain ⟨a, xs, rfl, g, rr⟩ := rp
      obtain ⟨u, rfl, ru⟩ := vals1 r
      cases ru
      obtain ⟨its, rv, ⟨o, ho, hcl, ⟨n0, hdat⟩, hdn⟩, hz⟩ := I.tupleX g
      obtain ⟨kvs, vs, q1, q2, q3, q4⟩ := pairs_at I ek rr rv
      have hl1 := rr.length
      have hl2 := rv.length
      have hs := sizeLine_eq
      refine call_dict_pairs (knd := mixKind X.prog X.w) (kvs := vs) (I.ok.hd hc) ho hcl hdat (hdn fun v hv => (by obtain ⟨j, hj⟩ := List.mem_iff_getElem?.mp hv; obtain ⟨p, _, _, _, e, _⟩ := q4 j v (by simpa using hj); exact ⟨p, e⟩)) (by rw [List.size_toArray]; exact q3) (by omega) (fun j x hj => q4 j x (by simpa using hj)) fun h' tk keep D' => ?_
      have nf : H s.heap.objs.size = none := I.fresh
      have hne : (s.heap.objs.size == sysModules) = false := by
        have hb := I.big
        refine beq_eq_false_iff_ne.mpr fun e => ?_
        rw [e] at hb
        exact Nat.lt_irrefl _ hb
      have hm : KV (mergeK [] kvs) (storeAll [] vs) := KV.merge q2 .nil
      have hml : (mergeK [] kvs).length ≤ sizeLine := by
        have a1 : (mergeK [] kvs).length = (storeAll [] vs).length := Paired.length hm
        have a2 := storeAll_len vs []
        simp only [List.length_nil] at a2
        omega
      have I2 := I.laid (a := s.heap.objs.size) (o := .dK (mergeK [] kvs)) (h' := h') (t' := tk) keep (Nat.le_refl _) ⟨hml, hne, _, hm, D'⟩
      have kp : Kp H (upd H s.heap.objs.size (.dK (mergeK [] kvs))) := Same.kp (Same.new nf)
      obtain ⟨ks', ps', g1, g2, g3⟩ := merge_new (acc := []) (ps := []) (KReps.kp kp q1) Reps.nil
      refine ⟨.ref _, _, I2, rfl, k _ _ (Same.new nf) nf ?_⟩
      rw [merge_eq]
      have g1 : kps.foldl addP (PV.dct [] []) = PV.dct ks' ps' := g1
      rw [g1]
      exact ⟨_, upd_same, g2, g3⟩
    · rw [if_neg hlen] at ez
      cases ez
  | _ => cases ez
end PU
end
section
namespace PU
open PySem PySem.Spec PyProof.Rows L2
def gDictA : PV → Option PV
  | .dct ks ps => gDictC (.dct ks ps)
  | .tup ps => gDictP (.tup ps)
  | _ => none
variable [TW]
theorem cDictA {X : Cx} (hc : X.calm = true := by rfl) (hw : X.w = TW.w := by rfl) : CallR X (.type "dict") (rn1 X.K gDictA) := by
  intro pins s σ H xs us Q I r ⟨v, p, z, e1, rp, ez, k⟩
  cases p with
  | dct ks ps => exact cDictC hw pins s σ H xs us Q I r ⟨v, .dct ks ps, z, e1, rp, ez, k⟩
  | tup ps => exact cDictP hc hw pins s σ H xs us Q I r ⟨v, .tup ps, z, e1, rp, ez, k⟩
  | _ => cases ez
end PU
end
section
namespace PU
open PySem PySem.Spec PyProof.Rows L2 PySem.SeqAt
def intsP : List PV → Option (List Int)
  | [] => some []
  | .int i :: r => (intsP r).map (i :: ·)
  | _ => none
def ltL : List Int → List Int → Bool
  | x :: xs, y :: ys => if x = y then ltL xs ys else decide (x < y)
  | _, _ => false
def gLtT : PV → PV → Option PV
  | .tup [.int i, .lst ps], .tup [.int j, .lst qs] =>
    (match intsP ps, intsP qs with
    | some xs, some ys => if i = j ∧ ¬ xs.length = ys.length then none else some (.bl (if i = j then ltL xs ys else decide (i < j)))
    | _, _ => none)
  | _, _ => none
def gMax2 : PV → PV → Option PV
  | .int i, .int j => some (.int (if j > i then j else i))
  | _, _ => none
section
open AutoSeq1 (wpAny_loadPart')
open MeetsSeq MeetsSeq2 MeetsSeq3
def RcLtAt (A : Around) (s : Shared) (y x : Value) (b : Bool) : Prop :=
  ∀ (prog : Program) (w : World) (E : Value → Shared → Prop) (Q : Value → Shared → Prop), Q (.bool b) s → wpAny (model prog w) A (richCompare .Lt y x) Q E s
def ltR (e l : Nat → Bool) : List Nat → Bool
  | [] => false
  | i :: r => if e i = true then ltR e l r else l i
theorem lt_loopAt (l b : Addr) (items items2 : Array Value) (n n2 : Nat) (dd dd2 : Option Addr) (sl sl2 : Array (Option Value)) (hsz : items.size = items2.size) (e lt : Nat → Bool) (k : Nat) :
    ∀ i : Nat, items.size - i = k → Meets (Builtin.«list.__eq__.loop» ⟨[.ref l, .ref b, rawInt i, rawInt 0], []⟩)
      (fun A R s => s.heap.get? l = some { cls := .type "list", dict := dd, data := .seq items n, slots := sl } ∧ s.heap.get? b = some { cls := .type "list", dict := dd2, data := .seq items2 n2, slots := sl2 } ∧
        (∀ j (h1 : j < items.size) (h2 : j < items2.size), EqAt A.in1 s items[j] items2[j] (e j) ∧ RcLtAt A.in1 s items[j] items2[j] (lt j)) ∧
        R (.ok (.ret (.bool (ltR e lt ((List.range items.size).drop i))))) s) := by
  induction k with
  | zero =>
    intro i hk prog w A R s h
    obtain ⟨hp, g, d, tk, os⟩ := s; obtain ⟨hl, hb, he, h⟩ := h
    wp_walk using wpAny_loadPart' hl, wpAny_loadPart' hb
    have hi1 : items[((i : Nat) : Int).toNat]? = none := by simp; omega
    have hi2 : items2[((i : Nat) : Int).toNat]? = none := by simp; omega
    have hd : (List.range items.size).drop i = [] := by simp; omega
    rw [hd] at h
    rw [hi1, hi2]
    wp_walk using wpAny_loadPart' hl, wpAny_loadPart' hb
    show R (.ok (.ret (.bool (decide (items.size < items2.size))))) _
    rw [hsz]
    simpa [ltR] using h
  | succ k ih =>
    intro i hk prog w A R s h
    obtain ⟨hp, g, d, tk, os⟩ := s; obtain ⟨hl, hb, he, h⟩ := h
    wp_walk using wpAny_loadPart' hl, wpAny_loadPart' hb
    have hlt : i < items.size := by omega
    have hlt2 : i < items2.size := by omega
    have hi1 : items[((i : Nat) : Int).toNat]? = some items[i] := by simp [hlt]
    have hi2 : items2[((i : Nat) : Int).toNat]? = some items2[i] := by simp [hlt2]
    have hd : (List.range items.size).drop i = i :: (List.range items.size).drop (i + 1) := by simp [List.drop_eq_getElem_cons, hlt]
    have hc : ((i : Int) + 1) = ((i + 1 : Nat) : Int) := by push_cast; rfl
    rw [hd] at h
    rw [hi1, hi2]
    refine wpAny_bind ((he i hlt hlt2).1 prog w _ _ ?_)
    cases hb' : e i with
    | true =>
      simp only [ltR, hb', if_true] at h
      wp_walk
      rw [hc]
      exact ⟨plainId_quiet plain_eq_loop _, codeAny_builtin entry_eq_loop (by
        rw [Around.under_plainId plain_eq_loop _]
        exact ih (i + 1) (by omega) prog w A R _ ⟨hl, hb, he, by simpa using h⟩)⟩
    | false =>
      simp only [ltR, hb', Bool.false_eq_true, if_false] at h
      wp_walk using wpAny_loadPart' hl, wpAny_loadPart' hb
      rw [hi1, hi2]
      refine wpAny_bind ((he i hlt hlt2).2 prog w _ _ ?_)
      wp_walk
      simpa using h
theorem list_ltAt (l b : Addr) (items items2 : Array Value) (n n2 : Nat) (dd dd2 : Option Addr) (sl sl2 : Array (Option Value)) (hsz : items.size = items2.size) (e lt : Nat → Bool) :
    Meets (Builtin.«list.__lt__» ⟨[.ref l, .ref b], []⟩)
      (fun A R s => s.heap.get? l = some { cls := .type "list", dict := dd, data := .seq items n, slots := sl } ∧ s.heap.get? b = some { cls := .type "list", dict := dd2, data := .seq items2 n2, slots := sl2 } ∧
        (∀ j (h1 : j < items.size) (h2 : j < items2.size), EqAt A.in1 s items[j] items2[j] (e j) ∧ RcLtAt A.in1 s items[j] items2[j] (lt j)) ∧
        R (.ok (.ret (.bool (ltR e lt (List.range items.size))))) s) := by
  intro prog w A R s h
  obtain ⟨hp, g, d, tk, os⟩ := s; obtain ⟨hl, hb, he, h⟩ := h
  have f3 := AutoSeq1.sub_list_list
  wp_walk using wpAny_loadPart' hl, wpAny_loadPart' hb
  exact ⟨plainId_quiet plain_eq_loop _, codeAny_builtin entry_eq_loop (by
    rw [Around.under_plainId plain_eq_loop _]
    exact lt_loopAt l b items items2 n n2 dd dd2 sl sl2 hsz e lt _ 0 rfl prog w A R _ ⟨hl, hb, he, by simpa using h⟩)⟩
theorem tuple_ltAt (l b : Addr) (items items2 : Array Value) (n n2 : Nat) (dd dd2 : Option Addr) (sl sl2 : Array (Option Value)) (e lt : Nat → Bool) (hsz : items.size = items2.size) :
    Meets (Builtin.«tuple.__lt__» ⟨[.ref l, .ref b], []⟩)
      (fun A R s => s.heap.get? l = some { cls := .type "tuple", dict := dd, data := .seq items n, slots := sl } ∧ s.heap.get? b = some { cls := .type "tuple", dict := dd2, data := .seq items2 n2, slots := sl2 } ∧
        (∀ j (h1 : j < items.size) (h2 : j < items2.size), (∀ m, m < j → e m = true) → EqAt A.in1 s items[j] items2[j] (e j) ∧ (e j = false → RcLtAt A.in1 s items[j] items2[j] (lt j))) ∧
        R (.ok (.ret (.bool (ltR e lt (List.range items.size))))) s) :=
  .of_wp fun prog w A R s h => by
    obtain ⟨hp, g, d, tk, os⟩ := s; obtain ⟨hl, hb, he, h⟩ := h
    have f2 := AutoSeq1.sub_tuple_tuple
    have hZ : (items.toList.zip items2.toList).length = items.size := by simp [hsz]
    wp_walk using wpAny_loadPart' hl, wpAny_loadPart' hb, wpAny_forIn_list _ (fun rest b s' => b.1 = none ∧ s' = ⟨hp, g, d, tk, os⟩ ∧ ∃ i, rest = (items.toList.zip items2.toList).drop i ∧ (∀ m, m < i → m < items.size → e m = true) ∧
      R (.ok (.ret (.bool (ltR e lt ((List.range items.size).drop i))))) ⟨hp, g, d, tk, os⟩) _
    case turn =>
      rintro ⟨y, x⟩ rest b s' ⟨hb', rfl, i, hz, hm, hR⟩
      have hlt : i < (items.toList.zip items2.toList).length := by
        rcases Nat.lt_or_ge i (items.toList.zip items2.toList).length with h' | h'
        · exact h'
        · rw [List.drop_of_length_le h'] at hz; cases hz
      have h1 : i < items.size := hZ ▸ hlt
      have h2 : i < items2.size := hsz ▸ h1
      rw [List.drop_eq_getElem_cons hlt] at hz
      injection hz with hyx hrest
      have hy : y = items[i] := by have := congrArg Prod.fst hyx; simpa using this
      have hx : x = items2[i] := by have := congrArg Prod.snd hyx; simpa using this
      subst hy hx
      have hd : (List.range items.size).drop i = i :: (List.range items.size).drop (i + 1) := by simp [List.drop_eq_getElem_cons, h1]
      rw [hd] at hR
      have hei := he i h1 h2 fun m hmi => hm m hmi (by omega)
      refine wpAny_bind (hei.1 prog w _ _ ?_)
      cases hy : e i with
      | true =>
        simp only [ltR, hy, if_true] at hR
        wp_walk
        exact ⟨rfl, rfl, i + 1, hrest, fun m hm1 hm2 => by
          rcases Nat.lt_or_ge m i with z | z
          · exact hm m z hm2
          · have : m = i := by omega
            rw [this]; exact hy, by simpa using hR⟩
      | false =>
        simp only [ltR, hy, Bool.false_eq_true, if_false] at hR
        have hrc := hei.2 hy prog w
        generalize richCompare CmpOp.Lt items[i] items2[i] = M at hrc ⊢
        wp_walk
        refine hrc _ _ ?_
        wp_walk
        exact ⟨_, rfl, by simpa using hR⟩
    case fin =>
      rintro ⟨b1, b2⟩ s' ⟨hb', rfl, i, hz, hm, hR⟩
      simp only at hb'
      subst hb'
      have hge : items.size ≤ i := by
        rcases Nat.lt_or_ge i (items.toList.zip items2.toList).length with h' | h'
        · rw [List.drop_eq_getElem_cons h'] at hz; cases hz
        · exact hZ ▸ h'
      rw [List.drop_of_length_le (by simpa using hge)] at hR
      wp_walk
      exact ⟨_, rfl, by simpa [Builtin.Tuple.tupleCompareSizes, ltR, hsz] using hR⟩
    case h =>
      exact ⟨rfl, rfl, 0, rfl, fun m hm => by omega, by simpa using h⟩
theorem RcLtAt.lists {A : Around} {s : Shared} {l b : Addr} {items items2 : Array Value} {e lt : Nat → Bool} (hl : s.heap.IsList l items) (hb : s.heap.IsList b items2) (hsz : items.size = items2.size) (hu : A.units < cLine)
    (he : ∀ j (h1 : j < items.size) (h2 : j < items2.size), EqAt A.in1 s items[j] items2[j] (e j) ∧ RcLtAt A.in1 s items[j] items2[j] (lt j)) : RcLtAt A s (.ref l) (.ref b) (ltR e lt (List.range items.size)) := fun prog w E Q h => by
  obtain ⟨⟨cls, dd, data, sl⟩, ho, hc, n, hd⟩ := id hl
  obtain ⟨⟨cls2, dd2, data2, sl2⟩, ho2, hc2, n2, hd2⟩ := id hb
  simp only at hc hd hc2 hd2
  subst hc hd hc2 hd2
  exact richCompare_meets_room (op := .Lt) ⟨_, ho, rfl⟩ ⟨_, ho2, rfl⟩ F.slot_list_lt F.entry_list_lt (F.args_list_lt_2 _ _) (list_ltAt l b items items2 n n2 dd dd2 sl sl2 hsz e lt)
    ⟨ho, ho2, he, show Value.bool _ ≠ Value.notImplemented ∧ Q (.bool _) s from ⟨(fun x => nomatch x), h⟩⟩ hu
theorem RcLtAt.tuples {A : Around} {s : Shared} {l b : Addr} {items items2 : Array Value} {e lt : Nat → Bool} (hl : s.heap.IsTuple l items) (hb : s.heap.IsTuple b items2) (hsz : items.size = items2.size) (hu : A.units < cLine)
    (he : ∀ j (h1 : j < items.size) (h2 : j < items2.size), (∀ m, m < j → e m = true) → EqAt A.in1 s items[j] items2[j] (e j) ∧ (e j = false → RcLtAt A.in1 s items[j] items2[j] (lt j))) : RcLtAt A s (.ref l) (.ref b) (ltR e lt (List.range items.size)) := fun prog w E Q h => by
  obtain ⟨⟨cls, dd, data, sl⟩, ho, hc, n, hd⟩ := id hl
  obtain ⟨⟨cls2, dd2, data2, sl2⟩, ho2, hc2, n2, hd2⟩ := id hb
  simp only at hc hd hc2 hd2
  subst hc hd hc2 hd2
  exact richCompare_meets_room (op := .Lt) ⟨_, ho, rfl⟩ ⟨_, ho2, rfl⟩ F.slot_tuple_lt F.entry_tuple_lt (F.args_tuple_lt_2 _ _) (tuple_ltAt l b items items2 n n2 dd dd2 sl sl2 e lt hsz)
    ⟨ho, ho2, he, show Value.bool _ ≠ Value.notImplemented ∧ Q (.bool _) s from ⟨(fun x => nomatch x), h⟩⟩ hu
end
variable [TW]
end PU
end
section
namespace PU
open PySem PySem.Spec PyProof.Rows L2
def retO (i : Nat) : PSt → R Fl := fun ρ => match ρ[i]? with
  | some (.own p) => .ok (.ret p)
  | _ => .no
def runN (m n : Nat) (g : PSt → R Fl) (ps : List PV) : Option PV := if ps.length = m then (match g (start n ps) with
  | .ok (.ret p) => some p
  | _ => none) else none
section
variable {g g' : PSt → R Fl} {t : PSt → R Bool} {f fk fv : PSt → R PV} {i : Nat}
end
variable [TW]
section
variable {C : Cn}
end
section
variable {P : Program} {w : World} {K : PySem.W.Frag} {mg : Str → Option Value} {base : Heap}
end
end PU
end
section
namespace L2
open PySem PySem.Spec PyProof.Rows
theorem law_callF {P : Program} {w : World} {K : PySem.W.Frag} {mg mb : Str → Option Value} {CX : CXT} {k : Nat} {fa a : Addr} {fd : FuncData} {x : Str} {sp : Sp} {s₁ : Shared} {vs : List Value} {ns : List Int}
    (KX : K.In s₁.heap) (hns : s₁.heap.Ns mainGlobals mg) (hb : s₁.heap.Ns builtinsNs mb) (hbb : ∀ x : Str, x ≠ "__name__" → mb x = bootBuiltins x) (hlim : s₁.heap.NoLimit) (hg : s₁.gens = #[])
    (ha : s₁.heap.get? a = some { cls := .type "list", data := .seq vs.toArray }) (hi : IntsAre vs ns) (hl : ns.length ≤ sizeLine) (hr : Room k callerA)
    (F : ∀ base : Heap, K.In base → base.Ns mainGlobals mg → FnOk P w K mg base CX k fa fd [x] sp) (hbind : ∀ (s : Shared) (u : Value), BindsTo s fd ⟨[u], []⟩ [(x, u)])
    (hsp : ∀ H : Hp, Only H → PU.SqF K H a (ns.map V.int) → sp [.ref a] H (fun v _ => v = .bl true) fun _ _ _ => False)
    (hCX : ∀ H e s', CX [] H s₁ (fun _ _ _ => False) e s' → False) :
    codeAny (model P w) callerA (.call (.ref fa) ⟨[.ref a], []⟩) (fun r s' => r = .ok (.ret (.bool true)) ∧ OldK s₁.heap s'.heap ∧ s'.os = s₁.os ∧ AllBare s'.gens) s₁ := by
  have rv := vals_ints hi
  have lenV := hi.length
  have core : ∀ H : Hp, Only H → PU.SqF K H a (ns.map V.int) → HOk P w H s₁.heap → (∀ b, H b ≠ none → b = a) → (H a ≠ none → K.lookup a = none) →
      codeAny (model P w) callerA (.call (.ref fa) ⟨[.ref a], []⟩) (fun r s' => r = .ok (.ret (.bool true)) ∧ OldK s₁.heap s'.heap ∧ s'.os = s₁.os ∧ AllBare s'.gens) s₁ := by
    intro H hO hS hok hA hK
    have base_of : ∀ {b : Addr} {o : Obj}, s₁.heap.get? b = some o → H b = none → (hidT s₁.heap H).get? b = some o := fun e n => hidT_get e n
    have noA : ∀ {b : Addr} {o : Obj} {es : Array DictEntry} {ep : Nat}, s₁.heap.get? b = some o → o.data = .dict es ep → H b = none := fun {b o es ep} e d => by
      cases q : H b with
      | none => rfl
      | some u =>
        have e' : b = a := hA b (by rw [q]; simp)
        subst e'
        rw [ha] at e; cases e
        have d' : Data.seq vs.toArray _ = Data.dict es ep := d
        cases d'
    have nsK : ∀ {b : Addr} {m : Str → Option Value}, s₁.heap.Ns b m → (hidT s₁.heap H).Ns b m := fun {b m} ⟨o, es, ep, e, d, r⟩ => ⟨o, es, ep, base_of e (noA e d), d, r⟩
    have hKb : K.In (hidT s₁.heap H) := fun b o e => base_of (KX b o e) (by
      cases q : H b with
      | none => rfl
      | some u =>
        have e' : b = a := hA b (by rw [q]; simp)
        subst e'
        rw [hK (by rw [q]; simp)] at e; cases e)
    have hM : Mod K mg (hidT s₁.heap H) := ⟨hKb, nsK hns, ⟨mb, nsK hb, hbb⟩, let ⟨mc, h1, h2⟩ := hlim; ⟨mc, nsK h1, h2⟩⟩
    have e0 : Env0 P w K mg (hidT s₁.heap H) callerA [] s₁ H := ⟨rfl, hM, fun b o e => of_hidT e, Nat.le_of_eq (hidT_size _ _), trivial, fun b hb => absurd (show b ∈ ([] : List Addr) from hb) (by simp), hok, .of_eq hg⟩
    refine codeAny_mono ((F _ hKb (nsK hns)).run callerA [] s₁ H ⟨[.ref a], []⟩ [.ref a] [.ref a] _ _ hr e0 (hbind s₁ (.ref a)) (.cons rfl .nil) (hsp H hO hS)) fun r s' h => ?_
    cases r with
    | error e => exact (hCX H e s' h).elim
    | ok fl =>
      cases fl with
      | next => exact False.elim h
      | brk => exact False.elim h
      | cont => exact False.elim h
      | ret u =>
        obtain ⟨v, H', os, bare, un, hok', r', q⟩ := h
        have q' : v = .bl true := q
        subst q'
        obtain rfl : u = Value.bool true := r'
        refine ⟨rfl, OldK.of_keep fun b o e => ?_, os, bare⟩
        cases q : H b with
        | none => exact un.keep b o e q (by intro z; exact absurd (show b ∈ ([] : List Addr) from z) (by simp)) (by simp)
        | some u =>
          rcases hO b with z | ⟨ob, xs, z⟩
          · rw [q] at z; cases z
          · have z2 := un.frzs b ob _ z
            obtain ⟨e1, _⟩ := hok b _ z
            obtain ⟨e2, _⟩ := hok' b _ z2
            rw [e] at e1; cases e1
            exact e2
  cases hk : K.lookup a with
  | some o =>
    have e := KX a o hk
    rw [ha] at e
    cases e
    refine core (fun _ => none) (fun _ => .inl rfl) (.inr ⟨vs, _, hk, by rw [List.length_map]; exact hl, rv⟩) (fun b u z => by have z' : (none : Option HO) = some u := z; cases z') (fun b z => absurd rfl z) fun z => absurd rfl z
  | none =>
    refine core (fun b => if b = a then some (.frz { cls := .type "list", data := .seq vs.toArray } (.lst (ns.map V.int))) else none) (fun b => ?_) (.inl ⟨{ cls := .type "list", data := .seq vs.toArray }, if_pos rfl⟩) (fun b u z => ?_) (fun b z => ?_) fun _ => hk
    · by_cases hb : b = a
      · exact .inr ⟨_, _, if_pos hb⟩
      · exact .inl (if_neg hb)
    · by_cases hb : b = a
      · have z' := (if_pos hb).symm.trans z
        cases z'
        subst hb
        exact ⟨ha, by rw [List.length_map]; exact hl, vs, _, rv, ha⟩
      · have z' := (if_neg hb).symm.trans z
        cases z'
    · by_cases hb : b = a
      · exact hb
      · exact absurd (if_neg hb) z
theorem walk_ofF {l : PySem.W.OpenLaw} {n k : Nat} {q : Program} {loose : List Str} {XP : (Str → Option Value) → Heap → Prop} {YP : World → Heap → Prop} {d : DefRec} {K : Params → PySem.W.Frag} {CX : World → CXT} {sp : World → Sp} {x : Str}
    (hn : l.most = some n) (hn2 : n ≤ sizeLine) (hdf : d.params.defaults = []) (hr : Room k callerA)
    (hY : ∀ (w : World) (h : Heap), YP w h → (K w.params).In h)
    (F : ∀ (w : World) (mg : Str → Option Value) (fa : Addr) (h : Heap), (K w.params).In h → h.Ns mainGlobals mg → mg d.name = some (.ref fa) →
      ∃ fd : FuncData, (∀ (s : Shared) (u : Value), BindsTo s fd ⟨[u], []⟩ [(x, u)]) ∧
        ∀ base : Heap, (K w.params).In base → base.Ns mainGlobals mg → FnOk l.prog w (K w.params) mg base (CX w) k fa fd [x] (sp w))
    (hsp : ∀ (w : World) (H : Hp) (a : Addr) (ns : List Int), ns.length ≤ n → Only H → PU.SqF (K w.params) H a (ns.map V.int) → sp w [.ref a] H (fun v _ => v = .bl true) fun _ _ _ => False)
    (hCX : ∀ (w : World) (H : Hp) (s : Shared) (e : Value) (s' : Shared), CX w [] H s (fun _ _ _ => False) e s' → False) :
    PySem.W.WalkO q loose XP YP l.row.toRowW d [] (fun f vs => PySem.call f vs) := by
  refine Att.attach_call hn hdf fun w s₀ s₁ mg mb fa o pm cd doc a vs ns G Y ho hd hcd hmg hobj hints hlen hg => ?_
  have KX := hY w _ Y
  obtain ⟨fd, hb, hF⟩ := F w mg fa _ KX G.T.g hmg
  exact law_callF KX G.T.g G.T.b G.T.builtins G.T.nolimit hg hobj hints (Nat.le_trans hlen hn2) hr hF hb (fun H hO hS => hsp w H a ns hlen hO hS) fun H e s' => hCX w H s₁ e s'
end L2
end
section
namespace PU
open PySem L2
def rngP (p : PV) : R (List PV) := match p with
  | .int j => if j.natAbs < 1000000000 then .ok (rangeP 0 j.toNat) else .no
  | _ => .no
def rngQ (p q : PV) : R (List PV) := match p, q with
  | .int i, .int j => if i.natAbs < 1000000000 ∧ j.natAbs < 1000000000 then .ok (rangeP i (j - i).toNat) else .no
  | _, _ => .no
theorem v_rng {j : Int} (h0 : 0 ≤ j) (h1 : j < 1000000000) : rngP (.int j) = .ok (rangeP 0 j.toNat) := by
  unfold rngP
  exact if_pos (by omega)
theorem v_rng2 {i j : Int} (h0 : 0 ≤ i) (h1 : i < 1000000000) (h2 : 0 ≤ j) (h3 : j < 1000000000) : rngQ (.int i) (.int j) = .ok (rangeP i (j - i).toNat) := by
  unfold rngQ
  exact if_pos ⟨by omega, by omega⟩
section
def seqK (g' : PSt → R Fl) : R Fl → R Fl
  | .ok (.next ρ) => g' ρ
  | .ok (.brk ρ) => .ok (.brk ρ)
  | .ok (.cont ρ) => .ok (.cont ρ)
  | .ok (.ret p) => .ok (.ret p)
  | .er x => .er x
  | .no => .no
def mapK {α β : Type} (f : α → β) : R α → R β
  | .ok a => .ok (f a)
  | .er x => .er x
  | .no => .no
def bndK {α β : Type} (f : α → R β) : R α → R β
  | .ok a => f a
  | .er x => .er x
  | .no => .no
def ifK {α : Type} (g g' : PSt → R α) (ρ : PSt) : R Bool → R α
  | .ok true => g ρ
  | .ok false => g' ρ
  | .er x => .er x
  | .no => .no
def twoK {α β γ : Type} (f : α → β → R γ) : R α → R β → R γ
  | .ok a, .ok b => f a b
  | .ok _, .er x => .er x
  | .ok _, .no => .no
  | .er x, _ => .er x
  | .no, _ => .no
variable {α : Type} {ρ : PSt} {f fa fb fc : PSt → R PV} {g g' : PSt → R Fl} {t u : PSt → R Bool} {i : Nat}
@[simp] theorem k_seq_next : seqK g' (.ok (.next ρ)) = g' ρ := by unfold seqK; exact Eq.refl _
@[simp] theorem k_seq_brk : seqK g' (.ok (.brk ρ)) = .ok (.brk ρ) := by unfold seqK; exact Eq.refl _
@[simp] theorem k_seq_cont : seqK g' (.ok (.cont ρ)) = .ok (.cont ρ) := by unfold seqK; exact Eq.refl _
@[simp] theorem k_seq_ret (p : PV) : seqK g' (.ok (.ret p)) = .ok (.ret p) := by unfold seqK; exact Eq.refl _
@[simp] theorem k_seq_er (x : PX) : seqK g' (.er x) = .er x := by unfold seqK; exact Eq.refl _
@[simp] theorem k_map {β : Type} (f : α → β) (a : α) : mapK f (.ok a) = .ok (f a) := by unfold mapK; exact Eq.refl _
@[simp] theorem k_bnd {β : Type} (f : α → R β) (a : α) : bndK f (.ok a) = f a := by unfold bndK; exact Eq.refl _
@[simp] theorem k_map_er {β : Type} (f : α → β) (x : PX) : mapK f (.er x) = .er x := by unfold mapK; exact Eq.refl _
@[simp] theorem k_bnd_er {β : Type} (f : α → R β) (x : PX) : bndK f (.er x) = .er x := by unfold bndK; exact Eq.refl _
@[simp] theorem k_if_t (g g' : PSt → R α) : ifK g g' ρ (.ok true) = g ρ := by unfold ifK; exact Eq.refl _
@[simp] theorem k_if_f (g g' : PSt → R α) : ifK g g' ρ (.ok false) = g' ρ := by unfold ifK; exact Eq.refl _
@[simp] theorem k_two {β γ : Type} (f : α → β → R γ) (a : α) (b : β) : twoK f (.ok a) (.ok b) = f a b := by unfold twoK; exact Eq.refl _
@[simp] theorem x_seqF : seqF g g' ρ = seqK g' (g ρ) := by
  unfold seqF
  cases g ρ with
  | ok fl => cases fl <;> rfl
  | er x => rfl
  | no => rfl
@[simp] theorem x_nextF : nextF ρ = .ok (.next ρ) := by unfold nextF; exact Eq.refl _
def rP1 (ρ : PSt) (_ : PV) : Fl := .next ρ
@[simp] theorem k_rP1 (p : PV) : rP1 ρ p = .next ρ := by unfold rP1; exact Eq.refl _
@[simp] theorem x_exprF : exprF f ρ = mapK (rP1 ρ) (f ρ) := by unfold exprF; cases f ρ <;> rfl
@[simp] theorem x_retF : retF f ρ = mapK .ret (f ρ) := by unfold retF; cases f ρ <;> rfl
@[simp] theorem x_ifF : ifF t g g' ρ = ifK g g' ρ (t ρ) := by
  unfold ifF
  cases t ρ with
  | ok b => cases b <;> rfl
  | er x => rfl
  | no => rfl
def setP (i : Nat) (ρ : PSt) (p : PV) : Fl := .next (ρ.set i (.val p))
def ownP (i : Nat) (ρ : PSt) (p : PV) : Fl := .next (ρ.set i (.own p))
@[simp] theorem k_set (p : PV) : setP i ρ p = .next (ρ.set i (.val p)) := by unfold setP; exact Eq.refl _
@[simp] theorem k_own (p : PV) : ownP i ρ p = .next (ρ.set i (.own p)) := by unfold ownP; exact Eq.refl _
@[simp] theorem x_setF : setF i f ρ = mapK (setP i ρ) (f ρ) := by unfold setF; cases f ρ <;> rfl
@[simp] theorem x_ownF : ownF i f ρ = mapK (ownP i ρ) (f ρ) := by unfold ownF; cases f ρ <;> rfl
@[simp] theorem x_brkF : brkF ρ = .ok (.brk ρ) := by unfold brkF; exact Eq.refl _
@[simp] theorem x_contF : contF ρ = .ok (.cont ρ) := by unfold contF; exact Eq.refl _
@[simp] theorem x_frzS : frzS i g ρ = g (frzF i ρ) := by unfold frzS; exact Eq.refl _
@[simp] theorem x_kI (j : Int) : kI j ρ = .ok (.int j) := by unfold kI; exact Eq.refl _
@[simp] theorem x_kB (j : Bool) : kB j ρ = .ok (.bl j) := by unfold kB; exact Eq.refl _
@[simp] theorem x_kN : kN ρ = .ok .non := by unfold kN; exact Eq.refl _
@[simp] theorem x_kS (j : Str) : kS j ρ = .ok (.str j) := by unfold kS; exact Eq.refl _
@[simp] theorem x_kP (j : PV) : kP j ρ = .ok j := by unfold kP; exact Eq.refl _
@[simp] theorem x_nilA : nilA ρ = .ok [] := by unfold nilA; exact Eq.refl _
def consP (p : PV) (ps : List PV) : R (List PV) := .ok (p :: ps)
@[simp] theorem k_cons (p : PV) (ps : List PV) : consP p ps = .ok (p :: ps) := by unfold consP; exact Eq.refl _
@[simp] theorem x_consA {fs : PSt → R (List PV)} : consA f fs ρ = twoK consP (f ρ) (fs ρ) := by unfold consA; cases f ρ <;> cases fs ρ <;> rfl
def tupP (ps : List PV) : R PV := if ps.length ≤ 16777216 then .ok (.tup ps) else .no
def lstP (ps : List PV) : R PV := if ps.length ≤ 16777216 then .ok (.lst ps) else .no
@[simp] theorem k_tup (ps : List PV) : tupP ps = if ps.length ≤ 16777216 then .ok (.tup ps) else .no := by unfold tupP; exact Eq.refl _
@[simp] theorem k_lst (ps : List PV) : lstP ps = if ps.length ≤ 16777216 then .ok (.lst ps) else .no := by unfold lstP; exact Eq.refl _
@[simp] theorem x_tupF {fs : PSt → R (List PV)} : tupF fs ρ = bndK tupP (fs ρ) := by
  unfold tupF
  cases fs ρ with
  | ok ps => simp only [R.ok_bind, guardL, k_bnd, k_tup]; split <;> rfl
  | er x => rfl
  | no => rfl
@[simp] theorem x_lstF {fs : PSt → R (List PV)} : lstF fs ρ = bndK lstP (fs ρ) := by
  unfold lstF
  cases fs ρ with
  | ok ps => simp only [R.ok_bind, guardL, k_bnd, k_lst]; split <;> rfl
  | er x => rfl
  | no => rfl
def opP (g : PV → PV → Option PV) (p q : PV) : R PV := R.ofO (g p q)
def op1 (g : PV → Option PV) (p : PV) : R PV := R.ofO (g p)
@[simp] theorem k_op (g : PV → PV → Option PV) (p q : PV) : opP g p q = R.ofO (g p q) := by unfold opP; exact Eq.refl _
@[simp] theorem k_op1 (g : PV → Option PV) (p : PV) : op1 g p = R.ofO (g p) := by unfold op1; exact Eq.refl _
@[simp] theorem x_bin2 {g : PV → PV → Option PV} : bin2 fa fb g ρ = twoK (opP g) (fa ρ) (fb ρ) := by unfold bin2; cases fa ρ <;> cases fb ρ <;> rfl
@[simp] theorem x_un1 {g : PV → Option PV} : un1 f g ρ = bndK (op1 g) (f ρ) := by unfold un1; cases f ρ <;> rfl
def truP (p : PV) : R Bool := R.ofO (truB p)
@[simp] theorem k_tru (p : PV) : truP p = R.ofO (truB p) := by unfold truP; exact Eq.refl _
@[simp] theorem x_truF : truF f ρ = bndK truP (f ρ) := by unfold truF; cases f ρ <;> rfl
@[simp] theorem x_andB : andB t u ρ = ifK u (fun _ => .ok false) ρ (t ρ) := by
  unfold andB
  cases t ρ with
  | ok b => cases b <;> rfl
  | er x => rfl
  | no => rfl
@[simp] theorem x_orB : orB t u ρ = ifK (fun _ => .ok true) u ρ (t ρ) := by
  unfold orB
  cases t ρ with
  | ok b => cases b <;> rfl
  | er x => rfl
  | no => rfl
@[simp] theorem x_notB : notB t ρ = mapK not (t ρ) := by unfold notB; cases t ρ <;> rfl
def andK (fb : PSt → R PV) (ρ : PSt) (p : PV) : R PV := match p with
  | .bl true => fb ρ
  | .bl false => .ok (.bl false)
  | _ => .no
def orK (fb : PSt → R PV) (ρ : PSt) (p : PV) : R PV := match p with
  | .bl true => .ok (.bl true)
  | .bl false => fb ρ
  | _ => .no
@[simp] theorem k_and_t : andK fb ρ (.bl true) = fb ρ := by unfold andK; exact Eq.refl _
@[simp] theorem k_and_f : andK fb ρ (.bl false) = .ok (.bl false) := by unfold andK; exact Eq.refl _
@[simp] theorem k_or_t : orK fb ρ (.bl true) = .ok (.bl true) := by unfold orK; exact Eq.refl _
@[simp] theorem k_or_f : orK fb ρ (.bl false) = fb ρ := by unfold orK; exact Eq.refl _
@[simp] theorem x_andV : andV fa fb ρ = bndK (andK fb ρ) (fa ρ) := by unfold andV; cases fa ρ <;> rfl
@[simp] theorem x_orV : orV fa fb ρ = bndK (orK fb ρ) (fa ρ) := by unfold orV; cases fa ρ <;> rfl
def notP (p : PV) : R PV := match p with
  | .bl b => .ok (.bl (!b))
  | _ => .no
@[simp] theorem k_not (b : Bool) : notP (.bl b) = .ok (.bl (!b)) := by unfold notP; exact Eq.refl _
@[simp] theorem x_notV : notV fa ρ = bndK notP (fa ρ) := by unfold notV; cases fa ρ <;> rfl
@[simp] theorem x_ifV : ifV t fa fb ρ = ifK fa fb ρ (t ρ) := by
  unfold ifV
  cases t ρ with
  | ok b => cases b <;> rfl
  | er x => rfl
  | no => rfl
@[simp] theorem x_yesB : yesB ρ = .ok true := by unfold yesB; exact Eq.refl _
def callP (F : List PV → Option PV) (ps : List PV) : R PV := R.ofO (F ps)
@[simp] theorem k_call (F : List PV → Option PV) (ps : List PV) : callP F ps = R.ofO (F ps) := by unfold callP; exact Eq.refl _
@[simp] theorem x_callF {fs : PSt → R (List PV)} {F : List PV → Option PV} : callF fs F ρ = bndK (callP F) (fs ρ) := by unfold callF; cases fs ρ <;> rfl
def itQ (F : PV → Option (List PV)) (p : PV) : R (List PV) := R.ofO (F p)
@[simp] theorem k_it (F : PV → Option (List PV)) (p : PV) : itQ F p = R.ofO (F p) := by unfold itQ; exact Eq.refl _
@[simp] theorem x_itF : itF f ρ = bndK (itQ iterP) (f ρ) := by unfold itF; cases f ρ <;> rfl
@[simp] theorem x_enumF : enumF f ρ = bndK (itQ enumP) (f ρ) := by unfold enumF; cases f ρ <;> rfl
@[simp] theorem x_itemsF : itemsF f ρ = bndK (itQ itemsP) (f ρ) := by unfold itemsF; cases f ρ <;> rfl
def forP (h : Tgt) (g : PSt → R Fl) (ρ : PSt) (ps : List PV) : R Fl := forF h g ps ρ
@[simp] theorem k_for (h : Tgt) (ps : List PV) : forP h g ρ ps = forF h g ps ρ := by unfold forP; exact Eq.refl _
@[simp] theorem x_forS {fi : PSt → R (List PV)} {h : Tgt} : forS fi h g ρ = bndK (forP h g ρ) (fi ρ) := by unfold forS; cases fi ρ <;> rfl
@[simp] theorem x_rng1 : rng1 f ρ = bndK rngP (f ρ) := by unfold rng1; cases f ρ <;> rfl
@[simp] theorem x_rng2 : rng2 fa fb ρ = twoK rngQ (fa ρ) (fb ρ) := by unfold rng2; cases fa ρ <;> cases fb ρ <;> rfl
def methP (g : PV → PV → Option PV) (p q : PV) : R PV := if isStr p = true then R.ofO (g p q) else .no
@[simp] theorem k_meth (g : PV → PV → Option PV) (p : Str) (q : PV) : methP g (.str p) q = R.ofO (g (.str p) q) := by unfold methP; exact if_pos rfl
@[simp] theorem x_meth1s {g : PV → PV → Option PV} (x : Str) : meth1 (kS x) fb g ρ = bndK (opP g (.str x)) (fb ρ) := by unfold meth1; cases fb ρ <;> rfl
def unpP (h : Tgt) (ρ : PSt) (p : PV) : R Fl := mapK .next (R.ofO (h p ρ))
@[simp] theorem k_unp (h : Tgt) (p : PV) : unpP h ρ p = mapK .next (R.ofO (h p ρ)) := by unfold unpP; exact Eq.refl _
@[simp] theorem x_unpF {h : Tgt} : unpF f h ρ = bndK (unpP h ρ) (f ρ) := by
  unfold unpF
  cases f ρ with
  | ok p => simp only [R.ok_bind, k_bnd, k_unp]; cases h p ρ <;> rfl
  | er x => rfl
  | no => rfl
@[simp] theorem x_noPart : noPart ρ = .ok none := by unfold noPart; exact Eq.refl _
def aP (p : PV) : R (Option Int) := match p with
  | .int i => .ok (some i)
  | _ => .no
@[simp] theorem k_aP (i : Int) : aP (.int i) = .ok (some i) := by unfold aP; exact Eq.refl _
@[simp] theorem x_aPart : aPart f ρ = bndK aP (f ρ) := by unfold aPart; cases f ρ <;> rfl
def slQ (p : PV) (lh : Option Int × Option Int) : R PV := R.ofO (gSl p lh.1 lh.2)
def pairQ (a b : Option Int) : R (Option Int × Option Int) := .ok (a, b)
@[simp] theorem k_sl (p : PV) (a b : Option Int) : slQ p (a, b) = R.ofO (gSl p a b) := by unfold slQ; exact Eq.refl _
@[simp] theorem k_pair (a b : Option Int) : pairQ a b = .ok (a, b) := by unfold pairQ; exact Eq.refl _
@[simp] theorem x_sliceF {l h : PSt → R (Option Int)} : sliceF f l h ρ = twoK slQ (f ρ) (twoK pairQ (l ρ) (h ρ)) := by unfold sliceF; cases f ρ <;> cases l ρ <;> cases h ρ <;> rfl
@[simp] theorem x_newD : newD ρ = .ok (.dct [] []) := by unfold newD; exact Eq.refl _
@[simp] theorem x_nilD : nilD ρ = .ok [] := by unfold nilD; exact Eq.refl _
def keyQ (p : PV) : R Key := R.ofO (toKey p)
@[simp] theorem k_keyQ (p : PV) : keyQ p = R.ofO (toKey p) := by unfold keyQ; exact Eq.refl _
def kvQ (k : Key) (p : PV) : R (Key × PV) := .ok (k, p)
@[simp] theorem k_kvQ (k : Key) (p : PV) : kvQ k p = .ok (k, p) := by unfold kvQ; exact Eq.refl _
def consQ (a : Key × PV) (r : List (Key × PV)) : R (List (Key × PV)) := .ok (a :: r)
@[simp] theorem k_consQ (a : Key × PV) (r : List (Key × PV)) : consQ a r = .ok (a :: r) := by unfold consQ; exact Eq.refl _
@[simp] theorem x_consD {fd : PSt → R (List (Key × PV))} : consD fa fb fd ρ = twoK consQ (twoK kvQ (bndK keyQ (fa ρ)) (fb ρ)) (fd ρ) := by
  unfold consD
  cases fa ρ with
  | ok p => simp only [R.ok_bind, k_bnd, k_keyQ]; cases toKey p <;> cases fb ρ <;> cases fd ρ <;> rfl
  | er x => cases fb ρ <;> cases fd ρ <;> rfl
  | no => cases fb ρ <;> cases fd ρ <;> rfl
def dictP (kps : List (Key × PV)) : R PV := if kps.length ≤ 15 then .ok (mergeP kps) else .no
@[simp] theorem k_dictP (kps : List (Key × PV)) : dictP kps = if kps.length ≤ 15 then .ok (mergeP kps) else .no := by unfold dictP; exact Eq.refl _
@[simp] theorem x_dictF {fd : PSt → R (List (Key × PV))} : dictF fd ρ = bndK dictP (fd ρ) := by unfold dictF; cases fd ρ <;> rfl
def compP (h : Tgt) (t : PSt → R Bool) (fe : PSt → R PV) (ρ : PSt) (ps : List PV) : R PV := bndK lstP (noEr (compL h t fe ρ ps))
@[simp] theorem k_comp (h : Tgt) (ps : List PV) : compP h t f ρ ps = bndK lstP (noEr (compL h t f ρ ps)) := by unfold compP; exact Eq.refl _
@[simp] theorem x_compF {fi : PSt → R (List PV)} {h : Tgt} {nt : Nat} {idx : List Nat} : compF fi h t f nt idx ρ = bndK (compP h t f (compE nt idx ρ)) (fi ρ) := by
  unfold compF
  cases fi ρ with
  | ok ps =>
    simp only [R.ok_bind, k_bnd, k_comp]
    cases compL h t f (compE nt idx ρ) ps with
    | ok qs => simp only [noEr, R.ok_bind, k_bnd, k_lst, guardL]; split <;> rfl
    | er x => rfl
    | no => rfl
  | er x => rfl
  | no => rfl
@[simp] theorem x_nameT (p : PV) : nameT i p ρ = some (ρ.set i (.val p)) := by unfold nameT; exact Eq.refl _
@[simp] theorem x_nilT : nilT [] ρ = some ρ := by unfold nilT; exact Eq.refl _
@[simp] theorem x_consT {h : Tgt} {h' : Tgts} (p : PV) (r : List PV) : consT h h' (p :: r) ρ = (h p ρ).bind fun ρ1 => h' r ρ1 := by unfold consT; exact Eq.refl _
@[simp] theorem x_tupT {n : Nat} {h : Tgts} (ps : List PV) : tupT n h (.tup ps) ρ = if ps.length = n then h ps ρ else none := by unfold tupT; exact Eq.refl _
@[simp] theorem x_noErok (a : α) : noEr (.ok a) = .ok a := by unfold noEr; exact Eq.refl _
end
section
variable {p : PV} {l : Sl} {ρ : PSt} {i : Nat}
@[simp] theorem x_getV0 : getV 0 (.val p :: ρ) = .ok p := by unfold getV; exact Eq.refl _
@[simp] theorem x_getVs : getV (i + 1) (l :: ρ) = getV i ρ := by unfold getV; rw [List.getElem?_cons_succ]
@[simp] theorem x_getO0 : getO 0 (.val p :: ρ) = .ok p := by unfold getO; exact Eq.refl _
@[simp] theorem x_getO0' : getO 0 (.own p :: ρ) = .ok p := by unfold getO; exact Eq.refl _
@[simp] theorem x_getOs : getO (i + 1) (l :: ρ) = getO i ρ := by unfold getO; rw [List.getElem?_cons_succ]
@[simp] theorem x_frz0 : frzF 0 (.own p :: ρ) = .val p :: ρ := by unfold frzF; exact Eq.refl _
@[simp] theorem x_frz0v : frzF 0 (.val p :: ρ) = .val p :: ρ := by unfold frzF; exact Eq.refl _
theorem frzF_succ : frzF (i + 1) (l :: ρ) = l :: frzF i ρ := by
  unfold frzF
  simp only [List.getElem?_cons_succ]
  cases ρ[i]? with
  | none => rfl
  | some x => cases x <;> rfl
@[simp] theorem x_frzs : frzF (i + 1) (l :: ρ) = l :: frzF i ρ := frzF_succ
def roA (i : Nat) (ρ : PSt) : Sl := roS ρ[i]?
@[simp] theorem k_ro0 : roA 0 (.val p :: ρ) = .val p := by unfold roA roS; exact Eq.refl _
@[simp] theorem k_ro0o : roA 0 (.own p :: ρ) = .no := by unfold roA roS; exact Eq.refl _
@[simp] theorem k_ro0n : roA 0 (.no :: ρ) = .no := by unfold roA roS; exact Eq.refl _
@[simp] theorem k_ros : roA (i + 1) (l :: ρ) = roA i ρ := by unfold roA; rw [List.getElem?_cons_succ]
theorem x_compE (nt : Nat) (idx : List Nat) : compE nt idx ρ = List.replicate nt .no ++ idx.map fun i => roA i ρ := by unfold compE roA; exact Eq.refl _
def appQ (i : Nat) (ρ : PSt) (p : PV) : R PSt := match ρ[i]? with
  | some (.own (.lst ps)) => if ps.length < 16777216 then .ok (ρ.set i (.own (.lst (ps ++ [p])))) else .no
  | _ => .no
def hasL (i : Nat) (ρ : PSt) : Bool := match ρ[i]? with
  | some (.own (.lst _)) => true
  | _ => false
def consR (l : Sl) (ρ : PSt) : PSt := l :: ρ
@[simp] theorem k_consR : consR l ρ = l :: ρ := by unfold consR; exact Eq.refl _
@[simp] theorem k_app0 (ps : List PV) : appQ 0 (.own (.lst ps) :: ρ) p = if ps.length < 16777216 then .ok (.own (.lst (ps ++ [p])) :: ρ) else .no := by unfold appQ; exact Eq.refl _
@[simp] theorem k_apps : appQ (i + 1) (l :: ρ) p = mapK (consR l) (appQ i ρ p) := by
  unfold appQ
  rw [List.getElem?_cons_succ]
  cases ρ[i]? with
  | none => rfl
  | some x =>
    cases x with
    | own q =>
      cases q with
      | lst ps => dsimp only; split <;> rfl
      | _ => rfl
    | _ => rfl
@[simp] theorem k_has0 (ps : List PV) : hasL 0 (.own (.lst ps) :: ρ) = true := by unfold hasL; exact Eq.refl _
@[simp] theorem k_hass : hasL (i + 1) (l :: ρ) = hasL i ρ := by unfold hasL; rw [List.getElem?_cons_succ]
def appZ (i : Nat) (ρ : PSt) (p : PV) : R Fl := mapK .next (appQ i ρ p)
@[simp] theorem k_appZ : appZ i ρ p = mapK .next (appQ i ρ p) := by unfold appZ; exact Eq.refl _
theorem appF_eq (f : PSt → R PV) (h : hasL i ρ = true) : appF i f ρ = bndK (appZ i ρ) (f ρ) := by
  unfold hasL at h
  unfold appF
  cases e : ρ[i]? with
  | none => rw [e] at h; cases h
  | some x =>
    rw [e] at h
    cases x with
    | own q =>
      cases q with
      | lst ps =>
        dsimp only
        cases f ρ with
        | ok p =>
          simp only [R.ok_bind, k_bnd, k_appZ]
          unfold appQ
          rw [e]
          dsimp only
          split <;> rfl
        | er x => rfl
        | no => rfl
      | _ => cases h
    | _ => cases h
def appC (b : Bool) (i : Nat) (ρ : PSt) (r : R PV) : R Fl := if b = true then bndK (appZ i ρ) r else .no
@[simp] theorem k_appC (r : R PV) : appC true i ρ r = bndK (appZ i ρ) r := by unfold appC; exact if_pos rfl
@[simp] theorem x_appF (f : PSt → R PV) : appF i f ρ = appC (hasL i ρ) i ρ (f ρ) := by
  cases h : hasL i ρ with
  | true => rw [appF_eq f h, k_appC]
  | false =>
    unfold appC
    rw [if_neg Bool.false_ne_true]
    unfold hasL at h
    unfold appF
    split
    · rename_i ps e
      rw [e] at h
      cases h
    · rfl
def putQ (i : Nat) (ρ : PSt) (k : Key) (p : PV) : R PSt := match ρ[i]? with
  | some (.own (.dct ks ps)) => if ks.length < 16777216 then .ok (ρ.set i (.own (putP ks ps k p))) else .no
  | _ => .no
def hasD (i : Nat) (ρ : PSt) : Bool := match ρ[i]? with
  | some (.own (.dct _ _)) => true
  | _ => false
@[simp] theorem k_put0 (ks : List Key) (ps : List PV) (k : Key) : putQ 0 (.own (.dct ks ps) :: ρ) k p = if ks.length < 16777216 then .ok (.own (putP ks ps k p) :: ρ) else .no := by unfold putQ; exact Eq.refl _
@[simp] theorem k_puts (k : Key) : putQ (i + 1) (l :: ρ) k p = mapK (consR l) (putQ i ρ k p) := by
  unfold putQ
  rw [List.getElem?_cons_succ]
  cases ρ[i]? with
  | none => rfl
  | some x =>
    cases x with
    | own q =>
      cases q with
      | dct ks ps => dsimp only; split <;> rfl
      | _ => rfl
    | _ => rfl
@[simp] theorem k_hasD0 (ks : List Key) (ps : List PV) : hasD 0 (.own (.dct ks ps) :: ρ) = true := by unfold hasD; exact Eq.refl _
@[simp] theorem k_hasDs : hasD (i + 1) (l :: ρ) = hasD i ρ := by unfold hasD; rw [List.getElem?_cons_succ]
def putZ (i : Nat) (ρ : PSt) (p : PV) (k : Key) : R Fl := mapK .next (putQ i ρ k p)
@[simp] theorem k_putZ (k : Key) : putZ i ρ p k = mapK .next (putQ i ρ k p) := by unfold putZ; exact Eq.refl _
def putC (b : Bool) (i : Nat) (ρ : PSt) (v : R PV) (k : R PV) : R Fl := if b = true then twoK (putZ i ρ) v (bndK keyQ k) else .no
@[simp] theorem k_putC (v k : R PV) : putC true i ρ v k = twoK (putZ i ρ) v (bndK keyQ k) := by unfold putC; exact if_pos rfl
@[simp] theorem x_putF (fk fv : PSt → R PV) : putF i fk fv ρ = putC (hasD i ρ) i ρ (fv ρ) (fk ρ) := by
  unfold putF hasD
  cases e : ρ[i]? with
  | none => rfl
  | some x =>
    cases x with
    | own q =>
      cases q with
      | dct ks ps =>
        dsimp only
        rw [k_putC]
        cases fv ρ with
        | ok p =>
          simp only [R.ok_bind]
          cases fk ρ with
          | ok kp =>
            simp only [R.ok_bind, k_bnd, k_keyQ]
            cases toKey kp with
            | none => rfl
            | some k =>
              simp only [R.ofO_some, R.ok_bind, k_two, k_putZ]
              unfold putQ
              rw [e]
              dsimp only
              split <;> rfl
          | er x => rfl
          | no => rfl
        | er x => rfl
        | no => rfl
      | _ => rfl
    | _ => rfl
end
@[simp] theorem v_add_int (a b : Int) : gAdd (.int a) (.int b) = some (.int (a + b)) := rfl
theorem v_add_str {a b : Str} (h : a.length + b.length ≤ 16777216) : gAdd (.str a) (.str b) = some (.str (a ++ b)) := if_pos h
theorem v_add_lst {a b : List PV} (h : a.length + b.length ≤ 16777216) : gAdd (.lst a) (.lst b) = some (.lst (a ++ b)) := if_pos h
@[simp] theorem v_add_tup (a b : List PV) : gAdd (.tup a) (.tup b) = if a.length + b.length ≤ 16777216 then some (.tup (a ++ b)) else none := rfl
@[simp] theorem v_sub (a b : Int) : gSub (.int a) (.int b) = some (.int (a - b)) := rfl
theorem v_mul {a b : Int} (h : a.natAbs < 18446744073709551616 ∨ b.natAbs < 18446744073709551616) : gMul (.int a) (.int b) = some (.int (a * b)) := if_pos h
theorem v_div {a b : Int} (h : 0 < b ∧ b < 1073741824) : gDiv (.int a) (.int b) = some (.int (a / b)) := if_pos h
theorem v_mod {a b : Int} (h : 0 < b) : gMod (.int a) (.int b) = some (.int (a % b)) := if_pos h
@[simp] theorem v_lt (a b : Int) : gLt (.int a) (.int b) = some (.bl (decide (a < b))) := rfl
@[simp] theorem v_le (a b : Int) : gLe (.int a) (.int b) = some (.bl (decide (a ≤ b))) := rfl
@[simp] theorem v_gt (a b : Int) : gGt (.int a) (.int b) = some (.bl (decide (b < a))) := rfl
@[simp] theorem v_ge (a b : Int) : gGe (.int a) (.int b) = some (.bl (decide (b ≤ a))) := rfl
@[simp] theorem v_lt_str (x y : Str) : gLt (.str x) (.str y) = some (.bl (decide (x.cps.toList < y.cps.toList))) := rfl
@[simp] theorem v_eq_int (a b : Int) : gEq (.int a) (.int b) = some (.bl (decide (a = b))) := by simp [gEq, isSc, scV, scal]
@[simp] theorem v_eq_str (a b : Str) : gEq (.str a) (.str b) = some (.bl (decide (a = b))) := by simp [gEq, isSc, scV, scal]
@[simp] theorem v_eq_bl (a b : Bool) : gEq (.bl a) (.bl b) = some (.bl (decide (a = b))) := by simp [gEq, isSc, scV, scal]
@[simp] theorem v_ne_int (a b : Int) : gNe (.int a) (.int b) = some (.bl (!decide (a = b))) := by simp [gNe, isSc, scV, scal]
@[simp] theorem v_ne_str (a b : Str) : gNe (.str a) (.str b) = some (.bl (!decide (a = b))) := by simp [gNe, isSc, scV, scal]
@[simp] theorem v_tru_bl (b : Bool) : truB (.bl b) = some b := rfl
@[simp] theorem v_tru_lst (ps : List PV) : truB (.lst ps) = some (!ps.isEmpty) := rfl
@[simp] theorem v_tru_dct (ks : List Key) (ps : List PV) : truB (.dct ks ps) = some (!ks.isEmpty) := rfl
@[simp] theorem v_len_lst (ps : List PV) : gLen (.lst ps) = some (.int ps.length) := rfl
@[simp] theorem v_len_tup (ps : List PV) : gLen (.tup ps) = some (.int ps.length) := rfl
theorem v_len_str {x : Str} (h : x.length ≤ 16777216) : gLen (.str x) = some (.int x.length) := if_pos h
@[simp] theorem v_ix_lst (ps : List PV) (i : Int) : gIx (.lst ps) (.int i) = atI ps i := rfl
@[simp] theorem v_ix_tup (ps : List PV) (i : Int) : gIx (.tup ps) (.int i) = atI ps i := rfl
theorem v_ix_str {z : Str} {i : Int} {c : Nat} (h : z.length ≤ 16777216) (e : atI z.cps.toList i = some c) : gIx (.str z) (.int i) = some (.str ⟨#[c]⟩) := by
  show (if z.length ≤ 16777216 then (atI z.cps.toList i).map fun c => PV.str ⟨#[c]⟩ else none) = _
  rw [if_pos h, e]
  rfl
@[simp] theorem v_ix_dct (ks : List Key) (ps : List PV) (k : PV) : gIx (.dct ks ps) k = (toKey k).bind fun k => lookP ks ps k := rfl
@[simp] theorem v_key_int (i : Int) : toKey (.int i) = some (.inl i) := rfl
@[simp] theorem v_key_str (x : Str) : toKey (.str x) = some (.inr x) := rfl
@[simp] theorem v_look (k j : Key) (ks : List Key) (p : PV) (ps : List PV) : lookP (k :: ks) (p :: ps) j = if k = j then some p else lookP ks ps j := rfl
@[simp] theorem v_in_dct (p : PV) (ks : List Key) (ps : List PV) : gIn p (.dct ks ps) = (toKey p).map fun k => .bl (ks.any fun j => decide (j = k)) := by cases p <;> rfl
@[simp] theorem v_int_bl (b : Bool) : gInt (.bl b) = some (.int (if b then 1 else 0)) := rfl
@[simp] theorem v_int_int (b : Int) : gInt (.int b) = some (.int b) := rfl
@[simp] theorem v_tup_lst (ps : List PV) : gTuple (.lst ps) = some (.tup ps) := rfl
@[simp] theorem v_tup_tup (ps : List PV) : gTuple (.tup ps) = some (.tup ps) := rfl
@[simp] theorem v_it_lst (ps : List PV) : iterP (.lst ps) = some ps := rfl
@[simp] theorem v_it_tup (ps : List PV) : iterP (.tup ps) = some ps := rfl
@[simp] theorem v_it_dct (ks : List Key) (ps : List PV) : iterP (.dct ks ps) = some (ks.map keyP) := rfl
@[simp] theorem v_keyP (x : Str) : keyP (.inr x) = .str x := rfl
@[simp] theorem v_enum_lst (ps : List PV) : enumP (.lst ps) = some ((numP ps).map .tup) := rfl
@[simp] theorem v_enum_str (x : Str) : enumP (.str x) = some ((numP (signsP x)).map .tup) := rfl
@[simp] theorem v_str_int (i : Int) : gStr (.int i) = if i.natAbs.log2 < 1920 then some (.str (toString i)) else none := rfl
@[simp] theorem v_str_str (x : Str) : gStr (.str x) = some (.str x) := rfl
@[simp] theorem v_isStr (x : Str) : isStr (.str x) = true := rfl
@[simp] theorem v_sl_lst (ps : List PV) (lo hi : Option Int) : gSl (.lst ps) lo hi = some (.lst (cutP ps lo hi)) := rfl
theorem atI_of {α : Type} {xs : List α} {i : Int} {n : Nat} {x : α} (hi : i = n) (h : xs[n]? = some x) : atI xs i = some x := by
  subst hi
  have hl := (List.getElem?_eq_some_iff.mp h).1
  unfold atI ixN
  rw [if_pos (by omega), if_pos (by omega)]
  simpa using h
@[simp] theorem atI_0 {α : Type} (x : α) (xs : List α) : atI (x :: xs) 0 = some x := atI_of (n := 0) rfl rfl
@[simp] theorem atI_1 {α : Type} (x y : α) (xs : List α) : atI (x :: y :: xs) 1 = some y := atI_of (n := 1) rfl rfl
@[simp] theorem atI_2 {α : Type} (x y z : α) (xs : List α) : atI (x :: y :: z :: xs) 2 = some z := atI_of (n := 2) rfl rfl
@[simp] theorem atI_3 {α : Type} (x y z u : α) (xs : List α) : atI (x :: y :: z :: u :: xs) 3 = some u := atI_of (n := 3) rfl rfl
@[simp] theorem atI_4 {α : Type} (x y z u v : α) (xs : List α) : atI (x :: y :: z :: u :: v :: xs) 4 = some v := atI_of (n := 4) rfl rfl
theorem forF_by {h : Tgt} {g : PSt → R Fl} (I : Nat → PSt → Prop) : ∀ (ps : List PV) (n : Nat) (ρ : PSt), I n ρ →
    (∀ (i : Nat) (p : PV) (ρ : PSt), ps[i]? = some p → I (n + i) ρ → ∃ ρ1 ρ2, h p ρ = some ρ1 ∧ (g ρ1 = .ok (.next ρ2) ∨ g ρ1 = .ok (.cont ρ2)) ∧ I (n + i + 1) ρ2) →
    ∃ ρ', forF h g ps ρ = .ok (.next ρ') ∧ I (n + ps.length) ρ'
  | [], n, ρ, h0, _ => ⟨ρ, rfl, h0⟩
  | p :: ps, n, ρ, h0, hs => by
    obtain ⟨ρ1, ρ2, e1, e2, i2⟩ := hs 0 p ρ rfl h0
    obtain ⟨ρ3, e3, i3⟩ := forF_by I ps (n + 1) ρ2 i2 fun i q ρ' hq hi => by
      have := hs (i + 1) q ρ' (by simpa using hq) (by rw [show n + (i + 1) = n + 1 + i by omega]; exact hi)
      rw [show n + (i + 1) + 1 = n + 1 + i + 1 by omega] at this
      exact this
    refine ⟨ρ3, ?_, by rw [List.length_cons, show n + (ps.length + 1) = n + 1 + ps.length by omega]; exact i3⟩
    unfold forF
    rw [e1]
    rcases e2 with e2 | e2 <;> (simp only [R.ofO_some, R.ok_bind, e2]; exact e3)
theorem forF_inv {h : Tgt} {g : PSt → R Fl} {ps : List PV} {ρ : PSt} (I : Nat → PSt → Prop) (h0 : I 0 ρ)
    (hs : ∀ (i : Nat) (p : PV) (ρ : PSt), ps[i]? = some p → I i ρ → ∃ ρ1 ρ2, h p ρ = some ρ1 ∧ (g ρ1 = .ok (.next ρ2) ∨ g ρ1 = .ok (.cont ρ2)) ∧ I (i + 1) ρ2) :
    ∃ ρ', forF h g ps ρ = .ok (.next ρ') ∧ I ps.length ρ' := by
  have := forF_by I ps 0 ρ h0 fun i p ρ hp hi => by
    rw [Nat.zero_add] at hi ⊢
    exact hs i p ρ hp hi
  simpa using this
theorem rangeP_len (lo : Int) (n : Nat) : (rangeP lo n).length = n := by simp [rangeP]
theorem rangeP_get {lo : Int} {n i : Nat} {p : PV} (h : (rangeP lo n)[i]? = some p) : i < n ∧ p = .int (lo + i) := by
  unfold rangeP at h
  rw [List.getElem?_map] at h
  by_cases hi : i < n
  · rw [List.getElem?_range hi] at h
    exact ⟨hi, (Option.some.inj h).symm⟩
  · rw [List.getElem?_eq_none (by simpa using hi)] at h
    cases h
theorem forR {h : Tgt} {g : PSt → R Fl} {lo : Int} {n : Nat} {ρ : PSt} (I : Nat → PSt → Prop) (h0 : I 0 ρ)
    (hs : ∀ (i : Nat) (ρ : PSt), i < n → I i ρ → ∃ ρ1 ρ2, h (.int (lo + i)) ρ = some ρ1 ∧ (g ρ1 = .ok (.next ρ2) ∨ g ρ1 = .ok (.cont ρ2)) ∧ I (i + 1) ρ2) :
    ∃ ρ', forF h g (rangeP lo n) ρ = .ok (.next ρ') ∧ I n ρ' := by
  obtain ⟨ρ', e, i'⟩ := forF_inv (ps := rangeP lo n) I h0 fun i p ρ hp hi => by
    obtain ⟨hn, rfl⟩ := rangeP_get hp
    exact hs i ρ hn hi
  rw [rangeP_len] at i'
  exact ⟨ρ', e, i'⟩
theorem forM_go {α : Type} {enc : α → PV} {h : Tgt} {g : PSt → R Fl} {xs : List α} (I : List α → PSt → Prop)
    (hs : ∀ (pre : List α) (x : α) (post : List α) (ρ : PSt), xs = pre ++ x :: post → I pre ρ → ∃ ρ1 ρ2, h (enc x) ρ = some ρ1 ∧ (g ρ1 = .ok (.next ρ2) ∨ g ρ1 = .ok (.cont ρ2)) ∧ I (pre ++ [x]) ρ2) :
    ∀ (ys pre : List α) (ρ : PSt), xs = pre ++ ys → I pre ρ → ∃ ρ', forF h g (ys.map enc) ρ = .ok (.next ρ') ∧ I xs ρ'
  | [], pre, ρ, e, h0 => ⟨ρ, rfl, by rw [e, List.append_nil]; exact h0⟩
  | y :: ys, pre, ρ, e, h0 => by
    obtain ⟨ρ1, ρ2, e1, e2, i2⟩ := hs pre y ys ρ e h0
    obtain ⟨ρ3, e3, i3⟩ := forM_go I hs ys (pre ++ [y]) ρ2 (by rw [e]; simp) i2
    refine ⟨ρ3, ?_, i3⟩
    rw [List.map_cons]
    unfold forF
    rw [e1]
    rcases e2 with e2 | e2 <;> (simp only [R.ofO_some, R.ok_bind, e2]; exact e3)
theorem forM {α : Type} {enc : α → PV} {h : Tgt} {g : PSt → R Fl} {xs : List α} {ρ : PSt} (I : List α → PSt → Prop) (h0 : I [] ρ)
    (hs : ∀ (pre : List α) (x : α) (post : List α) (ρ : PSt), xs = pre ++ x :: post → I pre ρ → ∃ ρ1 ρ2, h (enc x) ρ = some ρ1 ∧ (g ρ1 = .ok (.next ρ2) ∨ g ρ1 = .ok (.cont ρ2)) ∧ I (pre ++ [x]) ρ2) :
    ∃ ρ', forF h g (xs.map enc) ρ = .ok (.next ρ') ∧ I xs ρ' := forM_go I hs xs [] ρ rfl h0
end PU
end
section
namespace PU
open PySem L2
theorem run_ret {m n : Nat} {g : PSt → R Fl} {ps : List PV} {p : PV} (hl : ps.length = m) (h : g (PU.start n ps) = .ok (.ret p)) : runF m n g ps = some p := by
  unfold runF
  rw [if_pos hl, h]
theorem atI_getD {α : Type} {xs : List α} {i : Int} (d : α) (h0 : 0 ≤ i) (h1 : i < xs.length) : atI xs i = some (xs.getD i.toNat d) := by
  have h2 : i.toNat < xs.length := by omega
  exact atI_of (n := i.toNat) (by omega) (by simp [h2])
def mkS (l : List Nat) : Str := ⟨l.toArray⟩
theorem mkS_app (a b : List Nat) : mkS a ++ mkS b = mkS (a ++ b) := by
  show Str.mk (a.toArray ++ b.toArray) = _
  simp [mkS]
@[simp] theorem mkS_len (a : List Nat) : (mkS a).length = a.length := by simp [mkS, Str.length]
@[simp] theorem mkS_codes (a : List Nat) : (mkS a).cps.toList = a := by simp [mkS]
theorem mkS_one (c : Nat) : (⟨#[c]⟩ : Str) = mkS [c] := rfl
theorem mkS_of (x : Str) : mkS x.cps.toList = x := by cases x; simp [mkS]
theorem empty_eq : ("" : Str) = mkS [] := by decide +kernel
theorem ix_codes (l : List Nat) (z : Int) (h0 : 0 ≤ z) (h1 : z < l.length) (hl : l.length ≤ 16777216) : gIx (.str (mkS l)) (.int z) = some (.str ⟨#[l.getD z.toNat 0]⟩) :=
  v_ix_str (by simpa using hl) (by rw [mkS_codes]; exact atI_getD 0 h0 h1)
theorem add_code (x : List Nat) (c : Nat) (hx : x.length ≤ 1000) : gAdd (.str (mkS x)) (.str ⟨#[c]⟩) = some (.str (mkS (x ++ [c]))) := by
  rw [mkS_one, v_add_str (by simp; omega), mkS_app]
theorem allStr_map (xs : List Str) : allStr (xs.map .str) = some xs := by
  induction xs with
  | nil => rfl
  | cons x r ih => simp [allStr, ih]
theorem v_join {s : Str} {xs : List Str} (h : (xs.map (·.length)).sum + xs.length * s.length ≤ 16777216) : gJoin (.str s) (.lst (xs.map .str)) = some (.str (Str.join s xs)) := by
  show (allStr (xs.map PV.str)).bind (fun ys => if (ys.map (·.length)).sum + ys.length * s.length ≤ 16777216 then some (PV.str (Txt.join s ys)) else none) = _
  rw [allStr_map, Option.bind_some, if_pos h, join_str]
end PU
namespace MT
open PySem L2 PU
inductive Room where
  | menu (text : Str) (keys : List (Str × Str)) (wrong waits : Int × Str)
  | names (text : Str) (words : List (Str × Str)) (wrong waits : Int × Str)
  | hours (spans : List (Int × Int × Str)) (last : Str)
  | hand (text : Str)
  | fin (text : Str)
structure House where
  first : Str
  letters : List (Str × Str)
  rooms : List (Str × Room)
def pv2 (p : Str × Str) : PV := .tup [.str p.1, .str p.2]
def pvI (p : Int × Str) : PV := .tup [.int p.1, .str p.2]
def pv3 (p : Int × Int × Str) : PV := .tup [.int p.1, .int p.2.1, .str p.2.2]
def Room.pv : Room → PV
  | .menu t ks wr wa => .tup [.str "menu", .str t, .tup (ks.map pv2), pvI wr, pvI wa]
  | .names t ks wr wa => .tup [.str "names", .str t, .tup (ks.map pv2), pvI wr, pvI wa]
  | .hours sp l => .tup [.str "hours", .tup (sp.map pv3), .str l]
  | .hand t => .tup [.str "hand", .str t]
  | .fin t => .tup [.str "end", .str t]
def pvRooms (rs : List (Str × Room)) : PV := .dct (rs.map fun r => .inr r.1) (rs.map fun r => r.2.pv)
def House.pv (h : House) : PV := .dct [.inr "first", .inr "letters", .inr "rooms"] [.str h.first, .lst (h.letters.map pv2), pvRooms h.rooms]
def num (i : Int) : Str := toString i
abbrev sp : Str := " "
def limRow (kind name : Str) (wr wa : Int × Str) (t : Str) : Str := kind ++ (sp ++ (name ++ (sp ++ (num wr.1 ++ (sp ++ (wr.2 ++ (sp ++ (num wa.1 ++ (sp ++ (wa.2 ++ (sp ++ t)))))))))))
def row3 (a b c : Str) : Str := a ++ (sp ++ (b ++ (sp ++ c)))
def row4 (a b c d : Str) : Str := a ++ (sp ++ (b ++ (sp ++ (c ++ (sp ++ d)))))
def roomRows (name : Str) : Room → List Str
  | .menu t ks wr wa => limRow "menu" name wr wa t :: ks.map fun k => row3 "key" k.1 k.2
  | .names t ks wr wa => limRow "names" name wr wa t :: ks.map fun k => row3 "name" k.1 k.2
  | .hours sp l => row3 "hours" name l :: sp.map fun s => row4 "from" (num s.1) (num s.2.1) s.2.2
  | .hand t => [row3 "hand" name t]
  | .fin t => [row3 "end" name t]
def House.rows (h : House) : List Str := ("first" ++ (sp ++ h.first) : Str) :: (h.letters.map (fun l => row3 "letters" l.1 l.2) ++ h.rooms.flatMap fun r => roomRows r.1 r.2)
def House.text (h : House) : Str := Str.join "\n" h.rows
structure LimOk (p : Int × Str) : Prop where
  lo : 1 ≤ p.1
  hi : p.1 ≤ 9
  nm : p.2.length ≤ 12
def RoomOk : Room → Prop
  | .menu t ks wr wa => t.length ≤ 80 ∧ ks.length ≤ 12 ∧ (∀ k ∈ ks, k.1.length ≤ 12 ∧ k.2.length ≤ 12) ∧ LimOk wr ∧ LimOk wa
  | .names t ks wr wa => t.length ≤ 80 ∧ ks.length ≤ 12 ∧ (∀ k ∈ ks, k.1.length ≤ 12 ∧ k.2.length ≤ 12) ∧ LimOk wr ∧ LimOk wa
  | .hours sp l => sp.length ≤ 12 ∧ (∀ s ∈ sp, 0 ≤ s.1 ∧ s.1 ≤ 24 ∧ 0 ≤ s.2.1 ∧ s.2.1 ≤ 24 ∧ s.2.2.length ≤ 12) ∧ l.length ≤ 12
  | .hand t => t.length ≤ 80
  | .fin t => t.length ≤ 80
structure HouseOk (h : House) : Prop where
  first : h.first.length ≤ 12
  nlet : h.letters.length ≤ 12
  lets : ∀ l ∈ h.letters, l.1.length ≤ 12 ∧ l.2.length ≤ 30
  nrooms : h.rooms.length ≤ 12
  rooms : ∀ r ∈ h.rooms, r.1.length ≤ 12 ∧ RoomOk r.2
  nd : (h.rooms.map (·.1)).Nodup
end MT
end
section
namespace PU
open PySem L2
def chZ (fc : PSt → R PV) (g' : PV → PV → Option PV) (ρ : PSt) (q : PV) : PV → R PV
  | .bl true => bndK (opP g' q) (fc ρ)
  | .bl false => .ok (.bl false)
  | _ => .no
def chQ (fc : PSt → R PV) (g g' : PV → PV → Option PV) (ρ : PSt) (p q : PV) : R PV := bndK (chZ fc g' ρ q) (R.ofO (g p q))
@[simp] theorem k_chT (fc : PSt → R PV) (g' : PV → PV → Option PV) (ρ : PSt) (q : PV) : chZ fc g' ρ q (.bl true) = bndK (opP g' q) (fc ρ) := by unfold chZ; exact Eq.refl _
@[simp] theorem k_chF (fc : PSt → R PV) (g' : PV → PV → Option PV) (ρ : PSt) (q : PV) : chZ fc g' ρ q (.bl false) = .ok (.bl false) := by unfold chZ; exact Eq.refl _
@[simp] theorem k_chQ (fc : PSt → R PV) (g g' : PV → PV → Option PV) (ρ : PSt) (p q : PV) : chQ fc g g' ρ p q = bndK (chZ fc g' ρ q) (R.ofO (g p q)) := by unfold chQ; exact Eq.refl _
@[simp] theorem x_chain2 {fa fb fc : PSt → R PV} {g g' : PV → PV → Option PV} {ρ : PSt} : chain2 fa fb fc g g' ρ = twoK (chQ fc g g' ρ) (fa ρ) (fb ρ) := by
  unfold chain2
  cases fa ρ with
  | ok p =>
    cases fb ρ with
    | ok q =>
      simp only [R.ok_bind, k_two, k_chQ]
      cases g p q with
      | none => rfl
      | some z =>
        simp only [R.ofO_some, R.ok_bind, k_bnd]
        cases z with
        | bl b =>
          cases b with
          | true =>
            rw [k_chT]
            cases fc ρ <;> rfl
          | false => rfl
        | _ => rfl
    | _ => rfl
  | _ => cases fb ρ <;> rfl
theorem cutP_map {α : Type} (f : α → PV) (xs : List α) (lo hi : Option Int) : cutP (xs.map f) lo hi = (cutP xs lo hi).map f := by simp [cutP]
theorem compL_filter {α : Type} {enc : α → PV} {h : Tgt} {t : PSt → R Bool} {fe : PSt → R PV} {ρ : PSt} (P : α → Bool) (F : α → PV) : ∀ (xs : List α),
    (∀ x ∈ xs, ∃ ρ1, h (enc x) ρ = some ρ1 ∧ t ρ1 = .ok (P x) ∧ (P x = true → fe ρ1 = .ok (F x))) → compL h t fe ρ (xs.map enc) = .ok ((xs.filter P).map F)
  | [], _ => rfl
  | x :: xs, hs => by
    obtain ⟨ρ1, e1, e2, e3⟩ := hs x (List.mem_cons_self ..)
    have ih := compL_filter P F xs fun y hy => hs y (List.mem_cons_of_mem _ hy)
    rw [List.map_cons]
    unfold compL
    rw [e1]
    simp only [R.ofO_some, R.ok_bind, e2]
    cases hp : P x with
    | true =>
      rw [if_pos rfl, e3 hp, List.filter_cons_of_pos hp, List.map_cons]
      simp only [R.ok_bind, ih]
    | false =>
      rw [if_neg Bool.false_ne_true, List.filter_cons_of_neg (by rw [hp]; exact Bool.false_ne_true)]
      exact ih
theorem forM_find {α : Type} {enc : α → PV} {h : Tgt} {g : PSt → R Fl} (P : α → Bool) (F : α → PV) (I : PSt → Prop)
    (hs : ∀ (x : α) (ρ : PSt), I ρ → ∃ ρ1, h (enc x) ρ = some ρ1 ∧ (P x = true → g ρ1 = .ok (.ret (F x))) ∧ (P x = false → ∃ ρ2, g ρ1 = .ok (.next ρ2) ∧ I ρ2)) :
    ∀ (xs : List α) (ρ : PSt), I ρ → (∀ x, xs.find? P = some x → forF h g (xs.map enc) ρ = .ok (.ret (F x))) ∧ (xs.find? P = none → ∃ ρ', forF h g (xs.map enc) ρ = .ok (.next ρ') ∧ I ρ')
  | [], ρ, h0 => ⟨fun x e => (by cases e), fun _ => ⟨ρ, rfl, h0⟩⟩
  | x :: xs, ρ, h0 => by
    obtain ⟨ρ1, e1, e2, e3⟩ := hs x ρ h0
    cases hp : P x with
    | true =>
      rw [List.find?_cons_of_pos hp]
      refine ⟨fun y e => ?_, fun e => by cases e⟩
      cases e
      rw [List.map_cons]
      unfold forF
      rw [e1]
      simp only [R.ofO_some, R.ok_bind, e2 hp]
    | false =>
      obtain ⟨ρ2, e4, i2⟩ := e3 hp
      obtain ⟨k1, k2⟩ := forM_find P F I hs xs ρ2 i2
      rw [List.find?_cons_of_neg (by rw [hp]; exact Bool.false_ne_true)]
      have e5 : forF h g ((x :: xs).map enc) ρ = forF h g (xs.map enc) ρ2 := by
        rw [List.map_cons]
        conv => lhs; unfold forF
        rw [e1]
        simp only [R.ofO_some, R.ok_bind, e4]
      rw [e5]
      exact ⟨k1, k2⟩
@[simp] theorem x_whS {n : Nat} {t : PSt → R Bool} {g : PSt → R Fl} {ρ : PSt} : whS n t g ρ = whF t g n ρ := by unfold whS; exact Eq.refl _
def mdK (fe : PSt → R PV) (g : PV → PV → Option PV) (ρ : PSt) (p : PV) : R PV := if isDct p = true then bndK (opP g p) (fe ρ) else .no
@[simp] theorem k_mdK (fe : PSt → R PV) (g : PV → PV → Option PV) (ρ : PSt) (ks : List Key) (ps : List PV) : mdK fe g ρ (.dct ks ps) = bndK (opP g (.dct ks ps)) (fe ρ) := by unfold mdK; exact if_pos rfl
@[simp] theorem x_methD {fo fe : PSt → R PV} {g : PV → PV → Option PV} {ρ : PSt} : methD fo fe g ρ = bndK (mdK fe g ρ) (fo ρ) := by
  unfold methD
  cases fo ρ with
  | ok p =>
    rw [R.ok_bind, k_bnd]
    unfold mdK
    split
    · cases fe ρ <;> rfl
    · rfl
  | _ => rfl
end PU
end
section
namespace WO
open PySem L2 PU MT
def sg (c : Nat) : PV := .str ⟨#[c]⟩
theorem signs_mk (l : List Nat) : signsP (mkS l) = l.map sg := by unfold signsP sg; rw [mkS_codes]
theorem it_mk (l : List Nat) : iterP (.str (mkS l)) = some (l.map sg) := by rw [← signs_mk]; unfold iterP; exact Eq.refl _
theorem in_one (c : Nat) (l : List Nat) : gIn (sg c) (.str (mkS l)) = some (.bl (decide (c ∈ l))) := by
  show some (PV.bl (inS ⟨#[c]⟩ (mkS l))) = _
  have e := PySem.StrLaws.found_one (mkS l) c
  rw [mkS_codes] at e
  unfold inS
  rw [e]
def keyPv (o : Option Nat) : PV := match o with
  | some k => sg k
  | none => .non
def codePv (o : Option (List Nat)) : PV := match o with
  | some c => .str (mkS c)
  | none => .non
abbrev Lts := List (Nat × List Nat)
def ltPv (ls : Lts) : PV := .lst (ls.map fun l => .tup [sg l.1, .str (mkS l.2)])
def keyL (ls : Lts) (c : Nat) : Option Nat := (ls.find? fun l => decide (c ∈ l.2)).map (·.1)
def codeL (ls : Lts) (x : List Nat) : Option (List Nat) := if x.all (fun c => (keyL ls c).isSome) = true then some (x.map fun c => (keyL ls c).getD 0) else none
theorem join_sg : ∀ l : List Nat, Str.join "" (l.map fun c => (⟨#[c]⟩ : Str)) = mkS l
  | [] => by rw [← empty_eq]; rfl
  | [a] => rfl
  | a :: b :: r => by
    have ih := join_sg (b :: r)
    have e : Str.join "" (((a :: b :: r : List Nat)).map fun c => (⟨#[c]⟩ : Str)) = (⟨#[a]⟩ : Str) ++ "" ++ Str.join "" ((b :: r).map fun c => (⟨#[c]⟩ : Str)) := rfl
    rw [e, ih, mkS_one, empty_eq, mkS_app, mkS_app]
    rfl
theorem joinV (l : List Nat) (h : l.length ≤ 1000) : gJoin (.str "") (.lst (l.map sg)) = some (.str (mkS l)) := by
  have e : l.map sg = (l.map fun c => (⟨#[c]⟩ : Str)).map PV.str := by rw [List.map_map]; rfl
  rw [e, v_join, join_sg]
  rw [List.map_map]
  have : (List.map ((fun x => x.length) ∘ fun c => ({ cps := #[c] } : Str)) l) = l.map fun _ => 1 := rfl
  rw [this]
  have : ("" : Str).length = 0 := by decide +kernel
  have h2 : ∀ l : List Nat, (l.map fun _ => 1).sum = l.length := fun l => by
    induction l with
    | nil => rfl
    | cons a r ih => simp only [List.map_cons, List.sum_cons, ih, List.length_cons]; omega
  rw [h2, this]
  omega
theorem all_sc (ls : Lts) (x : List Nat) : (x.map fun c => keyPv (keyL ls c)).all isSc = true := by
  rw [List.all_eq_true]
  intro p hp
  obtain ⟨c, _, rfl⟩ := List.mem_map.mp hp
  cases keyL ls c <;> rfl
theorem none_in (ls : Lts) (x : List Nat) : gIn .non (.lst (x.map fun c => keyPv (keyL ls c))) = some (.bl (!x.all fun c => (keyL ls c).isSome)) := by
  have e : gIn .non (.lst (x.map fun c => keyPv (keyL ls c))) = if isSc .non = true ∧ (x.map fun c => keyPv (keyL ls c)).all isSc = true then some (.bl (inV (scV .non) ((x.map fun c => keyPv (keyL ls c)).map scV))) else none := rfl
  rw [e, if_pos ⟨rfl, all_sc ls x⟩]
  congr 2
  clear e
  induction x with
  | nil => rfl
  | cons c r ih =>
    simp only [List.map_cons, List.all_cons, Bool.not_and, inV, List.any_cons]
    rw [← ih]
    unfold inV
    cases keyL ls c <;> simp [keyPv, sg, scV, eqV]
theorem in_list_comp {α : Type} {enc : α → PV} {h : Tgt} {fe : PSt → R PV} {ρ : PSt} (F : α → PV) (xs : List α)
    (hs : ∀ x ∈ xs, ∃ ρ1, h (enc x) ρ = some ρ1 ∧ fe ρ1 = .ok (F x)) : compL h yesB fe ρ (xs.map enc) = .ok (xs.map F) := by
  have e := compL_filter (t := yesB) (fun _ => true) F xs fun x hx => by
    obtain ⟨ρ1, a, b⟩ := hs x hx
    exact ⟨ρ1, a, x_yesB, fun _ => b⟩
  rw [List.filter_eq_self.mpr (fun _ _ => rfl)] at e
  exact e
end WO
end
section
namespace PU
open PySem
section
variable {p : PV} {l : Sl} {ρ : PSt} {i : Nat}
def extQ (i : Nat) (ρ : PSt) (p : PV) : R PSt := match ρ[i]? with
  | some (.own (.lst ps)) => (match p with
    | .lst qs => if ps.length + qs.length ≤ 16777216 then .ok (ρ.set i (.own (.lst (ps ++ qs)))) else .no
    | _ => .no)
  | _ => .no
@[simp] theorem k_ext0 (ps qs : List PV) : extQ 0 (.own (.lst ps) :: ρ) (.lst qs) = if ps.length + qs.length ≤ 16777216 then .ok (.own (.lst (ps ++ qs)) :: ρ) else .no := by unfold extQ; exact Eq.refl _
@[simp] theorem k_exts : extQ (i + 1) (l :: ρ) p = mapK (consR l) (extQ i ρ p) := by
  unfold extQ
  rw [List.getElem?_cons_succ]
  cases ρ[i]? with
  | none => rfl
  | some x =>
    cases x with
    | own q =>
      cases q with
      | lst ps =>
        cases p with
        | lst qs => dsimp only; split <;> rfl
        | _ => rfl
      | _ => rfl
    | _ => rfl
def extZ (i : Nat) (ρ : PSt) (p : PV) : R Fl := mapK .next (extQ i ρ p)
@[simp] theorem k_extZ : extZ i ρ p = mapK .next (extQ i ρ p) := by unfold extZ; exact Eq.refl _
def extC (b : Bool) (i : Nat) (ρ : PSt) (r : R PV) : R Fl := if b = true then bndK (extZ i ρ) r else .no
@[simp] theorem k_extC (r : R PV) : extC true i ρ r = bndK (extZ i ρ) r := by unfold extC; exact if_pos rfl
@[simp] theorem x_extF (f : PSt → R PV) : extF i f ρ = extC (hasL i ρ) i ρ (f ρ) := by
  unfold extF extC hasL
  cases e : ρ[i]? with
  | none => rfl
  | some x =>
    cases x with
    | own q =>
      cases q with
      | lst ps =>
        dsimp only
        rw [if_pos rfl]
        cases f ρ with
        | ok p =>
          simp only [R.ok_bind, k_bnd, k_extZ]
          unfold extQ
          rw [e]
          cases p with
          | lst qs => dsimp only; split <;> rfl
          | _ => rfl
        | er x => rfl
        | no => rfl
      | _ => rfl
    | _ => rfl
end
theorem flat_le {α β : Type} {f : α → List β} {b : Nat} : ∀ {l : List α}, (∀ x ∈ l, (f x).length ≤ b) → (l.flatMap f).length ≤ l.length * b
  | [], _ => by simp
  | a :: l, h => by
    have := flat_le (l := l) fun x hx => h x (List.mem_cons_of_mem _ hx)
    have h1 := h a (List.mem_cons_self ..)
    simp only [List.flatMap_cons, List.length_append, List.length_cons, Nat.succ_mul]
    omega
end PU
namespace FA
open PySem L2 PU MT
@[simp] theorem qq_menu_names : (Str.ofString "menu" = Str.ofString "names") = False := by decide +kernel
@[simp] theorem qq_menu_hours : (Str.ofString "menu" = Str.ofString "hours") = False := by decide +kernel
@[simp] theorem qq_menu_hand : (Str.ofString "menu" = Str.ofString "hand") = False := by decide +kernel
@[simp] theorem qq_menu_end : (Str.ofString "menu" = Str.ofString "end") = False := by decide +kernel
@[simp] theorem qq_names_menu : (Str.ofString "names" = Str.ofString "menu") = False := by decide +kernel
@[simp] theorem qq_names_hours : (Str.ofString "names" = Str.ofString "hours") = False := by decide +kernel
@[simp] theorem qq_names_hand : (Str.ofString "names" = Str.ofString "hand") = False := by decide +kernel
@[simp] theorem qq_names_end : (Str.ofString "names" = Str.ofString "end") = False := by decide +kernel
@[simp] theorem qq_hours_menu : (Str.ofString "hours" = Str.ofString "menu") = False := by decide +kernel
@[simp] theorem qq_hours_names : (Str.ofString "hours" = Str.ofString "names") = False := by decide +kernel
@[simp] theorem qq_hours_hand : (Str.ofString "hours" = Str.ofString "hand") = False := by decide +kernel
@[simp] theorem qq_hours_end : (Str.ofString "hours" = Str.ofString "end") = False := by decide +kernel
@[simp] theorem qq_hand_menu : (Str.ofString "hand" = Str.ofString "menu") = False := by decide +kernel
@[simp] theorem qq_hand_names : (Str.ofString "hand" = Str.ofString "names") = False := by decide +kernel
@[simp] theorem qq_hand_hours : (Str.ofString "hand" = Str.ofString "hours") = False := by decide +kernel
@[simp] theorem qq_hand_end : (Str.ofString "hand" = Str.ofString "end") = False := by decide +kernel
@[simp] theorem qq_end_menu : (Str.ofString "end" = Str.ofString "menu") = False := by decide +kernel
@[simp] theorem qq_end_names : (Str.ofString "end" = Str.ofString "names") = False := by decide +kernel
@[simp] theorem qq_end_hours : (Str.ofString "end" = Str.ofString "hours") = False := by decide +kernel
@[simp] theorem qq_end_hand : (Str.ofString "end" = Str.ofString "hand") = False := by decide +kernel
@[simp] theorem qq_first_letters : (Str.ofString "first" = Str.ofString "letters") = False := by decide +kernel
@[simp] theorem qq_first_rooms : (Str.ofString "first" = Str.ofString "rooms") = False := by decide +kernel
@[simp] theorem qq_letters_first : (Str.ofString "letters" = Str.ofString "first") = False := by decide +kernel
@[simp] theorem qq_letters_rooms : (Str.ofString "letters" = Str.ofString "rooms") = False := by decide +kernel
@[simp] theorem qq_rooms_first : (Str.ofString "rooms" = Str.ofString "first") = False := by decide +kernel
@[simp] theorem qq_rooms_letters : (Str.ofString "rooms" = Str.ofString "letters") = False := by decide +kernel
def holds (hour : Int) (s : Int × Int × Str) : Bool := decide (s.1 ≤ hour) && decide (hour < s.2.1)
def handOf (spans : List (Int × Int × Str)) (last : Str) (hour : Int) : Str := match spans.find? (holds hour) with
  | some s => s.2.2
  | none => last
def targets : Room → List Str
  | .menu _ ks wr wa => wr.2 :: wa.2 :: ks.map (·.2)
  | .names _ ks wr wa => wr.2 :: wa.2 :: ks.map (·.2)
  | .hours sp l => l :: sp.map (·.2.2)
  | .hand _ => []
  | .fin _ => []
abbrev Rooms := List (Str × Room)
def lookR (rs : Rooms) (n : Str) : Option Room := (rs.find? fun r => decide (r.1 = n)).map (·.2)
def names (rs : Rooms) : List Str := rs.map (·.1)
theorem look_rooms (n : Str) : ∀ rs : Rooms, lookP (rs.map fun r => .inr r.1) (rs.map fun r => r.2.pv) (.inr n) = (lookR rs n).map Room.pv
  | [] => rfl
  | r :: rs => by
    have ih := look_rooms n rs
    unfold lookR at ih ⊢
    by_cases h : r.1 = n
    · simp [h]
    · simp only [List.map_cons, v_look]
      rw [if_neg (by simpa using h), List.find?_cons_of_neg (by simpa using h)]
      exact ih
theorem ix_rooms (rs : Rooms) (n : Str) : gIx (pvRooms rs) (.str n) = (lookR rs n).map Room.pv := look_rooms n rs
theorem look_some (rs : Rooms) (n : Str) (h : n ∈ names rs) : ∃ r, lookR rs n = some r := by
  unfold lookR
  cases e : rs.find? fun r => decide (r.1 = n) with
  | some r => exact ⟨_, rfl⟩
  | none =>
    obtain ⟨r, hr, e2⟩ := List.mem_map.mp h
    exact absurd (List.find?_eq_none.mp e r hr) (by simpa using e2)
def rmPv (r : Str × Room) : PV := .tup [.str r.1, r.2.pv]
theorem keys_rooms (rs : Rooms) : iterP (pvRooms rs) = some ((names rs).map .str) := by
  have e : iterP (pvRooms rs) = some ((rs.map fun r => (Sum.inr r.1 : Key)).map keyP) := rfl
  rw [e, List.map_map]
  unfold names
  rw [List.map_map]
  rfl
def lost (h : House) : List PV := ((((Str.ofString "", h.first) :: h.rooms.flatMap fun r => (targets r.2).map fun t => (r.1, t)).filter fun t => !decide (t.2 = Str.ofString "back") && !decide (t.2 ∈ names h.rooms))).map fun t => .tup [.str "lost", .str t.1, .str t.2]
def goR (rs : Rooms) (hour : Int) (name : Str) : Nat → Str → Option Bool
  | 0, _ => none
  | n + 1, come => match lookR rs come with
    | some (.hours sp l) => if handOf sp l hour = name then some true else goR rs hour name n (handOf sp l hour)
    | _ => some false
def inRing (rs : Rooms) (hour : Int) (name : Str) : Bool := (goR rs hour name rs.length name).getD false
def ringsAt (rs : Rooms) (hour : Nat) : List PV := ((names rs).filter (inRing rs hour)).map fun n => .tup [.str "ring", .int hour, .str n]
def ringsOf (rs : Rooms) : List PV := (List.range 24).flatMap (ringsAt rs)
end FA
end
section
namespace FA
open PySem L2 PU MT
def cdPv (o : Option Str) : PV := match o with
  | some k => .str k
  | none => .non
def keyS (ls : List (Str × Str)) (c : Nat) : Option Str := (ls.find? fun l => decide (c ∈ l.2.cps.toList)).map (·.1)
def codeS (ls : List (Str × Str)) (w : Str) : Option Str := if w.cps.toList.all (fun c => (keyS ls c).isSome) = true then some (Str.join "" (w.cps.toList.map fun c => (keyS ls c).getD "")) else none
theorem in_one (c : Nat) (l : Str) : gIn (WO.sg c) (.str l) = some (.bl (decide (c ∈ l.cps.toList))) := by
  have e := WO.in_one c l.cps.toList
  rw [mkS_of] at e
  exact e
theorem none_in (ls : List (Str × Str)) (x : List Nat) : gIn .non (.lst (x.map fun c => cdPv (keyS ls c))) = some (.bl (!x.all fun c => (keyS ls c).isSome)) := by
  have a : (x.map fun c => cdPv (keyS ls c)).all isSc = true := by
    rw [List.all_eq_true]
    intro p hp
    obtain ⟨c, _, rfl⟩ := List.mem_map.mp hp
    cases keyS ls c <;> rfl
  have e : gIn .non (.lst (x.map fun c => cdPv (keyS ls c))) = if isSc .non = true ∧ (x.map fun c => cdPv (keyS ls c)).all isSc = true then some (.bl (inV (scV .non) ((x.map fun c => cdPv (keyS ls c)).map scV))) else none := rfl
  rw [e, if_pos ⟨rfl, a⟩]
  congr 2
  clear e a
  induction x with
  | nil => rfl
  | cons c r ih =>
    simp only [List.map_cons, List.all_cons, Bool.not_and, inV, List.any_cons]
    rw [← ih]
    unfold inV
    cases keyS ls c <;> simp [cdPv, scV, eqV]
def coded (ls : List (Str × Str)) : Room → List (Str × Option Str)
  | .names _ ks _ _ => ks.map fun k => (k.1, codeS ls k.1)
  | _ => []
def cdP (p : Str × Option Str) : PV := .tup [.str p.1, cdPv p.2]
def among : List (Str × Option Str) → List (Str × Str)
  | [] => []
  | x :: r => ((r.filter fun y => decide (y.2 = x.2)).map fun y => (x.1, y.1)) ++ among r
def lettersAt (ls : List (Str × Str)) (r : Str × Room) : List PV := ((coded ls r.2).filter (·.2.isNone)).map fun w => .tup [.str "letter", .str r.1, .str w.1]
def lettersOf (h : House) : List PV := h.rooms.flatMap (lettersAt h.letters)
def twinsAt (ls : List (Str × Str)) (r : Str × Room) : List PV := (among ((coded ls r.2).filter (·.2.isSome))).map fun p => .tup [.str "twins", .str r.1, .str p.1, .str p.2]
def twinsOf (h : House) : List PV := h.rooms.flatMap (twinsAt h.letters)
def faultsOf (h : House) : List PV := lost h ++ lettersOf h ++ twinsOf h ++ ringsOf h.rooms
theorem cut_from {α : Type} (xs : List α) (i : Nat) (h : i < xs.length) : cutP xs (some ((i : Int) + 1)) none = xs.drop (i + 1) := by
  unfold cutP HT.sIx
  simp
  have e1 : ¬ ((i : Int) + 1 < 0) := by omega
  have e2 : ((i : Int) + 1).toNat = i + 1 := by omega
  try simp [e1, e2]
  try rw [Nat.min_eq_left (by omega)]
  try exact List.take_of_length_le (by simp)
end FA
end
section
namespace MT
open PySem L2 PU
mutual
def flat : PV → Bool
  | .tup ps => flats ps
  | .lst ps => flats ps
  | .dct _ _ => false
  | .dtt _ _ => false
  | _ => true
def flats : List PV → Bool
  | [] => true
  | p :: ps => flat p && flats ps
end
mutual
theorem peq_refl : ∀ (p : PV), flat p = true → peqO p p = some true
  | .non, _ => by simp [peqO]
  | .bl _, _ => by simp [peqO]
  | .int _, _ => by simp [peqO]
  | .str _, _ => by simp [peqO]
  | .tup ps, h => by
    simp only [peqO]
    exact peqs_refl ps (by simpa [flat] using h)
  | .lst ps, h => by
    simp only [peqO]
    exact peqs_refl ps (by simpa [flat] using h)
  | .dct _ _, h => by simp [flat] at h
  | .dtt _ _, h => by simp [flat] at h
theorem peqs_refl : ∀ (ps : List PV), flats ps = true → peqsO ps ps = some true
  | [], _ => by simp [peqsO]
  | p :: ps, h => by
    simp only [flats, Bool.and_eq_true] at h
    simp only [peqsO, peq_refl p h.1, peqs_refl ps h.2, Option.bind_some, Bool.and_self]
end
theorem flats_map {α : Type} (f : α → PV) (h : ∀ x, flat (f x) = true) : ∀ (xs : List α), flats (xs.map f) = true
  | [] => rfl
  | x :: xs => by
    rw [List.map_cons]
    simp only [flats, h x, flats_map f h xs, Bool.and_self]
theorem flat_pv2 (p : Str × Str) : flat (pv2 p) = true := by simp [pv2, flat, flats]
theorem flat_pv3 (p : Int × Int × Str) : flat (pv3 p) = true := by simp [pv3, flat, flats]
theorem flat_room (r : Room) : flat r.pv = true := by
  cases r <;> simp [Room.pv, flat, flats, pvI, flats_map pv2 flat_pv2, flats_map pv3 flat_pv3]
theorem pdeps_map {α : Type} (f : α → PV) (n : Nat) (h : ∀ x, pdep (f x) ≤ n) : ∀ (xs : List α), pdeps (xs.map f) ≤ n
  | [] => by simp [pdeps]
  | x :: xs => by
    rw [List.map_cons]
    simp only [pdeps]
    have := h x
    have := pdeps_map f n h xs
    omega
theorem pdep_pv2 (p : Str × Str) : pdep (pv2 p) ≤ 1 := by simp [pv2, pdep, pdeps]
theorem pdep_pv3 (p : Int × Int × Str) : pdep (pv3 p) ≤ 1 := by simp [pv3, pdep, pdeps]
theorem pdep_room (r : Room) : pdep r.pv ≤ 3 := by
  have h2 := fun ks => pdeps_map pv2 1 pdep_pv2 ks
  have h3 := fun ks => pdeps_map pv3 1 pdep_pv3 ks
  cases r with
  | menu t ks wr wa => have := h2 ks; simp [Room.pv, pdep, pdeps, pvI]; omega
  | names t ks wr wa => have := h2 ks; simp [Room.pv, pdep, pdeps, pvI]; omega
  | hours spans l => have := h3 spans; simp [Room.pv, pdep, pdeps]; omega
  | hand t => simp [Room.pv, pdep, pdeps]
  | fin t => simp [Room.pv, pdep, pdeps]
theorem look_pre {k : Key} {r : PV} : ∀ (ks : List Key) (ps : List PV), ks.length = ps.length → k ∉ ks → ∀ (ls : List Key) (qs : List PV), lookP (ks ++ k :: ls) (ps ++ r :: qs) k = some r
  | [], [], _, _, ls, qs => by simp
  | j :: ks, p :: ps, hl, hn, ls, qs => by
    simp only [List.cons_append, v_look]
    rw [if_neg (fun e => hn (by rw [e]; exact List.mem_cons_self))]
    exact look_pre ks ps (by simpa using hl) (fun h => hn (List.mem_cons_of_mem _ h)) ls qs
  | [], _ :: _, h, _, _, _ => by simp at h
  | _ :: _, [], h, _, _, _ => by simp at h
theorem hits_refl (e : PV → PV → Option Bool) : ∀ (ks₀ ks : List Key) (ps₀ ps : List PV), ks₀.length = ps₀.length → ks.length = ps.length → (ks₀ ++ ks).Nodup → (∀ p ∈ ps, e p p = some true) → hitsP e ks ps (ks₀ ++ ks) (ps₀ ++ ps) = some true
  | _, [], _, [], _, _, _, _ => by simp [hitsP]
  | ks₀, k :: ks, ps₀, p :: ps, h0, hl, hn, he => by
    have hk : k ∉ ks₀ := fun h => by
      rw [List.nodup_append] at hn
      exact hn.2.2 k h k List.mem_cons_self rfl
    have := hits_refl e (ks₀ ++ [k]) ks (ps₀ ++ [p]) ps (by simp [h0]) (by simpa using hl) (by simpa using hn) fun q hq => he q (List.mem_cons_of_mem _ hq)
    simp only [List.append_assoc, List.cons_append, List.nil_append] at this
    unfold hitsP
    rw [look_pre ks₀ ps₀ h0 hk ks ps]
    simp only [he p List.mem_cons_self, Option.bind_some, this, Bool.and_self]
  | _, [], _, _ :: _, _, h, _, _ => by simp at h
  | _, _ :: _, _, [], _, h, _, _ => by simp at h
theorem nodup_keys {rs : List (Str × Room)} (h : (rs.map (·.1)).Nodup) : (rs.map fun r => (Sum.inr r.1 : Key)).Nodup := by
  have : (rs.map fun r => (Sum.inr r.1 : Key)) = (rs.map (·.1)).map Sum.inr := by simp
  rw [this]
  exact List.Pairwise.map _ (fun a b hab e => hab (Sum.inr.inj e)) h
theorem rooms_refl (rs : List (Str × Room)) (h : (rs.map (·.1)).Nodup) : peqN 2 (pvRooms rs) (pvRooms rs) = some true := by
  unfold pvRooms peqN
  rw [if_pos rfl]
  refine hits_refl (peqN 1) [] _ [] _ rfl (by simp) (nodup_keys h) fun p hp => ?_
  obtain ⟨r, _, rfl⟩ := List.mem_map.mp hp
  have h1 := flat_room r.2
  cases e : r.2.pv with
  | dct ks ps => rw [e] at h1; simp [flat] at h1
  | _ => rw [← e]; rw [show peqN 1 r.2.pv r.2.pv = peqO r.2.pv r.2.pv by rw [e]; rfl]; exact peq_refl _ h1
theorem house_refl (h : House) (nd : (h.rooms.map (·.1)).Nodup) : gEq h.pv h.pv = some (.bl true) := by
  have hd : pdeps [.str h.first, .lst (h.letters.map pv2), pvRooms h.rooms] ≤ 60 := by
    have := pdeps_map pv2 1 pdep_pv2 h.letters
    have := pdeps_map (fun r : Str × Room => r.2.pv) 3 (fun r => pdep_room r.2) h.rooms
    simp only [pdeps, pdep, pvRooms]
    omega
  show (if pdeps [.str h.first, .lst (h.letters.map pv2), pvRooms h.rooms] ≤ 60 then (peqN 3 h.pv h.pv).map PV.bl else none) = _
  rw [if_pos hd]
  have : peqN 3 h.pv h.pv = some true := by
    unfold House.pv peqN
    rw [if_pos rfl]
    refine hits_refl (peqN 2) [] _ [] _ rfl rfl (by simp) fun p hp => ?_
    simp only [List.mem_cons, List.not_mem_nil, or_false] at hp
    rcases hp with rfl | rfl | rfl
    · show peqO _ _ = _
      simp [peqO]
    · show peqO _ _ = _
      exact peq_refl _ (by simp [flat, flats_map pv2 flat_pv2])
    · exact rooms_refl _ nd
  rw [this]
  rfl
def putR (rs : List (Str × Room)) (k : Str) (r : Room) : List (Str × Room) := if k ∈ rs.map (·.1) then rs.map (fun x => if x.1 = k then (x.1, r) else x) else rs ++ [(k, r)]
theorem putR_pv (rs : List (Str × Room)) (k : Str) (r : Room) : putP (rs.map fun r => .inr r.1) (rs.map fun r => r.2.pv) (.inr k) r.pv = pvRooms (putR rs k r) := by
  unfold putP putR
  by_cases h : k ∈ rs.map (·.1)
  · rw [if_pos h, if_pos (by
      obtain ⟨x, hx, e⟩ := List.mem_map.mp h
      rw [List.any_eq_true]
      exact ⟨.inr x.1, List.mem_map.mpr ⟨x, hx, rfl⟩, by simp [e]⟩)]
    have e1 : (rs.map fun x => if x.1 = k then (x.1, r) else x).map (fun r => (Sum.inr r.1 : Key)) = rs.map fun r => .inr r.1 := by
      rw [List.map_map]
      apply List.map_congr_left
      intro x _
      simp only [Function.comp]
      split <;> rfl
    have e2 : replP (rs.map fun r => .inr r.1) (rs.map fun r => r.2.pv) (.inr k) r.pv = (rs.map fun x => if x.1 = k then (x.1, r) else x).map fun r => r.2.pv := by
      unfold replP
      clear h e1
      induction rs with
      | nil => rfl
      | cons x rs ih =>
        simp only [List.map_cons, List.zipWith_cons_cons, ih, Sum.inr.injEq]
        congr 1
        split <;> rfl
    unfold pvRooms
    rw [e1, e2]
  · rw [if_neg h, if_neg (by
      rw [List.any_eq_true]
      rintro ⟨j, hj, e⟩
      obtain ⟨x, hx, rfl⟩ := List.mem_map.mp hj
      exact h (List.mem_map.mpr ⟨x, hx, by simpa using e⟩))]
    unfold pvRooms
    simp
theorem putR_ok {rs : List (Str × Room)} {k : Str} {r : Room} (P : Str × Room → Prop) (h : ∀ x ∈ rs, P x) (hk : ∀ x : Str × Room, x.1 = k → x.2 = r → P x) (nd : (rs.map (·.1)).Nodup) :
    (∀ x ∈ putR rs k r, P x) ∧ ((putR rs k r).map (·.1)).Nodup ∧ (putR rs k r).length ≤ rs.length + 1 := by
  unfold putR
  by_cases hm : k ∈ rs.map (·.1)
  · rw [if_pos hm]
    refine ⟨fun x hx => ?_, ?_, by simp⟩
    · obtain ⟨y, hy, e⟩ := List.mem_map.mp hx
      by_cases hyk : y.1 = k
      · rw [if_pos hyk] at e
        subst e
        exact hk _ hyk rfl
      · rw [if_neg hyk] at e
        subst e
        exact h _ hy
    · rw [List.map_map]
      have : (rs.map ((fun x => x.1) ∘ fun x => if x.1 = k then (x.1, r) else x)) = rs.map (·.1) := by
        apply List.map_congr_left
        intro x _
        simp only [Function.comp]
        split <;> rfl
      rw [this]
      exact nd
  · rw [if_neg hm]
    refine ⟨fun x hx => ?_, ?_, by simp⟩
    · rcases List.mem_append.mp hx with hx | hx
      · exact h x hx
      · have : x = (k, r) := by simpa using hx
        subst this
        exact hk _ rfl rfl
    · rw [List.map_append, List.nodup_append]
      refine ⟨nd, by simp, fun a ha b hb e => ?_⟩
      have : b = k := by simpa using hb
      subst this
      subst e
      exact hm ha
end MT
end
section
namespace NM
open PySem L2 PU MT
def c24 : List Nat := [97, 99, 100, 101, 102, 103, 104, 105, 106, 108, 109, 110, 111, 112, 113, 114, 115, 116, 117, 118, 119, 120, 121, 122]
def nmSize (n : Int) : Nat := (1 + n % 8).toNat
def nmAt (n : Int) : Int := n / 8 % (1 + n % 8)
def nmSign (n : Int) (t k : Nat) : Nat := c24.getD ((n / ((k : Int) + 2) + (t : Int) * (if (k : Int) = nmAt n then 1 else 0)) % 24).toNat 0
def nmCodes (n : Int) (t i : Nat) : List Nat := (List.range i).map (nmSign n t)
def nm (n : Int) (t : Nat) : Str := mkS (nmCodes n t (nmSize n))
theorem at_mem (nms : List Str) (z : Int) (h : 0 < nms.length) : ∃ x ∈ nms, atI (nms.map PV.str) (z % (nms.length : Int)) = some (.str x) := by
  have h0 : 0 ≤ z % (nms.length : Int) := Int.emod_nonneg _ (by omega)
  have h1 : z % (nms.length : Int) < nms.length := Int.emod_lt_of_pos _ (by omega)
  have h2 : (z % (nms.length : Int)).toNat < nms.length := by omega
  refine ⟨nms[(z % (nms.length : Int)).toNat], List.getElem_mem h2, atI_of (n := (z % (nms.length : Int)).toNat) (by omega) ?_⟩
  rw [List.getElem?_map, List.getElem?_eq_getElem h2]
  rfl
def SpanOk (nms : List Str) (s : Int × Int × Str) : Prop := 0 ≤ s.1 ∧ s.1 ≤ 24 ∧ 0 ≤ s.2.1 ∧ s.2.1 ≤ 24 ∧ s.2.2 ∈ nms
theorem at_i (ss : List Str) (i : Nat) (hi : i < ss.length) : atI (ss.map PV.str) (i : Int) = some (.str ss[i]) := atI_of rfl (by
  rw [List.getElem?_map, List.getElem?_eq_getElem hi]
  rfl)
end NM
end
section
namespace NM
open PySem L2 PU MT
theorem in_strs (x : Str) (l : List Str) : gIn (.str x) (.lst (l.map .str)) = some (.bl (decide (x ∈ l))) := by
  have e : gIn (.str x) (.lst (l.map .str)) = if isSc (.str x) = true ∧ (l.map PV.str).all isSc = true then some (.bl (inV (scV (.str x)) ((l.map PV.str).map scV))) else none := rfl
  rw [e, if_pos ⟨rfl, by simp [isSc]⟩]
  congr 2
  unfold inV eqV
  rw [List.map_map, List.any_map]
  induction l with
  | nil => rfl
  | cons a r ih =>
    have ih := ih rfl
    rw [List.any_cons, ih]
    by_cases h : x = a
    · subst h
      simp [scV]
    · have h2 : ¬ a = x := fun z => h z.symm
      have h3 : decide (x ∈ a :: r) = decide (x ∈ r) := decide_eq_decide.mpr ⟨fun m => (List.mem_cons.mp m).resolve_left h, List.mem_cons_of_mem _⟩
      rw [h3]
      simp [scV, h2]
theorem flats_of {ps : List PV} (h : ∀ p ∈ ps, flat p = true) : flats ps = true := by
  induction ps with
  | nil => rfl
  | cons a r ih => simp [flats, h a (List.mem_cons_self ..), ih fun p hp => h p (List.mem_cons_of_mem _ hp)]
theorem pdeps_of {ps : List PV} {n : Nat} (h : ∀ p ∈ ps, pdep p ≤ n) : pdeps ps ≤ n := by
  induction ps with
  | nil => simp [pdeps]
  | cons a r ih =>
    have h1 := h a (List.mem_cons_self ..)
    have h2 := ih fun p hp => h p (List.mem_cons_of_mem _ hp)
    simp only [pdeps]
    omega
theorem ne_self {ps : List PV} (h : ∀ p ∈ ps, flat p = true ∧ pdep p ≤ 3) : gNe (.lst ps) (.lst ps) = some (.bl false) := by
  have e : gNe (.lst ps) (.lst ps) = if pdeps ps ≤ 60 then (peqsO ps ps).map fun b => .bl (!b) else none := rfl
  rw [e, if_pos (Nat.le_trans (pdeps_of fun p hp => (h p hp).2) (by decide)), peqs_refl _ (flats_of fun p hp => (h p hp).1)]
  rfl
theorem mem_put (rs : FA.Rooms) (k : Str) (r : Room) (x : Str) : x ∈ FA.names (putR rs k r) ↔ x ∈ FA.names rs ∨ x = k := by
  unfold FA.names putR
  by_cases h : k ∈ rs.map (·.1)
  · rw [if_pos h, List.map_map]
    have : (rs.map ((fun x => x.1) ∘ fun x => if x.1 = k then (x.1, r) else x)) = rs.map (·.1) := by
      apply List.map_congr_left
      intro x _
      simp only [Function.comp]
      split <;> rfl
    rw [this]
    exact ⟨.inl, fun z => z.elim id fun e => e ▸ h⟩
  · rw [if_neg h]
    simp
end NM
end
section
namespace PU
def revQ : PV → R (List PV)
  | .lst ps => .ok ps.reverse
  | _ => .no
@[simp] theorem k_revQ (ps : List PV) : revQ (.lst ps) = .ok ps.reverse := by unfold revQ; exact Eq.refl _
@[simp] theorem x_revL {f : PSt → R PV} {ρ : PSt} : revL f ρ = bndK revQ (f ρ) := by
  unfold revL
  cases f ρ with
  | ok p => rw [R.ok_bind, k_bnd]; cases p <;> rfl
  | er x => rfl
  | no => rfl
end PU
namespace NM
open PySem L2 PU MT
def comeGo (rs : FA.Rooms) (hour : Int) : Nat → Str → Option Str
  | 0, _ => none
  | n + 1, x => match FA.lookR rs x with
    | some (.hours sp l) => comeGo rs hour n (FA.handOf sp l hour)
    | some _ => some x
    | none => none
theorem look_in (rs : FA.Rooms) (n : Str) (r : Room) (h : FA.lookR rs n = some r) : (n, r) ∈ rs := by
  unfold FA.lookR at h
  cases e : rs.find? fun r => decide (r.1 = n) with
  | none => rw [e] at h; cases h
  | some q =>
    rw [e] at h
    cases h
    have h1 := List.find?_some e
    have h1 : q.1 = n := by simpa using h1
    subst h1
    exact List.mem_of_find?_eq_some e
end NM
end
section
namespace PU
open PySem L2
def slQA (p : PV) (lh : Option Int × Option Int) : R PV := R.ofO (gSlA p lh.1 lh.2)
@[simp] theorem k_slA (p : PV) (a b : Option Int) : slQA p (a, b) = R.ofO (gSlA p a b) := by unfold slQA; exact Eq.refl _
@[simp] theorem x_sliceA {f : PSt → R PV} {l h : PSt → R (Option Int)} {ρ : PSt} : sliceA f l h ρ = twoK slQA (f ρ) (twoK pairQ (l ρ) (h ρ)) := by unfold sliceA; cases f ρ <;> cases l ρ <;> cases h ρ <;> rfl
theorem v_slA {x : Str} (lo hi : Option Int) (h : x.length ≤ 16777216) : gSlA (.str x) lo hi = some (.str (PySem.Txt.slice x lo hi)) := if_pos h
@[simp] theorem v_slA_lst (ps : List PV) (lo hi : Option Int) : gSlA (.lst ps) lo hi = some (.lst (cutP ps lo hi)) := rfl
end PU
namespace NM
open PySem L2 PU MT
theorem at_ints (ls : List Int) (k : Nat) (hk : k < ls.length) : atI (ls.map PV.int) (k : Int) = some (.int ls[k]) := atI_of rfl (by rw [List.getElem?_map, List.getElem?_eq_getElem hk]; rfl)
theorem cut_1 {α : Type} (xs : List α) (h : 0 < xs.length) : cutP xs (some 1) none = xs.drop 1 := FA.cut_from xs 0 h
def dPv (kl vl : List Str) : PV := .dct (kl.map .inr) (vl.map .str)
end NM
end
section
namespace PU
open PySem L2 MT
def zipQ : PV → PV → R (List PV)
  | .lst ps, .lst qs => if (ps.all flatP || qs.all flatP) = true then .ok ((zipP ps qs).map .tup) else .no
  | _, _ => .no
@[simp] theorem k_zipQ (ps qs : List PV) (h : (ps.all flatP || qs.all flatP) = true) : zipQ (.lst ps) (.lst qs) = .ok ((zipP ps qs).map .tup) := by unfold zipQ; exact if_pos h
@[simp] theorem flat_map_str {α : Type} (f : α → Str) (l : List α) : (l.map fun x => PV.str (f x)).all flatP = true := by induction l <;> simp_all [flatP]
@[simp] theorem flat_map_str0 (l : List Str) : (l.map PV.str).all flatP = true := by induction l <;> simp_all [flatP]
@[simp] theorem x_zipF {f g : PSt → R PV} {ρ : PSt} : zipF f g ρ = twoK zipQ (f ρ) (g ρ) := by
  unfold zipF
  cases f ρ with
  | ok p =>
    cases g ρ with
    | ok q => rw [R.ok_bind, R.ok_bind, k_two]; cases p <;> cases q <;> rfl
    | er x => rfl
    | no => rfl
  | er x => rfl
  | no => rfl
def md2K (fe fd : PSt → R PV) (g : PV → PV → PV → Option PV) (ρ : PSt) (p : PV) : R PV := if isDct p = true then twoK (fun q y => R.ofO (g p q y)) (fe ρ) (fd ρ) else .no
@[simp] theorem k_md2K (fe fd : PSt → R PV) (g : PV → PV → PV → Option PV) (ρ : PSt) (ks : List Key) (ps : List PV) : md2K fe fd g ρ (.dct ks ps) = twoK (fun q y => R.ofO (g (.dct ks ps) q y)) (fe ρ) (fd ρ) := by unfold md2K; exact if_pos rfl
@[simp] theorem x_methD2 {fo fe fd : PSt → R PV} {g : PV → PV → PV → Option PV} {ρ : PSt} : methD2 fo fe fd g ρ = bndK (md2K fe fd g ρ) (fo ρ) := by
  unfold methD2
  cases fo ρ with
  | ok p =>
    rw [R.ok_bind, k_bnd]
    unfold md2K
    split
    · cases fe ρ with
      | ok q => cases fd ρ <;> rfl
      | er x => rfl
      | no => rfl
    · rfl
  | er x => rfl
  | no => rfl
theorem slice_to (l : List Nat) (n : Nat) : PySem.Txt.slice (mkS l) none (some (n : Int)) = mkS (l.take n) := by
  have main : ∀ m : Nat, m ≤ l.length → PySem.Txt.slice (mkS l) none (some (m : Int)) = mkS (l.take m) := fun m hm => by
    have e := PySem.StrLaws.sliceText_to (x := mkS l) (j := m) ⟨by omega, by rw [mkS_codes]; omega⟩
    have e2 : PySem.Txt.slice (mkS l) none (some (m : Int)) = PySem.StrLaws.sliceText (mkS l) none (some (m : Int)) := rfl
    rw [e2, e, mkS_codes]
    have : ((m : Int) - 0).toNat = m := by omega
    rw [this]
    rfl
  by_cases h : n ≤ l.length
  · exact main n h
  · have e : PySem.Txt.slice (mkS l) none (some (n : Int)) = PySem.Txt.slice (mkS l) none (some (l.length : Int)) := by
      have e1 : Builtin.Str.strSliceIndices none (some (n : Int)) 1 (mkS l).length = Builtin.Str.strSliceIndices none (some (l.length : Int)) 1 (mkS l).length := by
        rw [mkS_len]
        unfold Builtin.Str.strSliceIndices
        have a : ¬ ((n : Int) < 0) := by omega
        have b : ¬ ((l.length : Int) < 0) := by omega
        have c : max (0 : Int) (min (n : Int) (l.length : Int)) = max 0 (min (l.length : Int) (l.length : Int)) := by omega
        simp only [a, b, if_false, c, show (1 : Int) > 0 from by decide, if_true]
      unfold PySem.Txt.slice
      rw [e1]
    rw [e, main l.length (Nat.le_refl _), List.take_length, List.take_of_length_le (by omega)]
end PU
namespace BG
open PySem L2 PU MT
abbrev W := List Nat
def pre (p c : W) : Bool := p.isPrefixOf c
theorem pre_iff {p c : W} : pre p c = true ↔ p <+: c := List.isPrefixOf_iff_prefix
def many (cs : List W) (p : W) : Nat := (cs.filter (pre p)).length
def own (cs : List W) (c : W) : W := match (List.range (c.length - 1)).find? (fun i => decide (many cs (c.take (i + 1)) = 1)) with
  | some i => c.take (i + 1)
  | none => c
def Code (c : W) : Prop := ∃ x : W, c = x ++ [35] ∧ 35 ∉ x
theorem own_pre (cs : List W) (c : W) : own cs c <+: c := by
  unfold own
  split
  · exact List.take_prefix _ _
  · exact List.prefix_refl _
theorem own_ne (cs : List W) (c : W) (h : c ≠ []) : own cs c ≠ [] := by
  unfold own
  split
  · intro e
    cases c with
    | nil => exact h rfl
    | cons a r => simp at e
  · exact h
def pres (c : W) : List W := (List.range c.length).map fun i => c.take (i + 1)
theorem count_one {l : List W} {p : W} (nd : l.Nodup) (h : p ∈ l) : l.count p = 1 := by
  induction l with
  | nil => cases h
  | cons a r ih =>
    rw [List.nodup_cons] at nd
    by_cases e : a = p
    · subst e
      rw [List.count_cons_self, List.count_eq_zero.mpr nd.1]
    · rw [List.count_cons_of_ne e]
      exact ih nd.2 ((List.mem_cons.mp h).resolve_left fun z => e z.symm)
theorem count_pres (c p : W) : (pres c).count p = if p ≠ [] ∧ p <+: c then 1 else 0 := by
  have nd : (pres c).Nodup := by
    unfold pres List.Nodup
    rw [List.pairwise_map]
    refine List.Pairwise.imp_of_mem (R := fun a b => a < b) (fun {a b} ha hb hab e => ?_) List.pairwise_lt_range
    rw [List.mem_range] at ha hb
    have := congrArg List.length e
    rw [List.length_take, List.length_take] at this
    omega
  by_cases h : p ≠ [] ∧ p <+: c
  · rw [if_pos h]
    refine count_one nd ?_
    unfold pres
    refine List.mem_map.mpr ⟨p.length - 1, List.mem_range.mpr ?_, ?_⟩
    · have := h.2.length_le
      have : p.length ≠ 0 := fun e => h.1 (List.length_eq_zero_iff.mp e)
      omega
    · have : p.length ≠ 0 := fun e => h.1 (List.length_eq_zero_iff.mp e)
      rw [show p.length - 1 + 1 = p.length by omega]
      exact (List.prefix_iff_eq_take.mp h.2).symm
  · rw [if_neg h]
    refine List.count_eq_zero.mpr fun hm => h ?_
    unfold pres at hm
    obtain ⟨i, hi, rfl⟩ := List.mem_map.mp hm
    rw [List.mem_range] at hi
    refine ⟨fun e => ?_, List.take_prefix _ _⟩
    have := congrArg List.length e
    rw [List.length_take, List.length_nil] at this
    omega
theorem count_all (cs : List W) (p : W) (hp : p ≠ []) : (cs.flatMap pres).count p = many cs p := by
  induction cs with
  | nil => rfl
  | cons c r ih =>
    rw [List.flatMap_cons, List.count_append, ih, count_pres]
    unfold many
    by_cases h : p <+: c
    · rw [if_pos ⟨hp, h⟩, List.filter_cons_of_pos (pre_iff.mpr h), List.length_cons]
      omega
    · rw [if_neg fun z => h z.2, List.filter_cons_of_neg fun z => h (pre_iff.mp z)]
      omega
structure Cnt (L : List W) (ks : List Key) (ps : List PV) : Prop where
  len : ks.length = ps.length
  le : ks.length ≤ L.length
  at_ : ∀ p : W, lookP ks ps (.inr (mkS p)) = if L.count p = 0 then none else some (.int (L.count p))
theorem mkS_inj {a b : W} (h : mkS a = mkS b) : a = b := by
  have := congrArg (fun s : Str => s.cps.toList) h
  simpa using this
theorem look_put (ks : List Key) (ps : List PV) (k : Key) (v : PV) (hl : ks.length = ps.length) : ∃ ks' ps', putP ks ps k v = .dct ks' ps' ∧ ks'.length = ps'.length ∧ ks'.length ≤ ks.length + 1 ∧ ∀ j, lookP ks' ps' j = if k = j then some v else lookP ks ps j := by
  unfold putP
  by_cases hk : (ks.any fun j => decide (j = k)) = true
  · rw [if_pos hk]
    refine ⟨ks, replP ks ps k v, rfl, by simp [replP, hl], by omega, fun j => ?_⟩
    induction ks generalizing ps with
    | nil => simp at hk
    | cons a ks ih =>
      cases ps with
      | nil => simp at hl
      | cons b ps =>
        have hl' : ks.length = ps.length := by simpa using hl
        have e : replP (a :: ks) (b :: ps) k v = (if a = k then v else b) :: replP ks ps k v := rfl
        rw [e]
        simp only [v_look]
        by_cases haj : a = j
        · rw [if_pos haj, if_pos haj]
          by_cases hkj : k = j
          · rw [if_pos (haj.trans hkj.symm), if_pos hkj]
          · rw [if_neg fun z => hkj (z.symm.trans haj), if_neg hkj]
        · rw [if_neg haj, if_neg haj]
          by_cases hk2 : (ks.any fun j => decide (j = k)) = true
          · exact ih ps hl' hk2
          · have hak : a = k := by
              rw [List.any_cons] at hk
              simp only [Bool.or_eq_true, decide_eq_true_eq] at hk
              exact hk.resolve_right hk2
            have hkj : ¬ k = j := fun z => haj (hak.trans z)
            rw [if_neg hkj]
            have : replP ks ps k v = ps := by
              clear ih hk e hl
              induction ks generalizing ps with
              | nil => cases ps with
                | nil => rfl
                | cons => simp at hl'
              | cons c ks ih =>
                cases ps with
                | nil => simp at hl'
                | cons d ps =>
                  have e : replP (c :: ks) (d :: ps) k v = (if c = k then v else d) :: replP ks ps k v := rfl
                  rw [List.any_cons] at hk2
                  simp only [Bool.or_eq_true, decide_eq_true_eq, not_or] at hk2
                  rw [e, if_neg hk2.1, ih ps (by simpa using hl') hk2.2]
            rw [this]
  · rw [if_neg hk]
    refine ⟨ks ++ [k], ps ++ [v], rfl, by simp [hl], by simp, fun j => ?_⟩
    induction ks generalizing ps with
    | nil =>
      cases ps with
      | nil => simp [lookP]
      | cons => simp at hl
    | cons a ks ih =>
      cases ps with
      | nil => simp at hl
      | cons b ps =>
        rw [List.any_cons] at hk
        simp only [Bool.or_eq_true, decide_eq_true_eq, not_or] at hk
        simp only [List.cons_append, v_look]
        by_cases haj : a = j
        · rw [if_pos haj, if_pos haj, if_neg fun z => hk.1 (haj.trans z.symm)]
        · rw [if_neg haj, if_neg haj]
          exact ih ps (by simpa using hl) hk.2
theorem cnt_put {L : List W} {ks : List Key} {ps : List PV} (c : Cnt L ks ps) (p : W) : ∃ ks' ps', putP ks ps (.inr (mkS p)) (.int ((L.count p : Int) + 1)) = .dct ks' ps' ∧ Cnt (L ++ [p]) ks' ps' := by
  obtain ⟨ks', ps', e, h1, h2, h3⟩ := look_put ks ps (.inr (mkS p)) (.int ((L.count p : Int) + 1)) c.len
  refine ⟨ks', ps', e, h1, by rw [List.length_append, List.length_singleton]; have := c.le; omega, fun q => ?_⟩
  rw [h3, List.count_append]
  by_cases hq : p = q
  · subst hq
    rw [if_pos rfl, List.count_singleton_self, if_neg (by omega)]
    congr 2
  · rw [if_neg fun z => hq (mkS_inj (Sum.inr.inj z)), c.at_ q]
    have : List.count q [p] = 0 := List.count_eq_zero.mpr (by simp; exact fun z => hq z.symm)
    rw [this, Nat.add_zero]
theorem cnt_get {L : List W} {ks : List Key} {ps : List PV} (c : Cnt L ks ps) (p : W) : gGet2 (.dct ks ps) (.str (mkS p)) (.int 0) = some (.int (L.count p)) := by
  show some ((lookP ks ps (.inr (mkS p))).getD (.int 0)) = _
  rw [c.at_ p]
  split
  · rename_i h
    rw [h]
    rfl
  · rfl
end BG
end
section
namespace PU
def revW : PV → R (List PV)
  | .tup ps => .ok ps.reverse
  | _ => .no
@[simp] theorem k_revW (ps : List PV) : revW (.tup ps) = .ok ps.reverse := by unfold revW; exact Eq.refl _
@[simp] theorem x_revT {f : PSt → R PV} {ρ : PSt} : revT f ρ = bndK revW (f ρ) := by
  unfold revT
  cases f ρ with
  | ok p => rw [R.ok_bind, k_bnd]; cases p <;> rfl
  | er x => rfl
  | no => rfl
end PU
end
section
namespace NW
open PySem L2 PU MT BG
def wstep (p : W) (o : Option PV) (x : W × Str) : Option PV := if x.1 = p then some (.str x.2) else if p ≠ [] ∧ p <+: x.1 then some .non else o
def Ways (bs : List (W × Str)) (p : W) : Option PV := bs.foldl (wstep p) none
def hitB (p : W) (x : W × Str) : Bool := decide (p ≠ []) && pre p x.1
section
variable {bs : List (W × Str)} (hne : ∀ x ∈ bs, x.1 ≠ []) (hpf : ∀ x ∈ bs, ∀ y ∈ bs, x.1 <+: y.1 → x = y)
include hne hpf
end
structure Tells (ks : List Key) (ps : List PV) (F : W → Option PV) : Prop where
  len : ks.length = ps.length
  at_ : ∀ p, lookP ks ps (.inr (mkS p)) = F p
theorem Tells.put {ks : List Key} {ps : List PV} {F : W → Option PV} (h : Tells ks ps F) (p0 : W) (v : PV) : ∃ ks' ps', putP ks ps (.inr (mkS p0)) v = .dct ks' ps' ∧ ks'.length ≤ ks.length + 1 ∧ Tells ks' ps' (fun p => if p0 = p then some v else F p) := by
  obtain ⟨ks', ps', e, h1, h2, h3⟩ := look_put ks ps (.inr (mkS p0)) v h.len
  refine ⟨ks', ps', e, h2, h1, fun p => ?_⟩
  rw [h3, h.at_]
  by_cases hp : p0 = p
  · rw [if_pos hp, if_pos (by rw [hp])]
  · rw [if_neg hp, if_neg fun z => hp (mkS_inj (Sum.inr.inj z))]
theorem Tells.ix {ks : List Key} {ps : List PV} {F : W → Option PV} (h : Tells ks ps F) (p : W) : gIx (.dct ks ps) (.str (mkS p)) = F p := h.at_ p
def wtPv (wt : List (W × Str)) : PV := .tup (wt.map fun p => .tup [.str (mkS p.1), .str p.2])
def wtD (wt : List (W × Str)) : PV := .dct (wt.map fun p => .inr (mkS p.1)) (wt.map fun p => .str p.2)
theorem pairsK_wt : ∀ wt : List (W × Str), pairsK (wt.map fun p => PV.tup [.str (mkS p.1), .str p.2]) = some (wt.map fun p => (.inr (mkS p.1), .str p.2))
  | [] => rfl
  | p :: wt => by
    rw [List.map_cons, List.map_cons]
    unfold pairsK
    rw [pairsK_wt wt]
    rfl
theorem put_new {ks : List Key} {ps : List PV} {k : Key} {v : PV} (h : k ∉ ks) : putP ks ps k v = .dct (ks ++ [k]) (ps ++ [v]) := by
  unfold putP
  rw [if_neg]
  · simpa using h
theorem fold_wt : ∀ (wt : List (W × Str)) (ks : List Key) (ps : List PV), ((wt.map (·.1)).Nodup) → (∀ p ∈ wt, (.inr (mkS p.1) : Key) ∉ ks) → (wt.map fun p => ((.inr (mkS p.1) : Key), PV.str p.2)).foldl addP (.dct ks ps) = .dct (ks ++ wt.map fun p => .inr (mkS p.1)) (ps ++ wt.map fun p => .str p.2)
  | [], ks, ps, _, _ => by simp
  | p :: wt, ks, ps, nd, hk => by
    rw [List.map_cons, List.foldl_cons]
    have e : addP (.dct ks ps) (.inr (mkS p.1), .str p.2) = .dct (ks ++ [.inr (mkS p.1)]) (ps ++ [.str p.2]) := put_new (hk p List.mem_cons_self)
    rw [e, fold_wt wt _ _ (List.nodup_cons.mp nd).2]
    · simp
    · intro q hq z
      rcases List.mem_append.mp z with z | z
      · exact hk q (List.mem_cons_of_mem _ hq) z
      · have z := Sum.inr.inj (List.mem_singleton.mp z)
        have z := mkS_inj z
        exact (List.nodup_cons.mp nd).1 (List.mem_map.mpr ⟨q, hq, z⟩)
theorem dict_wt (wt : List (W × Str)) (hl : wt.length ≤ 1000) (nd : (wt.map (·.1)).Nodup) : gDictP (wtPv wt) = some (wtD wt) := by
  have e : gDictP (wtPv wt) = if (wt.map fun p => PV.tup [.str (mkS p.1), .str p.2]).length ≤ 1000 then (pairsK (wt.map fun p => PV.tup [.str (mkS p.1), .str p.2])).map mergeP else none := rfl
  rw [e, if_pos (by simpa using hl), pairsK_wt]
  show some (mergeP _) = _
  have m : ∀ l, mergeP l = l.foldl addP (.dct [] []) := fun l => rfl
  rw [m, fold_wt wt [] [] nd (by simp)]
  simp [wtD]
theorem list_wt (wt : List (W × Str)) : gListA (wtD wt) = some (.lst (wt.map fun p => .str (mkS p.1))) := by
  show some (PV.lst ((wt.map fun p => (.inr (mkS p.1) : Key)).map keyP)) = _
  rw [List.map_map]
  rfl
theorem tells_wt (wt : List (W × Str)) (nd : (wt.map (·.1)).Nodup) {p : W × Str} (hp : p ∈ wt) : lookP (wt.map fun p => .inr (mkS p.1)) (wt.map fun p => .str p.2) (.inr (mkS p.1)) = some (.str p.2) := by
  induction wt with
  | nil => cases hp
  | cons q wt ih =>
    rw [List.map_cons, List.map_cons, v_look]
    rcases List.mem_cons.mp hp with rfl | h
    · rw [if_pos rfl]
    · have nd' := List.nodup_cons.mp nd
      rw [if_neg fun z => nd'.1 (List.mem_map.mpr ⟨p, h, (mkS_inj (Sum.inr.inj z)).symm⟩)]
      exact ih nd'.2 h
theorem fold_dct : ∀ (l : List (Key × PV)) (ks : List Key) (ps : List PV), ∃ kk pp, l.foldl addP (.dct ks ps) = .dct kk pp
  | [], ks, ps => ⟨ks, ps, rfl⟩
  | x :: l, ks, ps => by
    rw [List.foldl_cons]
    have e : ∃ kk pp, addP (.dct ks ps) x = .dct kk pp := by
      show ∃ kk pp, putP ks ps x.1 x.2 = .dct kk pp
      unfold putP
      split
      · exact ⟨_, _, rfl⟩
      · exact ⟨_, _, rfl⟩
    obtain ⟨kk, pp, e⟩ := e
    rw [e]
    exact fold_dct l kk pp
theorem pairsK_pv2 : ∀ l : List (Str × Str), pairsK (l.map pv2) = some (l.map fun p => (.inr p.1, .str p.2))
  | [] => rfl
  | p :: l => by
    have ih := pairsK_pv2 l
    rw [List.map_cons, List.map_cons]
    have e : pairsK (pv2 p :: l.map pv2) = (pairsK (l.map pv2)).map fun l => (.inr p.1, .str p.2) :: l := rfl
    rw [e, ih]
    rfl
theorem dictP_ex (l : List (Str × Str)) (h : l.length ≤ 1000) : ∃ kk pp, gDictP (.tup (l.map pv2)) = some (.dct kk pp) := by
  have e : gDictP (.tup (l.map pv2)) = if (l.map pv2).length ≤ 1000 then (pairsK (l.map pv2)).map mergeP else none := rfl
  obtain ⟨kk, pp, e2⟩ := fold_dct (l.map fun p => (.inr p.1, .str p.2)) [] []
  refine ⟨kk, pp, ?_⟩
  rw [e, if_pos (by simpa using h), pairsK_pv2, ← e2]
  rfl
end NW
end
section
namespace PU
open PySem L2
@[simp] theorem x_retO0 (p : PV) (ρ : PSt) : retO 0 (.own p :: ρ) = .ok (.ret p) := by unfold retO; exact Eq.refl _
@[simp] theorem x_retOs (i : Nat) (l : Sl) (ρ : PSt) : retO (i + 1) (l :: ρ) = retO i ρ := by unfold retO; rw [List.getElem?_cons_succ]
end PU
end
section
namespace K21
open PySem L2 PU
def c_CODE_END : PV := (.str "#")
def c_HEARD : PV := (.dct [(.inr "menu"), (.inr "names"), (.inr "hand"), (.inr "end")] [(.str "asked"), (.str "asked"), (.str "hand"), (.str "end")])
def c_WAIT : PV := (.str "w")
def b_handed_1 : PSt → R Fl := (ifF (truF (chain2 (getV 2) (getV 1) (getV 3) gLe gLt)) (retF (getV 4)) nextF)
def g_handed : PSt → R Fl := (seqF (forS (itF (bin2 (getV 0) (kI 1) gIx)) (tupT 3 (consT (nameT 2) (consT (nameT 3) (consT (nameT 4) nilT)))) b_handed_1) (retF (bin2 (getV 0) (kI 2) gIx)))
def f_handed : List PV → Option PV := runF 2 5 g_handed
def b_come_to_1 : PSt → R Fl := (setF 3 (callF (consA (bin2 (bin2 (getV 0) (kS "rooms") gIx) (getV 3) gIx) (consA (getV 1) nilA)) f_handed))
def g_come_to : PSt → R Fl := (seqF (setF 3 (getV 2)) (seqF (whS 300 (truF (bin2 (bin2 (bin2 (bin2 (getV 0) (kS "rooms") gIx) (getV 3) gIx) (kI 0) gIx) (kS "hours") gEq)) b_come_to_1) (retF (getV 3))))
def f_come_to : List PV → Option PV := runF 3 4 g_come_to
def b_key_of_1 : PSt → R Fl := (ifF (truF (bin2 (getV 1) (getV 3) gIn)) (retF (getV 2)) nextF)
def g_key_of : PSt → R Fl := (seqF (forS (itF (getV 0)) (tupT 2 (consT (nameT 2) (consT (nameT 3) nilT))) b_key_of_1) (retF kN))
def f_key_of : List PV → Option PV := runF 2 4 g_key_of
def e_code_of_1 : PSt → R PV := (callF (consA (getV 1) (consA (getV 0) nilA)) f_key_of)
def g_code_of : PSt → R Fl := (seqF (setF 2 (compF (itF (getV 1)) (nameT 0) yesB e_code_of_1 1 [0])) (retF (ifV (truF (bin2 kN (getV 2) gIn)) kN (meth1 (kS "") (getV 2) gJoin))))
def f_code_of : List PV → Option PV := runF 2 3 g_code_of
def b_beginning_counts_1 : PSt → R Fl := (putF 1 (sliceA (getV 2) noPart (aPart (getV 3))) (bin2 (methD2 (getO 1) (sliceA (getV 2) noPart (aPart (getV 3))) (kI 0) gGet2) (kI 1) gAdd))
def b_beginning_counts_2 : PSt → R Fl := (forS (rng2 (kI 1) (bin2 (un1 (getV 2) gLen) (kI 1) gAdd)) (nameT 3) b_beginning_counts_1)
def g_beginning_counts : PSt → R Fl := (seqF (ownF 1 newD) (seqF (forS (itF (getV 0)) (nameT 2) b_beginning_counts_2) (frzS 1 (retF (getV 1)))))
def f_beginning_counts : List PV → Option PV := runF 1 4 g_beginning_counts
def b_own_beginning_1 : PSt → R Fl := (ifF (truF (bin2 (bin2 (getV 1) (sliceA (getV 0) noPart (aPart (getV 2))) gIx) (kI 1) gEq)) (retF (sliceA (getV 0) noPart (aPart (getV 2)))) nextF)
def g_own_beginning : PSt → R Fl := (seqF (forS (rng2 (kI 1) (un1 (getV 0) gLen)) (nameT 2) b_own_beginning_1) (retF (getV 0)))
def f_own_beginning : List PV → Option PV := runF 2 3 g_own_beginning
def e_beginnings_1 : PSt → R PV := (bin2 (callF (consA (getV 1) (consA (getV 0) nilA)) f_code_of) (kP c_CODE_END) gAdd)
def e_beginnings_2 : PSt → R PV := (tupF (consA (getV 0) (consA (callF (consA (getV 1) (consA (getV 2) nilA)) f_own_beginning) nilA)))
def g_beginnings : PSt → R Fl := (seqF (setF 2 (compF (itF (getV 1)) (nameT 0) yesB e_beginnings_1 1 [0])) (seqF (setF 3 (callF (consA (getV 2) nilA) f_beginning_counts)) (retF (compF (zipF (getV 1) (getV 2)) (tupT 2 (consT (nameT 0) (consT (nameT 1) nilT))) yesB e_beginnings_2 2 [3]))))
def f_beginnings : List PV → Option PV := runF 2 4 g_beginnings
def g_arrival : PSt → R Fl := (retF (tupF (consA (callF (consA (getV 0) (consA (getV 1) (consA (getV 2) nilA))) f_come_to) (consA (getV 3) (consA (kI 0) (consA (kI 0) (consA (kS "") nilA)))))))
def f_arrival : List PV → Option PV := runF 4 4 g_arrival
def g_begin : PSt → R Fl := (retF (callF (consA (getV 0) (consA (getV 1) (consA (bin2 (getV 0) (kS "first") gIx) (consA (kS "") nilA)))) f_arrival))
def f_begin : List PV → Option PV := runF 2 2 g_begin
def b_names_ways_1 : PSt → R Fl := (putF 2 (sliceA (getV 4) noPart (aPart (getV 5))) kN)
def b_names_ways_2 : PSt → R Fl := (seqF (forS (rng2 (kI 1) (un1 (getV 4) gLen)) (nameT 5) b_names_ways_1) (putF 2 (getV 4) (bin2 (getV 1) (getV 3) gIx)))
def g_names_ways : PSt → R Fl := (seqF (ownF 2 newD) (seqF (forS (itF (callF (consA (getV 0) (consA (un1 (getV 1) gListA) nilA)) f_beginnings)) (tupT 2 (consT (nameT 3) (consT (nameT 4) nilT))) b_names_ways_2) (frzS 2 (retF (getV 2)))))
def f_names_ways : List PV → Option PV := runF 2 6 g_names_ways
def g_room_ways : PSt → R Fl := (seqF (setF 2 (bin2 (bin2 (getV 0) (kS "rooms") gIx) (getV 1) gIx)) (seqF (ifF (truF (bin2 (bin2 (getV 2) (kI 0) gIx) (kS "menu") gEq)) (retF (un1 (bin2 (getV 2) (kI 2) gIx) gDictA)) nextF) (seqF (ifF (truF (bin2 (bin2 (getV 2) (kI 0) gIx) (kS "names") gEq)) (retF (callF (consA (bin2 (getV 0) (kS "letters") gIx) (consA (un1 (bin2 (getV 2) (kI 2) gIx) gDictA) nilA)) f_names_ways)) nextF) (retF newD))))
def f_room_ways : List PV → Option PV := runF 2 3 g_room_ways
def b_house_ways_1 : PSt → R Fl := (putF 1 (getV 2) (callF (consA (getV 0) (consA (getV 2) nilA)) f_room_ways))
def g_house_ways : PSt → R Fl := (seqF (ownF 1 newD) (seqF (forS (itF (bin2 (getV 0) (kS "rooms") gIx)) (nameT 2) b_house_ways_1) (frzS 1 (retF (getV 1)))))
def f_house_ways : List PV → Option PV := runF 1 3 g_house_ways
def g_by_wrong_key : PSt → R Fl := (seqF (setF 3 (bin2 (bin2 (bin2 (getV 0) (kS "rooms") gIx) (bin2 (getV 2) (kI 0) gIx) gIx) (kI 3) gIx)) (seqF (setF 4 (bin2 (bin2 (getV 2) (kI 2) gIx) (kI 1) gAdd)) (seqF (ifF (truF (bin2 (getV 4) (bin2 (getV 3) (kI 0) gIx) gEq)) (retF (callF (consA (getV 0) (consA (getV 1) (consA (bin2 (getV 3) (kI 1) gIx) (consA (bin2 (getV 2) (kI 0) gIx) nilA)))) f_arrival)) nextF) (retF (tupF (consA (bin2 (getV 2) (kI 0) gIx) (consA (bin2 (getV 2) (kI 1) gIx) (consA (getV 4) (consA (bin2 (getV 2) (kI 3) gIx) (consA (kS "") nilA))))))))))
def f_by_wrong_key : List PV → Option PV := runF 3 5 g_by_wrong_key
def g_by_key : PSt → R Fl := (seqF (setF 5 (bin2 (bin2 (getV 3) (kI 4) gIx) (getV 4) gAdd)) (seqF (ifF (truF (bin2 (getV 5) (getV 2) gNotIn)) (retF (callF (consA (getV 0) (consA (getV 1) (consA (getV 3) nilA))) f_by_wrong_key)) nextF) (seqF (setF 6 (ifV (truF (bin2 (bin2 (getV 2) (getV 5) gIx) (kS "back") gEq)) (bin2 (getV 3) (kI 1) gIx) (bin2 (getV 2) (getV 5) gIx))) (seqF (ifF (truF (bin2 (getV 6) kN gIsN)) (retF (tupF (consA (bin2 (getV 3) (kI 0) gIx) (consA (bin2 (getV 3) (kI 1) gIx) (consA (bin2 (getV 3) (kI 2) gIx) (consA (bin2 (getV 3) (kI 3) gIx) (consA (getV 5) nilA))))))) nextF) (seqF (ifF (truF (bin2 (getV 6) (kS "") gEq)) (retF (callF (consA (getV 0) (consA (getV 1) (consA (getV 3) nilA))) f_by_wrong_key)) nextF) (retF (callF (consA (getV 0) (consA (getV 1) (consA (getV 6) (consA (bin2 (getV 3) (kI 0) gIx) nilA)))) f_arrival)))))))
def f_by_key : List PV → Option PV := runF 5 7 g_by_key
def g_by_wait : PSt → R Fl := (seqF (setF 3 (bin2 (bin2 (bin2 (getV 0) (kS "rooms") gIx) (bin2 (getV 2) (kI 0) gIx) gIx) (kI 4) gIx)) (seqF (setF 4 (bin2 (bin2 (getV 2) (kI 3) gIx) (kI 1) gAdd)) (seqF (ifF (truF (bin2 (getV 4) (bin2 (getV 3) (kI 0) gIx) gEq)) (retF (callF (consA (getV 0) (consA (getV 1) (consA (bin2 (getV 3) (kI 1) gIx) (consA (bin2 (getV 2) (kI 0) gIx) nilA)))) f_arrival)) nextF) (retF (tupF (consA (bin2 (getV 2) (kI 0) gIx) (consA (bin2 (getV 2) (kI 1) gIx) (consA (bin2 (getV 2) (kI 2) gIx) (consA (getV 4) (consA (kS "") nilA))))))))))
def f_by_wait : List PV → Option PV := runF 3 5 g_by_wait
def g_follow : PSt → R Fl := (seqF (setF 5 (bin2 (bin2 (bin2 (getV 0) (kS "rooms") gIx) (bin2 (getV 3) (kI 0) gIx) gIx) (kI 0) gIx)) (seqF (ifF (orB (truF (bin2 (getV 5) (kS "hand") gEq)) (truF (bin2 (getV 5) (kS "end") gEq))) (retF (getV 3)) nextF) (seqF (ifF (truF (bin2 (getV 4) (kP c_WAIT) gEq)) (retF (callF (consA (getV 0) (consA (getV 1) (consA (getV 3) nilA))) f_by_wait)) nextF) (retF (callF (consA (getV 0) (consA (getV 1) (consA (getV 2) (consA (getV 3) (consA (getV 4) nilA))))) f_by_key)))))
def f_follow : List PV → Option PV := runF 5 6 g_follow
def b_walk_on_1 : PSt → R Fl := (appF 5 (callF (consA (getV 0) (consA (getV 1) (consA (bin2 (getV 4) (bin2 (bin2 (getO 5) (un1 (kI 1) gNeg) gIx) (kI 0) gIx) gIx) (consA (bin2 (getO 5) (un1 (kI 1) gNeg) gIx) (consA (getV 6) nilA))))) f_follow))
def g_walk_on : PSt → R Fl := (seqF (setF 4 (callF (consA (getV 0) nilA) f_house_ways)) (seqF (ownF 5 (lstF (consA (getV 2) nilA))) (seqF (forS (itF (getV 3)) (nameT 6) b_walk_on_1) (frzS 5 (retF (getV 5))))))
def f_walk_on : List PV → Option PV := runF 4 7 g_walk_on
def g_walk : PSt → R Fl := (retF (callF (consA (getV 0) (consA (getV 1) (consA (callF (consA (getV 0) (consA (getV 1) nilA)) f_begin) (consA (getV 2) nilA)))) f_walk_on))
def f_walk : List PV → Option PV := runF 3 3 g_walk
def g_heard : PSt → R Fl := (seqF (setF 2 (bin2 (bin2 (getV 0) (kS "rooms") gIx) (bin2 (getV 1) (kI 0) gIx) gIx)) (retF (tupF (consA (bin2 (kP c_HEARD) (bin2 (getV 2) (kI 0) gIx) gIx) (consA (bin2 (getV 2) (kI 1) gIx) nilA)))))
def f_heard : List PV → Option PV := runF 2 3 g_heard
def g_law_cell_at : PSt → R Fl := (seqF (ifF (truF (bin2 (getV 1) (un1 (getV 0) gLen) gLt)) (retF (bin2 (getV 0) (getV 1) gIx)) nextF) (retF (kI 0)))
def f_law_cell_at : List PV → Option PV := runF 2 2 g_law_cell_at
def b_law_numbers_1 : PSt → R Fl := (seqF (appF 2 (bin2 (getV 3) (kI 5040) gMod)) (setF 3 (bin2 (getV 3) (kI 5040) gDiv)))
def b_law_numbers_2 : PSt → R Fl := (seqF (setF 3 (bin2 (bin2 (bin2 (bin2 (getV 3) (getV 4) gAdd) (kI 1) gAdd) (kI 48271) gMul) (kI 2147483647) gMod)) (appF 2 (bin2 (bin2 (getV 3) (kI 69621) gMul) (kI 2147483629) gMod)))
def g_law_numbers : PSt → R Fl := (seqF (ownF 2 (lstF nilA)) (seqF (setF 3 (bin2 (getV 0) (kI 2) gDiv)) (seqF (ifF (truF (bin2 (bin2 (getV 0) (kI 2) gMod) (kI 1) gEq)) (seqF (forS (rng1 (getV 1)) (nameT 4) b_law_numbers_1) (frzS 2 (retF (getV 2)))) nextF) (seqF (setF 3 (bin2 (getV 3) (kI 2147483647) gMod)) (seqF (forS (rng1 (bin2 (getV 1) (kI 1) gAdd)) (nameT 4) b_law_numbers_2) (retF (sliceF (getO 2) (aPart (kI 1)) noPart)))))))
def f_law_numbers : List PV → Option PV := runF 2 5 g_law_numbers
def b_law_names_1 : PSt → R Fl := (setF 7 (bin2 (getV 7) (bin2 (getV 1) (bin2 (bin2 (bin2 (getV 2) (getV 8) gIx) (bin2 (bin2 (kI 3) (getV 6) gMul) (un1 (bin2 (getV 8) (getV 4) gEq) gInt) gMul) gAdd) (kI 20) gMod) gIx) gAdd))
def b_law_names_2 : PSt → R Fl := (seqF (setF 7 (kS "")) (seqF (forS (rng1 (getV 3)) (nameT 8) b_law_names_1) (appF 5 (getV 7))))
def g_law_names : PSt → R Fl := (seqF (setF 1 (kS "bcdfghjlmnpqrstvwxyz")) (seqF (setF 2 (callF (consA (getV 0) (consA (kI 10) nilA)) f_law_numbers)) (seqF (setF 3 (bin2 (kI 1) (bin2 (bin2 (getV 2) (kI 8) gIx) (kI 8) gMod) gAdd)) (seqF (setF 4 (bin2 (bin2 (getV 2) (kI 9) gIx) (getV 3) gMod)) (seqF (ownF 5 (lstF nilA)) (seqF (forS (rng1 (kI 8)) (nameT 6) b_law_names_2) (frzS 5 (retF (getV 5)))))))))
def f_law_names : List PV → Option PV := runF 1 9 g_law_names
def b_law_hours_1 : PSt → R Fl := (seqF (setF 5 (bin2 (bin2 (getV 2) (bin2 (bin2 (kI 3) (getV 4) gMul) (kI 1) gAdd) gIx) (kI 24) gMod)) (appF 3 (tupF (consA (getV 5) (consA (bin2 (bin2 (getV 5) (kI 1) gAdd) (bin2 (bin2 (getV 2) (bin2 (bin2 (kI 3) (getV 4) gMul) (kI 2) gAdd) gIx) (bin2 (kI 24) (getV 5) gSub) gMod) gAdd) (consA (bin2 (getV 0) (bin2 (bin2 (getV 2) (bin2 (bin2 (kI 3) (getV 4) gMul) (kI 3) gAdd) gIx) (un1 (getV 0) gLen) gMod) gIx) nilA))))))
def g_law_hours : PSt → R Fl := (seqF (setF 2 (callF (consA (getV 1) (consA (kI 11) nilA)) f_law_numbers)) (seqF (ownF 3 (lstF nilA)) (seqF (forS (rng1 (bin2 (bin2 (getV 2) (kI 0) gIx) (kI 4) gMod)) (nameT 4) b_law_hours_1) (retF (tupF (consA (kS "hours") (consA (un1 (getO 3) gTuple) (consA (bin2 (getV 0) (bin2 (bin2 (getV 2) (kI 10) gIx) (un1 (getV 0) gLen) gMod) gIx) nilA))))))))
def f_law_hours : List PV → Option PV := runF 2 6 g_law_hours
def b_law_house_1 : PSt → R Fl := (seqF (setF 5 (tupF (consA (tupF (consA (kS "1") (consA (bin2 (getV 1) (bin2 (bin2 (getV 2) (getV 4) gIx) (kI 8) gMod) gIx) nilA))) (consA (tupF (consA (kS "2") (consA (kS "back") nilA))) (consA (tupF (consA (kS "#") (consA (bin2 (getV 1) (bin2 (bin2 (getV 2) (bin2 (getV 4) (kI 3) gAdd) gIx) (kI 8) gMod) gIx) nilA))) nilA))))) (putF 3 (bin2 (getV 1) (getV 4) gIx) (tupF (consA (kS "menu") (consA (bin2 (lstF (consA (kS "Hello") (consA (kS "Press 1.") (consA (kS "Again") nilA)))) (getV 4) gIx) (consA (getV 5) (consA (tupF (consA (kI 2) (consA (bin2 (getV 1) (kI 7) gIx) nilA))) (consA (tupF (consA (kI 1) (consA (bin2 (getV 1) (kI 6) gIx) nilA))) nilA))))))))
def g_law_house : PSt → R Fl := (seqF (setF 1 (callF (consA (callF (consA (getV 0) (consA (kI 0) nilA)) f_law_cell_at) nilA) f_law_names)) (seqF (setF 2 (callF (consA (callF (consA (getV 0) (consA (kI 1) nilA)) f_law_cell_at) (consA (kI 12) nilA)) f_law_numbers)) (seqF (ownF 3 newD) (seqF (forS (rng1 (kI 3)) (nameT 4) b_law_house_1) (seqF (setF 6 (tupF (consA (tupF (consA (kS "ann") (consA (bin2 (getV 1) (bin2 (bin2 (getV 2) (kI 6) gIx) (kI 8) gMod) gIx) nilA))) (consA (tupF (consA (kS "bo") (consA (bin2 (getV 1) (kI 6) gIx) nilA))) nilA)))) (seqF (putF 3 (bin2 (getV 1) (kI 3) gIx) (tupF (consA (kS "names") (consA (kS "Spell a name") (consA (getV 6) (consA (tupF (consA (kI 3) (consA (bin2 (getV 1) (kI 7) gIx) nilA))) (consA (tupF (consA (kI 1) (consA (bin2 (getV 1) (bin2 (bin2 (getV 2) (kI 7) gIx) (kI 8) gMod) gIx) nilA))) nilA))))))) (seqF (putF 3 (bin2 (getV 1) (kI 4) gIx) (callF (consA (bin2 (sliceF (getV 1) noPart (aPart (kI 4))) (sliceF (getV 1) (aPart (kI 5)) noPart) gAdd) (consA (callF (consA (getV 0) (consA (kI 2) nilA)) f_law_cell_at) nilA)) f_law_hours)) (seqF (putF 3 (bin2 (getV 1) (kI 5) gIx) (callF (consA (bin2 (sliceF (getV 1) noPart (aPart (kI 4))) (sliceF (getV 1) (aPart (kI 6)) noPart) gAdd) (consA (callF (consA (getV 0) (consA (kI 3) nilA)) f_law_cell_at) nilA)) f_law_hours)) (seqF (putF 3 (bin2 (getV 1) (kI 6) gIx) (tupF (consA (kS "hand") (consA (kS "Ann here") nilA)))) (seqF (putF 3 (bin2 (getV 1) (kI 7) gIx) (tupF (consA (kS "end") (consA (kS "Good bye") nilA)))) (seqF (setF 7 (lstF (consA (tupF (consA (kS "2") (consA (kS "abc") nilA))) (consA (tupF (consA (kS "6") (consA (kS "mno") nilA))) nilA)))) (frzS 3 (retF (dictF (consD (kS "first") (bin2 (getV 1) (bin2 (bin2 (getV 2) (kI 8) gIx) (kI 8) gMod) gIx) (consD (kS "letters") (getV 7) (consD (kS "rooms") (getV 3) nilD)))))))))))))))))
def f_law_house : List PV → Option PV := runF 1 8 g_law_house
def b_law_come_1 : PSt → R Fl := (ifF (truF (chain2 (getV 4) (getV 1) (getV 5) gLe gLt)) (setF 2 (getV 6)) nextF)
def b_law_come_2 : PSt → R Fl := (seqF (setF 2 (bin2 (getV 3) (kI 2) gIx)) (seqF (forS (revT (bin2 (getV 3) (kI 1) gIx)) (tupT 3 (consT (nameT 4) (consT (nameT 5) (consT (nameT 6) nilT)))) b_law_come_1) (setF 3 (bin2 (bin2 (getV 0) (kS "rooms") gIx) (getV 2) gIx))))
def g_law_come : PSt → R Fl := (seqF (setF 3 (bin2 (bin2 (getV 0) (kS "rooms") gIx) (getV 2) gIx)) (seqF (whS 300 (truF (bin2 (bin2 (getV 3) (kI 0) gIx) (kS "hours") gEq)) b_law_come_2) (retF (getV 2))))
def f_law_come : List PV → Option PV := runF 3 7 g_law_come
def g_law_same : PSt → R Fl := (seqF (ifF (orB (notB (truF (un1 (getV 0) (gIsi "tuple")))) (truF (bin2 (getV 0) (getV 1) gNe))) (retF (kB false)) nextF) (retF (andV (notV (un1 (bin2 (getV 0) (kI 2) gIx) (gIsi "bool"))) (notV (un1 (bin2 (getV 0) (kI 3) gIx) (gIsi "bool"))))))
def f_law_same : List PV → Option PV := runF 2 2 g_law_same
def b_law_1 : PSt → R Fl := (seqF (setF 4 (bin2 (getV 3) (kI 24) gMod)) (seqF (setF 5 (callF (consA (getV 1) (consA (getV 4) (consA (bin2 (getV 1) (kS "first") gIx) nilA))) f_law_come)) (seqF (setF 6 (tupF (consA (getV 5) (consA (kS "") (consA (kI 0) (consA (kI 0) (consA (kS "") nilA))))))) (seqF (ifF (orB (notB (truF (callF (consA (callF (consA (getV 2) (consA (getV 4) nilA)) f_begin) (consA (getV 6) nilA)) f_law_same))) (truF (bin2 (callF (consA (getV 2) (consA (getV 4) (consA (kS "") nilA))) f_walk) (lstF (consA (getV 6) nilA)) gNe))) (retF (kB false)) nextF) (seqF (setF 7 (bin2 (bin2 (getV 1) (kS "rooms") gIx) (getV 5) gIx)) (seqF (setF 8 (bin2 (getV 7) (kI 0) gIx)) (seqF (ifF (truF (bin2 (getV 8) (lstF (consA (kS "menu") (consA (kS "names") nilA))) gIn)) (setF 8 (kS "asked")) nextF) (ifF (truF (bin2 (callF (consA (getV 2) (consA (getV 6) nilA)) f_heard) (tupF (consA (getV 8) (consA (bin2 (getV 7) (kI 1) gIx) nilA))) gNe)) (retF (kB false)) nextF))))))))
def g_law : PSt → R Fl := (seqF (setF 1 (callF (consA (sliceF (getV 0) noPart (aPart (kI 8))) nilA) f_law_house)) (seqF (setF 2 (un1 (getV 1) gDictA)) (seqF (forS (itF (bin2 (lstF (consA (kI 0) nilA)) (un1 (sliceF (getV 0) (aPart (kI 8)) (aPart (kI 38))) gListA) gAdd)) (nameT 3) b_law_1) (retF (bin2 (getV 2) (callF (consA (sliceF (getV 0) noPart (aPart (kI 8))) nilA) f_law_house) gEq)))))
def f_law : List PV → Option PV := runF 1 9 g_law
end K21
end
section
namespace K21
open PySem L2 PU MT
theorem wo_key (ls : WO.Lts) (c : Nat) : f_key_of [WO.ltPv ls, WO.sg c] = some (WO.keyPv (WO.keyL ls c)) := by
  refine run_ret rfl ?_
  obtain ⟨k1, k2⟩ := forM_find (enc := fun l : Nat × List Nat => PV.tup [WO.sg l.1, .str (mkS l.2)]) (h := tupT 2 (consT (nameT 2) (consT (nameT 3) nilT))) (g := b_key_of_1) (fun l => decide (c ∈ l.2)) (fun l => WO.sg l.1)
    (I := fun ρ => ∃ a b, ρ = [.val (WO.ltPv ls), .val (WO.sg c), a, b]) (by
      rintro l ρ ⟨a, b, rfl⟩
      have e := WO.in_one c l.2
      refine ⟨_, rfl, fun hp => ?_, fun hp => ⟨_, ?_, .val (WO.sg l.1), .val (.str (mkS l.2)), rfl⟩⟩
      · rw [hp] at e
        simp [b_key_of_1, e]
      · rw [hp] at e
        simp [b_key_of_1, e]) ls [.val (WO.ltPv ls), .val (WO.sg c), .no, .no] ⟨_, _, rfl⟩
  have ei : iterP (WO.ltPv ls) = some (ls.map fun l => PV.tup [WO.sg l.1, .str (mkS l.2)]) := rfl
  cases e : ls.find? (fun l => decide (c ∈ l.2)) with
  | some l =>
    have k := k1 l e
    simp [g_key_of, PU.start, ei]
    rw [k]
    simp [WO.keyPv, WO.keyL, e]
  | none =>
    obtain ⟨ρ', k, a, b, rfl⟩ := k2 e
    simp [g_key_of, PU.start, ei]
    rw [k]
    simp [WO.keyPv, WO.keyL, e]
theorem wo_code (ls : WO.Lts) (x : List Nat) (hx : x.length ≤ 1000) : f_code_of [WO.ltPv ls, .str (mkS x)] = some (WO.codePv (WO.codeL ls x)) := by
  refine run_ret rfl ?_
  have c1 : compL (nameT 0) yesB e_code_of_1 [.no, .val (WO.ltPv ls)] (x.map WO.sg) = .ok (x.map fun c => WO.keyPv (WO.keyL ls c)) :=
    WO.in_list_comp (fun c => WO.keyPv (WO.keyL ls c)) x fun c _ => ⟨_, x_nameT _, by simp [e_code_of_1, wo_key]⟩
  have c2 := WO.none_in ls x
  have hl : x.length ≤ 16777216 := by omega
  simp [g_code_of, PU.start, WO.it_mk, x_compE, List.replicate, c1, hl, c2]
  cases h : x.all fun c => (WO.keyL ls c).isSome with
  | false => simp [WO.codeL, h, WO.codePv]
  | true =>
    have e : (x.map fun c => WO.keyPv (WO.keyL ls c)) = (x.map fun c => (WO.keyL ls c).getD 0).map WO.sg := by
      rw [List.map_map]
      apply List.map_congr_left
      intro c hc
      have := List.all_eq_true.mp h c hc
      cases h2 : WO.keyL ls c with
      | none => rw [h2] at this; cases this
      | some k => simp [WO.keyPv, h2]
    have j := WO.joinV (x.map fun c => (WO.keyL ls c).getD 0) (by simpa using hx)
    rw [e]
    simp [-List.map_map, j, WO.codeL, h, WO.codePv]
open BG
abbrev bst (codes : PV) (ks : List Key) (ps : List PV) (a b : Sl) : PSt := [.val codes, .own (.dct ks ps), a, b]
theorem be_b1 (codes : PV) (L : List W) (ks : List Key) (ps : List PV) (h : Cnt L ks ps) (c : W) (n : Nat) (hc : c.length ≤ 100) (hL : L.length ≤ 10000) : ∃ ks' ps', Cnt (L ++ [c.take n]) ks' ps' ∧
    b_beginning_counts_1 (bst codes ks ps (.val (.str (mkS c))) (.val (.int n))) = .ok (.next (bst codes ks' ps' (.val (.str (mkS c))) (.val (.int n)))) := by
  obtain ⟨ks', ps', e, h'⟩ := cnt_put h (c.take n)
  have e1 := v_slA (x := mkS c) none (some (n : Int)) (by rw [mkS_len]; omega)
  rw [slice_to] at e1
  have e2 := cnt_get h (c.take n)
  have z : ks.length < 16777216 := by have := h.le; omega
  refine ⟨ks', ps', h', ?_⟩
  simp [b_beginning_counts_1, bst, e1, e2, z, e]
theorem be_b2 (codes : PV) (L : List W) (ks : List Key) (ps : List PV) (h : Cnt L ks ps) (c : W) (b : Sl) (hc : c.length ≤ 100) (hL : L.length ≤ 9000) : ∃ ks' ps' b', Cnt (L ++ pres c) ks' ps' ∧
    b_beginning_counts_2 (bst codes ks ps (.val (.str (mkS c))) b) = .ok (.next (bst codes ks' ps' (.val (.str (mkS c))) b')) := by
  obtain ⟨ρ', f1, ks', ps', b', rfl, h'⟩ := forR (n := c.length) (lo := 1) (h := nameT 3) (g := b_beginning_counts_1) (ρ := bst codes ks ps (.val (.str (mkS c))) b)
    (I := fun i ρ => ∃ ks ps b, ρ = bst codes ks ps (.val (.str (mkS c))) b ∧ Cnt (L ++ (List.range i).map fun j => c.take (j + 1)) ks ps) ⟨ks, ps, b, rfl, by simpa using h⟩ (by
      rintro i ρ hi ⟨ks, ps, b, rfl, h⟩
      obtain ⟨ks', ps', h', e⟩ := be_b1 codes _ ks ps h c (i + 1) hc (by simp; omega)
      have ei : (1 : Int) + (i : Int) = ((i + 1 : Nat) : Int) := by omega
      rw [ei]
      refine ⟨_, _, rfl, .inl e, ks', ps', _, rfl, ?_⟩
      rw [List.range_succ, List.map_append, ← List.append_assoc]
      exact h')
  refine ⟨ks', ps', b', h', ?_⟩
  have e1 : gLen (.str (mkS c)) = some (.int c.length) := by rw [v_len_str (by rw [mkS_len]; omega), mkS_len]
  have e2 : rngQ (.int 1) (.int ((c.length : Int) + 1)) = .ok (rangeP 1 c.length) := by rw [v_rng2 (by omega) (by omega) (by omega) (by omega)]; congr 2; omega
  simp [b_beginning_counts_2, e1, e2]
  exact f1
theorem be_counts (cs : List W) (hn : cs.length ≤ 12) (hc : ∀ c ∈ cs, c.length ≤ 20) : ∃ ks ps, Cnt (cs.flatMap pres) ks ps ∧ f_beginning_counts [.lst (cs.map fun c => .str (mkS c))] = some (.dct ks ps) := by
  obtain ⟨ρ', f1, ks, ps, a, b, rfl, h⟩ := forM (enc := fun c : W => PV.str (mkS c)) (xs := cs) (h := nameT 2) (g := b_beginning_counts_2) (ρ := bst (.lst (cs.map fun c => .str (mkS c))) [] [] .no .no)
    (I := fun pre ρ => ∃ ks ps a b, ρ = bst (.lst (cs.map fun c => .str (mkS c))) ks ps a b ∧ Cnt (pre.flatMap pres) ks ps) ⟨[], [], _, _, rfl, ⟨rfl, by simp, fun p => by simp [lookP]⟩⟩ (by
      rintro pre c post ρ hx ⟨ks, ps, a, b, rfl, h⟩
      have hcm : c ∈ cs := by rw [hx]; simp
      have hpl : pre.length ≤ 12 := by
        have := congrArg List.length hx
        rw [List.length_append] at this
        omega
      have hfl := flat_le (l := pre) (f := pres) (b := 20) fun x hxm => by
        unfold pres
        rw [List.length_map, List.length_range]
        exact hc x (by rw [hx]; exact List.mem_append_left _ hxm)
      obtain ⟨ks', ps', b', h', e⟩ := be_b2 (.lst (cs.map fun c => .str (mkS c))) _ ks ps h c b (by have := hc c hcm; omega) (by omega)
      refine ⟨_, _, rfl, .inl e, ks', ps', _, _, rfl, ?_⟩
      rw [List.flatMap_append]
      simpa using h')
  refine ⟨ks, ps, h, run_ret rfl ?_⟩
  simp [g_beginning_counts, PU.start]
  rw [f1]
  simp
theorem be_own (cs : List W) (ks : List Key) (ps : List PV) (h : Cnt (cs.flatMap pres) ks ps) (c : W) (hc : c ∈ cs) (hne : c ≠ []) (hl : c.length ≤ 100) : f_own_beginning [.str (mkS c), .dct ks ps] = some (.str (mkS (own cs c))) := by
  refine run_ret rfl ?_
  have key : ∀ i : Nat, gIx (.dct ks ps) (.str (mkS (c.take (i + 1)))) = some (.int (many cs (c.take (i + 1)))) := fun i => by
    have hp : c.take (i + 1) ≠ [] := fun e => by
      cases c with
      | nil => exact hne rfl
      | cons a r => simp at e
    show lookP ks ps (.inr (mkS (c.take (i + 1)))) = _
    rw [h.at_, count_all cs _ hp, if_neg]
    intro e
    unfold many at e
    have : c ∈ cs.filter (pre (c.take (i + 1))) := List.mem_filter.mpr ⟨hc, pre_iff.mpr (List.take_prefix _ _)⟩
    rw [List.length_eq_zero_iff.mp e] at this
    cases this
  obtain ⟨k1, k2⟩ := forM_find (enc := fun i : Nat => PV.int (1 + (i : Nat))) (h := nameT 2) (g := b_own_beginning_1) (fun i => decide (many cs (c.take (i + 1)) = 1)) (fun i => PV.str (mkS (c.take (i + 1))))
    (I := fun ρ => ∃ a, ρ = [.val (.str (mkS c)), .val (.dct ks ps), a]) (by
      rintro i ρ ⟨a, rfl⟩
      have e1 := v_slA (x := mkS c) none (some ((i + 1 : Nat) : Int)) (by rw [mkS_len]; omega)
      rw [slice_to] at e1
      have ei : (1 : Int) + (i : Int) = ((i + 1 : Nat) : Int) := by omega
      have e2 := key i
      have e2 : ((toKey (.str (mkS (c.take (i + 1))))).bind fun k => lookP ks ps k) = some (.int (many cs (c.take (i + 1)))) := e2
      rw [ei]
      refine ⟨_, rfl, fun hp => ?_, fun hp => ⟨_, ?_, .val (.int ((i + 1 : Nat) : Int)), rfl⟩⟩
      · have hp : many cs (c.take (i + 1)) = 1 := by simpa using hp
        rw [hp] at e2
        have e2 : lookP ks ps (.inr (mkS (c.take (i + 1)))) = some (.int 1) := e2
        have e1 : gSlA (.str (mkS c)) none (some ((i : Int) + 1)) = some (.str (mkS (c.take (i + 1)))) := e1
        simp [b_own_beginning_1, e1, e2]
      · have hp : ¬ many cs (c.take (i + 1)) = 1 := by simpa using hp
        have hp2 : ¬ ((many cs (c.take (i + 1)) : Nat) : Int) = 1 := by omega
        have e2 : lookP ks ps (.inr (mkS (c.take (i + 1)))) = some (.int (many cs (c.take (i + 1)))) := e2
        have e1 : gSlA (.str (mkS c)) none (some ((i : Int) + 1)) = some (.str (mkS (c.take (i + 1)))) := e1
        simp [b_own_beginning_1, e1, e2, hp2]) (List.range (c.length - 1)) [.val (.str (mkS c)), .val (.dct ks ps), .no] ⟨_, rfl⟩
  have e1 : gLen (.str (mkS c)) = some (.int c.length) := by rw [v_len_str (by rw [mkS_len]; omega), mkS_len]
  have e2 : rngQ (.int 1) (.int (c.length : Int)) = .ok ((List.range (c.length - 1)).map fun i : Nat => PV.int (1 + (i : Nat))) := by rw [v_rng2 (by omega) (by omega) (by omega) (by omega), show ((c.length : Int) - 1).toNat = c.length - 1 by omega]; rfl
  unfold own
  cases e : (List.range (c.length - 1)).find? (fun i => decide (many cs (c.take (i + 1)) = 1)) with
  | some i =>
    have k := k1 i e
    simp only [g_own_beginning, PU.start, List.map_cons, List.map_nil, List.length_cons, List.length_nil, List.replicate, List.cons_append, List.nil_append, x_seqF, x_forS, x_rng2, x_kI, x_un1, x_getV0, k_bnd, k_op1, e1, R.ofO_some, k_two, e2, k_for, k, k_seq_ret]
  | none =>
    obtain ⟨ρ', k, a, rfl⟩ := k2 e
    simp only [g_own_beginning, PU.start, List.map_cons, List.map_nil, List.length_cons, List.length_nil, List.replicate, List.cons_append, List.nil_append, x_seqF, x_forS, x_rng2, x_kI, x_un1, x_getV0, k_bnd, k_op1, e1, R.ofO_some, k_two, e2, k_for, k, k_seq_next, x_retF, k_map]
def cdW (ls : WO.Lts) (w : W) : W := w.map (fun c => (WO.keyL ls c).getD 0)
def cdH (ls : WO.Lts) (w : W) : W := cdW ls w ++ [35]
def told (ls : WO.Lts) (ws : List W) (w : W) : PV := .tup [.str (mkS w), .str (mkS (own (ws.map (cdH ls)) (cdH ls w)))]
theorem be_begin (ls : WO.Lts) (ws : List W) (hn : ws.length ≤ 12) (hw : ∀ w ∈ ws, w.length ≤ 12 ∧ ∀ c ∈ w, (WO.keyL ls c).isSome = true) : f_beginnings [WO.ltPv ls, .lst (ws.map fun w => .str (mkS w))] = some (.lst (ws.map (told ls ws))) := by
  refine run_ret rfl ?_
  have hash : ("#" : Str) = mkS [35] := by decide +kernel
  have c1 : compL (nameT 0) yesB e_beginnings_1 [.no, .val (WO.ltPv ls)] (ws.map fun w => .str (mkS w)) = .ok (ws.map fun w => .str (mkS (cdH ls w))) :=
    WO.in_list_comp (enc := fun w : W => PV.str (mkS w)) (fun w => .str (mkS (cdH ls w))) ws fun w hwm => by
      have h := hw w hwm
      have e := wo_code ls w (by omega)
      have e2 : WO.codeL ls w = some (cdW ls w) := by
        unfold WO.codeL
        rw [if_pos (List.all_eq_true.mpr fun c hc => h.2 c hc)]
        rfl
      rw [e2] at e
      have e : f_code_of [WO.ltPv ls, .str (mkS w)] = some (.str (mkS (cdW ls w))) := e
      have e3 : gAdd (.str (mkS (cdW ls w))) c_CODE_END = some (.str (mkS (cdH ls w))) := by
        show gAdd (.str (mkS (cdW ls w))) (.str "#") = _
        rw [hash, v_add_str (by simp [cdW]; omega), mkS_app]
        rfl
      exact ⟨_, x_nameT _, by simp [e_beginnings_1, e, e3]⟩
  obtain ⟨ks, ps, h, e2⟩ := be_counts (ws.map (cdH ls)) (by simpa using hn) (fun c hc => by
    obtain ⟨w, hwm, rfl⟩ := List.mem_map.mp hc
    have := (hw w hwm).1
    simp [cdH, cdW]
    omega)
  have e2 : f_beginning_counts [.lst (ws.map fun w => .str (mkS (cdH ls w)))] = some (.dct ks ps) := by rw [← e2, List.map_map]; rfl
  have ez : ∀ l : List W, (zipP (l.map fun w => PV.str (mkS w)) (l.map fun w => PV.str (mkS (cdH ls w)))).map PV.tup = l.map fun w => PV.tup [.str (mkS w), .str (mkS (cdH ls w))] := by
    intro l
    unfold zipP
    induction l with
    | nil => rfl
    | cons a r ih => simp only [List.map_cons, List.zipWith_cons_cons]; rw [ih]
  have c2 : compL (tupT 2 (consT (nameT 0) (consT (nameT 1) nilT))) yesB e_beginnings_2 [.no, .no, .val (.dct ks ps)] (ws.map fun w => PV.tup [.str (mkS w), .str (mkS (cdH ls w))]) = .ok (ws.map (told ls ws)) :=
    WO.in_list_comp (enc := fun w : W => PV.tup [.str (mkS w), .str (mkS (cdH ls w))]) (told ls ws) ws fun w hwm => by
      have := (hw w hwm).1
      have e := be_own (ws.map (cdH ls)) ks ps h (cdH ls w) (List.mem_map.mpr ⟨w, hwm, rfl⟩) (by simp [cdH]) (by simp [cdH, cdW]; omega)
      exact ⟨[.val (.str (mkS w)), .val (.str (mkS (cdH ls w))), .val (.dct ks ps)], rfl, by simp [e_beginnings_2, e, told]⟩
  have z : ws.length ≤ 16777216 := by omega
  have ei : iterP (.lst (ws.map fun w => PV.str (mkS w))) = some (ws.map fun w => PV.str (mkS w)) := rfl
  have zq := k_zipQ (ws.map fun w => PV.str (mkS w)) (ws.map fun w => PV.str (mkS (cdH ls w))) (by rw [flat_map_str]; rfl)
  simp [g_beginnings, PU.start, x_compE, List.replicate, c1, z, e2, zq]
  rw [ez, c2]
  simp [z]
open NW
abbrev nwst (L D : PV) (ks : List Key) (ps : List PV) (a b c : Sl) : PSt := [.val L, .val D, .own (.dct ks ps), a, b, c]
theorem nw_b1 (L D : PV) (ks : List Key) (ps : List PV) (F : W → Option PV) (h : Tells ks ps F) (a : Sl) (b : W) (n : Nat) (hb : b.length ≤ 100) (hk : ks.length ≤ 100000) : ∃ ks' ps', Tells ks' ps' (fun p => if b.take n = p then some .non else F p) ∧ ks'.length ≤ ks.length + 1 ∧
    b_names_ways_1 (nwst L D ks ps a (.val (.str (mkS b))) (.val (.int n))) = .ok (.next (nwst L D ks' ps' a (.val (.str (mkS b))) (.val (.int n)))) := by
  obtain ⟨ks', ps', e, h1, h2⟩ := h.put (b.take n) .non
  have e1 := v_slA (x := mkS b) none (some (n : Int)) (by rw [mkS_len]; omega)
  rw [slice_to] at e1
  have z : ks.length < 16777216 := by omega
  refine ⟨ks', ps', h2, h1, ?_⟩
  simp [b_names_ways_1, nwst, e1, z, e]
theorem nw_b2 (L D : PV) (ks : List Key) (ps : List PV) (F : W → Option PV) (h : Tells ks ps F) (w b : W) (t : Str) (hne : b ≠ []) (hD : gIx D (.str (mkS w)) = some (.str t)) (x : Sl) (hb : b.length ≤ 100) (hk : ks.length ≤ 10000) : ∃ ks' ps' x', Tells ks' ps' (fun p => wstep p (F p) (b, t)) ∧ ks'.length ≤ ks.length + 100 ∧
    b_names_ways_2 (nwst L D ks ps (.val (.str (mkS w))) (.val (.str (mkS b))) x) = .ok (.next (nwst L D ks' ps' (.val (.str (mkS w))) (.val (.str (mkS b))) x')) := by
  have hbl : 1 ≤ b.length := by cases b with | nil => exact absurd rfl hne | cons _ _ => simp
  obtain ⟨ρ', f1, ks1, ps1, x1, rfl, h1, l1⟩ := forR (n := b.length - 1) (lo := 1) (h := nameT 5) (g := b_names_ways_1) (ρ := nwst L D ks ps (.val (.str (mkS w))) (.val (.str (mkS b))) x)
    (I := fun i ρ => ∃ ks1 ps1 x1, ρ = nwst L D ks1 ps1 (.val (.str (mkS w))) (.val (.str (mkS b))) x1 ∧ Tells ks1 ps1 (fun p => if p ∈ (List.range i).map (fun j => b.take (j + 1)) then some .non else F p) ∧ ks1.length ≤ ks.length + i)
    ⟨ks, ps, x, rfl, ⟨h.len, fun p => by rw [h.at_, if_neg (by simp)]⟩, by omega⟩ (by
      rintro i ρ hi ⟨ks1, ps1, x1, rfl, h1, l1⟩
      obtain ⟨ks2, ps2, h2, l2, e⟩ := nw_b1 L D ks1 ps1 _ h1 (.val (.str (mkS w))) b (i + 1) hb (by omega)
      have ei : (1 : Int) + (i : Int) = ((i + 1 : Nat) : Int) := by omega
      rw [ei]
      refine ⟨_, _, rfl, .inl e, ks2, ps2, _, rfl, ⟨h2.len, fun p => ?_⟩, by omega⟩
      rw [h2.at_, List.range_succ, List.map_append]
      by_cases hp : b.take (i + 1) = p
      · rw [if_pos hp, if_pos (List.mem_append_right _ (by simp [hp]))]
      · rw [if_neg hp]
        by_cases hq : p ∈ (List.range i).map (fun j => b.take (j + 1))
        · rw [if_pos hq, if_pos (List.mem_append_left _ hq)]
        · rw [if_neg hq, if_neg]
          intro z
          rcases List.mem_append.mp z with z | z
          · exact hq z
          · rw [List.map_singleton, List.mem_singleton] at z
            exact hp z.symm)
  obtain ⟨ks2, ps2, e2, l2, h2⟩ := h1.put b (.str t)
  refine ⟨ks2, ps2, x1, ⟨h2.len, fun p => ?_⟩, by omega, ?_⟩
  · rw [h2.at_]
    unfold wstep
    by_cases hp : b = p
    · simp only [if_pos hp]
    · simp only [if_neg hp]
      by_cases hq : p ≠ [] ∧ p <+: b
      · rw [if_pos hq, if_pos]
        have hl := List.IsPrefix.length_le hq.2
        have h0 : 1 ≤ p.length := by
          cases p with
          | nil => exact absurd rfl hq.1
          | cons _ _ => simp
        have ht := List.prefix_iff_eq_take.mp hq.2
        have hlt : p.length ≠ b.length := fun z => hp (by rw [z, List.take_length] at ht; exact ht.symm)
        exact List.mem_map.mpr ⟨p.length - 1, List.mem_range.mpr (by omega), by rw [show p.length - 1 + 1 = p.length by omega]; exact ht.symm⟩
      · rw [if_neg hq, if_neg]
        intro z
        obtain ⟨j, q2, rfl⟩ := List.mem_map.mp z
        have q2 := List.mem_range.mp q2
        refine hq ⟨fun z => ?_, List.take_prefix _ _⟩
        cases b with
        | nil => exact hne rfl
        | cons a r => simp at z
  · have e1 : gLen (.str (mkS b)) = some (.int b.length) := by rw [v_len_str (by rw [mkS_len]; omega), mkS_len]
    have e3 : rngQ (.int 1) (.int (b.length : Int)) = .ok (rangeP 1 (b.length - 1)) := by rw [v_rng2 (by omega) (by omega) (by omega) (by omega)]; congr 2; omega
    have z : ks1.length < 16777216 := by omega
    have f1 : forF (nameT 5) b_names_ways_1 (rangeP 1 (b.length - 1)) [.val L, .val D, .own (.dct ks ps), .val (.str (mkS w)), .val (.str (mkS b)), x] = .ok (.next [.val L, .val D, .own (.dct ks1 ps1), .val (.str (mkS w)), .val (.str (mkS b)), x1]) := f1
    simp only [nwst]
    simp [b_names_ways_2, e1, e3, f1, hD, z, e2]
def bsOf (ls : WO.Lts) (wt : List (W × Str)) : List (W × Str) := wt.map fun p => (own ((wt.map (·.1)).map (cdH ls)) (cdH ls p.1), p.2)
theorem nw_names (ls : WO.Lts) (wt : List (W × Str)) (hn : wt.length ≤ 12) (hw : ∀ p ∈ wt, p.1.length ≤ 12 ∧ ∀ c ∈ p.1, (WO.keyL ls c).isSome = true) (nd : (wt.map (·.1)).Nodup) : ∃ ks ps, Tells ks ps (Ways (bsOf ls wt)) ∧ f_names_ways [WO.ltPv ls, wtD wt] = some (.dct ks ps) := by
  have eb := be_begin ls (wt.map (·.1)) (by simpa using hn) (fun w hwm => by obtain ⟨p, hp, rfl⟩ := List.mem_map.mp hwm; exact hw p hp)
  have el := list_wt wt
  rw [List.map_map] at eb
  have eb : f_beginnings [WO.ltPv ls, .lst (wt.map fun p => .str (mkS p.1))] = some (.lst ((wt.map (·.1)).map (told ls (wt.map (·.1))))) := eb
  rw [List.map_map] at eb
  let B : W × Str → W := fun p => own ((wt.map (·.1)).map (cdH ls)) (cdH ls p.1)
  have hB : ∀ p ∈ wt, B p ≠ [] ∧ (B p).length ≤ 100 := fun p hp => ⟨own_ne _ _ (by simp [cdH]), by
    have h1 := List.IsPrefix.length_le (own_pre ((wt.map (·.1)).map (cdH ls)) (cdH ls p.1))
    have h2 := (hw p hp).1
    have h3 : (cdH ls p.1).length = p.1.length + 1 := by simp [cdH, cdW]
    show (own _ _).length ≤ 100
    omega⟩
  obtain ⟨ρ', f1, ks, ps, a, b, c, rfl, h, l⟩ := forM (enc := fun p : W × Str => PV.tup [.str (mkS p.1), .str (mkS (B p))]) (xs := wt) (h := tupT 2 (consT (nameT 3) (consT (nameT 4) nilT))) (g := b_names_ways_2) (ρ := nwst (WO.ltPv ls) (wtD wt) [] [] .no .no .no)
    (I := fun pre ρ => ∃ ks ps a b c, ρ = nwst (WO.ltPv ls) (wtD wt) ks ps a b c ∧ Tells ks ps (fun p => (pre.map fun q => (B q, q.2)).foldl (wstep p) none) ∧ ks.length ≤ pre.length * 100) ⟨[], [], .no, .no, .no, rfl, ⟨rfl, fun p => rfl⟩, by simp⟩ (by
      rintro pre p post ρ hx ⟨ks, ps, a, b, c, rfl, h, l⟩
      have hp : p ∈ wt := by rw [hx]; simp
      have hpl : pre.length ≤ 12 := by
        have := congrArg List.length hx
        rw [List.length_append] at this
        omega
      have hD : gIx (wtD wt) (.str (mkS p.1)) = some (.str p.2) := tells_wt wt nd hp
      obtain ⟨ks', ps', x', h', l', e⟩ := nw_b2 (WO.ltPv ls) (wtD wt) ks ps _ h p.1 (B p) p.2 (hB p hp).1 hD c (hB p hp).2 (by omega)
      refine ⟨_, _, rfl, .inl e, ks', ps', _, _, _, rfl, ⟨h'.len, fun q => ?_⟩, by simp; omega⟩
      rw [h'.at_, List.map_append, List.foldl_append]
      rfl)
  refine ⟨ks, ps, h, run_ret rfl ?_⟩
  have ei : iterP (.lst (wt.map (told ls (wt.map (·.1)) ∘ fun x => x.1))) = some (wt.map fun p : W × Str => PV.tup [.str (mkS p.1), .str (mkS (B p))]) := rfl
  have f1 : forF (tupT 2 (consT (nameT 3) (consT (nameT 4) nilT))) b_names_ways_2 (wt.map fun p : W × Str => PV.tup [.str (mkS p.1), .str (mkS (B p))]) [.val (WO.ltPv ls), .val (wtD wt), .own (.dct [] []), .no, .no, .no] = .ok (.next [.val (WO.ltPv ls), .val (wtD wt), .own (.dct ks ps), a, b, c]) := f1
  generalize (wt.map fun p : W × Str => PV.tup [.str (mkS p.1), .str (mkS (B p))]) = TL at *
  generalize PV.lst (wt.map (told ls (wt.map (·.1)) ∘ fun x => x.1)) = TQ at *
  generalize PV.lst (wt.map fun p => .str (mkS p.1)) = WL at *
  generalize wtD wt = DD at *
  generalize WO.ltPv ls = LL at *
  simp [g_names_ways, PU.start, el, eb, ei, f1]
section
variable {ls : WO.Lts} {wt : List (W × Str)} (hk : ∀ l ∈ ls, l.1 ≠ 35) (hw : ∀ p ∈ wt, ∀ c ∈ p.1, (WO.keyL ls c).isSome = true) (nc : (wt.map fun p => cdH ls p.1).Nodup)
include hk hw nc
end
theorem hw_ways (H : PV) (rs : FA.Rooms) (hR : gIx H (.str "rooms") = some (pvRooms rs)) (hl : rs.length ≤ 1000) (Dn : Str → PV) (hD : ∀ n ∈ FA.names rs, f_room_ways [H, .str n] = some (Dn n)) : ∃ ks ps, f_house_ways [H] = some (.dct ks ps) ∧ ∀ n ∈ FA.names rs, gIx (.dct ks ps) (.str n) = some (Dn n) := by
  have hnl : (FA.names rs).length = rs.length := by simp [FA.names]
  obtain ⟨ρ', f1, ks, ps, a, rfl, h1, h2, h3⟩ := forM (enc := PV.str) (xs := FA.names rs) (h := nameT 2) (g := b_house_ways_1) (ρ := [.val H, .own (.dct [] []), .no])
    (I := fun pre ρ => ∃ ks ps a, ρ = [.val H, .own (.dct ks ps), a] ∧ ks.length = ps.length ∧ ks.length ≤ pre.length ∧ ∀ n ∈ pre, lookP ks ps (.inr n) = some (Dn n)) ⟨[], [], .no, rfl, rfl, by simp, by simp⟩ (by
      rintro pre n post ρ hx ⟨ks, ps, a, rfl, h1, h2, h3⟩
      have hn : n ∈ FA.names rs := by rw [hx]; simp
      have hpl : pre.length ≤ 1000 := by
        have := congrArg List.length hx
        rw [List.length_append] at this
        omega
      obtain ⟨ks', ps', e, g1, g2, g3⟩ := BG.look_put ks ps (.inr n) (Dn n) h1
      have z : ks.length < 16777216 := by omega
      have ed := hD n hn
      refine ⟨_, [.val H, .own (.dct ks' ps'), .val (.str n)], x_nameT _, .inl ?_, ks', ps', _, rfl, g1, by simp; omega, fun m hm => ?_⟩
      · simp [b_house_ways_1, ed, z, e]
      · rw [g3]
        by_cases hmn : n = m
        · rw [if_pos (by rw [hmn]), hmn]
        · rw [if_neg fun z => hmn (Sum.inr.inj z)]
          rcases List.mem_append.mp hm with hm | hm
          · exact h3 m hm
          · exact absurd (List.mem_singleton.mp hm).symm hmn)
  refine ⟨ks, ps, run_ret rfl ?_, h3⟩
  have ei := FA.keys_rooms rs
  generalize (FA.names rs).map PV.str = NL at *
  generalize pvRooms rs = RM at *
  simp [g_house_ways, PU.start, hR, ei, f1]
end K21
end
section
namespace K21
open PySem L2 PU MT
theorem fa_handed (spans : List (Int × Int × Str)) (last : Str) (hour : Int) : f_handed [(Room.hours spans last).pv, .int hour] = some (.str (FA.handOf spans last hour)) := by
  refine run_ret rfl ?_
  obtain ⟨k1, k2⟩ := forM_find (enc := pv3) (h := tupT 3 (consT (nameT 2) (consT (nameT 3) (consT (nameT 4) nilT)))) (g := b_handed_1) (FA.holds hour) (fun s => PV.str s.2.2)
    (I := fun ρ => ∃ a b c, ρ = [.val (Room.hours spans last).pv, .val (.int hour), a, b, c]) (by
      rintro s ρ ⟨a, b, c, rfl⟩
      refine ⟨_, rfl, fun hp => ?_, fun hp => ⟨_, ?_, .val (.int s.1), .val (.int s.2.1), .val (.str s.2.2), rfl⟩⟩
      · unfold FA.holds at hp
        simp only [Bool.and_eq_true, decide_eq_true_eq] at hp
        simp [b_handed_1, hp.1, hp.2]
      · unfold FA.holds at hp
        by_cases h1 : s.1 ≤ hour
        · have h2 : ¬ hour < s.2.1 := by simpa [h1] using hp
          simp [b_handed_1, h1, h2]
        · simp [b_handed_1, h1]) spans [.val (Room.hours spans last).pv, .val (.int hour), .no, .no, .no] ⟨_, _, _, rfl⟩
  unfold FA.handOf
  cases e : spans.find? (FA.holds hour) with
  | some s =>
    have k := k1 s e
    simp only [Room.pv] at k ⊢
    simp [g_handed, PU.start]
    rw [k]
    rfl
  | none =>
    obtain ⟨ρ', k, a, b, c, rfl⟩ := k2 e
    simp only [Room.pv] at k ⊢
    simp [g_handed, PU.start]
    rw [k]
    simp
theorem co_loop (H : PV) (rs : FA.Rooms) (hR : gIx H (.str "rooms") = some (pvRooms rs)) (hour : Int) (a : Sl) : ∀ (n N : Nat) (x y : Str), n ≤ N → NM.comeGo rs hour n x = some y →
    whF (truF (bin2 (bin2 (bin2 (bin2 (getV 0) (kS "rooms") gIx) (getV 3) gIx) (kI 0) gIx) (kS "hours") gEq)) b_come_to_1 N [.val H, .val (.int hour), a, .val (.str x)] = .ok (.next [.val H, .val (.int hour), a, .val (.str y)])
  | 0, N, x, y, h, e => by cases e
  | n + 1, 0, x, y, h, e => by omega
  | n + 1, N + 1, x, y, h, e => by
    have n2 := FA.ix_rooms rs x
    unfold NM.comeGo at e
    unfold whF
    cases hr : FA.lookR rs x with
    | none => rw [hr] at e; cases e
    | some r =>
      rw [hr] at e n2
      have n2 : gIx (pvRooms rs) (.str x) = some r.pv := n2
      cases r with
      | hours sp l =>
        have n3 : gIx (Room.hours sp l).pv (.int 0) = some (.str "hours") := rfl
        have n4 := fa_handed sp l hour
        have ih := co_loop H rs hR hour a n N (FA.handOf sp l hour) y (by omega) e
        have t : truF (bin2 (bin2 (bin2 (bin2 (getV 0) (kS "rooms") gIx) (getV 3) gIx) (kI 0) gIx) (kS "hours") gEq) [.val H, .val (.int hour), a, .val (.str x)] = .ok true := by simp [hR, n2, n3]
        have b : b_come_to_1 [.val H, .val (.int hour), a, .val (.str x)] = .ok (.next [.val H, .val (.int hour), a, .val (.str (FA.handOf sp l hour))]) := by simp [b_come_to_1, hR, n2, n4]
        simp only [t, R.ok_bind, if_true, b]
        exact ih
      | menu t ks wr wa =>
        have n3 : gIx (Room.menu t ks wr wa).pv (.int 0) = some (.str "menu") := rfl
        have t : truF (bin2 (bin2 (bin2 (bin2 (getV 0) (kS "rooms") gIx) (getV 3) gIx) (kI 0) gIx) (kS "hours") gEq) [.val H, .val (.int hour), a, .val (.str x)] = .ok false := by simp [hR, n2, n3]
        cases e
        simp only [t, R.ok_bind, Bool.false_eq_true, if_false]
      | names t ks wr wa =>
        have n3 : gIx (Room.names t ks wr wa).pv (.int 0) = some (.str "names") := rfl
        have t : truF (bin2 (bin2 (bin2 (bin2 (getV 0) (kS "rooms") gIx) (getV 3) gIx) (kI 0) gIx) (kS "hours") gEq) [.val H, .val (.int hour), a, .val (.str x)] = .ok false := by simp [hR, n2, n3]
        cases e
        simp only [t, R.ok_bind, Bool.false_eq_true, if_false]
      | hand t =>
        have n3 : gIx (Room.hand t).pv (.int 0) = some (.str "hand") := rfl
        have t : truF (bin2 (bin2 (bin2 (bin2 (getV 0) (kS "rooms") gIx) (getV 3) gIx) (kI 0) gIx) (kS "hours") gEq) [.val H, .val (.int hour), a, .val (.str x)] = .ok false := by simp [hR, n2, n3]
        cases e
        simp only [t, R.ok_bind, Bool.false_eq_true, if_false]
      | fin t =>
        have n3 : gIx (Room.fin t).pv (.int 0) = some (.str "end") := rfl
        have t : truF (bin2 (bin2 (bin2 (bin2 (getV 0) (kS "rooms") gIx) (getV 3) gIx) (kI 0) gIx) (kS "hours") gEq) [.val H, .val (.int hour), a, .val (.str x)] = .ok false := by simp [hR, n2, n3]
        cases e
        simp only [t, R.ok_bind, Bool.false_eq_true, if_false]
theorem co_come (H : PV) (rs : FA.Rooms) (hR : gIx H (.str "rooms") = some (pvRooms rs)) (hour : Int) (n : Nat) (x y : Str) (hn : n ≤ 300) (e : NM.comeGo rs hour n x = some y) : f_come_to [H, .int hour, .str x] = some (.str y) := by
  refine run_ret rfl ?_
  have k := co_loop H rs hR hour (.val (.str x)) n 300 x y hn e
  simp only [g_come_to, PU.start, List.map_cons, List.map_nil, List.length_cons, List.length_nil, List.replicate, List.cons_append, List.nil_append, x_seqF, x_setF, x_getVs, x_getV0, k_map, k_set, k_seq_next, List.set_cons_succ, List.set_cons_zero, x_whS, k, x_retF]
theorem cell_at (ns : List Int) (k : Nat) : f_law_cell_at [.lst (ns.map .int), .int k] = some (.int (ns.getD k 0)) := by
  refine run_ret rfl ?_
  by_cases hk : k < ns.length
  · have h2 : (k : Int) < ns.length := by omega
    have h3 : atI (ns.map PV.int) (k : Int) = some (.int ns[k]) := atI_of rfl (by simp [hk])
    simp [g_law_cell_at, PU.start, h2, h3, hk]
  · have h2 : ¬ (k : Int) < ns.length := by omega
    simp [g_law_cell_at, PU.start, h2, hk]
theorem numbers (cell : Int) (many : Nat) (hm : many ≤ 100) : ∃ ls : List Int, ls.length = many ∧ (∀ x ∈ ls, 0 ≤ x) ∧ f_law_numbers [.int cell, .int many] = some (.lst (ls.map .int)) := by
  by_cases h2 : cell % 2 = 1
  · obtain ⟨ρ', f1, ls, n, a, rfl, h1, h3⟩ := forR (n := many) (lo := 0) (h := nameT 4) (g := b_law_numbers_1) (ρ := [.val (.int cell), .val (.int many), .own (.lst []), .val (.int (cell / 2)), .no])
      (I := fun i ρ => ∃ (ls : List Int) (n : Int) (a : Sl), ρ = [.val (.int cell), .val (.int many), .own (.lst (ls.map .int)), .val (.int n), a] ∧ ls.length = i ∧ ∀ x ∈ ls, 0 ≤ x) ⟨[], _, _, rfl, rfl, by simp⟩ (by
        rintro i ρ hi ⟨ls, n, a, rfl, h1, h3⟩
        have hq : ls.length < 16777216 := by omega
        refine ⟨_, [.val (.int cell), .val (.int many), .own (.lst ((ls ++ [n % 5040]).map .int)), .val (.int (n / 5040)), .val (.int (0 + (i : Int)))], rfl, .inl ?_, ls ++ [n % 5040], n / 5040, _, rfl, by simp [h1], fun x hx => ?_⟩
        · simp (disch := omega) [b_law_numbers_1, v_mod, v_div, hq]
        · rcases List.mem_append.mp hx with hx | hx
          · exact h3 x hx
          · rw [List.mem_singleton.mp hx]; omega)
    refine ⟨ls, h1, h3, run_ret rfl ?_⟩
    simp (disch := omega) [g_law_numbers, PU.start, v_mod, v_div, h2, v_rng]
    rw [f1]
    simp
  · obtain ⟨ρ', f1, ls, n, a, rfl, h1, h3⟩ := forR (n := many + 1) (lo := 0) (h := nameT 4) (g := b_law_numbers_2) (ρ := [.val (.int cell), .val (.int many), .own (.lst []), .val (.int (cell / 2 % 2147483647)), .no])
      (I := fun i ρ => ∃ (ls : List Int) (n : Int) (a : Sl), ρ = [.val (.int cell), .val (.int many), .own (.lst (ls.map .int)), .val (.int n), a] ∧ ls.length = i ∧ ∀ x ∈ ls, 0 ≤ x) ⟨[], _, _, rfl, rfl, by simp⟩ (by
        rintro i ρ hi ⟨ls, n, a, rfl, h1, h3⟩
        have hq : ls.length < 16777216 := by omega
        rw [Int.zero_add]
        have m1 : gMul (.int (n + (i : Int) + 1)) (.int 48271) = some (.int ((n + (i : Int) + 1) * 48271)) := v_mul (.inr (by decide))
        have m2 : ∀ z : Int, gMul (.int z) (.int 69621) = some (.int (z * 69621)) := fun z => v_mul (.inr (by decide))
        refine ⟨_, [.val (.int cell), .val (.int many), .own (.lst ((ls ++ [(n + (i : Int) + 1) * 48271 % 2147483647 * 69621 % 2147483629]).map .int)), .val (.int ((n + (i : Int) + 1) * 48271 % 2147483647)), .val (.int (i : Int))], rfl, .inl ?_, _, _, _, rfl, by simp [h1], fun x hx => ?_⟩
        · simp (disch := omega) [b_law_numbers_2, v_mod, m1, m2, hq]
        · rcases List.mem_append.mp hx with hx | hx
          · exact h3 x hx
          · rw [List.mem_singleton.mp hx]; omega)
    refine ⟨ls.drop 1, by simp [h1], fun x hx => h3 x (List.mem_of_mem_drop hx), run_ret rfl ?_⟩
    have e1 : (((many : Int) + 1)).toNat = many + 1 := by omega
    have e2 := NM.cut_1 (ls.map PV.int) (by rw [List.length_map]; omega)
    simp (disch := omega) [g_law_numbers, PU.start, v_mod, v_div, h2, v_rng, e1]
    rw [f1]
    simp [e2]
end K21
end
section
namespace K21
open PySem L2 PU MT NM
def c20 : List Nat := [98, 99, 100, 102, 103, 104, 106, 108, 109, 110, 112, 113, 114, 115, 116, 118, 119, 120, 121, 122]
theorem c20_eq : ("bcdfghjlmnpqrstvwxyz" : Str) = mkS c20 := by decide +kernel
theorem c20_inj' : ∀ i : Fin 20, ∀ j : Fin 20, c20.getD i.1 0 = c20.getD j.1 0 → i.1 = j.1 := by decide +kernel
theorem c20_inj (i j : Nat) (hi : i < 20) (hj : j < 20) (e : c20.getD i 0 = c20.getD j 0) : i = j := c20_inj' ⟨i, hi⟩ ⟨j, hj⟩ e
def sgn (ls : List Int) (at_ : Int) (t k : Nat) : Nat := c20.getD ((ls.getD k 0 + 3 * (t : Int) * (if (k : Int) = at_ then 1 else 0)) % 20).toNat 0
def cds (ls : List Int) (at_ : Int) (t i : Nat) : List Nat := (List.range i).map (sgn ls at_ t)
abbrev nst (c : Int) (ls : List Int) (size at_ : Int) (done : List PV) (a b d : Sl) : PSt :=
  [.val (.int c), .val (.str (mkS c20)), .val (.lst (ls.map .int)), .val (.int size), .val (.int at_), .own (.lst done), a, b, d]
theorem names_b1 (c : Int) (ls : List Int) (size at_ : Int) (done : List PV) (t k : Nat) (x : List Nat) (hl : ls.length = 10) (hk : k < 8) (hx : x.length ≤ 100) :
    b_law_names_1 (nst c ls size at_ done (.val (.int t)) (.val (.str (mkS x))) (.val (.int k))) = .ok (.next (nst c ls size at_ done (.val (.int t)) (.val (.str (mkS (x ++ [sgn ls at_ t k])))) (.val (.int k)))) := by
  have i1 : atI (ls.map PV.int) (k : Int) = some (.int (ls.getD k 0)) := by
    rw [at_ints ls k (by omega), List.getD_eq_getElem?_getD, List.getElem?_eq_getElem (by omega)]
    rfl
  have m1 : gMul (.int 3) (.int t) = some (.int (3 * t)) := v_mul (.inl (by decide))
  have hq : (if (k : Int) = at_ then (1 : Int) else 0).natAbs < 18446744073709551616 := by split <;> decide
  have m2 : gMul (.int (3 * (t : Int))) (.int (if (k : Int) = at_ then 1 else 0)) = some (.int (3 * (t : Int) * (if (k : Int) = at_ then 1 else 0))) := v_mul (.inr hq)
  have h3 : ∀ z : Int, gIx (.str (mkS c20)) (.int (z % 20)) = some (.str ⟨#[c20.getD (z % 20).toNat 0]⟩) := fun z => ix_codes c20 (z % 20) (by omega) (by show _ < (20 : Int); omega) (by decide)
  have h4 := add_code x (sgn ls at_ t k) (by omega)
  unfold sgn at h4 ⊢
  simp (disch := omega) [-List.getD_eq_getElem?_getD, b_law_names_1, nst, i1, m1, m2, v_mod, h3, h4]
theorem names_b2 (c : Int) (ls : List Int) (size : Nat) (at_ : Int) (done : List PV) (t : Nat) (b d : Sl) (hl : ls.length = 10) (hs : size ≤ 8) (hd : done.length ≤ 100) : ∃ d',
    b_law_names_2 (nst c ls size at_ done (.val (.int t)) b d) = .ok (.next (nst c ls size at_ (done ++ [.str (mkS (cds ls at_ t size))]) (.val (.int t)) (.val (.str (mkS (cds ls at_ t size)))) d')) := by
  obtain ⟨ρ', f1, d', rfl⟩ := forR (n := size) (lo := 0) (h := nameT 8) (g := b_law_names_1) (ρ := nst c ls size at_ done (.val (.int t)) (.val (.str (mkS []))) d)
    (I := fun i ρ => ∃ d, ρ = nst c ls size at_ done (.val (.int t)) (.val (.str (mkS (cds ls at_ t i)))) d) ⟨d, rfl⟩ (by
      rintro i ρ hi ⟨d, rfl⟩
      have e := names_b1 c ls size at_ done t i (cds ls at_ t i) hl (by omega) (by simp [cds]; omega)
      have : cds ls at_ t (i + 1) = cds ls at_ t i ++ [sgn ls at_ t i] := by simp [cds, List.range_succ]
      rw [Int.zero_add, this]
      exact ⟨_, _, rfl, .inl e, _, rfl⟩)
  refine ⟨d', ?_⟩
  have hq : done.length < 16777216 := by omega
  simp (disch := omega) [b_law_names_2, empty_eq, v_rng]
  rw [f1]
  simp [hq]
theorem names (c : Int) : ∃ nms : List Str, nms.length = 8 ∧ nms.Nodup ∧ f_law_names [.int c] = some (.lst (nms.map .str)) := by
  obtain ⟨ls, l1, l2, el⟩ := numbers c 10 (by omega)
  have el : f_law_numbers [.int c, .int 10] = some (.lst (ls.map .int)) := el
  have i8 : atI (ls.map PV.int) 8 = some (.int ls[8]) := at_ints ls 8 (by omega)
  have i9 : atI (ls.map PV.int) 9 = some (.int ls[9]) := at_ints ls 9 (by omega)
  generalize ls[8] = z8 at i8
  generalize ls[9] = z9 at i9
  obtain ⟨size, hsz, h1, h8⟩ : ∃ size : Nat, (1 + z8 % 8) = (size : Int) ∧ 1 ≤ size ∧ size ≤ 8 := ⟨(1 + z8 % 8).toNat, by omega, by omega, by omega⟩
  obtain ⟨at_, hat, ha0, ha1⟩ : ∃ at_ : Int, z9 % (size : Int) = at_ ∧ 0 ≤ at_ ∧ at_ < size := ⟨z9 % (size : Int), rfl, Int.emod_nonneg _ (by omega), Int.emod_lt_of_pos _ (by omega)⟩
  obtain ⟨ρ', f1, a, b, d, rfl⟩ := forR (n := 8) (lo := 0) (h := nameT 6) (g := b_law_names_2) (ρ := nst c ls size at_ [] .no .no .no)
    (I := fun i ρ => ∃ a b d, ρ = nst c ls size at_ ((List.range i).map fun t => .str (mkS (cds ls at_ t size))) a b d) ⟨_, _, _, rfl⟩ (by
      rintro i ρ hi ⟨a, b, d, rfl⟩
      obtain ⟨d', e⟩ := names_b2 c ls size at_ ((List.range i).map fun t => .str (mkS (cds ls at_ t size))) i b d l1 h8 (by simp; omega)
      rw [Int.zero_add, List.range_succ, List.map_append]
      exact ⟨_, _, rfl, .inl e, _, _, _, rfl⟩)
  refine ⟨(List.range 8).map fun t => mkS (cds ls at_ t size), by simp, ?_, run_ret rfl ?_⟩
  · unfold List.Nodup
    rw [List.pairwise_map]
    refine List.Pairwise.imp_of_mem (R := fun a b => a < b) (fun {i j} hi hj hij e => ?_) List.pairwise_lt_range
    rw [List.mem_range] at hi hj
    have e := BG.mkS_inj e
    have hs : at_.toNat < size := by omega
    have e2 := congrArg (fun l : List Nat => l[at_.toNat]?) e
    simp only [cds, List.getElem?_map, List.getElem?_range hs, Option.map_some] at e2
    have e3 : sgn ls at_ i at_.toNat = sgn ls at_ j at_.toNat := Option.some.inj e2
    unfold sgn at e3
    rw [if_pos (by omega)] at e3
    have e4 := c20_inj _ _ (by omega) (by omega) e3
    omega
  · simp only [nst] at f1
    have hsz0 : (0 : Int) < size := by omega
    simp (disch := omega) [-List.map_map, g_law_names, PU.start, c20_eq, el, i8, i9, v_mod, hsz, hat, v_rng]
    rw [f1]
    simp
abbrev sst (ts : List Str) (cell : Int) (ls : List Int) (spans : List (Int × Int × Str)) (a b : Sl) : PSt := [.val (.lst (ts.map .str)), .val (.int cell), .val (.lst (ls.map .int)), .own (.lst (spans.map pv3)), a, b]
theorem hours_b (ts : List Str) (cell : Int) (ls : List Int) (spans : List (Int × Int × Str)) (j : Nat) (b : Sl) (ht : 0 < ts.length) (hl : ls.length = 11) (hj : j < 3) (hs : spans.length = j) : ∃ s b', SpanOk ts s ∧
    b_law_hours_1 (sst ts cell ls spans (.val (.int j)) b) = .ok (.next (sst ts cell ls (spans ++ [s]) (.val (.int j)) b')) := by
  have i1 := at_ints ls (3 * j + 1) (by omega)
  have i2 := at_ints ls (3 * j + 2) (by omega)
  have i3 := at_ints ls (3 * j + 3) (by omega)
  have n1 : ((3 * j + 1 : Nat) : Int) = 3 * (j : Int) + 1 := by omega
  have n2 : ((3 * j + 2 : Nat) : Int) = 3 * (j : Int) + 2 := by omega
  have n3 : ((3 * j + 3 : Nat) : Int) = 3 * (j : Int) + 3 := by omega
  rw [n1] at i1
  rw [n2] at i2
  rw [n3] at i3
  generalize ls[3 * j + 1] = x at i1
  generalize ls[3 * j + 2] = y at i2
  generalize ls[3 * j + 3] = z at i3
  have m1 : gMul (.int 3) (.int j) = some (.int (3 * j)) := v_mul (.inl (by decide))
  obtain ⟨t, hts, e1⟩ := at_mem ts z ht
  have hq : spans.length < 16777216 := by omega
  generalize hf : x % 24 = f
  have hf0 : 0 ≤ f ∧ f < 24 := by omega
  have hd : 0 < 24 - f := by omega
  have hd1 := Int.emod_nonneg y (b := 24 - f) (by omega)
  have hd2 := Int.emod_lt_of_pos y hd
  generalize hg : y % (24 - f) = g at hd1 hd2
  refine ⟨(f, f + 1 + g, t), .val (.int f), ⟨by omega, by show f ≤ 24; omega, by show 0 ≤ f + 1 + g; omega, by show f + 1 + g ≤ 24; omega, hts⟩, ?_⟩
  simp (disch := omega) [b_law_hours_1, sst, m1, i1, i2, i3, v_mod, hf, hg, e1, hq, pv3]
theorem hours (ts : List Str) (cell : Int) (ht : 0 < ts.length) : ∃ (sp : List (Int × Int × Str)) (l : Str), (∀ s ∈ sp, s.2.2 ∈ ts) ∧ l ∈ ts ∧ f_law_hours [.lst (ts.map .str), .int cell] = some (Room.hours sp l).pv := by
  obtain ⟨ls, l1, l2, el⟩ := numbers cell 11 (by omega)
  have el : f_law_numbers [.int cell, .int 11] = some (.lst (ls.map .int)) := el
  have i0 : atI (ls.map PV.int) 0 = some (.int ls[0]) := at_ints ls 0 (by omega)
  have i10 : atI (ls.map PV.int) 10 = some (.int ls[10]) := at_ints ls 10 (by omega)
  generalize ls[0] = z at i0
  generalize ls[10] = y at i10
  obtain ⟨ρ', f1, sp, a, b, rfl, h1, h2⟩ := forR (n := (z % 4).toNat) (lo := 0) (h := nameT 4) (g := b_law_hours_1) (ρ := sst ts cell ls [] .no .no)
    (I := fun i ρ => ∃ (sp : List (Int × Int × Str)) (a b : Sl), ρ = sst ts cell ls sp a b ∧ sp.length = i ∧ ∀ s ∈ sp, SpanOk ts s) ⟨[], _, _, rfl, rfl, by simp⟩ (by
      rintro i ρ hi ⟨sp, a, b, rfl, h1, h2⟩
      obtain ⟨s, b', hs, e⟩ := hours_b ts cell ls sp i b ht l1 (by omega) h1
      rw [Int.zero_add]
      refine ⟨_, _, rfl, .inl e, _, _, _, rfl, by simp [h1], fun x hx => ?_⟩
      rcases List.mem_append.mp hx with hx | hx
      · exact h2 x hx
      · rw [List.mem_singleton.mp hx]; exact hs)
  obtain ⟨l, hlm, e1⟩ := at_mem ts y ht
  refine ⟨sp, l, fun s hs => (h2 s hs).2.2.2.2, hlm, run_ret rfl ?_⟩
  have hlp : (0 : Int) < ts.length := by omega
  simp only [sst, List.map_nil] at f1
  simp (disch := omega) [g_law_hours, PU.start, el, i0, v_mod, v_rng]
  rw [f1]
  simp (disch := omega) [i10, v_mod, e1, Room.pv]
end K21
end
section
namespace K21
open PySem L2 PU MT NM
def RW : Room → Prop
  | .menu _ ks _ _ => ks.length ≤ 100
  | .names _ ws _ _ => ∃ t1 t2 : Str, ws = [((("ann" : Str)), t1), (("bo" : Str), t2)]
  | _ => True
def Fit (ord : List Str) (r : Str × Room) : Prop := ∃ (k : Nat) (hk : k < ord.length), ord[k] = r.1 ∧ (∀ sp l, r.2 = .hours sp l → l ∈ ord.drop (k + 1) ∧ ∀ s ∈ sp, s.2.2 ∈ ord.drop (k + 1)) ∧ RW r.2
structure Good (ord : List Str) (rs : FA.Rooms) : Prop where
  ok : ∀ r ∈ rs, Fit ord r
  nd : (rs.map (·.1)).Nodup
theorem put_ok (rs : FA.Rooms) (k : Str) (r : Room) (ord : List Str) (g : Good ord rs) (hr : Fit ord (k, r)) : Good ord (putR rs k r) ∧ (putR rs k r).length ≤ rs.length + 1 := by
  obtain ⟨a, b, c⟩ := putR_ok (rs := rs) (k := k) (r := r) (Fit ord) g.ok (fun x e1 e2 => by have : x = (k, r) := Prod.ext e1 e2; rw [this]; exact hr) g.nd
  exact ⟨⟨a, b⟩, c⟩
theorem u_rooms (rs : FA.Rooms) : pvRooms rs = .dct (rs.map fun r => .inr r.1) (rs.map fun r => r.2.pv) := rfl
theorem come_ex (ord : List Str) (rs : FA.Rooms) (nd : ord.Nodup) (g : Good ord rs) (hall : ∀ x ∈ ord, x ∈ FA.names rs) (hour : Int) : ∀ (n k : Nat) (hk : k < ord.length), ord.length - k ≤ n → ∃ y r, comeGo rs hour n ord[k] = some y ∧ FA.lookR rs y = some r ∧ ∀ sp l, r ≠ .hours sp l
  | 0, k, hk, h => by omega
  | n + 1, k, hk, h => by
    obtain ⟨r, hr⟩ := FA.look_some rs ord[k] (hall _ (List.getElem_mem hk))
    obtain ⟨k', hk', e, ht, _⟩ := g.ok _ (look_in rs _ r hr)
    have ek : k' = k := (List.getElem_inj nd).mp e
    subst ek
    unfold comeGo
    rw [hr]
    by_cases hh : ∃ sp l, r = .hours sp l
    · obtain ⟨sp, l, rfl⟩ := hh
      obtain ⟨h1, h2⟩ := ht sp l rfl
      have hin : FA.handOf sp l hour ∈ ord.drop (k' + 1) := by
        unfold FA.handOf
        cases e : sp.find? (FA.holds hour) with
        | none => exact h1
        | some s => exact h2 s (List.mem_of_find?_eq_some e)
      obtain ⟨j, hj, e2⟩ := List.getElem_of_mem hin
      rw [List.length_drop] at hj
      rw [List.getElem_drop] at e2
      dsimp only
      rw [← e2]
      exact come_ex ord rs nd g hall hour n (k' + 1 + j) (by omega) (by omega)
    · refine ⟨ord[k'], r, ?_, hr, fun sp l e => hh ⟨sp, l, e⟩⟩
      cases r with
      | hours sp l => exact absurd ⟨sp, l, rfl⟩ hh
      | _ => rfl
theorem house (ns : List Int) (hns : ns.length ≤ 8) : ∃ (h : House) (ord : List Str), ord.Nodup ∧ ord.length = 8 ∧ Good ord h.rooms ∧ (∀ x ∈ ord, x ∈ FA.names h.rooms) ∧ h.first ∈ ord ∧ h.letters = [(("2" : Str), ("abc" : Str)), (("6" : Str), ("mno" : Str))] ∧ h.rooms.length ≤ 20 ∧ f_law_house [.lst (ns.map .int)] = some h.pv := by
  have c0 : f_law_cell_at [PV.lst (ns.map PV.int), PV.int 0] = some (PV.int (ns.getD 0 0)) := cell_at ns 0
  have c1 : f_law_cell_at [PV.lst (ns.map PV.int), PV.int 1] = some (PV.int (ns.getD 1 0)) := cell_at ns 1
  have c2 : f_law_cell_at [PV.lst (ns.map PV.int), PV.int 2] = some (PV.int (ns.getD 2 0)) := cell_at ns 2
  have c3 : f_law_cell_at [PV.lst (ns.map PV.int), PV.int 3] = some (PV.int (ns.getD 3 0)) := cell_at ns 3
  generalize ns.getD 0 0 = z0 at c0
  generalize ns.getD 1 0 = z1 at c1
  generalize ns.getD 2 0 = z2 at c2
  generalize ns.getD 3 0 = z3 at c3
  obtain ⟨nms, hnl, hnd, en⟩ := names z0
  obtain ⟨n0, n1, n2, n3, n4, n5, n6, n7, rfl⟩ : ∃ n0 n1 n2 n3 n4 n5 n6 n7, nms = [n0, n1, n2, n3, n4, n5, n6, n7] := by
    match nms, hnl with
    | [a, b, c, d, e, f, g, h], _ => exact ⟨a, b, c, d, e, f, g, h, rfl⟩
  obtain ⟨ls, l1, l2, el⟩ := numbers z1 12 (by omega)
  have el : f_law_numbers [.int z1, .int 12] = some (.lst (ls.map .int)) := el
  have at8 : ∀ z : Int, ∃ x ∈ [n0, n1, n2, n3, n4, n5, n6, n7], atI ([n0, n1, n2, n3, n4, n5, n6, n7].map PV.str) (z % 8) = some (.str x) := fun z => at_mem [n0, n1, n2, n3, n4, n5, n6, n7] z (by simp)
  have i6 : atI (ls.map PV.int) 6 = some (.int ls[6]) := at_ints ls 6 (by omega)
  have i7 : atI (ls.map PV.int) 7 = some (.int ls[7]) := at_ints ls 7 (by omega)
  have i8 : atI (ls.map PV.int) 8 = some (.int ls[8]) := at_ints ls 8 (by omega)
  generalize ls[6] = y6 at i6
  generalize ls[7] = y7 at i7
  generalize ls[8] = y8 at i8
  obtain ⟨x6, _, e6⟩ := at8 y6
  obtain ⟨x7, _, e7⟩ := at8 y7
  obtain ⟨fst, hfst, e8⟩ := at8 y8
  obtain ⟨ord, hord⟩ : ∃ ord, ord = [n4, n5, n0, n1, n2, n3, n6, n7] := ⟨_, rfl⟩
  have hperm : ∀ x, x ∈ [n0, n1, n2, n3, n4, n5, n6, n7] ↔ x ∈ ord := fun x => by
    rw [hord]
    simp only [List.mem_cons, List.not_mem_nil, or_false]
    constructor
    · rintro (h | h | h | h | h | h | h | h) <;> simp [h]
    · rintro (h | h | h | h | h | h | h | h) <;> simp [h]
  have hond : ord.Nodup := by
    rw [hord]
    simp only [List.nodup_cons, List.mem_cons, List.not_mem_nil, or_false, not_or, List.nodup_nil, and_true, not_false_eq_true] at hnd ⊢
    obtain ⟨⟨a1, a2, a3, a4, a5, a6, a7⟩, ⟨b1, b2, b3, b4, b5, b6⟩, ⟨d1, d2, d3, d4, d5⟩, ⟨f1, f2, f3, f4⟩, ⟨g1, g2, g3⟩, ⟨i1, i2⟩, j1⟩ := hnd
    exact ⟨⟨g1, Ne.symm a4, Ne.symm b3, Ne.symm d2, Ne.symm f1, g2, g3⟩, ⟨Ne.symm a5, Ne.symm b4, Ne.symm d3, Ne.symm f2, i1, i2⟩, ⟨a1, a2, a3, a6, a7⟩, ⟨b1, b2, b5, b6⟩, ⟨d1, d4, d5⟩, ⟨f3, f4⟩, j1⟩
  have plain : ∀ (x : Str) (r : Room), x ∈ ord → (∀ sp l, r ≠ .hours sp l) → RW r → Fit ord (x, r) := fun x r hx hr hw => by
    obtain ⟨k, hk, e⟩ := List.getElem_of_mem hx
    exact ⟨k, hk, e, fun sp l e => absurd e (hr sp l), hw⟩
  have om : ∀ x ∈ [n0, n1, n2, n3, n4, n5, n6, n7], x ∈ ord := fun x hx => (hperm x).mp hx
  have menus : ∃ (rs : FA.Rooms) (a b : Sl), Good ord rs ∧ rs.length ≤ 3 ∧ (n0 ∈ FA.names rs ∧ n1 ∈ FA.names rs ∧ n2 ∈ FA.names rs) ∧ forF (nameT 4) b_law_house_1 (rangeP 0 3) [.val (.lst (ns.map .int)), .val (.lst ([n0, n1, n2, n3, n4, n5, n6, n7].map .str)), .val (.lst (ls.map .int)), .own (.dct [] []), .no, .no, .no, .no] = .ok (.next [.val (.lst (ns.map .int)), .val (.lst ([n0, n1, n2, n3, n4, n5, n6, n7].map .str)), .val (.lst (ls.map .int)), .own (pvRooms rs), a, b, .no, .no]) := by
    obtain ⟨ρ', f1, rs, a, b, rfl, g, hl, hm⟩ := forR (n := 3) (lo := 0) (h := nameT 4) (g := b_law_house_1) (ρ := [.val (.lst (ns.map .int)), .val (.lst ([n0, n1, n2, n3, n4, n5, n6, n7].map .str)), .val (.lst (ls.map .int)), .own (.dct [] []), .no, .no, .no, .no])
      (I := fun i ρ => ∃ rs a b, ρ = [.val (.lst (ns.map .int)), .val (.lst ([n0, n1, n2, n3, n4, n5, n6, n7].map .str)), .val (.lst (ls.map .int)), .own (pvRooms rs), a, b, .no, .no] ∧ Good ord rs ∧ rs.length ≤ i ∧ ∀ j, j < i → ∀ hj : j < 8, [n0, n1, n2, n3, n4, n5, n6, n7][j] ∈ FA.names rs) ⟨[], _, _, rfl, ⟨by simp, by simp⟩, by simp, by omega⟩ (by
        rintro i ρ hi ⟨rs, a, b, rfl, g, hl, hm⟩
        have j1 := at_ints ls i (by omega)
        have j2 := at_ints ls (i + 3) (by omega)
        have m2 : ((i + 3 : Nat) : Int) = (i : Int) + 3 := by omega
        rw [m2] at j2
        generalize ls[i] = u1 at j1
        generalize ls[i + 3] = u2 at j2
        obtain ⟨x1, _, e1⟩ := at8 u1
        obtain ⟨x2, _, e2⟩ := at8 u2
        have e3 := at_i [n0, n1, n2, n3, n4, n5, n6, n7] i (by simp; omega)
        have hx : [n0, n1, n2, n3, n4, n5, n6, n7][i]'(by simp; omega) ∈ [n0, n1, n2, n3, n4, n5, n6, n7] := List.getElem_mem _
        have e7' : atI ([n0, n1, n2, n3, n4, n5, n6, n7].map PV.str) 7 = some (.str n7) := atI_of (n := 7) rfl rfl
        have e6' : atI ([n0, n1, n2, n3, n4, n5, n6, n7].map PV.str) 6 = some (.str n6) := atI_of (n := 6) rfl rfl
        obtain ⟨t, et⟩ : ∃ t : Str, atI [PV.str "Hello", PV.str "Press 1.", PV.str "Again"] (i : Int) = some (.str t) := by
          match i, hi with
          | 0, _ => exact ⟨_, by simp; rfl⟩
          | 1, _ => exact ⟨_, by simp; rfl⟩
          | 2, _ => exact ⟨_, by simp; rfl⟩
        obtain ⟨g', l'⟩ := put_ok rs _ (.menu t [("1", x1), ("2", "back"), ("#", x2)] (2, n7) (1, n6)) ord g (plain _ _ (om _ hx) (fun _ _ e => by cases e) (by simp [RW]))
        have p := putR_pv rs ([n0, n1, n2, n3, n4, n5, n6, n7][i]'(by simp; omega)) (.menu t [("1", x1), ("2", "back"), ("#", x2)] (2, n7) (1, n6))
        have hp : (Room.menu t [("1", x1), ("2", "back"), ("#", x2)] (2, n7) (1, n6)).pv = .tup [.str "menu", .str t, .tup [.tup [.str "1", .str x1], .tup [.str "2", .str "back"], .tup [.str "#", .str x2]], .tup [.int 2, .str n7], .tup [.int 1, .str n6]] := rfl
        rw [hp] at p
        have z1 : rs.length < 16777216 := by omega
        rw [Int.zero_add]
        refine ⟨_, [.val (.lst (ns.map .int)), .val (.lst ([n0, n1, n2, n3, n4, n5, n6, n7].map .str)), .val (.lst (ls.map .int)), .own (pvRooms (putR rs ([n0, n1, n2, n3, n4, n5, n6, n7][i]'(by simp; omega)) (.menu t [("1", x1), ("2", "back"), ("#", x2)] (2, n7) (1, n6)))), .val (.int i), .val (.tup [.tup [.str "1", .str x1], .tup [.str "2", .str "back"], .tup [.str "#", .str x2]]), .no, .no], x_nameT _, .inl ?_, _, _, _, rfl, g', by omega, fun j hj hj8 => ?_⟩
        · generalize ([n0, n1, n2, n3, n4, n5, n6, n7][i]'(by simp; omega)) = nk at *
          generalize ([n0, n1, n2, n3, n4, n5, n6, n7].map PV.str) = N at *
          simp (disch := omega) [b_law_house_1, j1, j2, v_mod, e1, e2, e3, e6', e7', et, u_rooms rs, z1, p]
        · rw [mem_put]
          by_cases hji : j = i
          · subst hji; exact .inr rfl
          · exact .inl (hm j (by omega) hj8))
    exact ⟨rs, a, b, g, hl, ⟨hm 0 (by omega) (by omega), hm 1 (by omega) (by omega), hm 2 (by omega) (by omega)⟩, f1⟩
  obtain ⟨rs, a, b, g, hl, ⟨hm0, hm1, hm2⟩, f1⟩ := menus
  obtain ⟨sp4, l4, s4, t4, eh4⟩ := hours [n0, n1, n2, n3, n5, n6, n7] z2 (by simp)
  obtain ⟨sp5, l5, s5, t5, eh5⟩ := hours [n0, n1, n2, n3, n6, n7] z3 (by simp)
  have dr4 : ∀ x ∈ [n0, n1, n2, n3, n5, n6, n7], x ∈ ord.drop 1 := fun x hx => by
    rw [hord]
    simp only [List.drop_succ_cons, List.drop_zero, List.mem_cons, List.not_mem_nil, or_false] at hx ⊢
    rcases hx with h | h | h | h | h | h | h <;> simp [h]
  have dr5 : ∀ x ∈ [n0, n1, n2, n3, n6, n7], x ∈ ord.drop 2 := fun x hx => by
    rw [hord]
    simp only [List.drop_succ_cons, List.drop_zero, List.mem_cons, List.not_mem_nil, or_false] at hx ⊢
    rcases hx with h | h | h | h | h | h <;> simp [h]
  have ol : ord.length = 8 := by rw [hord]; rfl
  have fit4 : Fit ord (n4, .hours sp4 l4) := ⟨0, by omega, by simp [hord], fun sp l e => by cases e; exact ⟨dr4 _ t4, fun s hs => dr4 _ (s4 s hs)⟩, trivial⟩
  have fit5 : Fit ord (n5, .hours sp5 l5) := ⟨1, by omega, by simp [hord], fun sp l e => by cases e; exact ⟨dr5 _ t5, fun s hs => dr5 _ (s5 s hs)⟩, trivial⟩
  obtain ⟨g3, l3'⟩ := put_ok rs n3 (.names "Spell a name" [("ann", x6), ("bo", n6)] (3, n7) (1, x7)) ord g (plain _ _ (om _ (by simp)) (fun _ _ e => by cases e) ⟨_, _, rfl⟩)
  have p3 := putR_pv rs n3 (.names "Spell a name" [("ann", x6), ("bo", n6)] (3, n7) (1, x7))
  obtain ⟨r3, hr3⟩ : ∃ r3, r3 = putR rs n3 (.names "Spell a name" [("ann", x6), ("bo", n6)] (3, n7) (1, x7)) := ⟨_, rfl⟩
  rw [← hr3] at g3 l3' p3
  obtain ⟨g4, l4'⟩ := put_ok r3 n4 (.hours sp4 l4) ord g3 fit4
  have p4 := putR_pv r3 n4 (.hours sp4 l4)
  obtain ⟨r4, hr4⟩ : ∃ r4, r4 = putR r3 n4 (.hours sp4 l4) := ⟨_, rfl⟩
  rw [← hr4] at g4 l4' p4
  obtain ⟨g5, l5'⟩ := put_ok r4 n5 (.hours sp5 l5) ord g4 fit5
  have p5 := putR_pv r4 n5 (.hours sp5 l5)
  obtain ⟨r5, hr5⟩ : ∃ r5, r5 = putR r4 n5 (.hours sp5 l5) := ⟨_, rfl⟩
  rw [← hr5] at g5 l5' p5
  obtain ⟨g6, l6'⟩ := put_ok r5 n6 (.hand "Ann here") ord g5 (plain _ _ (om _ (by simp)) (fun _ _ e => by cases e) trivial)
  have p6 := putR_pv r5 n6 (.hand "Ann here")
  obtain ⟨r6, hr6⟩ : ∃ r6, r6 = putR r5 n6 (.hand "Ann here") := ⟨_, rfl⟩
  rw [← hr6] at g6 l6' p6
  obtain ⟨g7, l7'⟩ := put_ok r6 n7 (.fin "Good bye") ord g6 (plain _ _ (om _ (by simp)) (fun _ _ e => by cases e) trivial)
  have p7 := putR_pv r6 n7 (.fin "Good bye")
  obtain ⟨r7, hr7⟩ : ∃ r7, r7 = putR r6 n7 (.fin "Good bye") := ⟨_, rfl⟩
  rw [← hr7] at g7 l7' p7
  have hall : ∀ x ∈ ord, x ∈ FA.names r7 := fun x hx => by
    rw [hr7, mem_put, hr6, mem_put, hr5, mem_put, hr4, mem_put, hr3, mem_put]
    rw [hord] at hx
    simp only [List.mem_cons, List.not_mem_nil, or_false] at hx
    rcases hx with rfl | rfl | rfl | rfl | rfl | rfl | rfl | rfl
    · exact .inl (.inl (.inl (.inr rfl)))
    · exact .inl (.inl (.inr rfl))
    · exact .inl (.inl (.inl (.inl (.inl hm0))))
    · exact .inl (.inl (.inl (.inl (.inl hm1))))
    · exact .inl (.inl (.inl (.inl (.inl hm2))))
    · exact .inl (.inl (.inl (.inl (.inr rfl))))
    · exact .inl (.inr rfl)
    · exact .inr rfl
  refine ⟨⟨fst, [("2", "abc"), ("6", "mno")], r7⟩, ord, hond, ol, g7, hall, om _ hfst, rfl, by show r7.length ≤ 20; omega, run_ret rfl ?_⟩
  have q3 : (Room.names "Spell a name" [("ann", x6), ("bo", n6)] (3, n7) (1, x7)).pv = .tup [.str "names", .str "Spell a name", .tup [.tup [.str "ann", .str x6], .tup [.str "bo", .str n6]], .tup [.int 3, .str n7], .tup [.int 1, .str x7]] := rfl
  have q6 : (Room.hand "Ann here").pv = .tup [.str "hand", .str "Ann here"] := rfl
  have q7 : (Room.fin "Good bye").pv = .tup [.str "end", .str "Good bye"] := rfl
  rw [q3] at p3
  rw [q6] at p6
  rw [q7] at p7
  generalize hH4 : (Room.hours sp4 l4).pv = H4 at *
  generalize hH5 : (Room.hours sp5 l5).pv = H5 at *
  have u3 : rs.length < 16777216 := by omega
  have u4 : r3.length < 16777216 := by omega
  have u5 : r4.length < 16777216 := by omega
  have u6 : r5.length < 16777216 := by omega
  have u7 : r6.length < 16777216 := by omega
  have a3 : atI ([n0, n1, n2, n3, n4, n5, n6, n7].map PV.str) 3 = some (.str n3) := atI_of (n := 3) rfl rfl
  have a4 : atI ([n0, n1, n2, n3, n4, n5, n6, n7].map PV.str) 4 = some (.str n4) := atI_of (n := 4) rfl rfl
  have a5 : atI ([n0, n1, n2, n3, n4, n5, n6, n7].map PV.str) 5 = some (.str n5) := atI_of (n := 5) rfl rfl
  have a6 : atI ([n0, n1, n2, n3, n4, n5, n6, n7].map PV.str) 6 = some (.str n6) := atI_of (n := 6) rfl rfl
  have a7 : atI ([n0, n1, n2, n3, n4, n5, n6, n7].map PV.str) 7 = some (.str n7) := atI_of (n := 7) rfl rfl
  have k4 : cutP ([n0, n1, n2, n3, n4, n5, n6, n7].map PV.str) none (some 4) = [.str n0, .str n1, .str n2, .str n3] := rfl
  have k5 : cutP ([n0, n1, n2, n3, n4, n5, n6, n7].map PV.str) (some 5) none = [.str n5, .str n6, .str n7] := rfl
  have k6 : cutP ([n0, n1, n2, n3, n4, n5, n6, n7].map PV.str) (some 6) none = [.str n6, .str n7] := rfl
  have ad4 : gAdd (.lst [.str n0, .str n1, .str n2, .str n3]) (.lst [.str n5, .str n6, .str n7]) = some (.lst [.str n0, .str n1, .str n2, .str n3, .str n5, .str n6, .str n7]) := v_add_lst (by simp)
  have ad5 : gAdd (.lst [.str n0, .str n1, .str n2, .str n3]) (.lst [.str n6, .str n7]) = some (.lst [.str n0, .str n1, .str n2, .str n3, .str n6, .str n7]) := v_add_lst (by simp)
  have eh4 : f_law_hours [.lst [.str n0, .str n1, .str n2, .str n3, .str n5, .str n6, .str n7], .int z2] = some H4 := eh4
  have eh5 : f_law_hours [.lst [.str n0, .str n1, .str n2, .str n3, .str n6, .str n7], .int z3] = some H5 := eh5
  have uH : House.pv ⟨fst, [("2", "abc"), ("6", "mno")], r7⟩ = .dct [.inr "first", .inr "letters", .inr "rooms"] [.str fst, .lst [.tup [.str "2", .str "abc"], .tup [.str "6", .str "mno"]], pvRooms r7] := rfl
  rw [uH]
  generalize ([n0, n1, n2, n3, n4, n5, n6, n7].map PV.str) = N at *
  have v_r : rngP (.int 3) = .ok (rangeP 0 3) := v_rng (by decide) (by decide)
  simp (disch := omega) [g_law_house, PU.start, c0, c1, en, el, v_r]
  rw [f1]
  simp (disch := omega) [i6, v_mod, e6, a6, a7, i7, e7, a3, u_rooms rs, u3, p3]
  simp (disch := omega) [u_rooms r3, u4, k4, k5, ad4, c2, eh4, a4, p4]
  simp (disch := omega) [u_rooms r4, u5, k4, k6, ad5, c3, eh5, a5, p5]
  simp (disch := omega) [u_rooms r5, u6, a6, p6]
  simp (disch := omega) [u_rooms r6, u7, a7, p7]
  simp (disch := omega) [i8, v_mod, e8, mergeP, putP]
end K21
end
section
namespace K21
open PySem L2 PU MT NM
theorem hand_cons (x : Int × Int × Str) (l : List (Int × Int × Str)) (last : Str) (hour : Int) : FA.handOf (x :: l) last hour = if FA.holds hour x = true then x.2.2 else FA.handOf l last hour := by
  unfold FA.handOf
  by_cases h : FA.holds hour x = true
  · rw [List.find?_cons_of_pos h, if_pos h]
  · rw [List.find?_cons_of_neg h, if_neg h]
theorem come_loop (H : PV) (rs : FA.Rooms) (hR : gIx H (.str "rooms") = some (pvRooms rs)) (hour : Int) : ∀ (n N : Nat) (x y : Str) (r : Room) (a b c : Sl), n ≤ N → comeGo rs hour n x = some y → FA.lookR rs x = some r → ∃ r' a' b' c',
    whF (truF (bin2 (bin2 (getV 3) (kI 0) gIx) (kS "hours") gEq)) b_law_come_2 N [.val H, .val (.int hour), .val (.str x), .val r.pv, a, b, c] = .ok (.next [.val H, .val (.int hour), .val (.str y), r', a', b', c'])
  | 0, N, x, y, _, _, _, _, h, e, _ => by cases e
  | n + 1, 0, x, y, _, _, _, _, h, e, _ => by omega
  | n + 1, N + 1, x, y, r, a, b, c, h, e, hr => by
    unfold comeGo at e
    unfold whF
    rw [hr] at e
    cases r with
    | hours sp l =>
      have er : (Room.hours sp l).pv = .tup [.str "hours", .tup (sp.map pv3), .str l] := rfl
      rw [er]
      have t : truF (bin2 (bin2 (getV 3) (kI 0) gIx) (kS "hours") gEq) [.val H, .val (.int hour), .val (.str x), .val (.tup [.str "hours", .tup (sp.map pv3), .str l]), a, b, c] = .ok true := by simp
      obtain ⟨ρ', f1, a', b', c', rfl⟩ := forM (enc := pv3) (xs := sp.reverse) (h := tupT 3 (consT (nameT 4) (consT (nameT 5) (consT (nameT 6) nilT)))) (g := b_law_come_1) (ρ := [.val H, .val (.int hour), .val (.str l), .val (.tup [.str "hours", .tup (sp.map pv3), .str l]), a, b, c])
        (I := fun pre ρ => ∃ a b c, ρ = [.val H, .val (.int hour), .val (.str (FA.handOf pre.reverse l hour)), .val (.tup [.str "hours", .tup (sp.map pv3), .str l]), a, b, c]) ⟨a, b, c, rfl⟩ (by
          rintro pre s post ρ hx ⟨a, b, c, rfl⟩
          refine ⟨[.val H, .val (.int hour), .val (.str (FA.handOf pre.reverse l hour)), .val (.tup [.str "hours", .tup (sp.map pv3), .str l]), .val (.int s.1), .val (.int s.2.1), .val (.str s.2.2)], [.val H, .val (.int hour), .val (.str (FA.handOf (pre ++ [s]).reverse l hour)), .val (.tup [.str "hours", .tup (sp.map pv3), .str l]), .val (.int s.1), .val (.int s.2.1), .val (.str s.2.2)], rfl, .inl ?_, _, _, _, rfl⟩
          rw [List.reverse_append]
          show b_law_come_1 _ = .ok (.next [_, _, .val (.str (FA.handOf (s :: pre.reverse) l hour)), _, _, _, _])
          rw [hand_cons]
          unfold FA.holds
          by_cases h1 : s.1 ≤ hour
          · by_cases h2 : hour < s.2.1
            · simp [b_law_come_1, h1, h2]
            · simp [b_law_come_1, h1, h2]
          · simp [b_law_come_1, h1])
      rw [List.reverse_reverse] at f1
      have hy : ∃ r2, FA.lookR rs (FA.handOf sp l hour) = some r2 := by
        cases hq : FA.lookR rs (FA.handOf sp l hour) with
        | some r2 => exact ⟨r2, rfl⟩
        | none =>
          exfalso
          replace e : comeGo rs hour n (FA.handOf sp l hour) = some y := e
          cases n with
          | zero => cases e
          | succ n => unfold comeGo at e; rw [hq] at e; cases e
      obtain ⟨r2, hr2⟩ := hy
      have n2 := FA.ix_rooms rs (FA.handOf sp l hour)
      rw [hr2] at n2
      have n2 : gIx (pvRooms rs) (.str (FA.handOf sp l hour)) = some r2.pv := n2
      have bb : b_law_come_2 [.val H, .val (.int hour), .val (.str x), .val (.tup [.str "hours", .tup (sp.map pv3), .str l]), a, b, c] = .ok (.next [.val H, .val (.int hour), .val (.str (FA.handOf sp l hour)), .val r2.pv, a', b', c']) := by
        rw [List.map_reverse] at f1
        simp [b_law_come_2]
        rw [f1]
        simp [hR, n2]
      simp only [t, R.ok_bind, if_true, bb]
      exact come_loop H rs hR hour n N _ y r2 _ _ _ (by omega) e hr2
    | menu t ks wr wa =>
      have n3 : gIx (Room.menu t ks wr wa).pv (.int 0) = some (.str "menu") := rfl
      have t : truF (bin2 (bin2 (getV 3) (kI 0) gIx) (kS "hours") gEq) [.val H, .val (.int hour), .val (.str x), .val (Room.menu t ks wr wa).pv, a, b, c] = .ok false := by simp [n3]
      cases e
      simp only [t, R.ok_bind, Bool.false_eq_true, if_false]
      exact ⟨_, _, _, _, rfl⟩
    | names t ks wr wa =>
      have n3 : gIx (Room.names t ks wr wa).pv (.int 0) = some (.str "names") := rfl
      have t : truF (bin2 (bin2 (getV 3) (kI 0) gIx) (kS "hours") gEq) [.val H, .val (.int hour), .val (.str x), .val (Room.names t ks wr wa).pv, a, b, c] = .ok false := by simp [n3]
      cases e
      simp only [t, R.ok_bind, Bool.false_eq_true, if_false]
      exact ⟨_, _, _, _, rfl⟩
    | hand t =>
      have n3 : gIx (Room.hand t).pv (.int 0) = some (.str "hand") := rfl
      have t : truF (bin2 (bin2 (getV 3) (kI 0) gIx) (kS "hours") gEq) [.val H, .val (.int hour), .val (.str x), .val (Room.hand t).pv, a, b, c] = .ok false := by simp [n3]
      cases e
      simp only [t, R.ok_bind, Bool.false_eq_true, if_false]
      exact ⟨_, _, _, _, rfl⟩
    | fin t =>
      have n3 : gIx (Room.fin t).pv (.int 0) = some (.str "end") := rfl
      have t : truF (bin2 (bin2 (getV 3) (kI 0) gIx) (kS "hours") gEq) [.val H, .val (.int hour), .val (.str x), .val (Room.fin t).pv, a, b, c] = .ok false := by simp [n3]
      cases e
      simp only [t, R.ok_bind, Bool.false_eq_true, if_false]
      exact ⟨_, _, _, _, rfl⟩
theorem come (H : PV) (rs : FA.Rooms) (hR : gIx H (.str "rooms") = some (pvRooms rs)) (hour : Int) (n : Nat) (x y : Str) (r : Room) (hn : n ≤ 300) (e : comeGo rs hour n x = some y) (hr : FA.lookR rs x = some r) : f_law_come [H, .int hour, .str x] = some (.str y) := by
  refine run_ret rfl ?_
  have n2 := FA.ix_rooms rs x
  rw [hr] at n2
  have n2 : gIx (pvRooms rs) (.str x) = some r.pv := n2
  obtain ⟨r', a, b, c, k⟩ := come_loop H rs hR hour n 300 x y r .no .no .no hn e hr
  simp only [g_law_come, PU.start, List.map_cons, List.map_nil, List.length_cons, List.length_nil, List.replicate, List.cons_append, List.nil_append, x_seqF, x_setF, x_bin2, x_getV0, x_kS, k_two, k_op, hR, R.ofO_some, x_getVs, n2, k_map, k_set, k_seq_next, List.set_cons_succ, List.set_cons_zero, x_whS, k, x_retF]
def stPv (y : Str) : PV := .tup [.str y, .str "", .int 0, .int 0, .str ""]
theorem st_flat (y : Str) : flat (stPv y) = true ∧ pdep (stPv y) ≤ 3 := by simp [stPv, flat, flats, pdep, pdeps]
theorem st_ne (y : Str) : gNe (stPv y) (stPv y) = some (.bl false) := by
  have e : gNe (stPv y) (stPv y) = if pdeps [.str y, .str "", .int 0, .int 0, .str ""] ≤ 60 then (peqsO [.str y, .str "", .int 0, .int 0, .str ""] [.str y, .str "", .int 0, .int 0, .str ""]).map fun b => .bl (!b) else none := rfl
  rw [e, if_pos (by simp [pdep, pdeps]), peqs_refl _ (by simp [flat, flats])]
  rfl
theorem begin (H : PV) (rs : FA.Rooms) (hR : gIx H (.str "rooms") = some (pvRooms rs)) (hour : Int) (x y : Str) (hF : gIx H (.str "first") = some (.str x)) (e : comeGo rs hour 20 x = some y) : f_begin [H, .int hour] = some (stPv y) := by
  have k := co_come H rs hR hour 20 x y (by omega) e
  have a : f_arrival [H, .int hour, .str x, .str ""] = some (stPv y) := by
    refine run_ret rfl ?_
    simp [g_arrival, PU.start, k, stPv]
  refine run_ret rfl ?_
  simp [g_begin, PU.start, hF, a]
def LS : WO.Lts := [(50, [97, 98, 99]), (54, [109, 110, 111])]
theorem ls_eq : PV.lst ([(("2" : Str), ("abc" : Str)), (("6" : Str), ("mno" : Str))].map pv2) = WO.ltPv LS := by
  have e1 : ("2" : Str) = ⟨#[50]⟩ := by decide +kernel
  have e2 : ("6" : Str) = ⟨#[54]⟩ := by decide +kernel
  have e3 : ("abc" : Str) = mkS [97, 98, 99] := by decide +kernel
  have e4 : ("mno" : Str) = mkS [109, 110, 111] := by decide +kernel
  simp [pv2, WO.ltPv, LS, WO.sg, e1, e2, e3, e4]
theorem names_ex (t1 t2 : Str) : ∃ D, (gDictA (.tup ([(("ann" : Str), t1), (("bo" : Str), t2)].map pv2))).bind (fun d => f_names_ways [WO.ltPv LS, d]) = some D := by
  have e1 : ("ann" : Str) = mkS [97, 110, 110] := by decide +kernel
  have e2 : ("bo" : Str) = mkS [98, 111] := by decide +kernel
  let wt : List (BG.W × Str) := [([97, 110, 110], t1), ([98, 111], t2)]
  obtain ⟨ks, ps, _, e⟩ := nw_names LS wt (by simp [wt]) (by
    intro p hp
    simp only [wt, List.mem_cons, List.not_mem_nil, or_false] at hp
    rcases hp with rfl | rfl
    · exact ⟨by simp, show ∀ c ∈ [97, 110, 110], (WO.keyL LS c).isSome = true by decide +kernel⟩
    · exact ⟨by simp, show ∀ c ∈ [98, 111], (WO.keyL LS c).isSome = true by decide +kernel⟩) (by simp [wt])
  have ed := NW.dict_wt wt (by simp [wt]) (by simp [wt])
  have ep : PV.tup ([(("ann" : Str), t1), (("bo" : Str), t2)].map pv2) = NW.wtPv wt := by simp [pv2, NW.wtPv, wt, e1, e2]
  refine ⟨.dct ks ps, ?_⟩
  rw [ep]
  have ea : gDictA (NW.wtPv wt) = gDictP (NW.wtPv wt) := rfl
  rw [ea, ed]
  exact e
theorem room_ex (h : House) (ord : List Str) (g : Good ord h.rooms) (hlet : h.letters = [(("2" : Str), ("abc" : Str)), (("6" : Str), ("mno" : Str))]) (n : Str) (hn : n ∈ FA.names h.rooms) : ∃ D, f_room_ways [h.pv, .str n] = some D := by
  have hR : gIx h.pv (.str "rooms") = some (pvRooms h.rooms) := by simp [House.pv]
  have hL : gIx h.pv (.str "letters") = some (WO.ltPv LS) := by rw [← ls_eq, ← hlet]; simp [House.pv]
  obtain ⟨r, hr⟩ := FA.look_some h.rooms n hn
  obtain ⟨_, _, _, _, hw⟩ := g.ok _ (look_in h.rooms n r hr)
  have n2 := FA.ix_rooms h.rooms n
  rw [hr] at n2
  have n2 : gIx (pvRooms h.rooms) (.str n) = some r.pv := n2
  generalize h.pv = H at *
  generalize pvRooms h.rooms = RM at *
  cases r with
  | hours sp l =>
    have n2 : gIx RM (.str n) = some (.tup [.str "hours", .tup (sp.map pv3), .str l]) := n2
    exact ⟨.dct [] [], run_ret rfl (by simp [g_room_ways, PU.start, hR, n2])⟩
  | menu t ks wr wa =>
    obtain ⟨kk, pp, e⟩ := NW.dictP_ex ks (by have : ks.length ≤ 100 := hw; omega)
    have e : gDictA (.tup (ks.map pv2)) = some (.dct kk pp) := e
    have n2 : gIx RM (.str n) = some (.tup [.str "menu", .str t, .tup (ks.map pv2), .tup [.int wr.1, .str wr.2], .tup [.int wa.1, .str wa.2]]) := n2
    exact ⟨.dct kk pp, run_ret rfl (by simp [g_room_ways, PU.start, hR, n2, e])⟩
  | names t ks wr wa =>
    obtain ⟨t1, t2, rfl⟩ := hw
    obtain ⟨D, e⟩ := names_ex t1 t2
    obtain ⟨d, e1, e2⟩ := Option.bind_eq_some_iff.mp e
    have n2 : gIx RM (.str n) = some (.tup [.str "names", .str t, .tup ([(("ann" : Str), t1), (("bo" : Str), t2)].map pv2), .tup [.int wr.1, .str wr.2], .tup [.int wa.1, .str wa.2]]) := n2
    generalize PV.tup ([(("ann" : Str), t1), (("bo" : Str), t2)].map pv2) = T at *
    exact ⟨D, run_ret rfl (by simp [g_room_ways, PU.start, hR, hL, n2, e1, e2])⟩
  | hand t =>
    have n2 : gIx RM (.str n) = some (.tup [.str "hand", .str t]) := n2
    exact ⟨.dct [] [], run_ret rfl (by simp [g_room_ways, PU.start, hR, n2])⟩
  | fin t =>
    have n2 : gIx RM (.str n) = some (.tup [.str "end", .str t]) := n2
    exact ⟨.dct [] [], run_ret rfl (by simp [g_room_ways, PU.start, hR, n2])⟩
theorem ways_ex (h : House) (ord : List Str) (g : Good ord h.rooms) (hlet : h.letters = [(("2" : Str), ("abc" : Str)), (("6" : Str), ("mno" : Str))]) (hl : h.rooms.length ≤ 20) : ∃ WD, f_house_ways [h.pv] = some WD := by
  obtain ⟨ks, ps, e, _⟩ := hw_ways h.pv h.rooms (by simp [House.pv]) (by omega) (fun n => (f_room_ways [h.pv, .str n]).getD .non) fun n hn => by
    obtain ⟨D, e⟩ := room_ex h ord g hlet n hn
    rw [e]
    rfl
  exact ⟨_, e⟩
theorem walk_eq (H : PV) (hour : Int) (WD s : PV) (hW : f_house_ways [H] = some WD) (e : f_begin [H, .int hour] = some s) : f_walk [H, .int hour, .str ""] = some (.lst [s]) := by
  have ei : iterP (.str "") = some [] := by rw [empty_eq]; rfl
  have e2 : f_walk_on [H, .int hour, s, .str ""] = some (.lst [s]) := by
    refine run_ret rfl ?_
    simp [g_walk_on, PU.start, hW, ei, forF]
  refine run_ret rfl ?_
  simp [g_walk, PU.start, e, e2]
theorem same (y : Str) : f_law_same [stPv y, stPv y] = some (.bl true) := by
  refine run_ret rfl ?_
  have n := st_ne y
  have g2 : gIx (stPv y) (.int 2) = some (.int 0) := rfl
  have g3 : gIx (stPv y) (.int 3) = some (.int 0) := rfl
  have ti : gIsi "tuple" (stPv y) = some (.bl true) := rfl
  have bi : gIsi "bool" (.int 0) = some (.bl false) := rfl
  generalize stPv y = S at *
  simp [g_law_same, PU.start, n, g2, g3, ti, bi]
def kindOf : Room → Str
  | .hand _ => "hand"
  | .fin _ => "end"
  | _ => "asked"
def textOf : Room → Str
  | .menu t .. => t
  | .names t .. => t
  | .hand t => t
  | .fin t => t
  | .hours .. => ""
theorem heard (H : PV) (rs : FA.Rooms) (hR : gIx H (.str "rooms") = some (pvRooms rs)) (y : Str) (r : Room) (hr : FA.lookR rs y = some r) (hh : ∀ sp l, r ≠ .hours sp l) : f_heard [H, stPv y] = some (.tup [.str (kindOf r), .str (textOf r)]) := by
  refine run_ret rfl ?_
  have n2 := FA.ix_rooms rs y
  rw [hr] at n2
  have n2 : gIx (pvRooms rs) (.str y) = some r.pv := n2
  have g0 : gIx (stPv y) (.int 0) = some (.str y) := rfl
  have c : c_HEARD = .dct [.inr "menu", .inr "names", .inr "hand", .inr "end"] [.str "asked", .str "asked", .str "hand", .str "end"] := rfl
  generalize stPv y = S at *
  cases r with
  | hours sp l => exact absurd rfl (hh sp l)
  | menu t ks wr wa =>
    have n2 : gIx (pvRooms rs) (.str y) = some (.tup [.str "menu", .str t, .tup (ks.map pv2), .tup [.int wr.1, .str wr.2], .tup [.int wa.1, .str wa.2]]) := n2
    simp [g_heard, PU.start, hR, g0, n2, c, kindOf, textOf]
  | names t ks wr wa =>
    have n2 : gIx (pvRooms rs) (.str y) = some (.tup [.str "names", .str t, .tup (ks.map pv2), .tup [.int wr.1, .str wr.2], .tup [.int wa.1, .str wa.2]]) := n2
    simp [g_heard, PU.start, hR, g0, n2, c, kindOf, textOf]
  | hand t =>
    have n2 : gIx (pvRooms rs) (.str y) = some (.tup [.str "hand", .str t]) := n2
    simp [g_heard, PU.start, hR, g0, n2, c, kindOf, textOf]
  | fin t =>
    have n2 : gIx (pvRooms rs) (.str y) = some (.tup [.str "end", .str t]) := n2
    simp [g_heard, PU.start, hR, g0, n2, c, kindOf, textOf]
theorem kind_in (k : Str) : gIn (.str k) (.lst [.str "menu", .str "names"]) = some (.bl (decide (k ∈ [Str.ofString "menu", Str.ofString "names"]))) := in_strs k ["menu", "names"]
theorem two_ne (a b : Str) : gNe (.tup [.str a, .str b]) (.tup [.str a, .str b]) = some (.bl false) := by
  have e : gNe (.tup [.str a, .str b]) (.tup [.str a, .str b]) = if pdeps [.str a, .str b] ≤ 60 then (peqsO [.str a, .str b] [.str a, .str b]).map fun b => .bl (!b) else none := rfl
  rw [e, if_pos (by simp [pdep, pdeps]), peqs_refl _ (by simp [flat, flats])]
  rfl
theorem law_b (script : PV) (h : House) (ord : List Str) (nd : ord.Nodup) (ol : ord.length = 8) (g : Good ord h.rooms) (hall : ∀ x ∈ ord, x ∈ FA.names h.rooms) (hf : h.first ∈ ord) (WD : PV) (hW : f_house_ways [h.pv] = some WD) (cell : Int) (a b c d e : Sl) : ∃ a' b' c' d' e',
    b_law_1 [.val script, .val h.pv, .val h.pv, .val (.int cell), a, b, c, d, e] = .ok (.next [.val script, .val h.pv, .val h.pv, .val (.int cell), a', b', c', d', e']) := by
  have hR : gIx h.pv (.str "rooms") = some (pvRooms h.rooms) := by simp [House.pv]
  have hF : gIx h.pv (.str "first") = some (.str h.first) := by simp [House.pv]
  generalize hhour : cell % 24 = hour
  obtain ⟨k, hk, ek⟩ := List.getElem_of_mem hf
  obtain ⟨y, r, ey, hr, hh⟩ := come_ex ord h.rooms nd g hall hour 20 k hk (by omega)
  rw [ek] at ey
  obtain ⟨r0, hr0⟩ := FA.look_some h.rooms h.first (hall _ hf)
  have e1 := come h.pv h.rooms hR hour 20 h.first y r0 (by omega) ey hr0
  have e2 := begin h.pv h.rooms hR hour h.first y hF ey
  have e3 := walk_eq h.pv hour WD (stPv y) hW e2
  have e4 := same y
  have e5 := heard h.pv h.rooms hR y r hr hh
  have n2 := FA.ix_rooms h.rooms y
  rw [hr] at n2
  have n2 : gIx (pvRooms h.rooms) (.str y) = some r.pv := n2
  have e6 : gNe (.lst [stPv y]) (.lst [stPv y]) = some (.bl false) := ne_self (ps := [stPv y]) fun p hp => by
    rw [List.mem_singleton.mp hp]
    exact st_flat y
  have e7 := two_ne (kindOf r) (textOf r)
  have eS : tupF (consA (getV 5) (consA (kS "") (consA (kI 0) (consA (kI 0) (consA (kS "") nilA))))) [.val script, .val h.pv, .val h.pv, .val (.int cell), .val (.int hour), .val (.str y), c, d, e] = .ok (stPv y) := by simp [stPv]
  have vm := v_mod (a := cell) (b := 24) (by decide)
  rw [hhour] at vm
  have fin : ∀ (k0 : Str) (txt : Str), gIx r.pv (.int 0) = some (.str k0) → gIx r.pv (.int 1) = some (.str txt) → txt = textOf r → (k0 ∈ [Str.ofString "menu", Str.ofString "names"] → kindOf r = "asked") → (k0 ∉ [Str.ofString "menu", Str.ofString "names"] → kindOf r = k0) → ∃ a' b' c' d' e', b_law_1 [.val script, .val h.pv, .val h.pv, .val (.int cell), a, b, c, d, e] = .ok (.next [.val script, .val h.pv, .val h.pv, .val (.int cell), a', b', c', d', e']) := by
    intro k0 txt q0 q1 qt qa qb
    rw [qt] at q1
    have ki := kind_in k0
    refine ⟨.val (.int hour), .val (.str y), .val (stPv y), .val r.pv, .val (.str (kindOf r)), ?_⟩
    generalize r.pv = RP at *
    generalize h.pv = HP at *
    generalize stPv y = S at *
    unfold b_law_1
    rw [x_seqF, x_setF, x_bin2]
    simp only [x_getVs, x_getV0, x_kI, k_two, k_op, vm, R.ofO_some, k_map, k_set, k_seq_next, List.set_cons_succ, List.set_cons_zero, x_seqF, x_setF, x_callF, x_consA, x_bin2, x_kS, hF, x_nilA, k_cons, k_bnd, k_call, e1]
    rw [eS]
    simp only [x_seqF, x_setF, k_map, k_set, k_seq_next, List.set_cons_succ, List.set_cons_zero, x_ifF, x_orB, x_notB, x_truF, x_callF, x_consA, x_getVs, x_getV0, x_nilA, k_two, k_cons, k_bnd, k_call, e2, R.ofO_some, e4, k_tru, v_tru_bl, Bool.not_true, k_if_f, x_bin2, x_kS, e3, x_lstF, k_lst, List.length_cons, List.length_nil, Nat.zero_add, show (1 : Nat) ≤ 16777216 from by decide, if_true, k_op, e6, x_nextF, hR, n2, x_kI, q0, ki]
    by_cases hk : k0 ∈ [Str.ofString "menu", Str.ofString "names"]
    · rw [qa hk] at e5 e7 ⊢
      simp only [show (1 + 1 : Nat) ≤ 16777216 from by decide, ki, decide_eq_true hk, x_seqF, k_if_t, x_setF, x_kS, k_map, k_set, List.set_cons_succ, List.set_cons_zero, k_seq_next, x_ifF, x_truF, x_bin2, x_callF, x_consA, x_getVs, x_getV0, x_nilA, k_two, k_cons, k_bnd, k_call, e5, R.ofO_some, x_kI, k_op, q1, x_tupF, k_tup, List.length_cons, List.length_nil, show (0 + 1 + 1 : Nat) ≤ 16777216 from by decide, Nat.zero_add, if_true, e7, k_tru, v_tru_bl, k_if_f, x_nextF]
    · rw [qb hk] at e5 e7 ⊢
      simp only [show (1 + 1 : Nat) ≤ 16777216 from by decide, ki, decide_eq_false hk, x_seqF, x_setF, k_if_f, x_nextF, k_seq_next, x_ifF, x_truF, x_bin2, x_callF, x_consA, x_getVs, x_getV0, x_nilA, k_two, k_cons, k_bnd, k_call, e5, R.ofO_some, x_kI, k_op, q1, x_tupF, k_tup, List.length_cons, List.length_nil, show (0 + 1 + 1 : Nat) ≤ 16777216 from by decide, Nat.zero_add, if_true, e7, k_tru, v_tru_bl]
  cases r with
  | hours sp l => exact absurd rfl (hh sp l)
  | menu t ks wr wa => exact fin "menu" t rfl rfl rfl (fun _ => rfl) (fun h => absurd (by simp) h)
  | names t ks wr wa => exact fin "names" t rfl rfl rfl (fun _ => rfl) (fun h => absurd (by simp) h)
  | hand t => exact fin "hand" t rfl rfl rfl (fun h => absurd h (by decide +kernel)) (fun _ => rfl)
  | fin t => exact fin "end" t rfl rfl rfl (fun h => absurd h (by decide +kernel)) (fun _ => rfl)
theorem law_true (ns : List Int) : f_law [.lst (ns.map .int)] = some (.bl true) := by
  refine run_ret rfl ?_
  have s1 : cutP (ns.map PV.int) none (some 8) = (cutP ns none (some 8)).map .int := cutP_map .int ns none (some 8)
  have hl8 : (cutP ns none (some 8)).length ≤ 8 := by
    unfold cutP
    simp only [HT.sIx, List.length_take, List.length_drop]
    split <;> omega
  obtain ⟨h, ord, nd, ol, g, hall, hf, hlet, hrl, eh⟩ := house (cutP ns none (some 8)) hl8
  obtain ⟨WD, hW⟩ := ways_ex h ord g hlet hrl
  have s2 : cutP (ns.map PV.int) (some 8) (some 38) = (cutP ns (some 8) (some 38)).map .int := cutP_map .int ns (some 8) (some 38)
  have hc : (cutP ns (some 8) (some 38)).length ≤ 30 := by
    unfold cutP
    simp only [HT.sIx, List.length_take, List.length_drop]
    split <;> split <;> omega
  generalize cutP ns (some 8) (some 38) = cells at s2 hc
  have ea : gAdd (.lst [.int 0]) (.lst (cells.map .int)) = some (.lst ((0 :: cells).map .int)) := by
    rw [v_add_lst (by simp; omega)]
    rfl
  obtain ⟨ρ', f1, x, a, b, c, d, e, rfl⟩ := forM (enc := PV.int) (xs := 0 :: cells) (h := nameT 3) (g := b_law_1) (ρ := [.val (.lst (ns.map .int)), .val h.pv, .val h.pv, .no, .no, .no, .no, .no, .no])
    (I := fun pre ρ => ∃ x a b c d e, ρ = [.val (.lst (ns.map .int)), .val h.pv, .val h.pv, x, a, b, c, d, e]) ⟨_, _, _, _, _, _, rfl⟩ (by
      rintro pre x post ρ hx ⟨x0, a, b, c, d, e, rfl⟩
      obtain ⟨a', b', c', d', e', z⟩ := law_b (.lst (ns.map .int)) h ord nd ol g hall hf WD hW x a b c d e
      exact ⟨_, _, x_nameT _, .inl z, _, _, _, _, _, _, rfl⟩)
  have e4 := house_refl h g.nd
  have ed : gDictA h.pv = some h.pv := rfl
  have el : gListA (.lst (cells.map .int)) = some (.lst (cells.map .int)) := rfl
  generalize h.pv = H at *
  generalize cutP ns none (some 8) = first at *
  generalize (0 :: cells).map PV.int = CL at f1 ea
  simp [g_law, PU.start, s1, eh, ed, s2, el, ea]
  rw [f1]
  simp [s1, eh, e4]
end K21
end
section
namespace K21
open PySem PySem.Spec PyProof.Rows L2 PU
seal EV EO EN EA ET EW SV SVs TGt TGts TCt TCts EI ETs ED EOI
def top (i : Nat) : Stmt := PySem.Challenge.pw_menutree_k21_calls_begin.main.body.getD i (.Pass ⟨0, 0, 0, 0⟩)
structure Txt (w : World) (K : PySem.W.Frag) (mg : Str → Option Value) : Prop where
  n_bool : mg "bool" = none
  n_dict : mg "dict" = none
  n_int : mg "int" = none
  n_isinstance : mg "isinstance" = none
  n_len : mg "len" = none
  n_list : mg "list" = none
  n_range : mg "range" = none
  n_reversed : mg "reversed" = none
  n_tuple : mg "tuple" = none
  n_zip : mg "zip" = none
  c_CODE_END : @Con ⟨w⟩ K mg "CODE_END" c_CODE_END
  c_HEARD : @Con ⟨w⟩ K mg "HEARD" c_HEARD
  c_WAIT : @Con ⟨w⟩ K mg "WAIT" c_WAIT
end K21
end
section
namespace K21
open PySem PySem.Spec PyProof.Rows L2 PU
seal EV EO EN EA ET EW SV SVs TGt TGts TCt TCts EI ETs ED EOI
abbrev s_handed : Stmt := top 1
theorem sc_handed : FnScope ["room", "hour", "since", "till", "name"] ["room", "hour"] (defScope s_handed) := ⟨rfl, rfl, rfl, by decide +kernel, rfl, by decide +kernel, by decide +kernel⟩
theorem pf_handed {P : Program} {w : World} {K : PySem.W.Frag} {mg : Str → Option Value} {base : Heap} {f : Addr} {fd : FuncData} (T : Txt w K mg) (F : Fun K "handed" "handed" s_handed f fd) (hm : mg "handed" = some (.ref f)) (hb : Binds K fd ["room", "hour"] []) : @PF ⟨w⟩ P w K mg base 1 "handed" f_handed :=
  letI : TW := ⟨w⟩
  pf_of F sc_handed hm hb (g := g_handed) fun cdv A outer s H E hr => by
    have hu := hr.units
    refine svs_cons ?_ ?_
    ·refine sv_for PassesOwn.never rfl ?_ ?_ ?_
     ·refine ei_val ?_
      refine ev_ix (ixP hu) ?_ ?_ (fun _ _ => rfl)
      ·refine EV.o ?_
       exact ev_v 0
      ·refine EV.o ?_
       exact ev_int
     ·refine tg_tup rfl ?_
      refine tgs_cons ?_ ?_
      ·exact tg_name 2 sc_handed.nd rfl (by first | exact Or.inl rfl | exact Or.inr rfl)
      ·refine tgs_cons ?_ ?_
       ·exact tg_name 3 sc_handed.nd rfl (by first | exact Or.inl rfl | exact Or.inr rfl)
       ·refine tgs_cons ?_ ?_
        ·exact tg_name 4 sc_handed.nd rfl (by first | exact Or.inl rfl | exact Or.inr rfl)
        ·exact tgs_nil
     ·refine svs_one ?_
      refine sv_if ?_ ?_ ?_
      ·refine et_chain opLe opLt isBl_le isBl_lt ?_ ?_ ?_
       ·refine EV.o ?_
        exact ev_v 2
       ·refine EV.o ?_
        exact ev_v 1
       ·refine EV.o ?_
        exact ev_v 3
      ·refine svs_one ?_
       refine sv_ret ?_
       exact ev_v 4
      ·exact svs_nil
    ·refine svs_one ?_
     refine sv_ret ?_
     refine ev_ix (ixP hu) ?_ ?_ (fun _ _ => rfl)
     ·refine EV.o ?_
      exact ev_v 0
     ·refine EV.o ?_
      exact ev_int
end K21
end
section
namespace K21
open PySem PySem.Spec PyProof.Rows L2 PU
seal EV EO EN EA ET EW SV SVs TGt TGts TCt TCts EI ETs ED EOI
abbrev s_come_to : Stmt := top 2
theorem sc_come_to : FnScope ["H", "hour", "name", "come"] ["H", "hour", "name"] (defScope s_come_to) := ⟨rfl, rfl, rfl, by decide +kernel, rfl, by decide +kernel, by decide +kernel⟩
theorem pf_come_to {P : Program} {w : World} {K : PySem.W.Frag} {mg : Str → Option Value} {base : Heap} {f : Addr} {fd : FuncData} (T : Txt w K mg) (F : Fun K "come_to" "come_to" s_come_to f fd) (hm : mg "come_to" = some (.ref f)) (hb : Binds K fd ["H", "hour", "name"] []) (pf_handed : @PF ⟨w⟩ P w K mg base 1 "handed" f_handed) : @PF ⟨w⟩ P w K mg base 2 "come_to" f_come_to :=
  letI : TW := ⟨w⟩
  pf_of F sc_come_to hm hb (g := g_come_to) fun cdv A outer s H E hr => by
    have hu := hr.units
    refine svs_cons ?_ ?_
    ·refine sv_set 3 sc_come_to.nd rfl (by first | exact Or.inl rfl | exact Or.inr rfl) ?_
     exact ev_v 2
    ·refine svs_cons ?_ ?_
     ·refine sv_while 300 PassesOwn.never ?_ ?_
      ·refine et_cmp (opEq hu) isBl_eq ?_ ?_ (nomark _)
       ·refine EV.o ?_
        refine ev_ix (ixP hu) ?_ ?_ (fun _ _ => rfl)
        ·refine EV.o ?_
         refine ev_ix (ixP hu) ?_ ?_ (fun _ _ => rfl)
         ·refine EV.o ?_
          refine ev_ix (ixP hu) ?_ ?_ (fun _ _ => rfl)
          ·refine EV.o ?_
           exact ev_v 0
          ·refine EV.o ?_
           exact ev_str
         ·refine EV.o ?_
          exact ev_v 3
        ·refine EV.o ?_
         exact ev_int
       ·refine EV.o ?_
        exact ev_str
      ·refine svs_one ?_
       refine sv_set 3 sc_come_to.nd rfl (by first | exact Or.inl rfl | exact Or.inr rfl) ?_
       refine ev_call pf_handed (hr.mono (by decide)) rfl ?_
       refine ea_cons ?_ ?_
       ·refine ev_ix (ixP hu) ?_ ?_ (fun _ _ => rfl)
        ·refine EV.o ?_
         refine ev_ix (ixP hu) ?_ ?_ (fun _ _ => rfl)
         ·refine EV.o ?_
          exact ev_v 0
         ·refine EV.o ?_
          exact ev_str
        ·refine EV.o ?_
         exact ev_v 3
       ·refine ea_cons ?_ ?_
        ·exact ev_v 1
        ·exact ea_nil
     ·refine svs_one ?_
      refine sv_ret ?_
      exact ev_v 3
end K21
end
section
namespace K21
open PySem PySem.Spec PyProof.Rows L2 PU
seal EV EO EN EA ET EW SV SVs TGt TGts TCt TCts EI ETs ED EOI
abbrev s_key_of : Stmt := top 6
theorem sc_key_of : FnScope ["letters", "letter", "key", "held"] ["letters", "letter"] (defScope s_key_of) := ⟨rfl, rfl, rfl, by decide +kernel, rfl, by decide +kernel, by decide +kernel⟩
theorem pf_key_of {P : Program} {w : World} {K : PySem.W.Frag} {mg : Str → Option Value} {base : Heap} {f : Addr} {fd : FuncData} (T : Txt w K mg) (F : Fun K "key_of" "key_of" s_key_of f fd) (hm : mg "key_of" = some (.ref f)) (hb : Binds K fd ["letters", "letter"] []) : @PF ⟨w⟩ P w K mg base 1 "key_of" f_key_of :=
  letI : TW := ⟨w⟩
  pf_of F sc_key_of hm hb (g := g_key_of) fun cdv A outer s H E hr => by
    have hu := hr.units
    refine svs_cons ?_ ?_
    ·refine sv_for PassesOwn.never rfl ?_ ?_ ?_
     ·refine ei_val ?_
      exact ev_v 0
     ·refine tg_tup rfl ?_
      refine tgs_cons ?_ ?_
      ·exact tg_name 2 sc_key_of.nd rfl (by first | exact Or.inl rfl | exact Or.inr rfl)
      ·refine tgs_cons ?_ ?_
       ·exact tg_name 3 sc_key_of.nd rfl (by first | exact Or.inl rfl | exact Or.inr rfl)
       ·exact tgs_nil
     ·refine svs_one ?_
      refine sv_if ?_ ?_ ?_
      ·refine et_cmp (opIn hu) isBl_in ?_ ?_ (by with_unfolding_all rfl)
       ·refine EV.o ?_
        exact ev_v 1
       ·refine EV.o ?_
        exact ev_v 3
      ·refine svs_one ?_
       refine sv_ret ?_
       exact ev_v 2
      ·exact svs_nil
    ·refine svs_one ?_
     refine sv_ret ?_
     exact ev_non
end K21
end
section
namespace K21
open PySem PySem.Spec PyProof.Rows L2 PU
seal EV EO EN EA ET EW SV SVs TGt TGts TCt TCts EI ETs ED EOI
abbrev s_code_of : Stmt := top 5
theorem sc_code_of : FnScope ["letters", "word", "keys"] ["letters", "word"] (defScope s_code_of) := ⟨rfl, rfl, rfl, by decide +kernel, rfl, by decide +kernel, by decide +kernel⟩
theorem pf_code_of {P : Program} {w : World} {K : PySem.W.Frag} {mg : Str → Option Value} {base : Heap} {f : Addr} {fd : FuncData} (T : Txt w K mg) (F : Fun K "code_of" "code_of" s_code_of f fd) (hm : mg "code_of" = some (.ref f)) (hb : Binds K fd ["letters", "word"] []) (pf_key_of : @PF ⟨w⟩ P w K mg base 1 "key_of" f_key_of) : @PF ⟨w⟩ P w K mg base 2 "code_of" f_code_of :=
  letI : TW := ⟨w⟩
  pf_of F sc_code_of hm hb (g := g_code_of) fun cdv A outer s H E hr => by
    have hu := hr.units
    refine svs_cons ?_ ?_
    ·refine sv_comp false 2 sc_code_of.nd rfl (by first | exact Or.inl rfl | exact Or.inr rfl) (N' := ["letter", "letters"]) (nt := 1) (idx := [0]) (show CompOk ["letters", "word", "keys"] (defScope s_code_of) _ ["letter", "letters"] 1 [0] from ⟨rfl, by decide +kernel, by decide +kernel, by decide +kernel, rfl, by decide +kernel⟩) rfl ?_ ?_ ?_ ?_ ?_
     ·refine ei_val ?_
      exact ev_v 1
     ·intro _ _ _ _ _
      exact tc_name 0 (show List.Nodup (["letter", "letters"] : List Str) from by decide +kernel) rfl (by first | exact Or.inl rfl | exact Or.inr rfl)
     ·exact low_name (by decide)
     ·intro _ _ _ _ _
      exact ets_nil
     ·intro _ _ _ _ _
      refine ev_call pf_key_of (hr.mono (by decide)) rfl ?_
      refine ea_cons ?_ ?_
      ·exact ev_v 1
      ·refine ea_cons ?_ ?_
       ·exact ev_v 0
       ·exact ea_nil
    ·refine svs_one ?_
     refine sv_ret ?_
     refine ev_if ?_ ?_ ?_
     ·refine et_cmp (opIn hu) isBl_in ?_ ?_ (by with_unfolding_all rfl)
      ·refine EV.o ?_
       exact ev_non
      ·refine EV.o ?_
       exact ev_v 2
     ·exact ev_non
     ·refine ev_m1 sJoin mJoin ?_ ?_
      ·exact ev_str
      ·refine EV.o ?_
       exact ev_v 2
end K21
end
section
namespace K21
open PySem PySem.Spec PyProof.Rows L2 PU
seal EV EO EN EA ET EW SV SVs TGt TGts TCt TCts EI ETs ED EOI
abbrev s_beginning_counts : Stmt := top 8
theorem sc_beginning_counts : FnScope ["codes", "counts", "code", "size"] ["codes"] (defScope s_beginning_counts) := ⟨rfl, rfl, rfl, by decide +kernel, rfl, by decide +kernel, by decide +kernel⟩
theorem pf_beginning_counts {P : Program} {w : World} {K : PySem.W.Frag} {mg : Str → Option Value} {base : Heap} {f : Addr} {fd : FuncData} (T : Txt w K mg) (F : Fun K "beginning_counts" "beginning_counts" s_beginning_counts f fd) (hm : mg "beginning_counts" = some (.ref f)) (hb : Binds K fd ["codes"] []) : @PF ⟨w⟩ P w K mg base 1 "beginning_counts" f_beginning_counts :=
  letI : TW := ⟨w⟩
  pf_of F sc_beginning_counts hm hb (g := g_beginning_counts) fun cdv A outer s H E hr => by
    have hu := hr.units
    refine svs_cons ?_ ?_
    ·refine sv_own 1 sc_beginning_counts.nd rfl (by first | exact Or.inl rfl | exact Or.inr rfl) ?_
     exact en_dnew
    ·refine svs_cons ?_ ?_
     ·refine sv_for PassesOwn.never rfl ?_ ?_ ?_
      ·refine ei_val ?_
       exact ev_v 0
      ·exact tg_name 2 sc_beginning_counts.nd rfl (by first | exact Or.inl rfl | exact Or.inr rfl)
      ·refine svs_one ?_
       refine sv_for PassesOwn.never rfl ?_ ?_ ?_
       ·refine ei_range2 rfl T.n_range ?_ ?_
        ·exact ev_int
        ·refine ev_bin opAdd ?_ ?_
         ·refine EV.o ?_
          refine ev_b1 cLen rfl T.n_len rfl ?_
          refine EV.o ?_
          exact ev_v 2
         ·refine EV.o ?_
          exact ev_int
       ·exact tg_name 3 sc_beginning_counts.nd rfl (by first | exact Or.inl rfl | exact Or.inr rfl)
       ·refine svs_one ?_
        refine sv_put 1 hu ?_ ?_
        ·refine ev_sliceA ?_ ?_ ?_
         ·refine EV.o ?_
          exact ev_v 2
         ·exact so_none
         ·refine so_some ?_
          exact ev_v 3
        ·refine ev_bin opAdd ?_ ?_
         ·refine EV.o ?_
          refine ev_get2 ?_ ?_ ?_
          ·exact eo_v 1
          ·refine ev_sliceA ?_ ?_ ?_
           ·refine EV.o ?_
            exact ev_v 2
           ·exact so_none
           ·refine so_some ?_
            exact ev_v 3
          ·exact ev_int
         ·refine EV.o ?_
          exact ev_int
     ·refine svs_one ?_
      refine SV.frz 1 ?_
      refine sv_ret ?_
      exact ev_v 1
end K21
end
section
namespace K21
open PySem PySem.Spec PyProof.Rows L2 PU
seal EV EO EN EA ET EW SV SVs TGt TGts TCt TCts EI ETs ED EOI
abbrev s_own_beginning : Stmt := top 9
theorem sc_own_beginning : FnScope ["code", "counts", "size"] ["code", "counts"] (defScope s_own_beginning) := ⟨rfl, rfl, rfl, by decide +kernel, rfl, by decide +kernel, by decide +kernel⟩
theorem pf_own_beginning {P : Program} {w : World} {K : PySem.W.Frag} {mg : Str → Option Value} {base : Heap} {f : Addr} {fd : FuncData} (T : Txt w K mg) (F : Fun K "own_beginning" "own_beginning" s_own_beginning f fd) (hm : mg "own_beginning" = some (.ref f)) (hb : Binds K fd ["code", "counts"] []) : @PF ⟨w⟩ P w K mg base 1 "own_beginning" f_own_beginning :=
  letI : TW := ⟨w⟩
  pf_of F sc_own_beginning hm hb (g := g_own_beginning) fun cdv A outer s H E hr => by
    have hu := hr.units
    refine svs_cons ?_ ?_
    ·refine sv_for PassesOwn.never rfl ?_ ?_ ?_
     ·refine ei_range2 rfl T.n_range ?_ ?_
      ·exact ev_int
      ·refine ev_b1 cLen rfl T.n_len rfl ?_
       refine EV.o ?_
       exact ev_v 0
     ·exact tg_name 2 sc_own_beginning.nd rfl (by first | exact Or.inl rfl | exact Or.inr rfl)
     ·refine svs_one ?_
      refine sv_if ?_ ?_ ?_
      ·refine et_cmp (opEq hu) isBl_eq ?_ ?_ (nomark _)
       ·refine EV.o ?_
        refine ev_ix (ixP hu) ?_ ?_ (fun _ _ => rfl)
        ·refine EV.o ?_
         exact ev_v 1
        ·refine EV.o ?_
         refine ev_sliceA ?_ ?_ ?_
         ·refine EV.o ?_
          exact ev_v 0
         ·exact so_none
         ·refine so_some ?_
          exact ev_v 2
       ·refine EV.o ?_
        exact ev_int
      ·refine svs_one ?_
       refine sv_ret ?_
       refine ev_sliceA ?_ ?_ ?_
       ·refine EV.o ?_
        exact ev_v 0
       ·exact so_none
       ·refine so_some ?_
        exact ev_v 2
      ·exact svs_nil
    ·refine svs_one ?_
     refine sv_ret ?_
     exact ev_v 0
end K21
end
section
namespace K21
open PySem PySem.Spec PyProof.Rows L2 PU
seal EV EO EN EA ET EW SV SVs TGt TGts TCt TCts EI ETs ED EOI
abbrev s_beginnings : Stmt := top 7
theorem sc_beginnings : FnScope ["letters", "words", "codes", "counts"] ["letters", "words"] (defScope s_beginnings) := ⟨rfl, rfl, rfl, by decide +kernel, rfl, by decide +kernel, by decide +kernel⟩
theorem pf_beginnings {P : Program} {w : World} {K : PySem.W.Frag} {mg : Str → Option Value} {base : Heap} {f : Addr} {fd : FuncData} (T : Txt w K mg) (F : Fun K "beginnings" "beginnings" s_beginnings f fd) (hm : mg "beginnings" = some (.ref f)) (hb : Binds K fd ["letters", "words"] []) (pf_code_of : @PF ⟨w⟩ P w K mg base 2 "code_of" f_code_of) (pf_beginning_counts : @PF ⟨w⟩ P w K mg base 1 "beginning_counts" f_beginning_counts) (pf_own_beginning : @PF ⟨w⟩ P w K mg base 1 "own_beginning" f_own_beginning) : @PF ⟨w⟩ P w K mg base 3 "beginnings" f_beginnings :=
  letI : TW := ⟨w⟩
  pf_of F sc_beginnings hm hb (g := g_beginnings) fun cdv A outer s H E hr => by
    have hu := hr.units
    refine svs_cons ?_ ?_
    ·refine sv_comp false 2 sc_beginnings.nd rfl (by first | exact Or.inl rfl | exact Or.inr rfl) (N' := ["word", "letters"]) (nt := 1) (idx := [0]) (show CompOk ["letters", "words", "codes", "counts"] (defScope s_beginnings) _ ["word", "letters"] 1 [0] from ⟨rfl, by decide +kernel, by decide +kernel, by decide +kernel, rfl, by decide +kernel⟩) rfl ?_ ?_ ?_ ?_ ?_
     ·refine ei_val ?_
      exact ev_v 1
     ·intro _ _ _ _ _
      exact tc_name 0 (show List.Nodup (["word", "letters"] : List Str) from by decide +kernel) rfl (by first | exact Or.inl rfl | exact Or.inr rfl)
     ·exact low_name (by decide)
     ·intro _ _ _ _ _
      exact ets_nil
     ·intro _ _ _ _ _
      refine ev_bin opAdd ?_ ?_
      ·refine EV.o ?_
       refine ev_call pf_code_of (hr.mono (by decide)) rfl ?_
       refine ea_cons ?_ ?_
       ·exact ev_v 1
       ·refine ea_cons ?_ ?_
        ·exact ev_v 0
        ·exact ea_nil
      ·refine EV.o ?_
       exact ev_con rfl T.c_CODE_END
    ·refine svs_cons ?_ ?_
     ·refine sv_set 3 sc_beginnings.nd rfl (by first | exact Or.inl rfl | exact Or.inr rfl) ?_
      refine ev_call pf_beginning_counts (hr.mono (by decide)) rfl ?_
      refine ea_cons ?_ ?_
      ·exact ev_v 2
      ·exact ea_nil
     ·refine svs_one ?_
      refine sv_ret ?_
      refine EN.v ?_
      refine en_comp (N' := ["word", "code", "counts"]) (nt := 2) (idx := [3]) (show CompOk ["letters", "words", "codes", "counts"] (defScope s_beginnings) _ ["word", "code", "counts"] 2 [3] from ⟨rfl, by decide +kernel, by decide +kernel, by decide +kernel, rfl, by decide +kernel⟩) rfl ?_ ?_ ?_ ?_ ?_
      ·refine ei_zip rfl T.n_zip ?_ ?_
       ·exact ev_v 1
       ·exact ev_v 2
      ·intro _ _ _ _ _
       refine tc_tup rfl ?_
       refine tcs_cons ?_ ?_
       ·exact tc_name 0 (show List.Nodup (["word", "code", "counts"] : List Str) from by decide +kernel) rfl (by first | exact Or.inl rfl | exact Or.inr rfl)
       ·refine tcs_cons ?_ ?_
        ·exact tc_name 1 (show List.Nodup (["word", "code", "counts"] : List Str) from by decide +kernel) rfl (by first | exact Or.inl rfl | exact Or.inr rfl)
        ·exact tcs_nil
      ·refine low_tup ?_
       refine low_cons ?_ ?_
       ·exact low_name (by decide)
       ·refine low_cons ?_ ?_
        ·exact low_name (by decide)
        ·exact low_nil
      ·intro _ _ _ _ _
       exact ets_nil
      ·intro _ _ _ _ _
       refine ev_tup ?_
       refine ea_cons ?_ ?_
       ·exact ev_v 0
       ·refine ea_cons ?_ ?_
        ·refine ev_call pf_own_beginning (hr.mono (by decide)) rfl ?_
         refine ea_cons ?_ ?_
         ·exact ev_v 1
         ·refine ea_cons ?_ ?_
          ·exact ev_v 2
          ·exact ea_nil
        ·exact ea_nil
end K21
end
section
namespace K21
open PySem PySem.Spec PyProof.Rows L2 PU
seal EV EO EN EA ET EW SV SVs TGt TGts TCt TCts EI ETs ED EOI
abbrev s_arrival : Stmt := top 14
theorem sc_arrival : FnScope ["H", "hour", "name", "back"] ["H", "hour", "name", "back"] (defScope s_arrival) := ⟨rfl, rfl, rfl, by decide +kernel, rfl, by decide +kernel, by decide +kernel⟩
theorem pf_arrival {P : Program} {w : World} {K : PySem.W.Frag} {mg : Str → Option Value} {base : Heap} {f : Addr} {fd : FuncData} (T : Txt w K mg) (F : Fun K "arrival" "arrival" s_arrival f fd) (hm : mg "arrival" = some (.ref f)) (hb : Binds K fd ["H", "hour", "name", "back"] []) (pf_come_to : @PF ⟨w⟩ P w K mg base 2 "come_to" f_come_to) : @PF ⟨w⟩ P w K mg base 3 "arrival" f_arrival :=
  letI : TW := ⟨w⟩
  pf_of F sc_arrival hm hb (g := g_arrival) fun cdv A outer s H E hr => by
    have hu := hr.units
    refine svs_one ?_
    refine sv_ret ?_
    refine ev_tup ?_
    refine ea_cons ?_ ?_
    ·refine ev_call pf_come_to (hr.mono (by decide)) rfl ?_
     refine ea_cons ?_ ?_
     ·exact ev_v 0
     ·refine ea_cons ?_ ?_
      ·exact ev_v 1
      ·refine ea_cons ?_ ?_
       ·exact ev_v 2
       ·exact ea_nil
    ·refine ea_cons ?_ ?_
     ·exact ev_v 3
     ·refine ea_cons ?_ ?_
      ·exact ev_int
      ·refine ea_cons ?_ ?_
       ·exact ev_int
       ·refine ea_cons ?_ ?_
        ·exact ev_str
        ·exact ea_nil
end K21
end
section
namespace K21
open PySem PySem.Spec PyProof.Rows L2 PU
seal EV EO EN EA ET EW SV SVs TGt TGts TCt TCts EI ETs ED EOI
abbrev s_begin : Stmt := top 13
theorem sc_begin : FnScope ["H", "hour"] ["H", "hour"] (defScope s_begin) := ⟨rfl, rfl, rfl, by decide +kernel, rfl, by decide +kernel, by decide +kernel⟩
theorem pf_begin {P : Program} {w : World} {K : PySem.W.Frag} {mg : Str → Option Value} {base : Heap} {f : Addr} {fd : FuncData} (T : Txt w K mg) (F : Fun K "begin" "begin" s_begin f fd) (hm : mg "begin" = some (.ref f)) (hb : Binds K fd ["H", "hour"] []) (pf_arrival : @PF ⟨w⟩ P w K mg base 3 "arrival" f_arrival) : @PF ⟨w⟩ P w K mg base 4 "begin" f_begin :=
  letI : TW := ⟨w⟩
  pf_of F sc_begin hm hb (g := g_begin) fun cdv A outer s H E hr => by
    have hu := hr.units
    refine svs_one ?_
    refine sv_ret ?_
    refine ev_call pf_arrival (hr.mono (by decide)) rfl ?_
    refine ea_cons ?_ ?_
    ·exact ev_v 0
    ·refine ea_cons ?_ ?_
     ·exact ev_v 1
     ·refine ea_cons ?_ ?_
      ·refine ev_ix (ixP hu) ?_ ?_ (fun _ _ => rfl)
       ·refine EV.o ?_
        exact ev_v 0
       ·refine EV.o ?_
        exact ev_str
      ·refine ea_cons ?_ ?_
       ·exact ev_str
       ·exact ea_nil
end K21
end
section
namespace K21
open PySem PySem.Spec PyProof.Rows L2 PU
seal EV EO EN EA ET EW SV SVs TGt TGts TCt TCts EI ETs ED EOI
abbrev s_names_ways : Stmt := top 17
theorem sc_names_ways : FnScope ["letters", "names", "ways", "word", "beginning", "size"] ["letters", "names"] (defScope s_names_ways) := ⟨rfl, rfl, rfl, by decide +kernel, rfl, by decide +kernel, by decide +kernel⟩
theorem pf_names_ways {P : Program} {w : World} {K : PySem.W.Frag} {mg : Str → Option Value} {base : Heap} {f : Addr} {fd : FuncData} (T : Txt w K mg) (F : Fun K "names_ways" "names_ways" s_names_ways f fd) (hm : mg "names_ways" = some (.ref f)) (hb : Binds K fd ["letters", "names"] []) (pf_beginnings : @PF ⟨w⟩ P w K mg base 3 "beginnings" f_beginnings) : @PF ⟨w⟩ P w K mg base 4 "names_ways" f_names_ways :=
  letI : TW := ⟨w⟩
  pf_of F sc_names_ways hm hb (g := g_names_ways) fun cdv A outer s H E hr => by
    have hu := hr.units
    refine svs_cons ?_ ?_
    ·refine sv_own 2 sc_names_ways.nd rfl (by first | exact Or.inl rfl | exact Or.inr rfl) ?_
     exact en_dnew
    ·refine svs_cons ?_ ?_
     ·refine sv_for PassesOwn.never rfl ?_ ?_ ?_
      ·refine ei_val ?_
       refine ev_call pf_beginnings (hr.mono (by decide)) rfl ?_
       refine ea_cons ?_ ?_
       ·exact ev_v 0
       ·refine ea_cons ?_ ?_
        ·refine EN.v ?_
         refine en_t1 cListA rfl T.n_list rfl ?_
         refine EV.o ?_
         exact ev_v 1
        ·exact ea_nil
      ·refine tg_tup rfl ?_
       refine tgs_cons ?_ ?_
       ·exact tg_name 3 sc_names_ways.nd rfl (by first | exact Or.inl rfl | exact Or.inr rfl)
       ·refine tgs_cons ?_ ?_
        ·exact tg_name 4 sc_names_ways.nd rfl (by first | exact Or.inl rfl | exact Or.inr rfl)
        ·exact tgs_nil
      ·refine svs_cons ?_ ?_
       ·refine sv_for PassesOwn.never rfl ?_ ?_ ?_
        ·refine ei_range2 rfl T.n_range ?_ ?_
         ·exact ev_int
         ·refine ev_b1 cLen rfl T.n_len rfl ?_
          refine EV.o ?_
          exact ev_v 4
        ·exact tg_name 5 sc_names_ways.nd rfl (by first | exact Or.inl rfl | exact Or.inr rfl)
        ·refine svs_one ?_
         refine sv_put 2 hu ?_ ?_
         ·refine ev_sliceA ?_ ?_ ?_
          ·refine EV.o ?_
           exact ev_v 4
          ·exact so_none
          ·refine so_some ?_
           exact ev_v 5
         ·exact ev_non
       ·refine svs_one ?_
        refine sv_put 2 hu ?_ ?_
        ·exact ev_v 4
        ·refine ev_ix (ixP hu) ?_ ?_ (fun _ _ => rfl)
         ·refine EV.o ?_
          exact ev_v 1
         ·refine EV.o ?_
          exact ev_v 3
     ·refine svs_one ?_
      refine SV.frz 2 ?_
      refine sv_ret ?_
      exact ev_v 2
end K21
end
section
namespace K21
open PySem PySem.Spec PyProof.Rows L2 PU
seal EV EO EN EA ET EW SV SVs TGt TGts TCt TCts EI ETs ED EOI
abbrev s_room_ways : Stmt := top 16
theorem sc_room_ways : FnScope ["H", "name", "room"] ["H", "name"] (defScope s_room_ways) := ⟨rfl, rfl, rfl, by decide +kernel, rfl, by decide +kernel, by decide +kernel⟩
theorem pf_room_ways {P : Program} {w : World} {K : PySem.W.Frag} {mg : Str → Option Value} {base : Heap} {f : Addr} {fd : FuncData} (T : Txt w K mg) (F : Fun K "room_ways" "room_ways" s_room_ways f fd) (hm : mg "room_ways" = some (.ref f)) (hb : Binds K fd ["H", "name"] []) (pf_names_ways : @PF ⟨w⟩ P w K mg base 4 "names_ways" f_names_ways) : @PF ⟨w⟩ P w K mg base 5 "room_ways" f_room_ways :=
  letI : TW := ⟨w⟩
  pf_of F sc_room_ways hm hb (g := g_room_ways) fun cdv A outer s H E hr => by
    have hu := hr.units
    refine svs_cons ?_ ?_
    ·refine sv_set 2 sc_room_ways.nd rfl (by first | exact Or.inl rfl | exact Or.inr rfl) ?_
     refine ev_ix (ixP hu) ?_ ?_ (fun _ _ => rfl)
     ·refine EV.o ?_
      refine ev_ix (ixP hu) ?_ ?_ (fun _ _ => rfl)
      ·refine EV.o ?_
       exact ev_v 0
      ·refine EV.o ?_
       exact ev_str
     ·refine EV.o ?_
      exact ev_v 1
    ·refine svs_cons ?_ ?_
     ·refine sv_if ?_ ?_ ?_
      ·refine et_cmp (opEq hu) isBl_eq ?_ ?_ (nomark _)
       ·refine EV.o ?_
        refine ev_ix (ixP hu) ?_ ?_ (fun _ _ => rfl)
        ·refine EV.o ?_
         exact ev_v 2
        ·refine EV.o ?_
         exact ev_int
       ·refine EV.o ?_
        exact ev_str
      ·refine svs_one ?_
       refine sv_ret ?_
       refine EN.v ?_
       refine en_t1 cDictA rfl T.n_dict rfl ?_
       refine EV.o ?_
       refine ev_ix (ixP hu) ?_ ?_ (fun _ _ => rfl)
       ·refine EV.o ?_
        exact ev_v 2
       ·refine EV.o ?_
        exact ev_int
      ·exact svs_nil
     ·refine svs_cons ?_ ?_
      ·refine sv_if ?_ ?_ ?_
       ·refine et_cmp (opEq hu) isBl_eq ?_ ?_ (nomark _)
        ·refine EV.o ?_
         refine ev_ix (ixP hu) ?_ ?_ (fun _ _ => rfl)
         ·refine EV.o ?_
          exact ev_v 2
         ·refine EV.o ?_
          exact ev_int
        ·refine EV.o ?_
         exact ev_str
       ·refine svs_one ?_
        refine sv_ret ?_
        refine ev_call pf_names_ways (hr.mono (by decide)) rfl ?_
        refine ea_cons ?_ ?_
        ·refine ev_ix (ixP hu) ?_ ?_ (fun _ _ => rfl)
         ·refine EV.o ?_
          exact ev_v 0
         ·refine EV.o ?_
          exact ev_str
        ·refine ea_cons ?_ ?_
         ·refine EN.v ?_
          refine en_t1 cDictA rfl T.n_dict rfl ?_
          refine EV.o ?_
          refine ev_ix (ixP hu) ?_ ?_ (fun _ _ => rfl)
          ·refine EV.o ?_
           exact ev_v 2
          ·refine EV.o ?_
           exact ev_int
         ·exact ea_nil
       ·exact svs_nil
      ·refine svs_one ?_
       refine sv_ret ?_
       refine EN.v ?_
       exact en_dnew
end K21
end
section
namespace K21
open PySem PySem.Spec PyProof.Rows L2 PU
seal EV EO EN EA ET EW SV SVs TGt TGts TCt TCts EI ETs ED EOI
abbrev s_house_ways : Stmt := top 15
theorem sc_house_ways : FnScope ["H", "ways", "name"] ["H"] (defScope s_house_ways) := ⟨rfl, rfl, rfl, by decide +kernel, rfl, by decide +kernel, by decide +kernel⟩
theorem pf_house_ways {P : Program} {w : World} {K : PySem.W.Frag} {mg : Str → Option Value} {base : Heap} {f : Addr} {fd : FuncData} (T : Txt w K mg) (F : Fun K "house_ways" "house_ways" s_house_ways f fd) (hm : mg "house_ways" = some (.ref f)) (hb : Binds K fd ["H"] []) (pf_room_ways : @PF ⟨w⟩ P w K mg base 5 "room_ways" f_room_ways) : @PF ⟨w⟩ P w K mg base 6 "house_ways" f_house_ways :=
  letI : TW := ⟨w⟩
  pf_of F sc_house_ways hm hb (g := g_house_ways) fun cdv A outer s H E hr => by
    have hu := hr.units
    refine svs_cons ?_ ?_
    ·refine sv_own 1 sc_house_ways.nd rfl (by first | exact Or.inl rfl | exact Or.inr rfl) ?_
     exact en_dnew
    ·refine svs_cons ?_ ?_
     ·refine sv_for PassesOwn.never rfl ?_ ?_ ?_
      ·refine ei_val ?_
       refine ev_ix (ixP hu) ?_ ?_ (fun _ _ => rfl)
       ·refine EV.o ?_
        exact ev_v 0
       ·refine EV.o ?_
        exact ev_str
      ·exact tg_name 2 sc_house_ways.nd rfl (by first | exact Or.inl rfl | exact Or.inr rfl)
      ·refine svs_one ?_
       refine sv_put 1 hu ?_ ?_
       ·exact ev_v 2
       ·refine ev_call pf_room_ways (hr.mono (by decide)) rfl ?_
        refine ea_cons ?_ ?_
        ·exact ev_v 0
        ·refine ea_cons ?_ ?_
         ·exact ev_v 2
         ·exact ea_nil
     ·refine svs_one ?_
      refine SV.frz 1 ?_
      refine sv_ret ?_
      exact ev_v 1
end K21
end
section
namespace K21
open PySem PySem.Spec PyProof.Rows L2 PU
seal EV EO EN EA ET EW SV SVs TGt TGts TCt TCts EI ETs ED EOI
abbrev s_by_wrong_key : Stmt := top 20
theorem sc_by_wrong_key : FnScope ["H", "hour", "state", "bound", "wrong"] ["H", "hour", "state"] (defScope s_by_wrong_key) := ⟨rfl, rfl, rfl, by decide +kernel, rfl, by decide +kernel, by decide +kernel⟩
theorem pf_by_wrong_key {P : Program} {w : World} {K : PySem.W.Frag} {mg : Str → Option Value} {base : Heap} {f : Addr} {fd : FuncData} (T : Txt w K mg) (F : Fun K "by_wrong_key" "by_wrong_key" s_by_wrong_key f fd) (hm : mg "by_wrong_key" = some (.ref f)) (hb : Binds K fd ["H", "hour", "state"] []) (pf_arrival : @PF ⟨w⟩ P w K mg base 3 "arrival" f_arrival) : @PF ⟨w⟩ P w K mg base 4 "by_wrong_key" f_by_wrong_key :=
  letI : TW := ⟨w⟩
  pf_of F sc_by_wrong_key hm hb (g := g_by_wrong_key) fun cdv A outer s H E hr => by
    have hu := hr.units
    refine svs_cons ?_ ?_
    ·refine sv_set 3 sc_by_wrong_key.nd rfl (by first | exact Or.inl rfl | exact Or.inr rfl) ?_
     refine ev_ix (ixP hu) ?_ ?_ (fun _ _ => rfl)
     ·refine EV.o ?_
      refine ev_ix (ixP hu) ?_ ?_ (fun _ _ => rfl)
      ·refine EV.o ?_
       refine ev_ix (ixP hu) ?_ ?_ (fun _ _ => rfl)
       ·refine EV.o ?_
        exact ev_v 0
       ·refine EV.o ?_
        exact ev_str
      ·refine EV.o ?_
       refine ev_ix (ixP hu) ?_ ?_ (fun _ _ => rfl)
       ·refine EV.o ?_
        exact ev_v 2
       ·refine EV.o ?_
        exact ev_int
     ·refine EV.o ?_
      exact ev_int
    ·refine svs_cons ?_ ?_
     ·refine sv_set 4 sc_by_wrong_key.nd rfl (by first | exact Or.inl rfl | exact Or.inr rfl) ?_
      refine ev_bin opAdd ?_ ?_
      ·refine EV.o ?_
       refine ev_ix (ixP hu) ?_ ?_ (fun _ _ => rfl)
       ·refine EV.o ?_
        exact ev_v 2
       ·refine EV.o ?_
        exact ev_int
      ·refine EV.o ?_
       exact ev_int
     ·refine svs_cons ?_ ?_
      ·refine sv_if ?_ ?_ ?_
       ·refine et_cmp (opEq hu) isBl_eq ?_ ?_ (nomark _)
        ·refine EV.o ?_
         exact ev_v 4
        ·refine EV.o ?_
         refine ev_ix (ixP hu) ?_ ?_ (fun _ _ => rfl)
         ·refine EV.o ?_
          exact ev_v 3
         ·refine EV.o ?_
          exact ev_int
       ·refine svs_one ?_
        refine sv_ret ?_
        refine ev_call pf_arrival (hr.mono (by decide)) rfl ?_
        refine ea_cons ?_ ?_
        ·exact ev_v 0
        ·refine ea_cons ?_ ?_
         ·exact ev_v 1
         ·refine ea_cons ?_ ?_
          ·refine ev_ix (ixP hu) ?_ ?_ (fun _ _ => rfl)
           ·refine EV.o ?_
            exact ev_v 3
           ·refine EV.o ?_
            exact ev_int
          ·refine ea_cons ?_ ?_
           ·refine ev_ix (ixP hu) ?_ ?_ (fun _ _ => rfl)
            ·refine EV.o ?_
             exact ev_v 2
            ·refine EV.o ?_
             exact ev_int
           ·exact ea_nil
       ·exact svs_nil
      ·refine svs_one ?_
       refine sv_ret ?_
       refine ev_tup ?_
       refine ea_cons ?_ ?_
       ·refine ev_ix (ixP hu) ?_ ?_ (fun _ _ => rfl)
        ·refine EV.o ?_
         exact ev_v 2
        ·refine EV.o ?_
         exact ev_int
       ·refine ea_cons ?_ ?_
        ·refine ev_ix (ixP hu) ?_ ?_ (fun _ _ => rfl)
         ·refine EV.o ?_
          exact ev_v 2
         ·refine EV.o ?_
          exact ev_int
        ·refine ea_cons ?_ ?_
         ·exact ev_v 4
         ·refine ea_cons ?_ ?_
          ·refine ev_ix (ixP hu) ?_ ?_ (fun _ _ => rfl)
           ·refine EV.o ?_
            exact ev_v 2
           ·refine EV.o ?_
            exact ev_int
          ·refine ea_cons ?_ ?_
           ·exact ev_str
           ·exact ea_nil
end K21
end
section
namespace K21
open PySem PySem.Spec PyProof.Rows L2 PU
seal EV EO EN EA ET EW SV SVs TGt TGts TCt TCts EI ETs ED EOI
abbrev s_by_key : Stmt := top 19
theorem sc_by_key : FnScope ["H", "hour", "ways", "state", "key", "typed", "target"] ["H", "hour", "ways", "state", "key"] (defScope s_by_key) := ⟨rfl, rfl, rfl, by decide +kernel, rfl, by decide +kernel, by decide +kernel⟩
theorem pf_by_key {P : Program} {w : World} {K : PySem.W.Frag} {mg : Str → Option Value} {base : Heap} {f : Addr} {fd : FuncData} (T : Txt w K mg) (F : Fun K "by_key" "by_key" s_by_key f fd) (hm : mg "by_key" = some (.ref f)) (hb : Binds K fd ["H", "hour", "ways", "state", "key"] []) (pf_by_wrong_key : @PF ⟨w⟩ P w K mg base 4 "by_wrong_key" f_by_wrong_key) (pf_arrival : @PF ⟨w⟩ P w K mg base 3 "arrival" f_arrival) : @PF ⟨w⟩ P w K mg base 5 "by_key" f_by_key :=
  letI : TW := ⟨w⟩
  pf_of F sc_by_key hm hb (g := g_by_key) fun cdv A outer s H E hr => by
    have hu := hr.units
    refine svs_cons ?_ ?_
    ·refine sv_set 5 sc_by_key.nd rfl (by first | exact Or.inl rfl | exact Or.inr rfl) ?_
     refine ev_bin opAdd ?_ ?_
     ·refine EV.o ?_
      refine ev_ix (ixP hu) ?_ ?_ (fun _ _ => rfl)
      ·refine EV.o ?_
       exact ev_v 3
      ·refine EV.o ?_
       exact ev_int
     ·refine EV.o ?_
      exact ev_v 4
    ·refine svs_cons ?_ ?_
     ·refine sv_if ?_ ?_ ?_
      ·refine et_cmp (opNotIn hu) isBl_notIn ?_ ?_ (by with_unfolding_all rfl)
       ·refine EV.o ?_
        exact ev_v 5
       ·refine EV.o ?_
        exact ev_v 2
      ·refine svs_one ?_
       refine sv_ret ?_
       refine ev_call pf_by_wrong_key (hr.mono (by decide)) rfl ?_
       refine ea_cons ?_ ?_
       ·exact ev_v 0
       ·refine ea_cons ?_ ?_
        ·exact ev_v 1
        ·refine ea_cons ?_ ?_
         ·exact ev_v 3
         ·exact ea_nil
      ·exact svs_nil
     ·refine svs_cons ?_ ?_
      ·refine sv_set 6 sc_by_key.nd rfl (by first | exact Or.inl rfl | exact Or.inr rfl) ?_
       refine ev_if ?_ ?_ ?_
       ·refine et_cmp (opEq hu) isBl_eq ?_ ?_ (nomark _)
        ·refine EV.o ?_
         refine ev_ix (ixP hu) ?_ ?_ (fun _ _ => rfl)
         ·refine EV.o ?_
          exact ev_v 2
         ·refine EV.o ?_
          exact ev_v 5
        ·refine EV.o ?_
         exact ev_str
       ·refine ev_ix (ixP hu) ?_ ?_ (fun _ _ => rfl)
        ·refine EV.o ?_
         exact ev_v 3
        ·refine EV.o ?_
         exact ev_int
       ·refine ev_ix (ixP hu) ?_ ?_ (fun _ _ => rfl)
        ·refine EV.o ?_
         exact ev_v 2
        ·refine EV.o ?_
         exact ev_v 5
      ·refine svs_cons ?_ ?_
       ·refine sv_if ?_ ?_ ?_
        ·refine et_cmp opIsN isBl_isN ?_ ?_ (nomark _)
         ·refine EV.o ?_
          exact ev_v 6
         ·refine EV.o ?_
          exact ev_non
        ·refine svs_one ?_
         refine sv_ret ?_
         refine ev_tup ?_
         refine ea_cons ?_ ?_
         ·refine ev_ix (ixP hu) ?_ ?_ (fun _ _ => rfl)
          ·refine EV.o ?_
           exact ev_v 3
          ·refine EV.o ?_
           exact ev_int
         ·refine ea_cons ?_ ?_
          ·refine ev_ix (ixP hu) ?_ ?_ (fun _ _ => rfl)
           ·refine EV.o ?_
            exact ev_v 3
           ·refine EV.o ?_
            exact ev_int
          ·refine ea_cons ?_ ?_
           ·refine ev_ix (ixP hu) ?_ ?_ (fun _ _ => rfl)
            ·refine EV.o ?_
             exact ev_v 3
            ·refine EV.o ?_
             exact ev_int
           ·refine ea_cons ?_ ?_
            ·refine ev_ix (ixP hu) ?_ ?_ (fun _ _ => rfl)
             ·refine EV.o ?_
              exact ev_v 3
             ·refine EV.o ?_
              exact ev_int
            ·refine ea_cons ?_ ?_
             ·exact ev_v 5
             ·exact ea_nil
        ·exact svs_nil
       ·refine svs_cons ?_ ?_
        ·refine sv_if ?_ ?_ ?_
         ·refine et_cmp (opEq hu) isBl_eq ?_ ?_ (nomark _)
          ·refine EV.o ?_
           exact ev_v 6
          ·refine EV.o ?_
           exact ev_str
         ·refine svs_one ?_
          refine sv_ret ?_
          refine ev_call pf_by_wrong_key (hr.mono (by decide)) rfl ?_
          refine ea_cons ?_ ?_
          ·exact ev_v 0
          ·refine ea_cons ?_ ?_
           ·exact ev_v 1
           ·refine ea_cons ?_ ?_
            ·exact ev_v 3
            ·exact ea_nil
         ·exact svs_nil
        ·refine svs_one ?_
         refine sv_ret ?_
         refine ev_call pf_arrival (hr.mono (by decide)) rfl ?_
         refine ea_cons ?_ ?_
         ·exact ev_v 0
         ·refine ea_cons ?_ ?_
          ·exact ev_v 1
          ·refine ea_cons ?_ ?_
           ·exact ev_v 6
           ·refine ea_cons ?_ ?_
            ·refine ev_ix (ixP hu) ?_ ?_ (fun _ _ => rfl)
             ·refine EV.o ?_
              exact ev_v 3
             ·refine EV.o ?_
              exact ev_int
            ·exact ea_nil
end K21
end
section
namespace K21
open PySem PySem.Spec PyProof.Rows L2 PU
seal EV EO EN EA ET EW SV SVs TGt TGts TCt TCts EI ETs ED EOI
abbrev s_by_wait : Stmt := top 21
theorem sc_by_wait : FnScope ["H", "hour", "state", "bound", "waits"] ["H", "hour", "state"] (defScope s_by_wait) := ⟨rfl, rfl, rfl, by decide +kernel, rfl, by decide +kernel, by decide +kernel⟩
theorem pf_by_wait {P : Program} {w : World} {K : PySem.W.Frag} {mg : Str → Option Value} {base : Heap} {f : Addr} {fd : FuncData} (T : Txt w K mg) (F : Fun K "by_wait" "by_wait" s_by_wait f fd) (hm : mg "by_wait" = some (.ref f)) (hb : Binds K fd ["H", "hour", "state"] []) (pf_arrival : @PF ⟨w⟩ P w K mg base 3 "arrival" f_arrival) : @PF ⟨w⟩ P w K mg base 4 "by_wait" f_by_wait :=
  letI : TW := ⟨w⟩
  pf_of F sc_by_wait hm hb (g := g_by_wait) fun cdv A outer s H E hr => by
    have hu := hr.units
    refine svs_cons ?_ ?_
    ·refine sv_set 3 sc_by_wait.nd rfl (by first | exact Or.inl rfl | exact Or.inr rfl) ?_
     refine ev_ix (ixP hu) ?_ ?_ (fun _ _ => rfl)
     ·refine EV.o ?_
      refine ev_ix (ixP hu) ?_ ?_ (fun _ _ => rfl)
      ·refine EV.o ?_
       refine ev_ix (ixP hu) ?_ ?_ (fun _ _ => rfl)
       ·refine EV.o ?_
        exact ev_v 0
       ·refine EV.o ?_
        exact ev_str
      ·refine EV.o ?_
       refine ev_ix (ixP hu) ?_ ?_ (fun _ _ => rfl)
       ·refine EV.o ?_
        exact ev_v 2
       ·refine EV.o ?_
        exact ev_int
     ·refine EV.o ?_
      exact ev_int
    ·refine svs_cons ?_ ?_
     ·refine sv_set 4 sc_by_wait.nd rfl (by first | exact Or.inl rfl | exact Or.inr rfl) ?_
      refine ev_bin opAdd ?_ ?_
      ·refine EV.o ?_
       refine ev_ix (ixP hu) ?_ ?_ (fun _ _ => rfl)
       ·refine EV.o ?_
        exact ev_v 2
       ·refine EV.o ?_
        exact ev_int
      ·refine EV.o ?_
       exact ev_int
     ·refine svs_cons ?_ ?_
      ·refine sv_if ?_ ?_ ?_
       ·refine et_cmp (opEq hu) isBl_eq ?_ ?_ (nomark _)
        ·refine EV.o ?_
         exact ev_v 4
        ·refine EV.o ?_
         refine ev_ix (ixP hu) ?_ ?_ (fun _ _ => rfl)
         ·refine EV.o ?_
          exact ev_v 3
         ·refine EV.o ?_
          exact ev_int
       ·refine svs_one ?_
        refine sv_ret ?_
        refine ev_call pf_arrival (hr.mono (by decide)) rfl ?_
        refine ea_cons ?_ ?_
        ·exact ev_v 0
        ·refine ea_cons ?_ ?_
         ·exact ev_v 1
         ·refine ea_cons ?_ ?_
          ·refine ev_ix (ixP hu) ?_ ?_ (fun _ _ => rfl)
           ·refine EV.o ?_
            exact ev_v 3
           ·refine EV.o ?_
            exact ev_int
          ·refine ea_cons ?_ ?_
           ·refine ev_ix (ixP hu) ?_ ?_ (fun _ _ => rfl)
            ·refine EV.o ?_
             exact ev_v 2
            ·refine EV.o ?_
             exact ev_int
           ·exact ea_nil
       ·exact svs_nil
      ·refine svs_one ?_
       refine sv_ret ?_
       refine ev_tup ?_
       refine ea_cons ?_ ?_
       ·refine ev_ix (ixP hu) ?_ ?_ (fun _ _ => rfl)
        ·refine EV.o ?_
         exact ev_v 2
        ·refine EV.o ?_
         exact ev_int
       ·refine ea_cons ?_ ?_
        ·refine ev_ix (ixP hu) ?_ ?_ (fun _ _ => rfl)
         ·refine EV.o ?_
          exact ev_v 2
         ·refine EV.o ?_
          exact ev_int
        ·refine ea_cons ?_ ?_
         ·refine ev_ix (ixP hu) ?_ ?_ (fun _ _ => rfl)
          ·refine EV.o ?_
           exact ev_v 2
          ·refine EV.o ?_
           exact ev_int
         ·refine ea_cons ?_ ?_
          ·exact ev_v 4
          ·refine ea_cons ?_ ?_
           ·exact ev_str
           ·exact ea_nil
end K21
end
section
namespace K21
open PySem PySem.Spec PyProof.Rows L2 PU
seal EV EO EN EA ET EW SV SVs TGt TGts TCt TCts EI ETs ED EOI
abbrev s_follow : Stmt := top 18
theorem sc_follow : FnScope ["H", "hour", "ways", "state", "sign", "kind"] ["H", "hour", "ways", "state", "sign"] (defScope s_follow) := ⟨rfl, rfl, rfl, by decide +kernel, rfl, by decide +kernel, by decide +kernel⟩
theorem pf_follow {P : Program} {w : World} {K : PySem.W.Frag} {mg : Str → Option Value} {base : Heap} {f : Addr} {fd : FuncData} (T : Txt w K mg) (F : Fun K "follow" "follow" s_follow f fd) (hm : mg "follow" = some (.ref f)) (hb : Binds K fd ["H", "hour", "ways", "state", "sign"] []) (pf_by_wait : @PF ⟨w⟩ P w K mg base 4 "by_wait" f_by_wait) (pf_by_key : @PF ⟨w⟩ P w K mg base 5 "by_key" f_by_key) : @PF ⟨w⟩ P w K mg base 6 "follow" f_follow :=
  letI : TW := ⟨w⟩
  pf_of F sc_follow hm hb (g := g_follow) fun cdv A outer s H E hr => by
    have hu := hr.units
    refine svs_cons ?_ ?_
    ·refine sv_set 5 sc_follow.nd rfl (by first | exact Or.inl rfl | exact Or.inr rfl) ?_
     refine ev_ix (ixP hu) ?_ ?_ (fun _ _ => rfl)
     ·refine EV.o ?_
      refine ev_ix (ixP hu) ?_ ?_ (fun _ _ => rfl)
      ·refine EV.o ?_
       refine ev_ix (ixP hu) ?_ ?_ (fun _ _ => rfl)
       ·refine EV.o ?_
        exact ev_v 0
       ·refine EV.o ?_
        exact ev_str
      ·refine EV.o ?_
       refine ev_ix (ixP hu) ?_ ?_ (fun _ _ => rfl)
       ·refine EV.o ?_
        exact ev_v 3
       ·refine EV.o ?_
        exact ev_int
     ·refine EV.o ?_
      exact ev_int
    ·refine svs_cons ?_ ?_
     ·refine sv_if ?_ ?_ ?_
      ·refine EW.et ?_
       refine ew_or ?_ ?_
       ·refine et_cmp (opEq hu) isBl_eq ?_ ?_ (nomark _)
        ·refine EV.o ?_
         exact ev_v 5
        ·refine EV.o ?_
         exact ev_str
       ·refine ew_or1 ?_
        refine et_cmp (opEq hu) isBl_eq ?_ ?_ (nomark _)
        ·refine EV.o ?_
         exact ev_v 5
        ·refine EV.o ?_
         exact ev_str
      ·refine svs_one ?_
       refine sv_ret ?_
       exact ev_v 3
      ·exact svs_nil
     ·refine svs_cons ?_ ?_
      ·refine sv_if ?_ ?_ ?_
       ·refine et_cmp (opEq hu) isBl_eq ?_ ?_ (nomark _)
        ·refine EV.o ?_
         exact ev_v 4
        ·refine EV.o ?_
         exact ev_con rfl T.c_WAIT
       ·refine svs_one ?_
        refine sv_ret ?_
        refine ev_call pf_by_wait (hr.mono (by decide)) rfl ?_
        refine ea_cons ?_ ?_
        ·exact ev_v 0
        ·refine ea_cons ?_ ?_
         ·exact ev_v 1
         ·refine ea_cons ?_ ?_
          ·exact ev_v 3
          ·exact ea_nil
       ·exact svs_nil
      ·refine svs_one ?_
       refine sv_ret ?_
       refine ev_call pf_by_key (hr.mono (by decide)) rfl ?_
       refine ea_cons ?_ ?_
       ·exact ev_v 0
       ·refine ea_cons ?_ ?_
        ·exact ev_v 1
        ·refine ea_cons ?_ ?_
         ·exact ev_v 2
         ·refine ea_cons ?_ ?_
          ·exact ev_v 3
          ·refine ea_cons ?_ ?_
           ·exact ev_v 4
           ·exact ea_nil
end K21
end
section
namespace K21
open PySem PySem.Spec PyProof.Rows L2 PU
seal EV EO EN EA ET EW SV SVs TGt TGts TCt TCts EI ETs ED EOI
abbrev s_walk_on : Stmt := top 23
theorem sc_walk_on : FnScope ["H", "hour", "state", "row", "ways", "states", "sign"] ["H", "hour", "state", "row"] (defScope s_walk_on) := ⟨rfl, rfl, rfl, by decide +kernel, rfl, by decide +kernel, by decide +kernel⟩
theorem pf_walk_on {P : Program} {w : World} {K : PySem.W.Frag} {mg : Str → Option Value} {base : Heap} {f : Addr} {fd : FuncData} (T : Txt w K mg) (F : Fun K "walk_on" "walk_on" s_walk_on f fd) (hm : mg "walk_on" = some (.ref f)) (hb : Binds K fd ["H", "hour", "state", "row"] []) (pf_house_ways : @PF ⟨w⟩ P w K mg base 6 "house_ways" f_house_ways) (pf_follow : @PF ⟨w⟩ P w K mg base 6 "follow" f_follow) : @PF ⟨w⟩ P w K mg base 7 "walk_on" f_walk_on :=
  letI : TW := ⟨w⟩
  pf_of F sc_walk_on hm hb (g := g_walk_on) fun cdv A outer s H E hr => by
    have hu := hr.units
    refine svs_cons ?_ ?_
    ·refine sv_set 4 sc_walk_on.nd rfl (by first | exact Or.inl rfl | exact Or.inr rfl) ?_
     refine ev_call pf_house_ways (hr.mono (by decide)) rfl ?_
     refine ea_cons ?_ ?_
     ·exact ev_v 0
     ·exact ea_nil
    ·refine svs_cons ?_ ?_
     ·refine sv_own 5 sc_walk_on.nd rfl (by first | exact Or.inl rfl | exact Or.inr rfl) ?_
      refine en_lst ?_
      refine ea_cons ?_ ?_
      ·exact ev_v 2
      ·exact ea_nil
     ·refine svs_cons ?_ ?_
      ·refine sv_for PassesOwn.never rfl ?_ ?_ ?_
       ·refine ei_val ?_
        exact ev_v 3
       ·exact tg_name 6 sc_walk_on.nd rfl (by first | exact Or.inl rfl | exact Or.inr rfl)
       ·refine svs_one ?_
        refine sv_append 5 rfl (by first | exact Or.inl rfl | exact Or.inr (Or.inl rfl)) ?_
        refine ev_call pf_follow (hr.mono (by decide)) rfl ?_
        refine ea_cons ?_ ?_
        ·exact ev_v 0
        ·refine ea_cons ?_ ?_
         ·exact ev_v 1
         ·refine ea_cons ?_ ?_
          ·refine ev_ix (ixP hu) ?_ ?_ (fun _ _ => rfl)
           ·refine EV.o ?_
            exact ev_v 4
           ·refine EV.o ?_
            refine ev_ix (ixP hu) ?_ ?_ (fun _ _ => rfl)
            ·refine EV.o ?_
             refine ev_ix (ixP hu) ?_ ?_ (fun _ _ => rfl)
             ·exact eo_v 5
             ·refine EV.o ?_
              refine ev_neg ?_
              exact ev_int
            ·refine EV.o ?_
             exact ev_int
          ·refine ea_cons ?_ ?_
           ·refine ev_ix (ixP hu) ?_ ?_ (fun _ _ => rfl)
            ·exact eo_v 5
            ·refine EV.o ?_
             refine ev_neg ?_
             exact ev_int
           ·refine ea_cons ?_ ?_
            ·exact ev_v 6
            ·exact ea_nil
      ·refine svs_one ?_
       refine SV.frz 5 ?_
       refine sv_ret ?_
       exact ev_v 5
end K21
end
section
namespace K21
open PySem PySem.Spec PyProof.Rows L2 PU
seal EV EO EN EA ET EW SV SVs TGt TGts TCt TCts EI ETs ED EOI
abbrev s_walk : Stmt := top 22
theorem sc_walk : FnScope ["H", "hour", "row"] ["H", "hour", "row"] (defScope s_walk) := ⟨rfl, rfl, rfl, by decide +kernel, rfl, by decide +kernel, by decide +kernel⟩
theorem pf_walk {P : Program} {w : World} {K : PySem.W.Frag} {mg : Str → Option Value} {base : Heap} {f : Addr} {fd : FuncData} (T : Txt w K mg) (F : Fun K "walk" "walk" s_walk f fd) (hm : mg "walk" = some (.ref f)) (hb : Binds K fd ["H", "hour", "row"] []) (pf_walk_on : @PF ⟨w⟩ P w K mg base 7 "walk_on" f_walk_on) (pf_begin : @PF ⟨w⟩ P w K mg base 4 "begin" f_begin) : @PF ⟨w⟩ P w K mg base 8 "walk" f_walk :=
  letI : TW := ⟨w⟩
  pf_of F sc_walk hm hb (g := g_walk) fun cdv A outer s H E hr => by
    have hu := hr.units
    refine svs_one ?_
    refine sv_ret ?_
    refine ev_call pf_walk_on (hr.mono (by decide)) rfl ?_
    refine ea_cons ?_ ?_
    ·exact ev_v 0
    ·refine ea_cons ?_ ?_
     ·exact ev_v 1
     ·refine ea_cons ?_ ?_
      ·refine ev_call pf_begin (hr.mono (by decide)) rfl ?_
       refine ea_cons ?_ ?_
       ·exact ev_v 0
       ·refine ea_cons ?_ ?_
        ·exact ev_v 1
        ·exact ea_nil
      ·refine ea_cons ?_ ?_
       ·exact ev_v 2
       ·exact ea_nil
end K21
end
section
namespace K21
open PySem PySem.Spec PyProof.Rows L2 PU
seal EV EO EN EA ET EW SV SVs TGt TGts TCt TCts EI ETs ED EOI
abbrev s_heard : Stmt := top 24
theorem sc_heard : FnScope ["H", "state", "room"] ["H", "state"] (defScope s_heard) := ⟨rfl, rfl, rfl, by decide +kernel, rfl, by decide +kernel, by decide +kernel⟩
theorem pf_heard {P : Program} {w : World} {K : PySem.W.Frag} {mg : Str → Option Value} {base : Heap} {f : Addr} {fd : FuncData} (T : Txt w K mg) (F : Fun K "heard" "heard" s_heard f fd) (hm : mg "heard" = some (.ref f)) (hb : Binds K fd ["H", "state"] []) : @PF ⟨w⟩ P w K mg base 1 "heard" f_heard :=
  letI : TW := ⟨w⟩
  pf_of F sc_heard hm hb (g := g_heard) fun cdv A outer s H E hr => by
    have hu := hr.units
    refine svs_cons ?_ ?_
    ·refine sv_set 2 sc_heard.nd rfl (by first | exact Or.inl rfl | exact Or.inr rfl) ?_
     refine ev_ix (ixP hu) ?_ ?_ (fun _ _ => rfl)
     ·refine EV.o ?_
      refine ev_ix (ixP hu) ?_ ?_ (fun _ _ => rfl)
      ·refine EV.o ?_
       exact ev_v 0
      ·refine EV.o ?_
       exact ev_str
     ·refine EV.o ?_
      refine ev_ix (ixP hu) ?_ ?_ (fun _ _ => rfl)
      ·refine EV.o ?_
       exact ev_v 1
      ·refine EV.o ?_
       exact ev_int
    ·refine svs_one ?_
     refine sv_ret ?_
     refine ev_tup ?_
     refine ea_cons ?_ ?_
     ·refine ev_ix (ixP hu) ?_ ?_ (fun _ _ => rfl)
      ·refine EV.o ?_
       exact ev_con rfl T.c_HEARD
      ·refine EV.o ?_
       refine ev_ix (ixP hu) ?_ ?_ (fun _ _ => rfl)
       ·refine EV.o ?_
        exact ev_v 2
       ·refine EV.o ?_
        exact ev_int
     ·refine ea_cons ?_ ?_
      ·refine ev_ix (ixP hu) ?_ ?_ (fun _ _ => rfl)
       ·refine EV.o ?_
        exact ev_v 2
       ·refine EV.o ?_
        exact ev_int
      ·exact ea_nil
end K21
end
section
namespace K21
open PySem PySem.Spec PyProof.Rows L2 PU
seal EV EO EN EA ET EW SV SVs TGt TGts TCt TCts EI ETs ED EOI
abbrev s_law_cell_at : Stmt := top 26
theorem sc_law_cell_at : FnScope ["_law_script", "_law_k"] ["_law_script", "_law_k"] (defScope s_law_cell_at) := ⟨rfl, rfl, rfl, by decide +kernel, rfl, by decide +kernel, by decide +kernel⟩
theorem pf_law_cell_at {P : Program} {w : World} {K : PySem.W.Frag} {mg : Str → Option Value} {base : Heap} {f : Addr} {fd : FuncData} (T : Txt w K mg) (F : Fun K "_law_cell_at" "_law_cell_at" s_law_cell_at f fd) (hm : mg "_law_cell_at" = some (.ref f)) (hb : Binds K fd ["_law_script", "_law_k"] []) : @PF ⟨w⟩ P w K mg base 1 "_law_cell_at" f_law_cell_at :=
  letI : TW := ⟨w⟩
  pf_of F sc_law_cell_at hm hb (g := g_law_cell_at) fun cdv A outer s H E hr => by
    have hu := hr.units
    refine svs_cons ?_ ?_
    ·refine sv_if ?_ ?_ ?_
     ·refine et_cmp opLt isBl_lt ?_ ?_ (nomark _)
      ·refine EV.o ?_
       exact ev_v 1
      ·refine EV.o ?_
       refine ev_b1 cLen rfl T.n_len rfl ?_
       refine EV.o ?_
       exact ev_v 0
     ·refine svs_one ?_
      refine sv_ret ?_
      refine ev_ix (ixP hu) ?_ ?_ (fun _ _ => rfl)
      ·refine EV.o ?_
       exact ev_v 0
      ·refine EV.o ?_
       exact ev_v 1
     ·exact svs_nil
    ·refine svs_one ?_
     refine sv_ret ?_
     exact ev_int
end K21
end
section
namespace K21
open PySem PySem.Spec PyProof.Rows L2 PU
seal EV EO EN EA ET EW SV SVs TGt TGts TCt TCts EI ETs ED EOI
abbrev s_law_numbers : Stmt := top 27
theorem sc_law_numbers : FnScope ["_law_cell", "_law_many", "_law_found", "_law_number", "_law_k"] ["_law_cell", "_law_many"] (defScope s_law_numbers) := ⟨rfl, rfl, rfl, by decide +kernel, rfl, by decide +kernel, by decide +kernel⟩
theorem pf_law_numbers {P : Program} {w : World} {K : PySem.W.Frag} {mg : Str → Option Value} {base : Heap} {f : Addr} {fd : FuncData} (T : Txt w K mg) (F : Fun K "_law_numbers" "_law_numbers" s_law_numbers f fd) (hm : mg "_law_numbers" = some (.ref f)) (hb : Binds K fd ["_law_cell", "_law_many"] []) : @PF ⟨w⟩ P w K mg base 1 "_law_numbers" f_law_numbers :=
  letI : TW := ⟨w⟩
  pf_of F sc_law_numbers hm hb (g := g_law_numbers) fun cdv A outer s H E hr => by
    have hu := hr.units
    refine svs_cons ?_ ?_
    ·refine sv_own 2 sc_law_numbers.nd rfl (by first | exact Or.inl rfl | exact Or.inr rfl) ?_
     refine en_lst ?_
     exact ea_nil
    ·refine svs_cons ?_ ?_
     ·refine sv_set 3 sc_law_numbers.nd rfl (by first | exact Or.inl rfl | exact Or.inr rfl) ?_
      refine ev_bin opDiv ?_ ?_
      ·refine EV.o ?_
       exact ev_v 0
      ·refine EV.o ?_
       exact ev_int
     ·refine svs_cons ?_ ?_
      ·refine sv_if ?_ ?_ ?_
       ·refine et_cmp (opEq hu) isBl_eq ?_ ?_ (nomark _)
        ·refine EV.o ?_
         refine ev_bin opMod ?_ ?_
         ·refine EV.o ?_
          exact ev_v 0
         ·refine EV.o ?_
          exact ev_int
        ·refine EV.o ?_
         exact ev_int
       ·refine svs_cons ?_ ?_
        ·refine sv_for PassesOwn.never rfl ?_ ?_ ?_
         ·refine ei_range1 rfl T.n_range ?_
          exact ev_v 1
         ·exact tg_name 4 sc_law_numbers.nd rfl (by first | exact Or.inl rfl | exact Or.inr rfl)
         ·refine svs_cons ?_ ?_
          ·refine sv_append 2 rfl (by first | exact Or.inl rfl | exact Or.inr (Or.inl rfl)) ?_
           refine ev_bin opMod ?_ ?_
           ·refine EV.o ?_
            exact ev_v 3
           ·refine EV.o ?_
            exact ev_int
          ·refine svs_one ?_
           refine sv_set 3 sc_law_numbers.nd rfl (by first | exact Or.inl rfl | exact Or.inr rfl) ?_
           refine ev_bin opDiv ?_ ?_
           ·refine EV.o ?_
            exact ev_v 3
           ·refine EV.o ?_
            exact ev_int
        ·refine svs_one ?_
         refine SV.frz 2 ?_
         refine sv_ret ?_
         exact ev_v 2
       ·exact svs_nil
      ·refine svs_cons ?_ ?_
       ·refine sv_set 3 sc_law_numbers.nd rfl (by first | exact Or.inl rfl | exact Or.inr rfl) ?_
        refine ev_bin opMod ?_ ?_
        ·refine EV.o ?_
         exact ev_v 3
        ·refine EV.o ?_
         exact ev_int
       ·refine svs_cons ?_ ?_
        ·refine sv_for PassesOwn.never rfl ?_ ?_ ?_
         ·refine ei_range1 rfl T.n_range ?_
          refine ev_bin opAdd ?_ ?_
          ·refine EV.o ?_
           exact ev_v 1
          ·refine EV.o ?_
           exact ev_int
         ·exact tg_name 4 sc_law_numbers.nd rfl (by first | exact Or.inl rfl | exact Or.inr rfl)
         ·refine svs_cons ?_ ?_
          ·refine sv_set 3 sc_law_numbers.nd rfl (by first | exact Or.inl rfl | exact Or.inr rfl) ?_
           refine ev_bin opMod ?_ ?_
           ·refine EV.o ?_
            refine ev_bin opMul ?_ ?_
            ·refine EV.o ?_
             refine ev_bin opAdd ?_ ?_
             ·refine EV.o ?_
              refine ev_bin opAdd ?_ ?_
              ·refine EV.o ?_
               exact ev_v 3
              ·refine EV.o ?_
               exact ev_v 4
             ·refine EV.o ?_
              exact ev_int
            ·refine EV.o ?_
             exact ev_int
           ·refine EV.o ?_
            exact ev_int
          ·refine svs_one ?_
           refine sv_append 2 rfl (by first | exact Or.inl rfl | exact Or.inr (Or.inl rfl)) ?_
           refine ev_bin opMod ?_ ?_
           ·refine EV.o ?_
            refine ev_bin opMul ?_ ?_
            ·refine EV.o ?_
             exact ev_v 3
            ·refine EV.o ?_
             exact ev_int
           ·refine EV.o ?_
            exact ev_int
        ·refine svs_one ?_
         refine sv_ret ?_
         refine ev_slice ?_ ?_ ?_
         ·exact eo_v 2
         ·refine so_some ?_
          exact ev_int
         ·exact so_none
end K21
end
section
namespace K21
open PySem PySem.Spec PyProof.Rows L2 PU
seal EV EO EN EA ET EW SV SVs TGt TGts TCt TCts EI ETs ED EOI
abbrev s_law_names : Stmt := top 28
theorem sc_law_names : FnScope ["_law_cell", "_law_letters", "_law_some", "_law_size", "_law_at", "_law_names_here", "_law_turn", "_law_name", "_law_k"] ["_law_cell"] (defScope s_law_names) := ⟨rfl, rfl, rfl, by decide +kernel, rfl, by decide +kernel, by decide +kernel⟩
theorem pf_law_names {P : Program} {w : World} {K : PySem.W.Frag} {mg : Str → Option Value} {base : Heap} {f : Addr} {fd : FuncData} (T : Txt w K mg) (F : Fun K "_law_names" "_law_names" s_law_names f fd) (hm : mg "_law_names" = some (.ref f)) (hb : Binds K fd ["_law_cell"] []) (pf_law_numbers : @PF ⟨w⟩ P w K mg base 1 "_law_numbers" f_law_numbers) : @PF ⟨w⟩ P w K mg base 2 "_law_names" f_law_names :=
  letI : TW := ⟨w⟩
  pf_of F sc_law_names hm hb (g := g_law_names) fun cdv A outer s H E hr => by
    have hu := hr.units
    refine svs_cons ?_ ?_
    ·refine sv_set 1 sc_law_names.nd rfl (by first | exact Or.inl rfl | exact Or.inr rfl) ?_
     exact ev_str
    ·refine svs_cons ?_ ?_
     ·refine sv_set 2 sc_law_names.nd rfl (by first | exact Or.inl rfl | exact Or.inr rfl) ?_
      refine ev_call pf_law_numbers (hr.mono (by decide)) rfl ?_
      refine ea_cons ?_ ?_
      ·exact ev_v 0
      ·refine ea_cons ?_ ?_
       ·exact ev_int
       ·exact ea_nil
     ·refine svs_cons ?_ ?_
      ·refine sv_set 3 sc_law_names.nd rfl (by first | exact Or.inl rfl | exact Or.inr rfl) ?_
       refine ev_bin opAdd ?_ ?_
       ·refine EV.o ?_
        exact ev_int
       ·refine EV.o ?_
        refine ev_bin opMod ?_ ?_
        ·refine EV.o ?_
         refine ev_ix (ixP hu) ?_ ?_ (fun _ _ => rfl)
         ·refine EV.o ?_
          exact ev_v 2
         ·refine EV.o ?_
          exact ev_int
        ·refine EV.o ?_
         exact ev_int
      ·refine svs_cons ?_ ?_
       ·refine sv_set 4 sc_law_names.nd rfl (by first | exact Or.inl rfl | exact Or.inr rfl) ?_
        refine ev_bin opMod ?_ ?_
        ·refine EV.o ?_
         refine ev_ix (ixP hu) ?_ ?_ (fun _ _ => rfl)
         ·refine EV.o ?_
          exact ev_v 2
         ·refine EV.o ?_
          exact ev_int
        ·refine EV.o ?_
         exact ev_v 3
       ·refine svs_cons ?_ ?_
        ·refine sv_own 5 sc_law_names.nd rfl (by first | exact Or.inl rfl | exact Or.inr rfl) ?_
         refine en_lst ?_
         exact ea_nil
        ·refine svs_cons ?_ ?_
         ·refine sv_for PassesOwn.never rfl ?_ ?_ ?_
          ·refine ei_range1 rfl T.n_range ?_
           exact ev_int
          ·exact tg_name 6 sc_law_names.nd rfl (by first | exact Or.inl rfl | exact Or.inr rfl)
          ·refine svs_cons ?_ ?_
           ·refine sv_set 7 sc_law_names.nd rfl (by first | exact Or.inl rfl | exact Or.inr rfl) ?_
            exact ev_str
           ·refine svs_cons ?_ ?_
            ·refine sv_for PassesOwn.never rfl ?_ ?_ ?_
             ·refine ei_range1 rfl T.n_range ?_
              exact ev_v 3
             ·exact tg_name 8 sc_law_names.nd rfl (by first | exact Or.inl rfl | exact Or.inr rfl)
             ·refine svs_one ?_
              refine sv_set 7 sc_law_names.nd rfl (by first | exact Or.inl rfl | exact Or.inr rfl) ?_
              refine ev_bin opAdd ?_ ?_
              ·refine EV.o ?_
               exact ev_v 7
              ·refine EV.o ?_
               refine ev_ix (ixP hu) ?_ ?_ (fun _ _ => rfl)
               ·refine EV.o ?_
                exact ev_v 1
               ·refine EV.o ?_
                refine ev_bin opMod ?_ ?_
                ·refine EV.o ?_
                 refine ev_bin opAdd ?_ ?_
                 ·refine EV.o ?_
                  refine ev_ix (ixP hu) ?_ ?_ (fun _ _ => rfl)
                  ·refine EV.o ?_
                   exact ev_v 2
                  ·refine EV.o ?_
                   exact ev_v 8
                 ·refine EV.o ?_
                  refine ev_bin opMul ?_ ?_
                  ·refine EV.o ?_
                   refine ev_bin opMul ?_ ?_
                   ·refine EV.o ?_
                    exact ev_int
                   ·refine EV.o ?_
                    exact ev_v 6
                  ·refine EV.o ?_
                   refine ev_t1 cInt rfl T.n_int rfl ?_
                   refine EV.o ?_
                   refine ev_cmp (opEq hu) ?_ ?_ (nomark _)
                   ·refine EV.o ?_
                    exact ev_v 8
                   ·refine EV.o ?_
                    exact ev_v 4
                ·refine EV.o ?_
                 exact ev_int
            ·refine svs_one ?_
             refine sv_append 5 rfl (by first | exact Or.inl rfl | exact Or.inr (Or.inl rfl)) ?_
             exact ev_v 7
         ·refine svs_one ?_
          refine SV.frz 5 ?_
          refine sv_ret ?_
          exact ev_v 5
end K21
end
section
namespace K21
open PySem PySem.Spec PyProof.Rows L2 PU
seal EV EO EN EA ET EW SV SVs TGt TGts TCt TCts EI ETs ED EOI
abbrev s_law_hours : Stmt := top 29
theorem sc_law_hours : FnScope ["_law_targets", "_law_cell", "_law_some", "_law_spans", "_law_k", "_law_low"] ["_law_targets", "_law_cell"] (defScope s_law_hours) := ⟨rfl, rfl, rfl, by decide +kernel, rfl, by decide +kernel, by decide +kernel⟩
theorem pf_law_hours {P : Program} {w : World} {K : PySem.W.Frag} {mg : Str → Option Value} {base : Heap} {f : Addr} {fd : FuncData} (T : Txt w K mg) (F : Fun K "_law_hours" "_law_hours" s_law_hours f fd) (hm : mg "_law_hours" = some (.ref f)) (hb : Binds K fd ["_law_targets", "_law_cell"] []) (pf_law_numbers : @PF ⟨w⟩ P w K mg base 1 "_law_numbers" f_law_numbers) : @PF ⟨w⟩ P w K mg base 2 "_law_hours" f_law_hours :=
  letI : TW := ⟨w⟩
  pf_of F sc_law_hours hm hb (g := g_law_hours) fun cdv A outer s H E hr => by
    have hu := hr.units
    refine svs_cons ?_ ?_
    ·refine sv_set 2 sc_law_hours.nd rfl (by first | exact Or.inl rfl | exact Or.inr rfl) ?_
     refine ev_call pf_law_numbers (hr.mono (by decide)) rfl ?_
     refine ea_cons ?_ ?_
     ·exact ev_v 1
     ·refine ea_cons ?_ ?_
      ·exact ev_int
      ·exact ea_nil
    ·refine svs_cons ?_ ?_
     ·refine sv_own 3 sc_law_hours.nd rfl (by first | exact Or.inl rfl | exact Or.inr rfl) ?_
      refine en_lst ?_
      exact ea_nil
     ·refine svs_cons ?_ ?_
      ·refine sv_for PassesOwn.never rfl ?_ ?_ ?_
       ·refine ei_range1 rfl T.n_range ?_
        refine ev_bin opMod ?_ ?_
        ·refine EV.o ?_
         refine ev_ix (ixP hu) ?_ ?_ (fun _ _ => rfl)
         ·refine EV.o ?_
          exact ev_v 2
         ·refine EV.o ?_
          exact ev_int
        ·refine EV.o ?_
         exact ev_int
       ·exact tg_name 4 sc_law_hours.nd rfl (by first | exact Or.inl rfl | exact Or.inr rfl)
       ·refine svs_cons ?_ ?_
        ·refine sv_set 5 sc_law_hours.nd rfl (by first | exact Or.inl rfl | exact Or.inr rfl) ?_
         refine ev_bin opMod ?_ ?_
         ·refine EV.o ?_
          refine ev_ix (ixP hu) ?_ ?_ (fun _ _ => rfl)
          ·refine EV.o ?_
           exact ev_v 2
          ·refine EV.o ?_
           refine ev_bin opAdd ?_ ?_
           ·refine EV.o ?_
            refine ev_bin opMul ?_ ?_
            ·refine EV.o ?_
             exact ev_int
            ·refine EV.o ?_
             exact ev_v 4
           ·refine EV.o ?_
            exact ev_int
         ·refine EV.o ?_
          exact ev_int
        ·refine svs_one ?_
         refine sv_append 3 rfl (by first | exact Or.inl rfl | exact Or.inr (Or.inl rfl)) ?_
         refine ev_tup ?_
         refine ea_cons ?_ ?_
         ·exact ev_v 5
         ·refine ea_cons ?_ ?_
          ·refine ev_bin opAdd ?_ ?_
           ·refine EV.o ?_
            refine ev_bin opAdd ?_ ?_
            ·refine EV.o ?_
             exact ev_v 5
            ·refine EV.o ?_
             exact ev_int
           ·refine EV.o ?_
            refine ev_bin opMod ?_ ?_
            ·refine EV.o ?_
             refine ev_ix (ixP hu) ?_ ?_ (fun _ _ => rfl)
             ·refine EV.o ?_
              exact ev_v 2
             ·refine EV.o ?_
              refine ev_bin opAdd ?_ ?_
              ·refine EV.o ?_
               refine ev_bin opMul ?_ ?_
               ·refine EV.o ?_
                exact ev_int
               ·refine EV.o ?_
                exact ev_v 4
              ·refine EV.o ?_
               exact ev_int
            ·refine EV.o ?_
             refine ev_bin opSub ?_ ?_
             ·refine EV.o ?_
              exact ev_int
             ·refine EV.o ?_
              exact ev_v 5
          ·refine ea_cons ?_ ?_
           ·refine ev_ix (ixP hu) ?_ ?_ (fun _ _ => rfl)
            ·refine EV.o ?_
             exact ev_v 0
            ·refine EV.o ?_
             refine ev_bin opMod ?_ ?_
             ·refine EV.o ?_
              refine ev_ix (ixP hu) ?_ ?_ (fun _ _ => rfl)
              ·refine EV.o ?_
               exact ev_v 2
              ·refine EV.o ?_
               refine ev_bin opAdd ?_ ?_
               ·refine EV.o ?_
                refine ev_bin opMul ?_ ?_
                ·refine EV.o ?_
                 exact ev_int
                ·refine EV.o ?_
                 exact ev_v 4
               ·refine EV.o ?_
                exact ev_int
             ·refine EV.o ?_
              refine ev_b1 cLen rfl T.n_len rfl ?_
              refine EV.o ?_
              exact ev_v 0
           ·exact ea_nil
      ·refine svs_one ?_
       refine sv_ret ?_
       refine ev_tup ?_
       refine ea_cons ?_ ?_
       ·exact ev_str
       ·refine ea_cons ?_ ?_
        ·refine ev_t1 cTuple rfl T.n_tuple rfl ?_
         exact eo_v 3
        ·refine ea_cons ?_ ?_
         ·refine ev_ix (ixP hu) ?_ ?_ (fun _ _ => rfl)
          ·refine EV.o ?_
           exact ev_v 0
          ·refine EV.o ?_
           refine ev_bin opMod ?_ ?_
           ·refine EV.o ?_
            refine ev_ix (ixP hu) ?_ ?_ (fun _ _ => rfl)
            ·refine EV.o ?_
             exact ev_v 2
            ·refine EV.o ?_
             exact ev_int
           ·refine EV.o ?_
            refine ev_b1 cLen rfl T.n_len rfl ?_
            refine EV.o ?_
            exact ev_v 0
         ·exact ea_nil
end K21
end
section
namespace K21
open PySem PySem.Spec PyProof.Rows L2 PU
seal EV EO EN EA ET EW SV SVs TGt TGts TCt TCts EI ETs ED EOI
abbrev s_law_house : Stmt := top 30
theorem sc_law_house : FnScope ["_law_cells", "_law_names_here", "_law_some", "_law_rooms", "_law_k", "_law_keys", "_law_words", "_law_letters"] ["_law_cells"] (defScope s_law_house) := ⟨rfl, rfl, rfl, by decide +kernel, rfl, by decide +kernel, by decide +kernel⟩
theorem pf_law_house {P : Program} {w : World} {K : PySem.W.Frag} {mg : Str → Option Value} {base : Heap} {f : Addr} {fd : FuncData} (T : Txt w K mg) (F : Fun K "_law_house" "_law_house" s_law_house f fd) (hm : mg "_law_house" = some (.ref f)) (hb : Binds K fd ["_law_cells"] []) (pf_law_names : @PF ⟨w⟩ P w K mg base 2 "_law_names" f_law_names) (pf_law_cell_at : @PF ⟨w⟩ P w K mg base 1 "_law_cell_at" f_law_cell_at) (pf_law_numbers : @PF ⟨w⟩ P w K mg base 1 "_law_numbers" f_law_numbers) (pf_law_hours : @PF ⟨w⟩ P w K mg base 2 "_law_hours" f_law_hours) : @PF ⟨w⟩ P w K mg base 3 "_law_house" f_law_house :=
  letI : TW := ⟨w⟩
  pf_of F sc_law_house hm hb (g := g_law_house) fun cdv A outer s H E hr => by
    have hu := hr.units
    refine svs_cons ?_ ?_
    ·refine sv_set 1 sc_law_house.nd rfl (by first | exact Or.inl rfl | exact Or.inr rfl) ?_
     refine ev_call pf_law_names (hr.mono (by decide)) rfl ?_
     refine ea_cons ?_ ?_
     ·refine ev_call pf_law_cell_at (hr.mono (by decide)) rfl ?_
      refine ea_cons ?_ ?_
      ·exact ev_v 0
      ·refine ea_cons ?_ ?_
       ·exact ev_int
       ·exact ea_nil
     ·exact ea_nil
    ·refine svs_cons ?_ ?_
     ·refine sv_set 2 sc_law_house.nd rfl (by first | exact Or.inl rfl | exact Or.inr rfl) ?_
      refine ev_call pf_law_numbers (hr.mono (by decide)) rfl ?_
      refine ea_cons ?_ ?_
      ·refine ev_call pf_law_cell_at (hr.mono (by decide)) rfl ?_
       refine ea_cons ?_ ?_
       ·exact ev_v 0
       ·refine ea_cons ?_ ?_
        ·exact ev_int
        ·exact ea_nil
      ·refine ea_cons ?_ ?_
       ·exact ev_int
       ·exact ea_nil
     ·refine svs_cons ?_ ?_
      ·refine sv_own 3 sc_law_house.nd rfl (by first | exact Or.inl rfl | exact Or.inr rfl) ?_
       exact en_dnew
      ·refine svs_cons ?_ ?_
       ·refine sv_for PassesOwn.never rfl ?_ ?_ ?_
        ·refine ei_range1 rfl T.n_range ?_
         exact ev_int
        ·exact tg_name 4 sc_law_house.nd rfl (by first | exact Or.inl rfl | exact Or.inr rfl)
        ·refine svs_cons ?_ ?_
         ·refine sv_set 5 sc_law_house.nd rfl (by first | exact Or.inl rfl | exact Or.inr rfl) ?_
          refine ev_tup ?_
          refine ea_cons ?_ ?_
          ·refine ev_tup ?_
           refine ea_cons ?_ ?_
           ·exact ev_str
           ·refine ea_cons ?_ ?_
            ·refine ev_ix (ixP hu) ?_ ?_ (fun _ _ => rfl)
             ·refine EV.o ?_
              exact ev_v 1
             ·refine EV.o ?_
              refine ev_bin opMod ?_ ?_
              ·refine EV.o ?_
               refine ev_ix (ixP hu) ?_ ?_ (fun _ _ => rfl)
               ·refine EV.o ?_
                exact ev_v 2
               ·refine EV.o ?_
                exact ev_v 4
              ·refine EV.o ?_
               exact ev_int
            ·exact ea_nil
          ·refine ea_cons ?_ ?_
           ·refine ev_tup ?_
            refine ea_cons ?_ ?_
            ·exact ev_str
            ·refine ea_cons ?_ ?_
             ·exact ev_str
             ·exact ea_nil
           ·refine ea_cons ?_ ?_
            ·refine ev_tup ?_
             refine ea_cons ?_ ?_
             ·exact ev_str
             ·refine ea_cons ?_ ?_
              ·refine ev_ix (ixP hu) ?_ ?_ (fun _ _ => rfl)
               ·refine EV.o ?_
                exact ev_v 1
               ·refine EV.o ?_
                refine ev_bin opMod ?_ ?_
                ·refine EV.o ?_
                 refine ev_ix (ixP hu) ?_ ?_ (fun _ _ => rfl)
                 ·refine EV.o ?_
                  exact ev_v 2
                 ·refine EV.o ?_
                  refine ev_bin opAdd ?_ ?_
                  ·refine EV.o ?_
                   exact ev_v 4
                  ·refine EV.o ?_
                   exact ev_int
                ·refine EV.o ?_
                 exact ev_int
              ·exact ea_nil
            ·exact ea_nil
         ·refine svs_one ?_
          refine sv_put 3 hu ?_ ?_
          ·refine ev_ix (ixP hu) ?_ ?_ (fun _ _ => rfl)
           ·refine EV.o ?_
            exact ev_v 1
           ·refine EV.o ?_
            exact ev_v 4
          ·refine ev_tup ?_
           refine ea_cons ?_ ?_
           ·exact ev_str
           ·refine ea_cons ?_ ?_
            ·refine ev_ix (ixP hu) ?_ ?_ (fun _ _ => rfl)
             ·refine EN.o ?_
              refine en_lst ?_
              refine ea_cons ?_ ?_
              ·exact ev_str
              ·refine ea_cons ?_ ?_
               ·exact ev_str
               ·refine ea_cons ?_ ?_
                ·exact ev_str
                ·exact ea_nil
             ·refine EV.o ?_
              exact ev_v 4
            ·refine ea_cons ?_ ?_
             ·exact ev_v 5
             ·refine ea_cons ?_ ?_
              ·refine ev_tup ?_
               refine ea_cons ?_ ?_
               ·exact ev_int
               ·refine ea_cons ?_ ?_
                ·refine ev_ix (ixP hu) ?_ ?_ (fun _ _ => rfl)
                 ·refine EV.o ?_
                  exact ev_v 1
                 ·refine EV.o ?_
                  exact ev_int
                ·exact ea_nil
              ·refine ea_cons ?_ ?_
               ·refine ev_tup ?_
                refine ea_cons ?_ ?_
                ·exact ev_int
                ·refine ea_cons ?_ ?_
                 ·refine ev_ix (ixP hu) ?_ ?_ (fun _ _ => rfl)
                  ·refine EV.o ?_
                   exact ev_v 1
                  ·refine EV.o ?_
                   exact ev_int
                 ·exact ea_nil
               ·exact ea_nil
       ·refine svs_cons ?_ ?_
        ·refine sv_set 6 sc_law_house.nd rfl (by first | exact Or.inl rfl | exact Or.inr rfl) ?_
         refine ev_tup ?_
         refine ea_cons ?_ ?_
         ·refine ev_tup ?_
          refine ea_cons ?_ ?_
          ·exact ev_str
          ·refine ea_cons ?_ ?_
           ·refine ev_ix (ixP hu) ?_ ?_ (fun _ _ => rfl)
            ·refine EV.o ?_
             exact ev_v 1
            ·refine EV.o ?_
             refine ev_bin opMod ?_ ?_
             ·refine EV.o ?_
              refine ev_ix (ixP hu) ?_ ?_ (fun _ _ => rfl)
              ·refine EV.o ?_
               exact ev_v 2
              ·refine EV.o ?_
               exact ev_int
             ·refine EV.o ?_
              exact ev_int
           ·exact ea_nil
         ·refine ea_cons ?_ ?_
          ·refine ev_tup ?_
           refine ea_cons ?_ ?_
           ·exact ev_str
           ·refine ea_cons ?_ ?_
            ·refine ev_ix (ixP hu) ?_ ?_ (fun _ _ => rfl)
             ·refine EV.o ?_
              exact ev_v 1
             ·refine EV.o ?_
              exact ev_int
            ·exact ea_nil
          ·exact ea_nil
        ·refine svs_cons ?_ ?_
         ·refine sv_put 3 hu ?_ ?_
          ·refine ev_ix (ixP hu) ?_ ?_ (fun _ _ => rfl)
           ·refine EV.o ?_
            exact ev_v 1
           ·refine EV.o ?_
            exact ev_int
          ·refine ev_tup ?_
           refine ea_cons ?_ ?_
           ·exact ev_str
           ·refine ea_cons ?_ ?_
            ·exact ev_str
            ·refine ea_cons ?_ ?_
             ·exact ev_v 6
             ·refine ea_cons ?_ ?_
              ·refine ev_tup ?_
               refine ea_cons ?_ ?_
               ·exact ev_int
               ·refine ea_cons ?_ ?_
                ·refine ev_ix (ixP hu) ?_ ?_ (fun _ _ => rfl)
                 ·refine EV.o ?_
                  exact ev_v 1
                 ·refine EV.o ?_
                  exact ev_int
                ·exact ea_nil
              ·refine ea_cons ?_ ?_
               ·refine ev_tup ?_
                refine ea_cons ?_ ?_
                ·exact ev_int
                ·refine ea_cons ?_ ?_
                 ·refine ev_ix (ixP hu) ?_ ?_ (fun _ _ => rfl)
                  ·refine EV.o ?_
                   exact ev_v 1
                  ·refine EV.o ?_
                   refine ev_bin opMod ?_ ?_
                   ·refine EV.o ?_
                    refine ev_ix (ixP hu) ?_ ?_ (fun _ _ => rfl)
                    ·refine EV.o ?_
                     exact ev_v 2
                    ·refine EV.o ?_
                     exact ev_int
                   ·refine EV.o ?_
                    exact ev_int
                 ·exact ea_nil
               ·exact ea_nil
         ·refine svs_cons ?_ ?_
          ·refine sv_put 3 hu ?_ ?_
           ·refine ev_ix (ixP hu) ?_ ?_ (fun _ _ => rfl)
            ·refine EV.o ?_
             exact ev_v 1
            ·refine EV.o ?_
             exact ev_int
           ·refine ev_call pf_law_hours (hr.mono (by decide)) rfl ?_
            refine ea_cons ?_ ?_
            ·refine ev_bin opAdd ?_ ?_
             ·refine EV.o ?_
              refine ev_slice ?_ ?_ ?_
              ·refine EV.o ?_
               exact ev_v 1
              ·exact so_none
              ·refine so_some ?_
               exact ev_int
             ·refine EV.o ?_
              refine ev_slice ?_ ?_ ?_
              ·refine EV.o ?_
               exact ev_v 1
              ·refine so_some ?_
               exact ev_int
              ·exact so_none
            ·refine ea_cons ?_ ?_
             ·refine ev_call pf_law_cell_at (hr.mono (by decide)) rfl ?_
              refine ea_cons ?_ ?_
              ·exact ev_v 0
              ·refine ea_cons ?_ ?_
               ·exact ev_int
               ·exact ea_nil
             ·exact ea_nil
          ·refine svs_cons ?_ ?_
           ·refine sv_put 3 hu ?_ ?_
            ·refine ev_ix (ixP hu) ?_ ?_ (fun _ _ => rfl)
             ·refine EV.o ?_
              exact ev_v 1
             ·refine EV.o ?_
              exact ev_int
            ·refine ev_call pf_law_hours (hr.mono (by decide)) rfl ?_
             refine ea_cons ?_ ?_
             ·refine ev_bin opAdd ?_ ?_
              ·refine EV.o ?_
               refine ev_slice ?_ ?_ ?_
               ·refine EV.o ?_
                exact ev_v 1
               ·exact so_none
               ·refine so_some ?_
                exact ev_int
              ·refine EV.o ?_
               refine ev_slice ?_ ?_ ?_
               ·refine EV.o ?_
                exact ev_v 1
               ·refine so_some ?_
                exact ev_int
               ·exact so_none
             ·refine ea_cons ?_ ?_
              ·refine ev_call pf_law_cell_at (hr.mono (by decide)) rfl ?_
               refine ea_cons ?_ ?_
               ·exact ev_v 0
               ·refine ea_cons ?_ ?_
                ·exact ev_int
                ·exact ea_nil
              ·exact ea_nil
           ·refine svs_cons ?_ ?_
            ·refine sv_put 3 hu ?_ ?_
             ·refine ev_ix (ixP hu) ?_ ?_ (fun _ _ => rfl)
              ·refine EV.o ?_
               exact ev_v 1
              ·refine EV.o ?_
               exact ev_int
             ·refine ev_tup ?_
              refine ea_cons ?_ ?_
              ·exact ev_str
              ·refine ea_cons ?_ ?_
               ·exact ev_str
               ·exact ea_nil
            ·refine svs_cons ?_ ?_
             ·refine sv_put 3 hu ?_ ?_
              ·refine ev_ix (ixP hu) ?_ ?_ (fun _ _ => rfl)
               ·refine EV.o ?_
                exact ev_v 1
               ·refine EV.o ?_
                exact ev_int
              ·refine ev_tup ?_
               refine ea_cons ?_ ?_
               ·exact ev_str
               ·refine ea_cons ?_ ?_
                ·exact ev_str
                ·exact ea_nil
             ·refine svs_cons ?_ ?_
              ·refine sv_set 7 sc_law_house.nd rfl (by first | exact Or.inl rfl | exact Or.inr rfl) ?_
               refine EN.v ?_
               refine en_lst ?_
               refine ea_cons ?_ ?_
               ·refine ev_tup ?_
                refine ea_cons ?_ ?_
                ·exact ev_str
                ·refine ea_cons ?_ ?_
                 ·exact ev_str
                 ·exact ea_nil
               ·refine ea_cons ?_ ?_
                ·refine ev_tup ?_
                 refine ea_cons ?_ ?_
                 ·exact ev_str
                 ·refine ea_cons ?_ ?_
                  ·exact ev_str
                  ·exact ea_nil
                ·exact ea_nil
              ·refine svs_one ?_
               refine SV.frz 3 ?_
               refine sv_ret ?_
               refine EN.v ?_
               refine en_dict ?_
               refine ed_cons ?_ ?_ ?_
               ·exact ev_str
               ·refine ev_ix (ixP hu) ?_ ?_ (fun _ _ => rfl)
                ·refine EV.o ?_
                 exact ev_v 1
                ·refine EV.o ?_
                 refine ev_bin opMod ?_ ?_
                 ·refine EV.o ?_
                  refine ev_ix (ixP hu) ?_ ?_ (fun _ _ => rfl)
                  ·refine EV.o ?_
                   exact ev_v 2
                  ·refine EV.o ?_
                   exact ev_int
                 ·refine EV.o ?_
                  exact ev_int
               ·refine ed_cons ?_ ?_ ?_
                ·exact ev_str
                ·exact ev_v 7
                ·refine ed_cons ?_ ?_ ?_
                 ·exact ev_str
                 ·exact ev_v 3
                 ·exact ed_nil
end K21
end
section
namespace K21
open PySem PySem.Spec PyProof.Rows L2 PU
seal EV EO EN EA ET EW SV SVs TGt TGts TCt TCts EI ETs ED EOI
abbrev s_law_come : Stmt := top 31
theorem sc_law_come : FnScope ["_law_house_here", "_law_hour", "_law_name", "_law_room", "_law_low", "_law_high", "_law_target"] ["_law_house_here", "_law_hour", "_law_name"] (defScope s_law_come) := ⟨rfl, rfl, rfl, by decide +kernel, rfl, by decide +kernel, by decide +kernel⟩
theorem pf_law_come {P : Program} {w : World} {K : PySem.W.Frag} {mg : Str → Option Value} {base : Heap} {f : Addr} {fd : FuncData} (T : Txt w K mg) (F : Fun K "_law_come" "_law_come" s_law_come f fd) (hm : mg "_law_come" = some (.ref f)) (hb : Binds K fd ["_law_house_here", "_law_hour", "_law_name"] []) : @PF ⟨w⟩ P w K mg base 1 "_law_come" f_law_come :=
  letI : TW := ⟨w⟩
  pf_of F sc_law_come hm hb (g := g_law_come) fun cdv A outer s H E hr => by
    have hu := hr.units
    refine svs_cons ?_ ?_
    ·refine sv_set 3 sc_law_come.nd rfl (by first | exact Or.inl rfl | exact Or.inr rfl) ?_
     refine ev_ix (ixP hu) ?_ ?_ (fun _ _ => rfl)
     ·refine EV.o ?_
      refine ev_ix (ixP hu) ?_ ?_ (fun _ _ => rfl)
      ·refine EV.o ?_
       exact ev_v 0
      ·refine EV.o ?_
       exact ev_str
     ·refine EV.o ?_
      exact ev_v 2
    ·refine svs_cons ?_ ?_
     ·refine sv_while 300 PassesOwn.never ?_ ?_
      ·refine et_cmp (opEq hu) isBl_eq ?_ ?_ (nomark _)
       ·refine EV.o ?_
        refine ev_ix (ixP hu) ?_ ?_ (fun _ _ => rfl)
        ·refine EV.o ?_
         exact ev_v 3
        ·refine EV.o ?_
         exact ev_int
       ·refine EV.o ?_
        exact ev_str
      ·refine svs_cons ?_ ?_
       ·refine sv_set 2 sc_law_come.nd rfl (by first | exact Or.inl rfl | exact Or.inr rfl) ?_
        refine ev_ix (ixP hu) ?_ ?_ (fun _ _ => rfl)
        ·refine EV.o ?_
         exact ev_v 3
        ·refine EV.o ?_
         exact ev_int
       ·refine svs_cons ?_ ?_
        ·refine sv_for PassesOwn.never rfl ?_ ?_ ?_
         ·refine ei_revT rfl T.n_reversed ?_
          refine ev_ix (ixP hu) ?_ ?_ (fun _ _ => rfl)
          ·refine EV.o ?_
           exact ev_v 3
          ·refine EV.o ?_
           exact ev_int
         ·refine tg_tup rfl ?_
          refine tgs_cons ?_ ?_
          ·exact tg_name 4 sc_law_come.nd rfl (by first | exact Or.inl rfl | exact Or.inr rfl)
          ·refine tgs_cons ?_ ?_
           ·exact tg_name 5 sc_law_come.nd rfl (by first | exact Or.inl rfl | exact Or.inr rfl)
           ·refine tgs_cons ?_ ?_
            ·exact tg_name 6 sc_law_come.nd rfl (by first | exact Or.inl rfl | exact Or.inr rfl)
            ·exact tgs_nil
         ·refine svs_one ?_
          refine sv_if ?_ ?_ ?_
          ·refine et_chain opLe opLt isBl_le isBl_lt ?_ ?_ ?_
           ·refine EV.o ?_
            exact ev_v 4
           ·refine EV.o ?_
            exact ev_v 1
           ·refine EV.o ?_
            exact ev_v 5
          ·refine svs_one ?_
           refine sv_set 2 sc_law_come.nd rfl (by first | exact Or.inl rfl | exact Or.inr rfl) ?_
           exact ev_v 6
          ·exact svs_nil
        ·refine svs_one ?_
         refine sv_set 3 sc_law_come.nd rfl (by first | exact Or.inl rfl | exact Or.inr rfl) ?_
         refine ev_ix (ixP hu) ?_ ?_ (fun _ _ => rfl)
         ·refine EV.o ?_
          refine ev_ix (ixP hu) ?_ ?_ (fun _ _ => rfl)
          ·refine EV.o ?_
           exact ev_v 0
          ·refine EV.o ?_
           exact ev_str
         ·refine EV.o ?_
          exact ev_v 2
     ·refine svs_one ?_
      refine sv_ret ?_
      exact ev_v 2
end K21
end
section
namespace K21
open PySem PySem.Spec PyProof.Rows L2 PU
seal EV EO EN EA ET EW SV SVs TGt TGts TCt TCts EI ETs ED EOI
abbrev s_law_same : Stmt := top 32
theorem sc_law_same : FnScope ["_law_state", "_law_due"] ["_law_state", "_law_due"] (defScope s_law_same) := ⟨rfl, rfl, rfl, by decide +kernel, rfl, by decide +kernel, by decide +kernel⟩
theorem pf_law_same {P : Program} {w : World} {K : PySem.W.Frag} {mg : Str → Option Value} {base : Heap} {f : Addr} {fd : FuncData} (T : Txt w K mg) (F : Fun K "_law_same" "_law_same" s_law_same f fd) (hm : mg "_law_same" = some (.ref f)) (hb : Binds K fd ["_law_state", "_law_due"] []) : @PF ⟨w⟩ P w K mg base 1 "_law_same" f_law_same :=
  letI : TW := ⟨w⟩
  pf_of F sc_law_same hm hb (g := g_law_same) fun cdv A outer s H E hr => by
    have hu := hr.units
    refine svs_cons ?_ ?_
    ·refine sv_if ?_ ?_ ?_
     ·refine EW.et ?_
      refine ew_or ?_ ?_
      ·refine et_not ?_
       refine et_truth ?_
       refine EV.o ?_
       refine ev_isi isi_tuple rfl T.n_isinstance rfl T.n_tuple (by decide +kernel) ?_
       refine EV.o ?_
       exact ev_v 0
      ·refine ew_or1 ?_
       refine et_cmp (opNe hu) isBl_ne ?_ ?_ (nomark _)
       ·refine EV.o ?_
        exact ev_v 0
       ·refine EV.o ?_
        exact ev_v 1
     ·refine svs_one ?_
      refine sv_ret ?_
      exact ev_bl
     ·exact svs_nil
    ·refine svs_one ?_
     refine sv_ret ?_
     refine ev_and ?_ ?_
     ·refine ev_not ?_
      refine ev_isi isi_bool rfl T.n_isinstance rfl T.n_bool (by decide +kernel) ?_
      refine EV.o ?_
      refine ev_ix (ixP hu) ?_ ?_ (fun _ _ => rfl)
      ·refine EV.o ?_
       exact ev_v 0
      ·refine EV.o ?_
       exact ev_int
     ·refine ev_one ?_
      refine ev_not ?_
      refine ev_isi isi_bool rfl T.n_isinstance rfl T.n_bool (by decide +kernel) ?_
      refine EV.o ?_
      refine ev_ix (ixP hu) ?_ ?_ (fun _ _ => rfl)
      ·refine EV.o ?_
       exact ev_v 0
      ·refine EV.o ?_
       exact ev_int
end K21
end
section
namespace K21
open PySem PySem.Spec PyProof.Rows L2 PU
seal EV EO EN EA ET EW SV SVs TGt TGts TCt TCts EI ETs ED EOI
abbrev s_law : Stmt := top 33
theorem sc_law : FnScope ["_law_script", "_law_house_here", "_law_held", "_law_cell", "_law_hour", "_law_name", "_law_due", "_law_room", "_law_kind"] ["_law_script"] (defScope s_law) := ⟨rfl, rfl, rfl, by decide +kernel, rfl, by decide +kernel, by decide +kernel⟩
theorem ok_law {P : Program} {w : World} {K : PySem.W.Frag} {mg : Str → Option Value} {base : Heap} {f : Addr} {fd : FuncData} (T : Txt w K mg) (F : Fun K "law" "law" s_law f fd) (pf_law_house : @PF ⟨w⟩ P w K mg base 3 "_law_house" f_law_house) (pf_law_come : @PF ⟨w⟩ P w K mg base 1 "_law_come" f_law_come) (pf_law_same : @PF ⟨w⟩ P w K mg base 1 "_law_same" f_law_same) (pf_begin : @PF ⟨w⟩ P w K mg base 4 "begin" f_begin) (pf_walk : @PF ⟨w⟩ P w K mg base 8 "walk" f_walk) (pf_heard : @PF ⟨w⟩ P w K mg base 1 "heard" f_heard) : FnOk P w K mg base CX0 9 f fd ["_law_script"] (@spP ⟨w⟩ K 1 f_law) :=
  letI : TW := ⟨w⟩
  have main : FnOk P w K mg base CX0 (8 + 1) f fd ["_law_script"] (spP K 1 (runF 1 9 g_law)) := by
    refine ok_of (N := ["_law_script", "_law_house_here", "_law_held", "_law_cell", "_law_hour", "_law_name", "_law_due", "_law_room", "_law_kind"]) (ps := ["_law_script"]) (k := 8) (g := g_law) F sc_law ?_
    intro cdv A outer s H E hr
    have hu := hr.units
    refine svs_cons ?_ ?_
    ·refine sv_set 1 sc_law.nd rfl (by first | exact Or.inl rfl | exact Or.inr rfl) ?_
     refine ev_call pf_law_house (hr.mono (by decide)) rfl ?_
     refine ea_cons ?_ ?_
     ·refine ev_slice ?_ ?_ ?_
      ·refine EV.o ?_
       exact ev_v 0
      ·exact so_none
      ·refine so_some ?_
       exact ev_int
     ·exact ea_nil
    ·refine svs_cons ?_ ?_
     ·refine sv_set 2 sc_law.nd rfl (by first | exact Or.inl rfl | exact Or.inr rfl) ?_
      refine EN.v ?_
      refine en_t1 cDictA rfl T.n_dict rfl ?_
      refine EV.o ?_
      exact ev_v 1
     ·refine svs_cons ?_ ?_
      ·refine sv_for PassesOwn.never rfl ?_ ?_ ?_
       ·refine ei_val ?_
        refine ev_bin opAdd ?_ ?_
        ·refine EN.o ?_
         refine en_lst ?_
         refine ea_cons ?_ ?_
         ·exact ev_int
         ·exact ea_nil
        ·refine EN.o ?_
         refine en_t1 cListA rfl T.n_list rfl ?_
         refine EV.o ?_
         refine ev_slice ?_ ?_ ?_
         ·refine EV.o ?_
          exact ev_v 0
         ·refine so_some ?_
          exact ev_int
         ·refine so_some ?_
          exact ev_int
       ·exact tg_name 3 sc_law.nd rfl (by first | exact Or.inl rfl | exact Or.inr rfl)
       ·refine svs_cons ?_ ?_
        ·refine sv_set 4 sc_law.nd rfl (by first | exact Or.inl rfl | exact Or.inr rfl) ?_
         refine ev_bin opMod ?_ ?_
         ·refine EV.o ?_
          exact ev_v 3
         ·refine EV.o ?_
          exact ev_int
        ·refine svs_cons ?_ ?_
         ·refine sv_set 5 sc_law.nd rfl (by first | exact Or.inl rfl | exact Or.inr rfl) ?_
          refine ev_call pf_law_come (hr.mono (by decide)) rfl ?_
          refine ea_cons ?_ ?_
          ·exact ev_v 1
          ·refine ea_cons ?_ ?_
           ·exact ev_v 4
           ·refine ea_cons ?_ ?_
            ·refine ev_ix (ixP hu) ?_ ?_ (fun _ _ => rfl)
             ·refine EV.o ?_
              exact ev_v 1
             ·refine EV.o ?_
              exact ev_str
            ·exact ea_nil
         ·refine svs_cons ?_ ?_
          ·refine sv_set 6 sc_law.nd rfl (by first | exact Or.inl rfl | exact Or.inr rfl) ?_
           refine ev_tup ?_
           refine ea_cons ?_ ?_
           ·exact ev_v 5
           ·refine ea_cons ?_ ?_
            ·exact ev_str
            ·refine ea_cons ?_ ?_
             ·exact ev_int
             ·refine ea_cons ?_ ?_
              ·exact ev_int
              ·refine ea_cons ?_ ?_
               ·exact ev_str
               ·exact ea_nil
          ·refine svs_cons ?_ ?_
           ·refine sv_if ?_ ?_ ?_
            ·refine EW.et ?_
             refine ew_or ?_ ?_
             ·refine et_not ?_
              refine et_truth ?_
              refine EV.o ?_
              refine ev_call pf_law_same (hr.mono (by decide)) rfl ?_
              refine ea_cons ?_ ?_
              ·refine ev_call pf_begin (hr.mono (by decide)) rfl ?_
               refine ea_cons ?_ ?_
               ·exact ev_v 2
               ·refine ea_cons ?_ ?_
                ·exact ev_v 4
                ·exact ea_nil
              ·refine ea_cons ?_ ?_
               ·exact ev_v 6
               ·exact ea_nil
             ·refine ew_or1 ?_
              refine et_cmp (opNe hu) isBl_ne ?_ ?_ (nomark _)
              ·refine EV.o ?_
               refine ev_call pf_walk (hr.mono (by decide)) rfl ?_
               refine ea_cons ?_ ?_
               ·exact ev_v 2
               ·refine ea_cons ?_ ?_
                ·exact ev_v 4
                ·refine ea_cons ?_ ?_
                 ·exact ev_str
                 ·exact ea_nil
              ·refine EN.o ?_
               refine en_lst ?_
               refine ea_cons ?_ ?_
               ·exact ev_v 6
               ·exact ea_nil
            ·refine svs_one ?_
             refine sv_ret ?_
             exact ev_bl
            ·exact svs_nil
           ·refine svs_cons ?_ ?_
            ·refine sv_set 7 sc_law.nd rfl (by first | exact Or.inl rfl | exact Or.inr rfl) ?_
             refine ev_ix (ixP hu) ?_ ?_ (fun _ _ => rfl)
             ·refine EV.o ?_
              refine ev_ix (ixP hu) ?_ ?_ (fun _ _ => rfl)
              ·refine EV.o ?_
               exact ev_v 1
              ·refine EV.o ?_
               exact ev_str
             ·refine EV.o ?_
              exact ev_v 5
            ·refine svs_cons ?_ ?_
             ·refine sv_set 8 sc_law.nd rfl (by first | exact Or.inl rfl | exact Or.inr rfl) ?_
              refine ev_ix (ixP hu) ?_ ?_ (fun _ _ => rfl)
              ·refine EV.o ?_
               exact ev_v 7
              ·refine EV.o ?_
               exact ev_int
             ·refine svs_cons ?_ ?_
              ·refine sv_if ?_ ?_ ?_
               ·refine et_cmp (opIn hu) isBl_in ?_ ?_ (by with_unfolding_all rfl)
                ·refine EV.o ?_
                 exact ev_v 8
                ·refine EN.o ?_
                 refine en_lst ?_
                 refine ea_cons ?_ ?_
                 ·exact ev_str
                 ·refine ea_cons ?_ ?_
                  ·exact ev_str
                  ·exact ea_nil
               ·refine svs_one ?_
                refine sv_set 8 sc_law.nd rfl (by first | exact Or.inl rfl | exact Or.inr rfl) ?_
                exact ev_str
               ·exact svs_nil
              ·refine svs_one ?_
               refine sv_if ?_ ?_ ?_
               ·refine et_cmp (opNe hu) isBl_ne ?_ ?_ (nomark _)
                ·refine EV.o ?_
                 refine ev_call pf_heard (hr.mono (by decide)) rfl ?_
                 refine ea_cons ?_ ?_
                 ·exact ev_v 2
                 ·refine ea_cons ?_ ?_
                  ·exact ev_v 6
                  ·exact ea_nil
                ·refine EV.o ?_
                 refine ev_tup ?_
                 refine ea_cons ?_ ?_
                 ·exact ev_v 8
                 ·refine ea_cons ?_ ?_
                  ·refine ev_ix (ixP hu) ?_ ?_ (fun _ _ => rfl)
                   ·refine EV.o ?_
                    exact ev_v 7
                   ·refine EV.o ?_
                    exact ev_int
                  ·exact ea_nil
               ·refine svs_one ?_
                refine sv_ret ?_
                exact ev_bl
               ·exact svs_nil
      ·refine svs_one ?_
       refine sv_ret ?_
       refine ev_cmp (opEq hu) ?_ ?_ (nomark _)
       ·refine EV.o ?_
        exact ev_v 2
       ·refine EV.o ?_
        refine ev_call pf_law_house (hr.mono (by decide)) rfl ?_
        refine ea_cons ?_ ?_
        ·refine ev_slice ?_ ?_ ?_
         ·refine EV.o ?_
          exact ev_v 0
         ·exact so_none
         ·refine so_some ?_
          exact ev_int
        ·exact ea_nil
  main
end K21
end
section
namespace K21
open PySem PySem.Spec PyProof.Rows L2 PU
seal EV EO EN EA ET EW SV SVs TGt TGts TCt TCts EI ETs ED EOI
theorem all_mk {l : PySem.W.OpenLaw} {w : World} {K : PySem.W.Frag} {h : Heap} {mg : Str → Option Value} {fa : Addr} (X : K.In h) (G : h.Ns mainGlobals mg) (hfa : mg "law" = some (.ref fa))
    {f0 : Addr} {od0 an0 : Option Addr} {sl0 : Array (Option Value)} {oc0 kV0 dc0 pm0 cd0 ct0 : Value} (a0 : PySem.W.nsIn K mainGlobals "handed" = some (some (.ref f0))) (l0 : K.lookup f0 = some ⟨oc0, od0, .func (PySem.W.fnOf "handed" "handed" (defArgs s_handed) (defBody s_handed) (defScope s_handed) .none kV0 dc0 pm0 an0 cd0 ct0), sl0⟩) (c0 : PySem.W.codeIn K cd0 "handed" = true) (k0 : PySem.W.keepIn K (.ref f0) = true)
    {f1 : Addr} {od1 an1 : Option Addr} {sl1 : Array (Option Value)} {oc1 kV1 dc1 pm1 cd1 ct1 : Value} (a1 : PySem.W.nsIn K mainGlobals "come_to" = some (some (.ref f1))) (l1 : K.lookup f1 = some ⟨oc1, od1, .func (PySem.W.fnOf "come_to" "come_to" (defArgs s_come_to) (defBody s_come_to) (defScope s_come_to) .none kV1 dc1 pm1 an1 cd1 ct1), sl1⟩) (c1 : PySem.W.codeIn K cd1 "come_to" = true) (k1 : PySem.W.keepIn K (.ref f1) = true)
    {f2 : Addr} {od2 an2 : Option Addr} {sl2 : Array (Option Value)} {oc2 kV2 dc2 pm2 cd2 ct2 : Value} (a2 : PySem.W.nsIn K mainGlobals "key_of" = some (some (.ref f2))) (l2 : K.lookup f2 = some ⟨oc2, od2, .func (PySem.W.fnOf "key_of" "key_of" (defArgs s_key_of) (defBody s_key_of) (defScope s_key_of) .none kV2 dc2 pm2 an2 cd2 ct2), sl2⟩) (c2 : PySem.W.codeIn K cd2 "key_of" = true) (k2 : PySem.W.keepIn K (.ref f2) = true)
    {f3 : Addr} {od3 an3 : Option Addr} {sl3 : Array (Option Value)} {oc3 kV3 dc3 pm3 cd3 ct3 : Value} (a3 : PySem.W.nsIn K mainGlobals "code_of" = some (some (.ref f3))) (l3 : K.lookup f3 = some ⟨oc3, od3, .func (PySem.W.fnOf "code_of" "code_of" (defArgs s_code_of) (defBody s_code_of) (defScope s_code_of) .none kV3 dc3 pm3 an3 cd3 ct3), sl3⟩) (c3 : PySem.W.codeIn K cd3 "code_of" = true) (k3 : PySem.W.keepIn K (.ref f3) = true)
    {f4 : Addr} {od4 an4 : Option Addr} {sl4 : Array (Option Value)} {oc4 kV4 dc4 pm4 cd4 ct4 : Value} (a4 : PySem.W.nsIn K mainGlobals "beginning_counts" = some (some (.ref f4))) (l4 : K.lookup f4 = some ⟨oc4, od4, .func (PySem.W.fnOf "beginning_counts" "beginning_counts" (defArgs s_beginning_counts) (defBody s_beginning_counts) (defScope s_beginning_counts) .none kV4 dc4 pm4 an4 cd4 ct4), sl4⟩) (c4 : PySem.W.codeIn K cd4 "beginning_counts" = true) (k4 : PySem.W.keepIn K (.ref f4) = true)
    {f5 : Addr} {od5 an5 : Option Addr} {sl5 : Array (Option Value)} {oc5 kV5 dc5 pm5 cd5 ct5 : Value} (a5 : PySem.W.nsIn K mainGlobals "own_beginning" = some (some (.ref f5))) (l5 : K.lookup f5 = some ⟨oc5, od5, .func (PySem.W.fnOf "own_beginning" "own_beginning" (defArgs s_own_beginning) (defBody s_own_beginning) (defScope s_own_beginning) .none kV5 dc5 pm5 an5 cd5 ct5), sl5⟩) (c5 : PySem.W.codeIn K cd5 "own_beginning" = true) (k5 : PySem.W.keepIn K (.ref f5) = true)
    {f6 : Addr} {od6 an6 : Option Addr} {sl6 : Array (Option Value)} {oc6 kV6 dc6 pm6 cd6 ct6 : Value} (a6 : PySem.W.nsIn K mainGlobals "beginnings" = some (some (.ref f6))) (l6 : K.lookup f6 = some ⟨oc6, od6, .func (PySem.W.fnOf "beginnings" "beginnings" (defArgs s_beginnings) (defBody s_beginnings) (defScope s_beginnings) .none kV6 dc6 pm6 an6 cd6 ct6), sl6⟩) (c6 : PySem.W.codeIn K cd6 "beginnings" = true) (k6 : PySem.W.keepIn K (.ref f6) = true)
    {f7 : Addr} {od7 an7 : Option Addr} {sl7 : Array (Option Value)} {oc7 kV7 dc7 pm7 cd7 ct7 : Value} (a7 : PySem.W.nsIn K mainGlobals "arrival" = some (some (.ref f7))) (l7 : K.lookup f7 = some ⟨oc7, od7, .func (PySem.W.fnOf "arrival" "arrival" (defArgs s_arrival) (defBody s_arrival) (defScope s_arrival) .none kV7 dc7 pm7 an7 cd7 ct7), sl7⟩) (c7 : PySem.W.codeIn K cd7 "arrival" = true) (k7 : PySem.W.keepIn K (.ref f7) = true)
    {f8 : Addr} {od8 an8 : Option Addr} {sl8 : Array (Option Value)} {oc8 kV8 dc8 pm8 cd8 ct8 : Value} (a8 : PySem.W.nsIn K mainGlobals "begin" = some (some (.ref f8))) (l8 : K.lookup f8 = some ⟨oc8, od8, .func (PySem.W.fnOf "begin" "begin" (defArgs s_begin) (defBody s_begin) (defScope s_begin) .none kV8 dc8 pm8 an8 cd8 ct8), sl8⟩) (c8 : PySem.W.codeIn K cd8 "begin" = true) (k8 : PySem.W.keepIn K (.ref f8) = true)
    {f9 : Addr} {od9 an9 : Option Addr} {sl9 : Array (Option Value)} {oc9 kV9 dc9 pm9 cd9 ct9 : Value} (a9 : PySem.W.nsIn K mainGlobals "names_ways" = some (some (.ref f9))) (l9 : K.lookup f9 = some ⟨oc9, od9, .func (PySem.W.fnOf "names_ways" "names_ways" (defArgs s_names_ways) (defBody s_names_ways) (defScope s_names_ways) .none kV9 dc9 pm9 an9 cd9 ct9), sl9⟩) (c9 : PySem.W.codeIn K cd9 "names_ways" = true) (k9 : PySem.W.keepIn K (.ref f9) = true)
    {f10 : Addr} {od10 an10 : Option Addr} {sl10 : Array (Option Value)} {oc10 kV10 dc10 pm10 cd10 ct10 : Value} (a10 : PySem.W.nsIn K mainGlobals "room_ways" = some (some (.ref f10))) (l10 : K.lookup f10 = some ⟨oc10, od10, .func (PySem.W.fnOf "room_ways" "room_ways" (defArgs s_room_ways) (defBody s_room_ways) (defScope s_room_ways) .none kV10 dc10 pm10 an10 cd10 ct10), sl10⟩) (c10 : PySem.W.codeIn K cd10 "room_ways" = true) (k10 : PySem.W.keepIn K (.ref f10) = true)
    {f11 : Addr} {od11 an11 : Option Addr} {sl11 : Array (Option Value)} {oc11 kV11 dc11 pm11 cd11 ct11 : Value} (a11 : PySem.W.nsIn K mainGlobals "house_ways" = some (some (.ref f11))) (l11 : K.lookup f11 = some ⟨oc11, od11, .func (PySem.W.fnOf "house_ways" "house_ways" (defArgs s_house_ways) (defBody s_house_ways) (defScope s_house_ways) .none kV11 dc11 pm11 an11 cd11 ct11), sl11⟩) (c11 : PySem.W.codeIn K cd11 "house_ways" = true) (k11 : PySem.W.keepIn K (.ref f11) = true)
    {f12 : Addr} {od12 an12 : Option Addr} {sl12 : Array (Option Value)} {oc12 kV12 dc12 pm12 cd12 ct12 : Value} (a12 : PySem.W.nsIn K mainGlobals "by_wrong_key" = some (some (.ref f12))) (l12 : K.lookup f12 = some ⟨oc12, od12, .func (PySem.W.fnOf "by_wrong_key" "by_wrong_key" (defArgs s_by_wrong_key) (defBody s_by_wrong_key) (defScope s_by_wrong_key) .none kV12 dc12 pm12 an12 cd12 ct12), sl12⟩) (c12 : PySem.W.codeIn K cd12 "by_wrong_key" = true) (k12 : PySem.W.keepIn K (.ref f12) = true)
    {f13 : Addr} {od13 an13 : Option Addr} {sl13 : Array (Option Value)} {oc13 kV13 dc13 pm13 cd13 ct13 : Value} (a13 : PySem.W.nsIn K mainGlobals "by_key" = some (some (.ref f13))) (l13 : K.lookup f13 = some ⟨oc13, od13, .func (PySem.W.fnOf "by_key" "by_key" (defArgs s_by_key) (defBody s_by_key) (defScope s_by_key) .none kV13 dc13 pm13 an13 cd13 ct13), sl13⟩) (c13 : PySem.W.codeIn K cd13 "by_key" = true) (k13 : PySem.W.keepIn K (.ref f13) = true)
    {f14 : Addr} {od14 an14 : Option Addr} {sl14 : Array (Option Value)} {oc14 kV14 dc14 pm14 cd14 ct14 : Value} (a14 : PySem.W.nsIn K mainGlobals "by_wait" = some (some (.ref f14))) (l14 : K.lookup f14 = some ⟨oc14, od14, .func (PySem.W.fnOf "by_wait" "by_wait" (defArgs s_by_wait) (defBody s_by_wait) (defScope s_by_wait) .none kV14 dc14 pm14 an14 cd14 ct14), sl14⟩) (c14 : PySem.W.codeIn K cd14 "by_wait" = true) (k14 : PySem.W.keepIn K (.ref f14) = true)
    {f15 : Addr} {od15 an15 : Option Addr} {sl15 : Array (Option Value)} {oc15 kV15 dc15 pm15 cd15 ct15 : Value} (a15 : PySem.W.nsIn K mainGlobals "follow" = some (some (.ref f15))) (l15 : K.lookup f15 = some ⟨oc15, od15, .func (PySem.W.fnOf "follow" "follow" (defArgs s_follow) (defBody s_follow) (defScope s_follow) .none kV15 dc15 pm15 an15 cd15 ct15), sl15⟩) (c15 : PySem.W.codeIn K cd15 "follow" = true) (k15 : PySem.W.keepIn K (.ref f15) = true)
    {f16 : Addr} {od16 an16 : Option Addr} {sl16 : Array (Option Value)} {oc16 kV16 dc16 pm16 cd16 ct16 : Value} (a16 : PySem.W.nsIn K mainGlobals "walk_on" = some (some (.ref f16))) (l16 : K.lookup f16 = some ⟨oc16, od16, .func (PySem.W.fnOf "walk_on" "walk_on" (defArgs s_walk_on) (defBody s_walk_on) (defScope s_walk_on) .none kV16 dc16 pm16 an16 cd16 ct16), sl16⟩) (c16 : PySem.W.codeIn K cd16 "walk_on" = true) (k16 : PySem.W.keepIn K (.ref f16) = true)
    {f17 : Addr} {od17 an17 : Option Addr} {sl17 : Array (Option Value)} {oc17 kV17 dc17 pm17 cd17 ct17 : Value} (a17 : PySem.W.nsIn K mainGlobals "walk" = some (some (.ref f17))) (l17 : K.lookup f17 = some ⟨oc17, od17, .func (PySem.W.fnOf "walk" "walk" (defArgs s_walk) (defBody s_walk) (defScope s_walk) .none kV17 dc17 pm17 an17 cd17 ct17), sl17⟩) (c17 : PySem.W.codeIn K cd17 "walk" = true) (k17 : PySem.W.keepIn K (.ref f17) = true)
    {f18 : Addr} {od18 an18 : Option Addr} {sl18 : Array (Option Value)} {oc18 kV18 dc18 pm18 cd18 ct18 : Value} (a18 : PySem.W.nsIn K mainGlobals "heard" = some (some (.ref f18))) (l18 : K.lookup f18 = some ⟨oc18, od18, .func (PySem.W.fnOf "heard" "heard" (defArgs s_heard) (defBody s_heard) (defScope s_heard) .none kV18 dc18 pm18 an18 cd18 ct18), sl18⟩) (c18 : PySem.W.codeIn K cd18 "heard" = true) (k18 : PySem.W.keepIn K (.ref f18) = true)
    {f19 : Addr} {od19 an19 : Option Addr} {sl19 : Array (Option Value)} {oc19 kV19 dc19 pm19 cd19 ct19 : Value} (a19 : PySem.W.nsIn K mainGlobals "_law_cell_at" = some (some (.ref f19))) (l19 : K.lookup f19 = some ⟨oc19, od19, .func (PySem.W.fnOf "_law_cell_at" "_law_cell_at" (defArgs s_law_cell_at) (defBody s_law_cell_at) (defScope s_law_cell_at) .none kV19 dc19 pm19 an19 cd19 ct19), sl19⟩) (c19 : PySem.W.codeIn K cd19 "_law_cell_at" = true) (k19 : PySem.W.keepIn K (.ref f19) = true)
    {f20 : Addr} {od20 an20 : Option Addr} {sl20 : Array (Option Value)} {oc20 kV20 dc20 pm20 cd20 ct20 : Value} (a20 : PySem.W.nsIn K mainGlobals "_law_numbers" = some (some (.ref f20))) (l20 : K.lookup f20 = some ⟨oc20, od20, .func (PySem.W.fnOf "_law_numbers" "_law_numbers" (defArgs s_law_numbers) (defBody s_law_numbers) (defScope s_law_numbers) .none kV20 dc20 pm20 an20 cd20 ct20), sl20⟩) (c20 : PySem.W.codeIn K cd20 "_law_numbers" = true) (k20 : PySem.W.keepIn K (.ref f20) = true)
    {f21 : Addr} {od21 an21 : Option Addr} {sl21 : Array (Option Value)} {oc21 kV21 dc21 pm21 cd21 ct21 : Value} (a21 : PySem.W.nsIn K mainGlobals "_law_names" = some (some (.ref f21))) (l21 : K.lookup f21 = some ⟨oc21, od21, .func (PySem.W.fnOf "_law_names" "_law_names" (defArgs s_law_names) (defBody s_law_names) (defScope s_law_names) .none kV21 dc21 pm21 an21 cd21 ct21), sl21⟩) (c21 : PySem.W.codeIn K cd21 "_law_names" = true) (k21 : PySem.W.keepIn K (.ref f21) = true)
    {f22 : Addr} {od22 an22 : Option Addr} {sl22 : Array (Option Value)} {oc22 kV22 dc22 pm22 cd22 ct22 : Value} (a22 : PySem.W.nsIn K mainGlobals "_law_hours" = some (some (.ref f22))) (l22 : K.lookup f22 = some ⟨oc22, od22, .func (PySem.W.fnOf "_law_hours" "_law_hours" (defArgs s_law_hours) (defBody s_law_hours) (defScope s_law_hours) .none kV22 dc22 pm22 an22 cd22 ct22), sl22⟩) (c22 : PySem.W.codeIn K cd22 "_law_hours" = true) (k22 : PySem.W.keepIn K (.ref f22) = true)
    {f23 : Addr} {od23 an23 : Option Addr} {sl23 : Array (Option Value)} {oc23 kV23 dc23 pm23 cd23 ct23 : Value} (a23 : PySem.W.nsIn K mainGlobals "_law_house" = some (some (.ref f23))) (l23 : K.lookup f23 = some ⟨oc23, od23, .func (PySem.W.fnOf "_law_house" "_law_house" (defArgs s_law_house) (defBody s_law_house) (defScope s_law_house) .none kV23 dc23 pm23 an23 cd23 ct23), sl23⟩) (c23 : PySem.W.codeIn K cd23 "_law_house" = true) (k23 : PySem.W.keepIn K (.ref f23) = true)
    {f24 : Addr} {od24 an24 : Option Addr} {sl24 : Array (Option Value)} {oc24 kV24 dc24 pm24 cd24 ct24 : Value} (a24 : PySem.W.nsIn K mainGlobals "_law_come" = some (some (.ref f24))) (l24 : K.lookup f24 = some ⟨oc24, od24, .func (PySem.W.fnOf "_law_come" "_law_come" (defArgs s_law_come) (defBody s_law_come) (defScope s_law_come) .none kV24 dc24 pm24 an24 cd24 ct24), sl24⟩) (c24 : PySem.W.codeIn K cd24 "_law_come" = true) (k24 : PySem.W.keepIn K (.ref f24) = true)
    {f25 : Addr} {od25 an25 : Option Addr} {sl25 : Array (Option Value)} {oc25 kV25 dc25 pm25 cd25 ct25 : Value} (a25 : PySem.W.nsIn K mainGlobals "_law_same" = some (some (.ref f25))) (l25 : K.lookup f25 = some ⟨oc25, od25, .func (PySem.W.fnOf "_law_same" "_law_same" (defArgs s_law_same) (defBody s_law_same) (defScope s_law_same) .none kV25 dc25 pm25 an25 cd25 ct25), sl25⟩) (c25 : PySem.W.codeIn K cd25 "_law_same" = true) (k25 : PySem.W.keepIn K (.ref f25) = true)
    {f26 : Addr} {od26 an26 : Option Addr} {sl26 : Array (Option Value)} {oc26 kV26 dc26 pm26 cd26 ct26 : Value} (a26 : PySem.W.nsIn K mainGlobals "law" = some (some (.ref f26))) (l26 : K.lookup f26 = some ⟨oc26, od26, .func (PySem.W.fnOf "law" "law" (defArgs s_law) (defBody s_law) (defScope s_law) .none kV26 dc26 pm26 an26 cd26 ct26), sl26⟩) (c26 : PySem.W.codeIn K cd26 "law" = true) (k26 : PySem.W.keepIn K (.ref f26) = true)
    (z_bool : PySem.W.nsIn K mainGlobals "bool" = some none)
    (z_dict : PySem.W.nsIn K mainGlobals "dict" = some none)
    (z_int : PySem.W.nsIn K mainGlobals "int" = some none)
    (z_isinstance : PySem.W.nsIn K mainGlobals "isinstance" = some none)
    (z_len : PySem.W.nsIn K mainGlobals "len" = some none)
    (z_list : PySem.W.nsIn K mainGlobals "list" = some none)
    (z_range : PySem.W.nsIn K mainGlobals "range" = some none)
    (z_reversed : PySem.W.nsIn K mainGlobals "reversed" = some none)
    (z_tuple : PySem.W.nsIn K mainGlobals "tuple" = some none)
    (z_zip : PySem.W.nsIn K mainGlobals "zip" = some none)
    (c_CODE_END : @Con ⟨w⟩ K mg "CODE_END" c_CODE_END)
    (c_HEARD : @Con ⟨w⟩ K mg "HEARD" c_HEARD)
    (c_WAIT : @Con ⟨w⟩ K mg "WAIT" c_WAIT)
    : ∃ fd : FuncData, (∀ (s : Shared) (v : Value), BindsTo s fd ⟨[v], []⟩ [("_law_script", v)]) ∧ ∀ base : Heap, K.In base → base.Ns mainGlobals mg → FnOk l.prog w K mg base CX0 9 fa fd ["_law_script"] (@spP ⟨w⟩ K 1 f_law) := by
  have e := hfa.symm.trans (PySem.W.mg_of X G a26)
  cases e
  have T : Txt w K mg := ⟨PySem.W.mg_none_of X G z_bool, PySem.W.mg_none_of X G z_dict, PySem.W.mg_none_of X G z_int, PySem.W.mg_none_of X G z_isinstance, PySem.W.mg_none_of X G z_len, PySem.W.mg_none_of X G z_list, PySem.W.mg_none_of X G z_range, PySem.W.mg_none_of X G z_reversed, PySem.W.mg_none_of X G z_tuple, PySem.W.mg_none_of X G z_zip, c_CODE_END, c_HEARD, c_WAIT⟩
  have F0 := fun_mk (st := s_handed) l0 c0 k0
  have b0 := F0.binds (ps := ["room", "hour"]) fun _ _ _ _ _ _ us hl => match us, hl with | [_, _], _ => rfl
  have F1 := fun_mk (st := s_come_to) l1 c1 k1
  have b1 := F1.binds (ps := ["H", "hour", "name"]) fun _ _ _ _ _ _ us hl => match us, hl with | [_, _, _], _ => rfl
  have F2 := fun_mk (st := s_key_of) l2 c2 k2
  have b2 := F2.binds (ps := ["letters", "letter"]) fun _ _ _ _ _ _ us hl => match us, hl with | [_, _], _ => rfl
  have F3 := fun_mk (st := s_code_of) l3 c3 k3
  have b3 := F3.binds (ps := ["letters", "word"]) fun _ _ _ _ _ _ us hl => match us, hl with | [_, _], _ => rfl
  have F4 := fun_mk (st := s_beginning_counts) l4 c4 k4
  have b4 := F4.binds (ps := ["codes"]) fun _ _ _ _ _ _ us hl => match us, hl with | [_], _ => rfl
  have F5 := fun_mk (st := s_own_beginning) l5 c5 k5
  have b5 := F5.binds (ps := ["code", "counts"]) fun _ _ _ _ _ _ us hl => match us, hl with | [_, _], _ => rfl
  have F6 := fun_mk (st := s_beginnings) l6 c6 k6
  have b6 := F6.binds (ps := ["letters", "words"]) fun _ _ _ _ _ _ us hl => match us, hl with | [_, _], _ => rfl
  have F7 := fun_mk (st := s_arrival) l7 c7 k7
  have b7 := F7.binds (ps := ["H", "hour", "name", "back"]) fun _ _ _ _ _ _ us hl => match us, hl with | [_, _, _, _], _ => rfl
  have F8 := fun_mk (st := s_begin) l8 c8 k8
  have b8 := F8.binds (ps := ["H", "hour"]) fun _ _ _ _ _ _ us hl => match us, hl with | [_, _], _ => rfl
  have F9 := fun_mk (st := s_names_ways) l9 c9 k9
  have b9 := F9.binds (ps := ["letters", "names"]) fun _ _ _ _ _ _ us hl => match us, hl with | [_, _], _ => rfl
  have F10 := fun_mk (st := s_room_ways) l10 c10 k10
  have b10 := F10.binds (ps := ["H", "name"]) fun _ _ _ _ _ _ us hl => match us, hl with | [_, _], _ => rfl
  have F11 := fun_mk (st := s_house_ways) l11 c11 k11
  have b11 := F11.binds (ps := ["H"]) fun _ _ _ _ _ _ us hl => match us, hl with | [_], _ => rfl
  have F12 := fun_mk (st := s_by_wrong_key) l12 c12 k12
  have b12 := F12.binds (ps := ["H", "hour", "state"]) fun _ _ _ _ _ _ us hl => match us, hl with | [_, _, _], _ => rfl
  have F13 := fun_mk (st := s_by_key) l13 c13 k13
  have b13 := F13.binds (ps := ["H", "hour", "ways", "state", "key"]) fun _ _ _ _ _ _ us hl => match us, hl with | [_, _, _, _, _], _ => rfl
  have F14 := fun_mk (st := s_by_wait) l14 c14 k14
  have b14 := F14.binds (ps := ["H", "hour", "state"]) fun _ _ _ _ _ _ us hl => match us, hl with | [_, _, _], _ => rfl
  have F15 := fun_mk (st := s_follow) l15 c15 k15
  have b15 := F15.binds (ps := ["H", "hour", "ways", "state", "sign"]) fun _ _ _ _ _ _ us hl => match us, hl with | [_, _, _, _, _], _ => rfl
  have F16 := fun_mk (st := s_walk_on) l16 c16 k16
  have b16 := F16.binds (ps := ["H", "hour", "state", "row"]) fun _ _ _ _ _ _ us hl => match us, hl with | [_, _, _, _], _ => rfl
  have F17 := fun_mk (st := s_walk) l17 c17 k17
  have b17 := F17.binds (ps := ["H", "hour", "row"]) fun _ _ _ _ _ _ us hl => match us, hl with | [_, _, _], _ => rfl
  have F18 := fun_mk (st := s_heard) l18 c18 k18
  have b18 := F18.binds (ps := ["H", "state"]) fun _ _ _ _ _ _ us hl => match us, hl with | [_, _], _ => rfl
  have F19 := fun_mk (st := s_law_cell_at) l19 c19 k19
  have b19 := F19.binds (ps := ["_law_script", "_law_k"]) fun _ _ _ _ _ _ us hl => match us, hl with | [_, _], _ => rfl
  have F20 := fun_mk (st := s_law_numbers) l20 c20 k20
  have b20 := F20.binds (ps := ["_law_cell", "_law_many"]) fun _ _ _ _ _ _ us hl => match us, hl with | [_, _], _ => rfl
  have F21 := fun_mk (st := s_law_names) l21 c21 k21
  have b21 := F21.binds (ps := ["_law_cell"]) fun _ _ _ _ _ _ us hl => match us, hl with | [_], _ => rfl
  have F22 := fun_mk (st := s_law_hours) l22 c22 k22
  have b22 := F22.binds (ps := ["_law_targets", "_law_cell"]) fun _ _ _ _ _ _ us hl => match us, hl with | [_, _], _ => rfl
  have F23 := fun_mk (st := s_law_house) l23 c23 k23
  have b23 := F23.binds (ps := ["_law_cells"]) fun _ _ _ _ _ _ us hl => match us, hl with | [_], _ => rfl
  have F24 := fun_mk (st := s_law_come) l24 c24 k24
  have b24 := F24.binds (ps := ["_law_house_here", "_law_hour", "_law_name"]) fun _ _ _ _ _ _ us hl => match us, hl with | [_, _, _], _ => rfl
  have F25 := fun_mk (st := s_law_same) l25 c25 k25
  have b25 := F25.binds (ps := ["_law_state", "_law_due"]) fun _ _ _ _ _ _ us hl => match us, hl with | [_, _], _ => rfl
  have F26 := fun_mk (st := s_law) l26 c26 k26
  refine ⟨PySem.W.fnOf "law" "law" (defArgs s_law) (defBody s_law) (defScope s_law) .none kV26 dc26 pm26 an26 cd26 ct26, fun s v => .of_eq rfl, fun base _ _ => ?_⟩
  have p_handed := pf_handed (P := l.prog) (base := base) T F0 (PySem.W.mg_of X G a0) b0
  have p_come_to := pf_come_to (P := l.prog) (base := base) T F1 (PySem.W.mg_of X G a1) b1 p_handed
  have p_key_of := pf_key_of (P := l.prog) (base := base) T F2 (PySem.W.mg_of X G a2) b2
  have p_code_of := pf_code_of (P := l.prog) (base := base) T F3 (PySem.W.mg_of X G a3) b3 p_key_of
  have p_beginning_counts := pf_beginning_counts (P := l.prog) (base := base) T F4 (PySem.W.mg_of X G a4) b4
  have p_own_beginning := pf_own_beginning (P := l.prog) (base := base) T F5 (PySem.W.mg_of X G a5) b5
  have p_beginnings := pf_beginnings (P := l.prog) (base := base) T F6 (PySem.W.mg_of X G a6) b6 p_code_of p_beginning_counts p_own_beginning
  have p_arrival := pf_arrival (P := l.prog) (base := base) T F7 (PySem.W.mg_of X G a7) b7 p_come_to
  have p_begin := pf_begin (P := l.prog) (base := base) T F8 (PySem.W.mg_of X G a8) b8 p_arrival
  have p_names_ways := pf_names_ways (P := l.prog) (base := base) T F9 (PySem.W.mg_of X G a9) b9 p_beginnings
  have p_room_ways := pf_room_ways (P := l.prog) (base := base) T F10 (PySem.W.mg_of X G a10) b10 p_names_ways
  have p_house_ways := pf_house_ways (P := l.prog) (base := base) T F11 (PySem.W.mg_of X G a11) b11 p_room_ways
  have p_by_wrong_key := pf_by_wrong_key (P := l.prog) (base := base) T F12 (PySem.W.mg_of X G a12) b12 p_arrival
  have p_by_key := pf_by_key (P := l.prog) (base := base) T F13 (PySem.W.mg_of X G a13) b13 p_by_wrong_key p_arrival
  have p_by_wait := pf_by_wait (P := l.prog) (base := base) T F14 (PySem.W.mg_of X G a14) b14 p_arrival
  have p_follow := pf_follow (P := l.prog) (base := base) T F15 (PySem.W.mg_of X G a15) b15 p_by_wait p_by_key
  have p_walk_on := pf_walk_on (P := l.prog) (base := base) T F16 (PySem.W.mg_of X G a16) b16 p_house_ways p_follow
  have p_walk := pf_walk (P := l.prog) (base := base) T F17 (PySem.W.mg_of X G a17) b17 p_walk_on p_begin
  have p_heard := pf_heard (P := l.prog) (base := base) T F18 (PySem.W.mg_of X G a18) b18
  have p_law_cell_at := pf_law_cell_at (P := l.prog) (base := base) T F19 (PySem.W.mg_of X G a19) b19
  have p_law_numbers := pf_law_numbers (P := l.prog) (base := base) T F20 (PySem.W.mg_of X G a20) b20
  have p_law_names := pf_law_names (P := l.prog) (base := base) T F21 (PySem.W.mg_of X G a21) b21 p_law_numbers
  have p_law_hours := pf_law_hours (P := l.prog) (base := base) T F22 (PySem.W.mg_of X G a22) b22 p_law_numbers
  have p_law_house := pf_law_house (P := l.prog) (base := base) T F23 (PySem.W.mg_of X G a23) b23 p_law_names p_law_cell_at p_law_numbers p_law_hours
  have p_law_come := pf_law_come (P := l.prog) (base := base) T F24 (PySem.W.mg_of X G a24) b24
  have p_law_same := pf_law_same (P := l.prog) (base := base) T F25 (PySem.W.mg_of X G a25) b25
  exact ok_law T F26 p_law_house p_law_come p_law_same p_begin p_walk p_heard
theorem walk {l : PySem.W.OpenLaw} {q : Program} {loose : List Str} {XP : (Str → Option Value) → Heap → Prop} {YP : World → Heap → Prop} {d : DefRec} {K : Params → PySem.W.Frag} (hn : l.most = some 63) (hdf : d.params.defaults = [])
    (hY : ∀ (w : World) (h : Heap), YP w h → (K w.params).In h)
    (F : ∀ (w : World) (mg : Str → Option Value) (fa : Addr) (h : Heap), (K w.params).In h → h.Ns mainGlobals mg → mg d.name = some (.ref fa) →
      ∃ fd : FuncData, (∀ (s : Shared) (u : Value), BindsTo s fd ⟨[u], []⟩ [("_law_script", u)]) ∧ ∀ base : Heap, (K w.params).In base → base.Ns mainGlobals mg → FnOk l.prog w (K w.params) mg base CX0 9 fa fd ["_law_script"] (@spP ⟨w⟩ (K w.params) 1 f_law)) :
    PySem.W.WalkO q loose XP YP l.row.toRowW d [] (fun f vs => PySem.call f vs) :=
  L2.walk_ofF (n := 63) (k := 9) (x := "_law_script") (CX := fun _ => CX0) (sp := fun w => @spP ⟨w⟩ (K w.params) 1 f_law) hn (by decide) hdf ⟨rfl, by decide, by decide⟩ hY F
    (fun w _ a ns hl _ hS => letI : TW := ⟨w⟩; ⟨rfl, _, _, script_rep hS, law_true ns, fun v _ _ r => r⟩) fun _ _ _ _ _ z => z
end K21
end
open PySem PySem.W PyProof.Rows
set_option maxRecDepth 100000 in
set_option maxHeartbeats 0 in
theorem PySem.Challenge.cw_menutree_k21_calls_begin_holds : PySem.Challenge.rw_menutree_k21_calls_begin.Holds := by
  w_on; o_law; k_head; (case hw => w_witness2)
  k_fill
  refine K21.walk (l := PySem.Challenge.rw_menutree_k21_calls_begin) rfl rfl (fun w h Y => PySem.W.kIn_of Y) ?F
  case F =>
    intro w mg fa h KX G hmg
    refine' K21.all_mk KX G hmg ?a0 ?l0 ?c0 ?k0 ?a1 ?l1 ?c1 ?k1 ?a2 ?l2 ?c2 ?k2 ?a3 ?l3 ?c3 ?k3 ?a4 ?l4 ?c4 ?k4 ?a5 ?l5 ?c5 ?k5 ?a6 ?l6 ?c6 ?k6 ?a7 ?l7 ?c7 ?k7 ?a8 ?l8 ?c8 ?k8 ?a9 ?l9 ?c9 ?k9 ?a10 ?l10 ?c10 ?k10 ?a11 ?l11 ?c11 ?k11 ?a12 ?l12 ?c12 ?k12 ?a13 ?l13 ?c13 ?k13 ?a14 ?l14 ?c14 ?k14 ?a15 ?l15 ?c15 ?k15 ?a16 ?l16 ?c16 ?k16 ?a17 ?l17 ?c17 ?k17 ?a18 ?l18 ?c18 ?k18 ?a19 ?l19 ?c19 ?k19 ?a20 ?l20 ?c20 ?k20 ?a21 ?l21 ?c21 ?k21 ?a22 ?l22 ?c22 ?k22 ?a23 ?l23 ?c23 ?k23 ?a24 ?l24 ?c24 ?k24 ?a25 ?l25 ?c25 ?k25 ?a26 ?l26 ?c26 ?k26 ?z_bool ?z_dict ?z_int ?z_isinstance ?z_len ?z_list ?z_range ?z_reversed ?z_tuple ?z_zip ?q_CODE_END ?q_HEARD ?q_WAIT
    (case a0 => k_is)
    (case l0 => k_is)
    (case c0 => k_is)
    (case k0 => k_is)
    (case a1 => k_is)
    (case l1 => k_is)
    (case c1 => k_is)
    (case k1 => k_is)
    (case a2 => k_is)
    (case l2 => k_is)
    (case c2 => k_is)
    (case k2 => k_is)
    (case a3 => k_is)
    (case l3 => k_is)
    (case c3 => k_is)
    (case k3 => k_is)
    (case a4 => k_is)
    (case l4 => k_is)
    (case c4 => k_is)
    (case k4 => k_is)
    (case a5 => k_is)
    (case l5 => k_is)
    (case c5 => k_is)
    (case k5 => k_is)
    (case a6 => k_is)
    (case l6 => k_is)
    (case c6 => k_is)
    (case k6 => k_is)
    (case a7 => k_is)
    (case l7 => k_is)
    (case c7 => k_is)
    (case k7 => k_is)
    (case a8 => k_is)
    (case l8 => k_is)
    (case c8 => k_is)
    (case k8 => k_is)
    (case a9 => k_is)
    (case l9 => k_is)
    (case c9 => k_is)
    (case k9 => k_is)
    (case a10 => k_is)
    (case l10 => k_is)
    (case c10 => k_is)
    (case k10 => k_is)
    (case a11 => k_is)
    (case l11 => k_is)
    (case c11 => k_is)
    (case k11 => k_is)
    (case a12 => k_is)
    (case l12 => k_is)
    (case c12 => k_is)
    (case k12 => k_is)
    (case a13 => k_is)
    (case l13 => k_is)
    (case c13 => k_is)
    (case k13 => k_is)
    (case a14 => k_is)
    (case l14 => k_is)
    (case c14 => k_is)
    (case k14 => k_is)
    (case a15 => k_is)
    (case l15 => k_is)
    (case c15 => k_is)
    (case k15 => k_is)
    (case a16 => k_is)
    (case l16 => k_is)
    (case c16 => k_is)
    (case k16 => k_is)
    (case a17 => k_is)
    (case l17 => k_is)
    (case c17 => k_is)
    (case k17 => k_is)
    (case a18 => k_is)
    (case l18 => k_is)
    (case c18 => k_is)
    (case k18 => k_is)
    (case a19 => k_is)
    (case l19 => k_is)
    (case c19 => k_is)
    (case k19 => k_is)
    (case a20 => k_is)
    (case l20 => k_is)
    (case c20 => k_is)
    (case k20 => k_is)
    (case a21 => k_is)
    (case l21 => k_is)
    (case c21 => k_is)
    (case k21 => k_is)
    (case a22 => k_is)
    (case l22 => k_is)
    (case c22 => k_is)
    (case k22 => k_is)
    (case a23 => k_is)
    (case l23 => k_is)
    (case c23 => k_is)
    (case k23 => k_is)
    (case a24 => k_is)
    (case l24 => k_is)
    (case c24 => k_is)
    (case k24 => k_is)
    (case a25 => k_is)
    (case l25 => k_is)
    (case c25 => k_is)
    (case k25 => k_is)
    (case a26 => k_is)
    (case l26 => k_is)
    (case c26 => k_is)
    (case k26 => k_is)
    (case z_bool => k_is)
    (case z_dict => k_is)
    (case z_int => k_is)
    (case z_isinstance => k_is)
    (case z_len => k_is)
    (case z_list => k_is)
    (case z_range => k_is)
    (case z_reversed => k_is)
    (case z_tuple => k_is)
    (case z_zip => k_is)
    (case q_CODE_END => (refine' PU.con_str KX G ?n1; (case n1 => k_is)))
    (case q_HEARD => (refine' PU.con_dct [(Str.ofString "menu", _, _), (Str.ofString "names", _, _), (Str.ofString "hand", _, _), (Str.ofString "end", _, _)] (xs := [.str (Str.ofString "asked"), .str (Str.ofString "asked"), .str (Str.ofString "hand"), .str (Str.ofString "end")]) KX G ?n1 ?n2 ?n3 ?n4 ?n5 ?n6 ?n7 ?n8; (case n1 => k_is); (case n2 => k_is); (case n3 => exact rfl); (case n4 => decide); (case n5 => decide +kernel); (case n6 => show 4 ≤ sizeLine; decide); (case n7 => exact .cons ⟨_, rfl⟩ (.cons ⟨_, rfl⟩ (.cons ⟨_, rfl⟩ (.cons ⟨_, rfl⟩ (.nil))))); (case n8 => intro H; exact ⟨_, _, rfl, rfl, _, _, rfl, rfl, _, _, rfl, rfl, _, _, rfl, rfl, rfl⟩)))
    (case q_WAIT => (refine' PU.con_str KX G ?n1; (case n1 => k_is)))
