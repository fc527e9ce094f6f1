import PyProof.Rows.All
import Wide.All
import OpenK.AllK
import Wide.FinOn
import Lean
import PyProof.EqAt
import PyProof.EqKinds
import PyProof.TupleCall
import PyProof.ZipIter
import PyProof.Rows.SetFrom
import PyProof.Rows.SortStr
import KE.KDictList
import PyProof.AttrMissHeap
import KE.KDictOf
import KE.KDictLaws
import KE.KRevIter
import PyProof.CollectIter
import PyProof.FactsAll.range_2
import PyProof.FactsAll.range_iterator_1
import PyProof.WalksEnum
import PyProof.EnumMake
import PyProof.Rows.Range3
import PySem.Challenge.RW_slackchain_k23_least_sums_reached
set_option Elab.async false
set_option linter.all false
set_option maxRecDepth 100000
namespace L2
open PySem PySem.Spec PyProof.Rows
abbrev Key:=Sum Bool Str
def isBoolOf:Bool→Value→Bool
 | b, .bool c => b == c
 | _,_ => false
theorem Jc0 {b:Bool} {v:Value} (h:isBoolOf b v = true):v = .bool b:=by
 cases v <;> simp_all [isBoolOf]
def keyIs:Key→Value→Bool
 | .inl k,v => isBoolOf k v
 | .inr x,v => Value.isStrOf x v
def keyH (w:World):Key→Int
 | .inl k => hashInt (if k then 1 else 0)
 | .inr x => hashStr w x
theorem JaG:∀ {k:Key} {v:Value},keyIs k v = true→(∃ i,k = Sum.inl i∧v = Value.bool i) ∨ (∃ x t,k = Sum.inr x∧v = Value.str x t)
 | .inl i,v,h => .inl ⟨i,rfl,Jc0 h⟩
 | .inr x,v,h => by
  obtain ⟨t,e⟩:=Value.isStrOf_shape (x:=x) (v:=v) h
  exact .inr ⟨x,t,rfl,e⟩
theorem Jft (i:Bool):keyIs (.inl i) (.bool i) = true:=by simp [keyIs,isBoolOf]
theorem Jga (x:Str) (t:Tok):keyIs (.inr x) (.str x t) = true:=by simp [keyIs,Value.isStrOf]
theorem JiO (a b:Bool):decide ((Sum.inl a:Key) = Sum.inl b) = (a == b):=by cases a <;> cases b <;> rfl
theorem JiR (a b:Str):decide ((Sum.inr a:Key) = Sum.inr b) = decide (a = b):=by
 by_cases e:a = b
 ·subst e; simp
 ·have h:¬ (Sum.inr a:Key) = Sum.inr b:=fun q => e (Sum.inr.inj q)
  rw [decide_eq_false h,decide_eq_false e]
theorem JiP (a:Bool) (b:Str):decide ((Sum.inl a:Key) = Sum.inr b) = false:=decide_eq_false (fun q => nomatch q)
theorem JiQ (a:Str) (b:Bool):decide ((Sum.inr a:Key) = Sum.inl b) = false:=decide_eq_false (fun q => nomatch q)
theorem JeP {prog:Program} {w:World} {A:Around} {E:Value→Shared→Prop} {s:Shared} {b:Bool} {Q:Int→Shared→Prop} (h:Q (hashInt (if b then 1 else 0)) { s with toks:=s.toks + 1 }) :
  wpAny (model prog w) A (pyHash (.bool b)) Q E s:=by
 have hr:=rawHash_range (if b then 1 else 0)
 have hT:s.TypeIs (.bool b) "bool":=rfl
 unfold pyHash
 have hv:[Value.bool b].any Value.onHeap = false:=rfl
 refine wpAny_bind ?_
 rw [cRoomFor,if_neg (by rw [hv]; exact Bool.false_ne_true)]; refine wpAny_pure ?_
 refine wpAny_bind (wpAny_specialOf hT F.slot_bool_hash.lookup ?_)
 show wpAny _ _ (if (some (Value.builtin "int.__hash__") == some Value.none) = true then _ else _) Q E s
 rw [if_neg (by rw [beq_builtin_none]; exact Bool.false_ne_true)]
 refine wpAny_bind (wpAny_specialOf hT F.slot_bool_hash.lookup ?_)
 show wpAny _ _ (callSpecialIfBoundUnlessNone? (.bool b) "__hash__" _ >>= _) Q E s
 refine wpAny_bind (wpAny_callSpecialIfBoundUnlessNone?_slot hT F.slot_bool_hash
  (wpAny_call_entry F.slot_bool_hash hT entry_int_hash
   (show wpAny _ _ (do ret (← mkInt (rawHash (if b then 1 else 0)))) _ _ s from wpAny_ret_mkInt ?_) (args_int_hash _)))
 show wpAny _ _ (if (decide (-(2:Int) ^ 63 ≤ rawHash (if b then 1 else 0)) && decide (rawHash (if b then 1 else 0) < 2 ^ 63)) = true then _ else _) Q E _
 rw [if_pos (by rw [decide_eq_true hr.1,decide_eq_true hr.2]; rfl)]
 exact wpAny_pure h
def JaS (prog:Program) (w:World):PySem.KeyKind prog w Key where
 is:=keyIs
 hash:=keyH w
 inj:=fun v a b ha hb => by
  rcases JaG ha with ⟨i,rfl,rfl⟩ | ⟨x,t,rfl,rfl⟩
  ·rcases JaG hb with ⟨j,rfl,e⟩ | ⟨y,u,rfl,e⟩
   ·injection e with e1; rw [e1]
   ·exact nomatch e
  ·rcases JaG hb with ⟨j,rfl,e⟩ | ⟨y,u,rfl,e⟩
   ·exact nomatch e
   ·injection e with e1 _; rw [e1]
 byValue:=fun k v h => by
  rcases JaG h with ⟨i,rfl,rfl⟩ | ⟨x,t,rfl,rfl⟩ <;> rfl
 pyHash:=fun hv h => by
  rcases JaG hv with ⟨i,rfl,rfl⟩ | ⟨x,t,rfl,rfl⟩
  ·exact JeP h
  ·exact wpAny_pyHash_str h
 eqBool:=fun hu hv h => by
  rcases JaG hu with ⟨i,rfl,rfl⟩ | ⟨x,t,rfl,rfl⟩
  ·rcases JaG hv with ⟨j,rfl,rfl⟩ | ⟨y,u,rfl,rfl⟩
   ·rw [JiO] at h; exact SeqAt.EqAt.bool_bool i j _ _ _ _ h
   ·rw [JiP] at h; exact SeqAt.EqAt.bool_str i y u _ _ _ _ h
  ·rcases JaG hv with ⟨j,rfl,rfl⟩ | ⟨y,u,rfl,rfl⟩
   ·rw [JiQ] at h; exact SeqAt.EqAt.str_bool x t j _ _ _ _ h
   ·rw [JiR] at h; exact wpAny_eqBool_str h
 «strs»:=fun k x t v h => by
  rcases JaG h with ⟨i,rfl,e⟩ | ⟨y,u,rfl,e⟩
  ·exact nomatch e
  ·injection e with e1 _
   subst e1
   cases v <;> rfl
theorem Jd4 (prog:Program) (w:World) (i:Bool):(JaS prog w).is (.inl i) (.bool i) = true:=Jft i
theorem JeE (prog:Program) (w:World) (x:Str) (t:Tok):(JaS prog w).is (.inr x) (.str x t) = true:=Jga x t
end L2
namespace L2
open PySem PySem.Spec PyProof.Rows
inductive V where
 | non | bl (b:Bool) | int (i:Int) | str (x:Str) | byt (b:Array UInt8) | flt (b:UInt64) | ref (a:Addr) | ty (n:String)
 deriving DecidableEq
def RelV:V→Value→Prop
 | .non,u => u = Value.none
 | .bl b,u => u = Value.bool b
 | .int i,u => ∃ t,u = Value.int i t
 | .str x,u => ∃ t,u = Value.str x t
 | .byt b,u => ∃ t,u = Value.bytes b t
 | .flt b,u => ∃ t,u = Value.float b t
 | .ref a,u => u = Value.ref a
 | .ty n,u => u = Value.type n
abbrev Vals:List V→List Value→Prop:=Paired RelV
theorem Vals.length {xs:List V} {us:List Value} (r:Vals xs us):xs.length = us.length:=Paired.length r
theorem Vals.get:∀ {xs:List V} {us:List Value} {i:Nat} {x:V},Vals xs us→xs[i]? = some x→∃ u,us[i]? = some u∧RelV x u
 | _,_,_,_, .nil,e => by simp at e
 | _,_,0,_, .cons r _,e => by simp at e; subst e; exact ⟨_,rfl,r⟩
 | _,_,i + 1,x, .cons _ t,e => by
  obtain ⟨u,h1,h2⟩:=Vals.get (i:=i) (x:=x) t (by simpa using e)
  exact ⟨u,by simpa using h1,h2⟩
theorem Vals.append:∀ {xs ys:List V} {us ws:List Value},Vals xs us→Vals ys ws→Vals (xs ++ ys) (us ++ ws)
 | _,_,_,_, .nil,s => s
 | _,_,_,_, .cons r t,s => .cons r (Vals.append t s)
def RelO:Option V→Option Value→Prop
 | some v,some u => RelV v u
 | none,none => True
 | _,_ => False
def KV {κ : Type}:List (κ × V)→List (κ × Value)→Prop:=Paired fun (p : κ × V) (q : κ × Value) => p.1 = q.1∧RelV p.2 q.2
def kV:Key→V
 | .inl i => .bl i
 | .inr x => .str x
inductive HO where
 | lst (xs:List V)
 | tup (xs:List V)
 | dK (kvs:List (Key × V)) | dT (kvs:List (List Key × V))
 | set (S:Int→Bool) (n:Nat)
 | ins (C dx:Addr) (fs:List (Str × V))
 | own (x:Addr)
 | xd (fs:List (Str × V))
 | met (f x:Addr)
 | rng (lo hi:Int)
 | frz (o:Obj) (u:HO)
 | tbl (ps:Array Value)
 | ext (φ : Heap→Prop)
abbrev Hp:=Addr→Option HO
def upd (H:Hp) (a:Addr) (o:HO):Hp:=fun b => if b = a then some o else H b
theorem Jap {H:Hp} {a:Addr} {o:HO}:upd H a o a = some o:=by unfold upd; rw [if_pos rfl]
theorem Jag {H:Hp} {a b:Addr} {o:HO} (h:b ≠ a):upd H a o b = H b:=by unfold upd; rw [if_neg h]
theorem ne_of {H:Hp} {a b:Addr} {o u:HO} (h:H a = some o) (h':H b = some u) (d:o ≠ u):a ≠ b:=by
 intro e; subst e; rw [h] at h'; exact d (Option.some.inj h')
theorem Jac {H:Hp} {a b:Addr} {o:HO} (h:H a = some o) (h':H b = none):a ≠ b:=by
 intro e; subst e; rw [h] at h'; cases h'
section
variable (P:Program) (w:World)
def ObjOk (H:Hp) (h:Heap) (a:Addr):HO→Prop
 | .lst xs => xs.length ≤ sizeLine∧∃ (its:List Value) (n:Nat),Vals xs its∧h.get? a = some { cls:=.type "list",data:=.seq its.toArray n }
 | .tup xs => xs.length ≤ sizeLine∧∃ its:List Value,Vals xs its∧IsTup h a its.toArray
 | .dK kvs => kvs.length ≤ sizeLine∧(a == sysModules) = false∧∃ vs,KV kvs vs∧h.DictOf (JaS P w) a vs
 | .dT kvs => kvs.length ≤ sizeLine∧(a == sysModules) = false∧∃ xs:List (List Key × Addr × Value),
   Paired (fun (p:List Key × V) (q:List Key × Addr × Value) => p.1 = q.1∧H q.2.1 = some (.tup (p.1.map kV))∧RelV p.2 q.2.2) kvs xs ∧
   ∃ o es ep,h.get? a = some o∧o.ExactDict∧o.data = .dict es ep∧es.toList = xs.map (entryOfKey (tupleKind (JaS P w)))∧(xs.map (·.1)).Nodup
 | .set S n => h.SetOf (intKind P w) a S n
 | .ins C dx fs => H dx = some (.own a)∧fs.length ≤ 1000∧dx ≠ a∧h.get? a = some (PySem.W.instObj C dx) ∧
   ∃ mA,h.Ns1 dx mA∧(∀ f,RelO (fs.lookup f) (mA f))∧PySem.Within mA (fs.map (·.1))
 | .own _ => ∃ o,h.get? a = some o
 | .xd fs => ∃ mA,h.Ns1 a mA∧∀ f,RelO (fs.lookup f) (mA f)
 | .rng lo hi => ∃ t u v,h.get? a = some { cls:=.type "range",data:=.fields #[.int lo t, .int hi u, .int 1 v] }
 | .frz o u => h.get? a = some o∧ObjOk H h a u
 | .tbl ps => h.get? a = some { cls:=.none,data:=.fields ps }
 | .met f x => h.get? a = some (PySem.W.methodObj (.ref f) (.ref x))
 | .ext φ => φ h∧(∃ o,h.get? a = some o)∧∀ h1 h2:Heap, φ h1→(∀ o,h1.get? a = some o→h2.get? a = some o)→φ h2
def HOk (H:Hp) (h:Heap):Prop:=∀ a o,H a = some o→ObjOk P w H h a o
end
section
variable {P:Program} {w:World} {H H':Hp} {h h':Heap} {a:Addr} {o:HO}
theorem ObjOk.lt (x:ObjOk P w H h a o):a < h.objs.size:=by
 cases o with
 | lst xs => obtain ⟨_,_,_,_,e⟩:=x; exact Heap.lt_size e
 | tup xs => obtain ⟨_,_,_,p⟩:=x; exact p.lt
 | dK kvs => obtain ⟨_,_,_,_,o,_,_,e,_⟩:=x; exact Heap.lt_size e
 | dT kvs => obtain ⟨_,_,_,_,o,_,_,e,_⟩:=x; exact Heap.lt_size e
 | set S n => obtain ⟨o,_,_,_,e,_⟩:=x; exact Heap.lt_size e
 | ins C dx fs => obtain ⟨_,_,_,e,_⟩:=x; exact Heap.lt_size e
 | own y => obtain ⟨_,e⟩:=x; exact Heap.lt_size e
 | xd fs => obtain ⟨_,⟨_,_,_,e,_⟩,_⟩:=x; exact Heap.lt_size e
 | rng lo hi => obtain ⟨_,_,_,e⟩:=x; exact Heap.lt_size e
 | frz ob u => obtain ⟨e,_⟩:=x; exact Heap.lt_size e
 | tbl ps => exact Heap.lt_size (show h.get? a = some _ from x)
 | met f y => exact Heap.lt_size (show h.get? a = some _ from x)
 | ext φ => obtain ⟨_,⟨_,e⟩,_⟩:=x; exact Heap.lt_size e
theorem Paired.mapP {α β : Type} {F G : α→β→Prop}:∀ {l₁ : List α} {l₂ : List β},Paired F l₁ l₂→(∀ a b,F a b→G a b)→Paired G l₁ l₂
 | _,_, .nil,_ => .nil
 | _,_, .cons r t,f => .cons (f _ _ r) (Paired.mapP t f)
theorem ObjOk.stay (x:ObjOk P w H h a o) (k:∀ b u,(b = a ∨ H b = some (.own a))→h.get? b = some u→h'.get? b = some u)
  (ho:∀ b,H b = some (.own a)→H' b = some (.own a)) (ht:∀ b xs,H b = some (.tup xs)→H' b = some (.tup xs)):ObjOk P w H' h' a o:=by
 induction o with
 | lst xs => obtain ⟨z,its,n,r,e⟩:=x; exact ⟨z,its,n,r,k _ _ (.inl rfl) e⟩
 | tup xs => obtain ⟨z,its,r,ob,e,c⟩:=x; exact ⟨z,its,r,ob,k _ _ (.inl rfl) e,c⟩
 | dK kvs => obtain ⟨z,y,vs,r,ob,es,ep,e,c⟩:=x; exact ⟨z,y,vs,r,ob,es,ep,k _ _ (.inl rfl) e,c⟩
 | dT kvs =>
  obtain ⟨z,y,xs,r,ob,es,ep,e,c⟩:=x
  exact ⟨z,y,xs,Paired.mapP r fun p q z => ⟨z.1,ht _ _ z.2.1,z.2.2⟩,ob,es,ep,k _ _ (.inl rfl) e,c⟩
 | set S n => obtain ⟨ob,es,ep,t,e,c⟩:=x; exact ⟨ob,es,ep,t,k _ _ (.inl rfl) e,c⟩
 | ins C dx fs =>
  obtain ⟨d,z,ne,e,mA,⟨od,es,ep,e2,c⟩,r⟩:=x
  exact ⟨ho _ d,z,ne,k _ _ (.inl rfl) e,mA,⟨od,es,ep,k _ _ (.inr d) e2,c⟩,r⟩
 | own y => obtain ⟨ob,e⟩:=x; exact ⟨ob,k _ _ (.inl rfl) e⟩
 | xd fs => obtain ⟨mA,⟨od,es,ep,e,c⟩,r⟩:=x; exact ⟨mA,⟨od,es,ep,k _ _ (.inl rfl) e,c⟩,r⟩
 | rng lo hi => obtain ⟨t,u,v,e⟩:=x; exact ⟨t,u,v,k _ _ (.inl rfl) e⟩
 | frz ob u ih => obtain ⟨e,q⟩:=x; exact ⟨k _ _ (.inl rfl) e,ih q⟩
 | tbl ps =>
  have e:h.get? a = some { cls:=.none,data:=.fields ps }:=x
  show h'.get? a = some { cls:=.none,data:=.fields ps }
  exact k a _ (.inl rfl) e
 | met f y =>
  have e:h.get? a = some (PySem.W.methodObj (.ref f) (.ref y)):=x
  show h'.get? a = some (PySem.W.methodObj (.ref f) (.ref y))
  exact k a _ (.inl rfl) e
 | ext φ => obtain ⟨p,⟨o,e⟩,st⟩:=x; exact ⟨st _ _ p fun o q => k _ _ (.inl rfl) q,⟨o,k _ _ (.inl rfl) e⟩,st⟩
theorem HOk.lt (x:HOk P w H h) (e:H a = some o):a < h.objs.size:=(x a o e).lt
theorem HOk.fresh (x:HOk P w H h) (e:h.objs.size ≤ a):H a = none:=by
 cases q:H a with
 | none => rfl
 | some u => exact absurd (Nat.lt_of_lt_of_le (x.lt q) e) (Nat.lt_irrefl _)
theorem HOk.kept (x:HOk P w H h) (k:∀ b u,h.get? b = some u→h'.get? b = some u):HOk P w H h':=fun a o e =>
 (x a o e).stay (fun b u _ q => k b u q) (fun _ q => q) fun _ _ q => q
theorem HOk.laid (x:HOk P w H h) (k:∀ b u,h.get? b = some u→h'.get? b = some u) (hp:h.objs.size ≤ a) (new:ObjOk P w (upd H a o) h' a o):HOk P w (upd H a o) h':=fun b u e => by
 have hn:=x.fresh hp
 by_cases hb:b = a
 ·subst hb; rw [Jap] at e; cases e; exact new
 ·rw [Jag hb] at e
  exact (x b u e).stay (fun c v _ q => k c v q) (fun c q => by rw [Jag (Jac q hn)]; exact q) fun c xs q => by rw [Jag (Jac q hn)]; exact q
end
def Rd (H:Hp) (a:Addr) (u:HO):Prop:=H a = some u ∨ ∃ o,H a = some (.frz o u)
theorem Rd.ok {P:Program} {w:World} {H:Hp} {h:Heap} {a:Addr} {u:HO} (r:Rd H a u) (x:HOk P w H h):ObjOk P w H h a u:=by
 rcases r with r | ⟨o,r⟩
 ·exact x a u r
 ·obtain ⟨_,q⟩:=x a _ r
  exact q
def Mut:Option HO→Prop
 | some (.lst _) => True
 | some (.dK _) => True
 | some (.dT _) => True
 | some (.set _ _) => True
 | some (.ins _ _ _) => True
 | some (.ext _) => True
 | _ => False
section
variable {P:Program} {w:World} {H:Hp} {h h':Heap} {x e:Addr} {o':HO}
theorem HOk.write (ok:HOk P w H h) (mu:Mut (H x)) (he:e = x ∨ H e = some (.own x)) (k:∀ b u,b ≠ e→h.get? b = some u→h'.get? b = some u) (heo:∃ u,h'.get? e = some u)
  (new:ObjOk P w (upd H x o') h' x o'):HOk P w (upd H x o') h':=fun b u q => by
 have nown:∀ c y,H c = some (.own y)→c ≠ x:=fun c y r z => by subst z; rw [r] at mu; exact mu
 have ntup:∀ c xs,H c = some (.tup xs)→c ≠ x:=fun c xs r z => by subst z; rw [r] at mu; exact mu
 by_cases hb:b = x
 ·subst hb; rw [Jap] at q; cases q; exact new
 ·rw [Jag hb] at q
  by_cases hbe:b = e
  ·have q':H b = some (.own x):=by
    rcases he with z | z
    ·exact absurd (hbe.trans z) hb
    ·rw [hbe]; exact z
   rw [q] at q'; cases q'
   obtain ⟨v,hv⟩:=heo
   exact ⟨v,by rw [hbe]; exact hv⟩
  ·refine (ok b u q).stay (fun c v hc r => k c v ?_ r) (fun c r => by rw [Jag (nown c b r)]; exact r) fun c xs r => by rw [Jag (ntup c xs r)]; exact r
   rcases hc with rfl | hc
   ·exact hbe
   ·rintro rfl
    rcases he with z | z
    ·exact nown c b hc z
    ·rw [hc] at z; cases z; exact hb rfl
end
structure Un (fs ex:List Addr) (H H':Hp) (h h':Heap):Prop where
 keep:∀ b o,h.get? b = some o→H b = none→b ∉ fs→b ∉ ex→h'.get? b = some o
 slot:∀ b o,h.get? b = some o→H b = none→b ∈ fs→b ∉ ex→∃ sl,h'.get? b = some { o with slots:=sl }
 free:∀ b o,h.get? b = some o→H b = none→b ∉ ex→H' b = none
 there:∀ b o,h.get? b = some o→b ∉ ex→∃ o',h'.get? b = some o'
 tups:∀ b xs,H b = some (.tup xs)→H' b = some (.tup xs)
 frzs:∀ b o u,H b = some (.frz o u)→H' b = some (.frz o u)
 tbls:∀ b ps,H b = some (.tbl ps)→∃ more,H' b = some (.tbl (ps ++ more))
section
variable {fs fs' ex ex':List Addr} {H H1 H2:Hp} {h h1 h2 h':Heap} {a x e:Addr} {o:HO}
theorem Un.any (u:Un fs ex H H1 h h1) {b:Addr} {ob:Obj} (q:h.get? b = some ob) (n:H b = none) (hx:b ∉ ex):∃ sl,h1.get? b = some { ob with slots:=sl }:=by
 by_cases hb:b ∈ fs
 ·exact u.slot b ob q n hb hx
 ·exact ⟨ob.slots,u.keep b ob q n hb hx⟩
theorem Un.kept (k:∀ b u,h.get? b = some u→h'.get? b = some u):Un fs ex H H h h' :=
 ⟨fun b ob q _ _ _ => k b ob q,fun b ob q _ _ _ => ⟨ob.slots,k b ob q⟩,fun _ _ _ n _ => n,fun b ob q _ => ⟨ob,k b ob q⟩,fun _ _ q => q,fun _ _ _ q => q,fun _ ps q => ⟨#[],by rw [q]; simp⟩⟩
theorem Un.refl:Un fs ex H H h h:=Un.kept fun _ _ q => q
theorem Un.laid (k:∀ b u,h.get? b = some u→h'.get? b = some u) (hp:h.objs.size ≤ a) (hn:H a = none):Un fs ex H (upd H a o) h h' where
 keep:=fun b u q _ _ _ => k b u q
 slot:=fun b u q _ _ _ => ⟨u.slots,k b u q⟩
 free:=fun b u q n _ => by rw [Jag (Nat.ne_of_lt (Nat.lt_of_lt_of_le (Heap.lt_size q) hp))]; exact n
 there:=fun b u q _ => ⟨u,k b u q⟩
 tups:=fun b xs q => by rw [Jag (Jac q hn)]; exact q
 frzs:=fun b u xs q => by rw [Jag (Jac q hn)]; exact q
 tbls:=fun b ps q => ⟨#[],by rw [Jag (Jac q hn),q]; simp⟩
theorem Un.write (mu:Mut (H x)) (he:e = x ∨ H e = some (.own x)) (k:∀ b u,b ≠ e→h.get? b = some u→h'.get? b = some u) (heo:∃ u,h'.get? e = some u):Un fs ex H (upd H x o) h h':=by
 have hx:∀ b,H b = none→b ≠ x:=fun b n z => by subst z; rw [n] at mu; exact mu
 have hb:∀ b,H b = none→b ≠ e:=fun b n z => by
  subst z
  rcases he with r | r
  ·exact hx b n r
  ·rw [n] at r; cases r
 have hm:∀ b u,H b = some u→¬ Mut (some u)→b ≠ x:=fun b u q nm z => by subst z; rw [q] at mu; exact nm mu
 refine ⟨fun b u q n _ _ => k b u (hb b n) q,fun b u q n _ _ => ⟨u.slots,k b u (hb b n) q⟩,fun b u q n _ => by rw [Jag (hx b n)]; exact n,fun b u q _ => ?_,
  fun b xs q => by rw [Jag (hm b _ q fun z => z)]; exact q,fun b u xs q => by rw [Jag (hm b _ q fun z => z)]; exact q,fun b ps q => ⟨#[],by rw [Jag (hm b _ q fun z => z),q]; simp⟩⟩
 by_cases hbe:b = e
 ·subst hbe; exact heo
 ·exact ⟨u,k b u hbe q⟩
end
def trk (h:Heap) (H:Hp):List Addr:=(List.range h.objs.size).filter fun a => (H a).isSome
def hidT (h:Heap) (H:Hp):Heap:=PySem.W.hideAll h (trk h H)
theorem Jf6 (h:Heap) (H:Hp):(hidT h H).objs.size = h.objs.size:=PySem.W.hideAll_size _ _
theorem Jg2 {h:Heap} {H:Hp} {b:Addr} {o:Obj} (e:h.get? b = some o) (n:H b = none):(hidT h H).get? b = some o :=
 PySem.W.hideAll_get _ e fun hm => by
  have q:(H b).isSome = true:=(List.mem_filter.mp hm).2
  rw [n] at q; simp at q
theorem Jib {h:Heap} {H:Hp} {b:Addr} {o:Obj} (e:(hidT h H).get? b = some o):h.get? b = some o∧H b = none:=by
 have e':h.get? b = some o:=PySem.W.of_hideAll (trk h H) e
 refine ⟨e', ?_⟩
 cases q:H b with
 | none => rfl
 | some x =>
  have hm:b ∈ trk h H:=List.mem_filter.mpr ⟨List.mem_range.mpr (Heap.lt_size e'),by simp [q]⟩
  have z:(hidT h H).get? b = none:=PySem.W.hideAll_none (trk h H) hm
  rw [z] at e; cases e
def JhQ (g h:Heap) (L:Addr):List (Addr × Obj):=(List.range h.objs.size).filterMap fun a => if a = L ∨ (g.get? a).isSome = true then none else (h.get? a).map fun o => (a,o)
def rest (g h:Heap) (L d:Addr):List (Addr × Obj):=(JhQ g h L).filter fun p => decide (p.1 ≠ d)
end L2
namespace L2
open PySem PySem.Spec PyProof.Rows
structure Mod (K:PySem.W.Frag) (mg:Str→Option Value) (base:Heap):Prop where
 kin:K.In base
 glob:base.Ns mainGlobals mg
 blt:∃ mb,base.Ns builtinsNs mb∧∀ x:Str,x ≠ "__name__"→mb x = bootBuiltins x
 nolimit:base.NoLimit
structure Cx where
 prog:Program
 w:World
 K:PySem.W.Frag
 mg:Str→Option Value
 base:Heap
 A:Around
 N:List Str
 s₀ : Shared
 H₀ : Hp
 env:Env
 outer:List Env
 stack:List Env
 ex:List Addr
 fn:Str→Bool
 calm:Bool
 pn:List (Addr × Obj)
 xe:Value→Shared→Prop
def frs (l:List Env):List Addr:=l.filterMap (·.frame)
abbrev Cx.fs (X:Cx):List Addr:=frs X.outer
def Vis (sc:Scope) (x:Str):Prop:=sc.names.lookup x = some .local ∨ sc.names.lookup x = some .cell ∨ sc.names.lookup x = some .free
def Loc (sc:Scope) (x:Str):Prop:=sc.names.lookup x = some .local ∨ sc.names.lookup x = some .cell
def Look (env:Env) (h:Heap) (m:Str→Option Value) (x:Str) (u:Value):Prop :=
 (env.kindOf x = some .local∧m x = some u) ∨ ((env.kindOf x = some .cell ∨ env.kindOf x = some .free)∧∃ c,env.cells.lookup x = some c∧h.IsCell c (some u))
structure Cx.Ok (X:Cx):Prop where
 mod:Mod X.K X.mg X.base
 kind:X.env.scope.kind = .function
 glob:X.env.globals = mainGlobals
 blt:X.env.builtins = builtinsNs
 above:X.s₀.heap.objs.size ≤ X.env.locals
 inj:∀ x y c,X.env.cells.lookup x = some c→X.env.cells.lookup y = some c→x = y
 has:∀ x,(X.env.kindOf x = some .cell ∨ X.env.kindOf x = some .free)→∃ c,X.env.cells.lookup x = some c
 cab:∀ x c,X.fn x = true→X.env.cells.lookup x = some c→X.s₀.heap.objs.size ≤ c
 hd:X.calm = true→X.A.handled = none
 frames:X.A.frames = some X.stack
 stk:X.stack = X.outer ∨ (X.stack = X.env :: X.outer∧X.env.frame = some X.env.locals)
 exf:∀ b ∈ X.ex,b ≠ X.env.locals∧∀ x c,X.env.cells.lookup x = some c→c ≠ b
 bs:∀ b o,X.base.get? b = some o→X.s₀.heap.get? b = some o∧X.H₀ b = none
 bsz:X.base.objs.size ≤ X.s₀.heap.objs.size
 noex:∀ b o,X.base.get? b = some o→b ∉ X.ex
 exfs:∀ b ∈ X.ex,b ∉ X.fs
 funs:X.s₀.heap.FunFrames X.base X.outer
 frf:∀ b ∈ X.fs,X.H₀ b = none
structure Inv (X:Cx) (pins:List (Addr × Obj)) (σ : List (Option V)) (H:Hp) (s:Shared):Prop where
 ok:X.Ok
 os:s.os = X.s₀.os
 bare:AllBare s.gens
 base:Un X.fs X.ex X.H₀ H X.s₀.heap s.heap
 loc:∃ m,s.heap.Ns X.env.locals m∧∀ (i:Nat) (x:Str) (v:V),X.N[i]? = some x→σ[i]? = some (some v)→Vis X.env.scope x→∃ u,RelV v u∧Look X.env s.heap m x u
 cell:∀ x c,X.env.cells.lookup x = some c→∃ v,s.heap.IsCell c v
 free:H X.env.locals = none
 freeC:∀ x c,X.env.cells.lookup x = some c→H c = none
 pin:∀ p ∈ X.pn ++ pins,s.heap.get? p.1 = some p.2∧H p.1 = none∧p.1 ≠ X.env.locals∧p.1 ∉ X.fs∧∀ v,p.2.data ≠ .cell v
 hok:HOk X.prog X.w H s.heap
 len : σ.length = X.N.length
section
variable {X:Cx} {pins:List (Addr × Obj)} {σ : List (Option V)} {H H':Hp} {s:Shared} {h':Heap}
theorem Cx.Ok.nofr (ok:X.Ok) {b:Addr} {o:Obj} (e:X.base.get? b = some o):b ∉ X.fs:=fun hb => by
 have:=(ok.funs.mem hb).1
 rw [e] at this; cases this
theorem Inv.bs (I:Inv X pins σ H s):∀ b o,X.base.get? b = some o→s.heap.get? b = some o∧H b = none:=fun b o e =>
 ⟨I.base.keep b o (I.ok.bs b o e).1 (I.ok.bs b o e).2 (I.ok.nofr e) (I.ok.noex b o e),I.base.free b o (I.ok.bs b o e).1 (I.ok.bs b o e).2 (I.ok.noex b o e)⟩
theorem Inv.bk (I:Inv X pins σ H s):∀ b o,X.base.get? b = some o→s.heap.get? b = some o:=fun b o e => (I.bs b o e).1
theorem Inv.mod (I:Inv X pins σ H s):Mod X.K X.mg X.base:=I.ok.mod
theorem Inv.kIn (I:Inv X pins σ H s):X.K.In s.heap:=I.ok.mod.kin.keeps I.bk
theorem Inv.lt (I:Inv X pins σ H s):X.env.locals < s.heap.objs.size:=let ⟨_,hn,_⟩:=I.loc; hn.lt
theorem Inv.sz (I:Inv X pins σ H s):X.s₀.heap.objs.size ≤ s.heap.objs.size:=Nat.le_trans I.ok.above (Nat.le_of_lt I.lt)
theorem Inv.nofs (I:Inv X pins σ H s) {a:Addr} (h:s.heap.objs.size ≤ a):a ∉ X.fs:=fun hb => by
 obtain ⟨_,o,ho,_⟩:=I.ok.funs.mem hb
 exact absurd (Nat.lt_of_lt_of_le (Heap.lt_size ho) (Nat.le_trans I.sz h)) (Nat.lt_irrefl _)
theorem Inv.cne (I:Inv X pins σ H s):∀ x c,X.env.cells.lookup x = some c→c ≠ X.env.locals:=fun x c e z => by
 obtain ⟨v,o,ho,hd⟩:=I.cell x c e
 obtain ⟨m,⟨o',es,ep,ho',hd',_⟩,_⟩:=I.loc
 rw [z,ho'] at ho; cases ho; rw [hd'] at hd; cases hd
theorem Inv.funs (I:Inv X pins σ H s):s.heap.FunFrames X.base X.outer:=by
 have all:∀ (l:List Env),(∀ b ∈ frs l,b ∈ X.fs)→X.s₀.heap.FunFrames X.base l→s.heap.FunFrames X.base l:=by
  intro l
  induction l with
  | nil => intro _ _; trivial
  | cons env r ih =>
   intro hs hl
   obtain ⟨hk,⟨L,o,hf,hn,ho,hd⟩,hr⟩:=hl
   have hL:L ∈ X.fs:=hs L (by unfold frs; rw [List.filterMap_cons,hf]; exact List.mem_cons_self)
   obtain ⟨sl,e⟩:=I.base.slot L o ho (I.ok.frf L hL) hL fun z => I.ok.exfs L z hL
   exact ⟨hk,⟨L,_,hf,hn,e,hd⟩,ih (fun b hb => hs b (by unfold frs; rw [List.filterMap_cons,hf]; exact List.mem_cons_of_mem _ hb)) hr⟩
 exact all X.outer (fun _ hb => hb) I.ok.funs
theorem Inv.stack (I:Inv X pins σ H s):s.heap.FunFrames X.base X.stack:=by
 rcases I.ok.stk with e | ⟨e,hf⟩
 ·rw [e]; exact I.funs
 ·rw [e]
  obtain ⟨m,hn,_⟩:=I.loc
  refine .cons (by rw [I.ok.kind]; decide) hf hn ?_ I.funs
  exact Heap.get?_none_of_le (Nat.le_trans I.ok.bsz I.ok.above)
theorem Inv.stkSub (I:Inv X pins σ H s):∀ b ∈ frs X.stack,b ∈ X.env.locals :: X.fs:=fun b hb => by
 rcases I.ok.stk with e | ⟨e,hf⟩
 ·rw [e] at hb; exact List.mem_cons_of_mem _ hb
 ·rw [e] at hb
  unfold frs at hb
  rw [List.filterMap_cons,hf] at hb
  exact hb
theorem Inv.stkFree (I:Inv X pins σ H s):∀ b ∈ frs X.stack,H b = none:=fun b hb => by
 rcases List.mem_cons.mp (I.stkSub b hb) with e | hb
 ·rw [e]; exact I.free
 ·obtain ⟨_,o,ho,_⟩:=I.ok.funs.mem hb
  exact I.base.free b o ho (I.ok.frf b hb) fun z => I.ok.exfs b z hb
theorem Inv.step {g':Array GenState} {t':Nat} {d':Drawn} {ch:List Addr} (I:Inv X pins σ H s)
  (hch:∀ b ∈ ch,(b ∈ X.ex ∨ X.s₀.heap.objs.size ≤ b)∧b ≠ X.env.locals∧(∀ x c,X.env.cells.lookup x = some c→c ≠ b)∧∀ p ∈ X.pn ++ pins,p.1 ≠ b)
  (keep:∀ b o,b ≠ X.env.locals→b ∉ X.fs→b ∉ ch→s.heap.get? b = some o→H b = none→h'.get? b = some o)
  (slot:∀ b o,b ≠ X.env.locals→b ∈ X.fs→b ∉ ch→s.heap.get? b = some o→H b = none→∃ sl,h'.get? b = some { o with slots:=sl }) (free:∀ b o,b ∉ ch→s.heap.get? b = some o→H b = none→H' b = none)
  (there:∀ b o,b ∉ ch→s.heap.get? b = some o→∃ o',h'.get? b = some o')
  (tups:∀ b xs,H b = some (.tup xs)→H' b = some (.tup xs)) (frzs:∀ b o u,H b = some (.frz o u)→H' b = some (.frz o u)) (tbls:∀ b ps,H b = some (.tbl ps)→∃ more,H' b = some (.tbl (ps ++ more)))
  (ns:∀ m,s.heap.Ns X.env.locals m→h'.Ns X.env.locals m) (hok:HOk X.prog X.w H' h') (hg:AllBare g') :
  Inv X pins σ H' { s with heap:=h',gens:=g',drawn:=d',toks:=t' }:=by
 have neL:∀ b o,X.s₀.heap.get? b = some o→b ≠ X.env.locals:=fun b o e => Nat.ne_of_lt (Nat.lt_of_lt_of_le (Heap.lt_size e) I.ok.above)
 have neC:∀ b o,X.s₀.heap.get? b = some o→b ∉ X.ex→b ∉ ch:=fun b o e hx hb => by
  rcases (hch b hb).1 with z | z
  ·exact hx z
  ·exact absurd (Nat.lt_of_lt_of_le (Heap.lt_size e) z) (Nat.lt_irrefl _)
 have cellK:∀ x c,X.env.cells.lookup x = some c→∀ v,s.heap.IsCell c v→h'.IsCell c v:=fun x c e v ⟨o,ho,hd⟩ => by
  have nch:c ∉ ch:=fun z => (hch c z).2.2.1 x c e rfl
  by_cases hc:c ∈ X.fs
  ·obtain ⟨sl,q⟩:=slot c o (I.cne x c e) hc nch ho (I.freeC x c e)
   exact ⟨_,q,hd⟩
  ·exact ⟨o,keep c o (I.cne x c e) hc nch ho (I.freeC x c e),hd⟩
 refine ⟨I.ok,I.os,hg,⟨fun b o e n hb hx => ?_,fun b o e n hb hx => ?_,fun b o e n hx => ?_,fun b o e hx => ?_,fun b xs e => tups b xs (I.base.tups b xs e),fun b o xs e => frzs b o xs (I.base.frzs b o xs e),fun b ps e => ?_⟩, ?_,fun x c e => ?_, ?_,fun x c e => ?_,fun p hp => ?_,hok,I.len⟩
 ·exact keep b o (neL b o e) hb (neC b o e hx) (I.base.keep b o e n hb hx) (I.base.free b o e n hx)
 ·obtain ⟨sl,e1⟩:=I.base.slot b o e n hb hx
  obtain ⟨sl',e2⟩:=slot b _ (neL b o e) hb (neC b o e hx) e1 (I.base.free b o e n hx)
  exact ⟨sl',e2⟩
 ·obtain ⟨o',e1⟩:=I.base.there b o e hx
  exact free b o' (neC b o e hx) e1 (I.base.free b o e n hx)
 ·obtain ⟨o',e1⟩:=I.base.there b o e hx
  exact there b o' (neC b o e hx) e1
 ·obtain ⟨m1,e1⟩:=I.base.tbls b ps e
  obtain ⟨m2,e2⟩:=tbls b _ e1
  exact ⟨m1 ++ m2,by rw [e2,Array.append_assoc]⟩
 ·obtain ⟨m,hn,hl⟩:=I.loc
  refine ⟨m,ns m hn,fun i x v e1 e2 e3 => ?_⟩
  obtain ⟨u,r,l⟩:=hl i x v e1 e2 e3
  refine ⟨u,r, ?_⟩
  rcases l with l | ⟨k,c,e,z⟩
  ·exact .inl l
  ·exact .inr ⟨k,c,e,cellK x c e _ z⟩
 ·obtain ⟨v,z⟩:=I.cell x c e
  exact ⟨v,cellK x c e v z⟩
 ·obtain ⟨m,⟨o,_,_,ho,_⟩,_⟩:=I.loc
  exact free _ o (fun z => (hch _ z).2.1 rfl) ho I.free
 ·obtain ⟨v,o,ho,hd⟩:=I.cell x c e
  exact free c o (fun z => (hch c z).2.2.1 x c e rfl) ho (I.freeC x c e)
 ·obtain ⟨e,n,ne,nf,d⟩:=I.pin p hp
  have nch:p.1 ∉ ch:=fun z => (hch p.1 z).2.2.2 p hp rfl
  exact ⟨keep p.1 p.2 ne nf nch e n,free p.1 p.2 nch e n,ne,nf,d⟩
theorem Inv.un {t':Nat} (I:Inv X pins σ H s) (u:Un X.fs [] H H' s.heap h') (hok:HOk X.prog X.w H' h'):Inv X pins σ H' { s with heap:=h',toks:=t' }:=by
 obtain ⟨m,⟨o,es,ep,ho,r⟩,_⟩:=id I.loc
 obtain ⟨sl,hL⟩:=u.any ho I.free (by simp)
 exact I.step (g':=s.gens) (d':=s.drawn) (ch:=[]) (fun _ z => nomatch z) (fun b o _ hb _ e n => u.keep b o e n hb (by simp)) (fun b o _ hb _ e n => u.slot b o e n hb (by simp)) (fun b o _ e n => u.free b o e n (by simp)) (fun b o _ e => u.there b o e (by simp)) u.tups u.frzs u.tbls (fun m' hm => by
  obtain ⟨o',es',ep',ho',r'⟩:=hm
  rw [ho] at ho'; cases ho'
  exact ⟨_,es',ep',hL,r'⟩) hok I.bare
theorem Inv.call {g':Array GenState} {t':Nat} {d':Drawn} {ch:List Addr} (I:Inv X pins σ H s) (u:Un (frs X.stack) ch H H' s.heap h') (hok:HOk X.prog X.w H' h') (hg:AllBare g')
  (hch:∀ b ∈ ch,(b ∈ X.ex ∨ X.s₀.heap.objs.size ≤ b)∧b ≠ X.env.locals∧(∀ x c,X.env.cells.lookup x = some c→c ≠ b)∧∀ p ∈ X.pn ++ pins,p.1 ≠ b) :
  Inv X pins σ H' { s with heap:=h',gens:=g',drawn:=d',toks:=t' }:=by
 obtain ⟨m,⟨o,es,ep,ho,r⟩,_⟩:=id I.loc
 obtain ⟨sl,hL⟩:=u.any ho I.free fun z => (hch _ z).2.1 rfl
 exact I.step (ch:=ch) hch (fun b o hL hb hc e n => u.keep b o e n (fun z => (List.mem_cons.mp (I.stkSub b z)).elim hL hb) hc) (fun b o _ _ hc e n => u.any e n hc) (fun b o hc e n => u.free b o e n hc) (fun b o hc e => u.there b o e hc) u.tups u.frzs u.tbls (fun m' hm => by
  obtain ⟨o',es',ep',ho',r'⟩:=hm
  rw [ho] at ho'; cases ho'
  exact ⟨_,es',ep',hL,r'⟩) hok hg
theorem Inv.turned {t':Nat} {it:Addr} (I:Inv X pins σ H s) (k:∀ b o,b ≠ it→s.heap.get? b = some o→h'.get? b = some o) (hn:H it = none) (hL:it ≠ X.env.locals)
  (h1:it ∈ X.ex ∨ X.s₀.heap.objs.size ≤ it) (h2:∀ x c,X.env.cells.lookup x = some c→c ≠ it) (h3:∀ p ∈ X.pn ++ pins,p.1 ≠ it):Inv X pins σ H { s with heap:=h',toks:=t' }:=by
 have nit:∀ b u,H b = some u→b ≠ it:=fun b u e z => by rw [z,hn] at e; cases e
 refine I.step (g':=s.gens) (d':=s.drawn) (ch:=[it]) (fun b hb => ?_) (fun b o _ _ hc e _ => k b o (fun z => hc (by simp [z])) e) (fun b o _ _ hc e _ => ⟨o.slots,k b o (fun z => hc (by simp [z])) e⟩) (fun _ _ _ _ n => n)
  (fun b o hc e => ⟨o,k b o (fun z => hc (by simp [z])) e⟩) (fun _ _ e => e) (fun _ _ _ e => e) (fun b ps e => ⟨#[],by rw [e]; simp⟩) (fun m hm => ?_) (fun b u e => ?_) I.bare
 ·have e:b = it:=by simpa using hb
  subst e
  exact ⟨h1,hL,h2,h3⟩
 ·obtain ⟨o,es,ep,ho,r⟩:=hm
  exact ⟨o,es,ep,k _ o (Ne.symm hL) ho,r⟩
 ·refine (I.hok b u e).stay (fun c v hc q => k c v ?_ q) (fun _ q => q) fun _ _ q => q
  rcases hc with z | z
  ·rw [z]; exact nit b u e
  ·exact nit c _ z
theorem Inv.tok (I:Inv X pins σ H s) (t:Nat):Inv X pins σ H { s with toks:=t }:=I.un (h':=s.heap) (t':=t) Un.refl I.hok
theorem Inv.kept {t':Nat} (I:Inv X pins σ H s) (k:∀ b u,s.heap.get? b = some u→h'.get? b = some u):Inv X pins σ H { s with heap:=h',toks:=t' }:=I.un (Un.kept k) (I.hok.kept k)
theorem Inv.laid {a:Addr} {o:HO} {t':Nat} (I:Inv X pins σ H s) (k:∀ b u,s.heap.get? b = some u→h'.get? b = some u) (hp:s.heap.objs.size ≤ a) (new:ObjOk X.prog X.w (upd H a o) h' a o) :
  Inv X pins σ (upd H a o) { s with heap:=h',toks:=t' }:=I.un (Un.laid k hp (I.hok.fresh hp)) (I.hok.laid k hp new)
theorem Inv.write {x e:Addr} {o:HO} {t':Nat} (I:Inv X pins σ H s) (mu:Mut (H x)) (he:e = x ∨ H e = some (.own x)) (k:∀ b u,b ≠ e→s.heap.get? b = some u→h'.get? b = some u) (heo:∃ u,h'.get? e = some u)
  (new:ObjOk X.prog X.w (upd H x o) h' x o):Inv X pins σ (upd H x o) { s with heap:=h',toks:=t' }:=I.un (Un.write mu he k heo) (I.hok.write mu he k heo new)
theorem Inv.pins_of {pins':List (Addr × Obj)} (I:Inv X pins σ H s) (h:∀ p ∈ pins',s.heap.get? p.1 = some p.2∧H p.1 = none∧p.1 ≠ X.env.locals∧p.1 ∉ X.fs∧∀ v,p.2.data ≠ .cell v):Inv X pins' σ H s :=
 ⟨I.ok,I.os,I.bare,I.base,I.loc,I.cell,I.free,I.freeC,fun p hp => (List.mem_append.mp hp).elim (fun z => I.pin p (List.mem_append_left _ z)) (h p),I.hok,I.len⟩
theorem Jfh {N:List Str} (hN:N.Nodup) {i j:Nat} {x:Str} (a:N[i]? = some x) (b:N[j]? = some x):i = j:=by
 obtain ⟨h1,e1⟩:=List.getElem?_eq_some_iff.mp a
 obtain ⟨h2,e2⟩:=List.getElem?_eq_some_iff.mp b
 exact (List.getElem_inj hN).mp (e1.trans e2.symm)
theorem JcX {M:Model} {A:Around} {E:Value→Shared→Prop} {i:Nat} {x:Str} {v:V} {u:Value} {Q:Unit→Shared→Prop} (I:Inv X pins σ H s) (hN:X.N.Nodup) (hi:X.N[i]? = some x) (hx:Loc X.env.scope x) (r:RelV v u)
  (h:∀ s',Inv X pins (σ.set i (some v)) H s'→(∃ a,Heap.SameBut a s.heap s'.heap∧(a = X.env.locals ∨ X.env.cells.lookup x = some a))→Q () s') (hf:X.fn x = true ∨ X.env.scope.names.lookup x = some .local:=by first | exact .inl rfl | exact .inr rfl | assumption):wpAny M A (storeName X.env x u) Q E s:=by
 obtain ⟨m,hn,hl⟩:=id I.loc
 have hcls:(X.env.scope.kind == .class || (X.env.scope.kind == .module && X.env.locals != X.env.globals)) = false:=by rw [I.ok.kind]; rfl
 have hiσ : i < σ.length:=by rw [I.len]; exact (List.getElem?_eq_some_iff.mp hi).1
 have cne:=I.cne
 have tracked:∀ {a:Addr} {h':Heap},(∃ o,s.heap.get? a = some o∧H a = none)→Heap.SameBut a s.heap h'→HOk X.prog X.w H h':=fun {a h'} ha hs b ob e => by
  obtain ⟨_,_,hfree⟩:=ha
  refine (I.hok b ob e).stay (fun c w' hc q => (hs.2 c ?_).trans q) (fun _ q => q) fun _ _ q => q
  rintro rfl
  rcases hc with rfl | hc
  ·rw [hfree] at e; cases e
  ·rw [hfree] at hc; cases hc
 rcases hx with hk | hk
 ·refine wpAny_storeName_local hk hn (fun h' hn' hs => ?_) hcls
  obtain ⟨oL,_,_,hoL,_⟩:=id hn
  refine h _ ⟨I.ok,I.os,I.bare,⟨fun b o e n hb hx => ?_,fun b o e n hb hx => ?_,I.base.free,fun b o e hx => ?_,I.base.tups,I.base.frzs,I.base.tbls⟩,⟨_,hn',fun j y v' e1 e2 e3 => ?_⟩,fun y c e => ?_,I.free,I.freeC,fun p hp => ?_,tracked ⟨oL,hoL,I.free⟩ hs,by simpa using I.len⟩ ⟨_,hs, .inl rfl⟩
  ·exact (hs.2 b (Nat.ne_of_lt (Nat.lt_of_lt_of_le (Heap.lt_size e) I.ok.above))).trans (I.base.keep b o e n hb hx)
  ·obtain ⟨sl,e1⟩:=I.base.slot b o e n hb hx
   exact ⟨sl,(hs.2 b (Nat.ne_of_lt (Nat.lt_of_lt_of_le (Heap.lt_size e) I.ok.above))).trans e1⟩
  ·obtain ⟨o',e1⟩:=I.base.there b o e hx
   exact ⟨o',(hs.2 b (Nat.ne_of_lt (Nat.lt_of_lt_of_le (Heap.lt_size e) I.ok.above))).trans e1⟩
  ·by_cases hj:j = i
   ·subst hj
    rw [hi] at e1; cases e1
    rw [List.getElem?_set_self hiσ] at e2
    cases e2
    exact ⟨u,r, .inl ⟨hk,by simp⟩⟩
   ·rw [List.getElem?_set_ne (Ne.symm hj)] at e2
    obtain ⟨u',r',q⟩:=hl j y v' e1 e2 e3
    refine ⟨u',r', ?_⟩
    rcases q with ⟨k,e⟩ | ⟨k,c,e,z⟩
    ·refine .inl ⟨k, ?_⟩
     have : y ≠ x:=fun e => hj (Jfh hN e1 (e ▸ hi))
     simp [this,e]
    ·exact .inr ⟨k,c,e,z.sameBut hs (cne y c e)⟩
  ·obtain ⟨w',z⟩:=I.cell y c e
   exact ⟨w',z.sameBut hs (cne y c e)⟩
  ·obtain ⟨e,n,ne,nf,d⟩:=I.pin p hp
   exact ⟨(hs.2 p.1 ne).trans e,n,ne,nf,d⟩
 ·have hfn:X.fn x = true:=by
   rcases hf with z | z
   ·exact z
   ·rw [z] at hk; cases hk
  obtain ⟨c,hc⟩:=I.ok.has x (.inl hk)
  obtain ⟨w',z⟩:=I.cell x c hc
  refine wpAny_storeName_cell I.ok.kind hk hc z (fun h' hc' hs => ?_)
  obtain ⟨oc,hoc,hocd⟩:=id z
  refine h { s with heap:=h' } ⟨I.ok,I.os,I.bare,⟨fun b o e n hb hx => ?_,fun b o e n hb hx => ?_,I.base.free,fun b o e hx => ?_,I.base.tups,I.base.frzs,I.base.tbls⟩,⟨m,hn.sameBut hs (Ne.symm (cne x c hc)),fun j y v' e1 e2 e3 => ?_⟩,fun y c' e => ?_,I.free,I.freeC,fun p hp => ?_,tracked ⟨oc,hoc,I.freeC x c hc⟩ hs,by simpa using I.len⟩ ⟨c,hs, .inr hc⟩
  ·exact (hs.2 b (Nat.ne_of_lt (Nat.lt_of_lt_of_le (Heap.lt_size e) (I.ok.cab x c hfn hc)))).trans (I.base.keep b o e n hb hx)
  ·obtain ⟨sl,e1⟩:=I.base.slot b o e n hb hx
   exact ⟨sl,(hs.2 b (Nat.ne_of_lt (Nat.lt_of_lt_of_le (Heap.lt_size e) (I.ok.cab x c hfn hc)))).trans e1⟩
  ·obtain ⟨o',e1⟩:=I.base.there b o e hx
   exact ⟨o',(hs.2 b (Nat.ne_of_lt (Nat.lt_of_lt_of_le (Heap.lt_size e) (I.ok.cab x c hfn hc)))).trans e1⟩
  ·by_cases hj:j = i
   ·subst hj
    rw [hi] at e1; cases e1
    rw [List.getElem?_set_self hiσ] at e2
    cases e2
    exact ⟨u,r, .inr ⟨.inl hk,c,hc,hc'⟩⟩
   ·rw [List.getElem?_set_ne (Ne.symm hj)] at e2
    obtain ⟨u',r',q⟩:=hl j y v' e1 e2 e3
    refine ⟨u',r', ?_⟩
    rcases q with q | ⟨k,c',e,z'⟩
    ·exact .inl q
    ·refine .inr ⟨k,c',e,z'.sameBut hs ?_⟩
     rintro rfl
     exact hj (Jfh hN e1 (I.ok.inj _ _ _ e hc ▸ hi))
  ·by_cases hcc:c' = c
   ·subst hcc; exact ⟨_,hc'⟩
   ·obtain ⟨w2,z2⟩:=I.cell y c' e
    exact ⟨w2,z2.sameBut hs hcc⟩
  ·obtain ⟨e,n,ne,nf,d⟩:=I.pin p hp
   refine ⟨(hs.2 p.1 ?_).trans e,n,ne,nf,d⟩
   intro q
   rw [q,hoc] at e
   have q':oc = p.2:=Option.some.inj e
   exact d w' (by rw [← q']; exact hocd)
theorem Jcx {M:Model} {A:Around} {E:Value→Shared→Prop} {i:Nat} {x:Str} {v:V} {u:Value} {Q:Unit→Shared→Prop} (I:Inv X pins σ H s) (hN:X.N.Nodup) (hi:X.N[i]? = some x) (hx:Loc X.env.scope x) (r:RelV v u)
  (h:∀ s',Inv X pins (σ.set i (some v)) H s'→Q () s') (hf:X.fn x = true ∨ X.env.scope.names.lookup x = some .local:=by first | exact .inl rfl | exact .inr rfl | assumption):wpAny M A (storeName X.env x u) Q E s :=
 JcX I hN hi hx r (fun s' I' _ => h s' I') hf
theorem Inv.call' {s':Shared} {ch:List Addr} (I:Inv X pins σ H s) (ho:s'.os = s.os) (u:Un (frs X.stack) ch H H' s.heap s'.heap) (hok:HOk X.prog X.w H' s'.heap) (hg:AllBare s'.gens)
  (hch:∀ b ∈ ch,(b ∈ X.ex ∨ X.s₀.heap.objs.size ≤ b)∧b ≠ X.env.locals∧(∀ x c,X.env.cells.lookup x = some c→c ≠ b)∧∀ p ∈ X.pn ++ pins,p.1 ≠ b):Inv X pins σ H' s':=by
 obtain ⟨h',g',d',t',o'⟩:=s'
 have e:o' = s.os:=ho
 subst e
 exact I.call (g':=g') (t':=t') (d':=d') u hok hg hch
end
abbrev XK:=Value→Option Addr→Hp→Prop
abbrev St:=List (Option V)
abbrev VK:=V→Hp→Prop
abbrev TE:=St→Hp→VK→Prop
abbrev TT:=St→Hp→(Bool→Hp→Prop)→Prop
abbrev TA:=St→Hp→(List V→Hp→Prop)→Prop
structure Ends where
 nx:St→Hp→Prop
 rt:VK
 bk:St→Hp→Prop:=fun _ _ => False
 ct:St→Hp→Prop:=fun _ _ => False
abbrev TS:=Ends→St→Hp→Prop
def EP (X:Cx) (pins:List (Addr × Obj)) (σ : St) (Q:VK) (u:Value) (s':Shared):Prop:=∃ v H',Inv X pins σ H' s'∧RelV v u∧Q v H'
def TP (X:Cx) (pins:List (Addr × Obj)) (σ : St) (Q:Bool→Hp→Prop) (b:Bool) (s':Shared):Prop:=∃ H',Inv X pins σ H' s'∧Q b H'
def AP (X:Cx) (pins:List (Addr × Obj)) (σ : St) (Q:List V→Hp→Prop) (us:List Value) (s':Shared):Prop:=∃ vs H',Inv X pins σ H' s'∧Vals vs us∧Q vs H'
def SP (X:Cx) (pins:List (Addr × Obj)) (D:Ends) (f:Flow) (s':Shared):Prop :=
 match f with
 | .next => ∃ σ' H',Inv X pins σ' H' s'∧D.nx σ' H'
 | .brk => ∃ σ' H',Inv X pins σ' H' s'∧D.bk σ' H'
 | .cont => ∃ σ' H',Inv X pins σ' H' s'∧D.ct σ' H'
 | .ret u => ∃ v σ' H',Inv X pins σ' H' s'∧RelV v u∧D.rt v H'
def PE (X:Cx) (e:Expr) (t:TE):Prop :=
 ∀ (pins:List (Addr × Obj)) (s:Shared) (σ : St) (H:Hp) (Q:VK),Inv X pins σ H s→t σ H Q→wpAny (model X.prog X.w) X.A (eval e X.env) (EP X pins σ Q) X.xe s
def PT (X:Cx) (e:Expr) (t:TT):Prop :=
 ∀ (pins:List (Addr × Obj)) (s:Shared) (σ : St) (H:Hp) (Q:Bool→Hp→Prop),Inv X pins σ H s→t σ H Q→wpAny (model X.prog X.w) X.A (isTrue e X.env (eval e X.env)) (TP X pins σ Q) X.xe s
def PW (X:Cx) (e:Expr) (t:TT):Prop :=
 ∀ (whole:Sem Value) (pins:List (Addr × Obj)) (s:Shared) (σ : St) (H:Hp) (Q:Bool→Hp→Prop),Inv X pins σ H s→t σ H Q→wpAny (model X.prog X.w) X.A (isTrue e X.env whole) (TP X pins σ Q) X.xe s
theorem PW.pt {X:Cx} {e:Expr} {t:TT} (h:PW X e t):PT X e t:=h _
def PA (X:Cx) (es:List Expr) (t:TA):Prop :=
 ∀ (pos:Pos) (pins:List (Addr × Obj)) (s:Shared) (σ : St) (H:Hp) (Q:List V→Hp→Prop),Inv X pins σ H s→t σ H Q→wpAny (model X.prog X.w) X.A (spliced (backTo pos (starEach es X.env))) (AP X pins σ Q) X.xe s
def PS (X:Cx) (st:Stmt) (t:TS):Prop :=
 ∀ (pins:List (Addr × Obj)) (s:Shared) (σ : St) (H:Hp) (D:Ends),Inv X pins σ H s→t D σ H→wpAny (model X.prog X.w) X.A (exec st X.env) (SP X pins D) X.xe s
def PSs (X:Cx) (st:List Stmt) (t:TS):Prop :=
 ∀ (pins:List (Addr × Obj)) (s:Shared) (σ : St) (H:Hp) (D:Ends),Inv X pins σ H s→t D σ H→wpAny (model X.prog X.w) X.A (execs st X.env) (SP X pins D) X.xe s
theorem thn {α : Type} {t:Sem α} {Q Q' : α→Shared→Prop} {M:Model} {A:Around} {E:Value→Shared→Prop} {s:Shared} (h:wpAny M A t Q E s) (hQ:∀ a s,Q a s→Q' a s):wpAny M A t Q' E s:=wpAny_mono h hQ fun _ _ x => x
end L2
namespace L2
open PySem PySem.Spec PyProof.Rows
section
variable {X:Cx}
def tVar (i:Nat):TE:=fun σ H Q => ∃ v, σ[i]? = some (some v)∧Q v H
def tC (v:V):TE:=fun _ H Q => Q v H
theorem Ji4 {i:Nat} {x:Str} {pos:Pos} (hN:X.N[i]? = some x) (hv:Vis X.env.scope x) (hd:(x == ("__debug__" : Str)) = false:=by decide) (hcd:(x == ("__classdict__" : Str)) = false:=by decide):PE X (.Name x pos) (tVar i):=by
 intro pins s σ H Q I h
 obtain ⟨v,e,h⟩:=h
 obtain ⟨m,hn,hl⟩:=I.loc
 obtain ⟨u,r,l⟩:=hl i x v hN e hv
 have fin:EP X pins σ Q u s:=⟨v,H,I,r,h⟩
 rcases l with ⟨hk,hm⟩ | ⟨hk,c,hc,hcell⟩
 ·exact wpAny_Name (wpAny_loadName_local I.ok.kind hk hn hm fin) hd
 ·rcases hk with hk | hk
  ·exact wpAny_Name (wpAny_loadName_cell I.ok.kind hk hc hcell fin) hd
  ·exact wpAny_Name (wpAny_loadName_free I.ok.kind hk hc hcell fin hcd) hd
theorem Jad {i j pos}:PE X (.Constant (.int i) j pos) (tC (.int i)):=fun _ _ _ H _ I h => wpAny_Constant_int ⟨.int i,H,I.tok _,⟨_,rfl⟩,h⟩
theorem pe_bl {b j pos}:PE X (.Constant (.bool b) j pos) (tC (.bl b)):=fun _ _ _ H _ I h => Constant_bool ⟨.bl b,H,I,rfl,h⟩
theorem Ja8 {j pos}:PE X (.Constant .none j pos) (tC .non):=fun _ _ _ H _ I h => Constant_none ⟨.non,H,I,rfl,h⟩
theorem Jcm {x j pos}:PE X (.Constant (.str x) j pos) (tC (.str x)):=fun _ _ _ H _ I h => Calls.Constant_str ⟨.str x,H,I.tok _,⟨_,rfl⟩,h⟩
def Gl (X:Cx) (x:Str):Prop:=X.env.kindOf x = some .globalImplicit
theorem Jdy {E:Value→Shared→Prop} {pins:List (Addr × Obj)} {s:Shared} {σ : St} {H:Hp} {x:Str} {u:Value} {pos:Pos} {Q:Value→Shared→Prop} (I:Inv X pins σ H s) (hg:Gl X x) (hm:X.mg x = some u) (h:Q u s)
  (hd:(x == ("__debug__" : Str)) = false:=by decide):wpAny (model X.prog X.w) X.A (eval (.Name x pos) X.env) Q E s :=
 Calls.Name_function_global I.ok.kind hg (Calls.loadGlobal_global (by rw [I.ok.glob]; exact I.mod.glob.keeps I.bk) hm h) hd
theorem JcI {E:Value→Shared→Prop} {pins:List (Addr × Obj)} {s:Shared} {σ : St} {H:Hp} {x:Str} {u:Value} {pos:Pos} {Q:Value→Shared→Prop} (I:Inv X pins σ H s) (hg:Gl X x) (hm:X.mg x = none) (hv:bootBuiltins x = some u) (h:Q u s)
  (hn:x ≠ "__name__":=by decide) (hd:(x == ("__debug__" : Str)) = false:=by decide):wpAny (model X.prog X.w) X.A (eval (.Name x pos) X.env) Q E s:=by
 obtain ⟨mb,h1,h2⟩:=I.mod.blt
 exact Calls.Name_function_global I.ok.kind hg (Calls.loadGlobal_builtin (by rw [I.ok.glob]; exact I.mod.glob.keeps I.bk) hm (by rw [I.ok.blt]; exact h1.keeps I.bk) ((h2 x hn).trans hv) h) hd
theorem JdH {x:Str} {v:V} {u:Value} {pos:Pos} (hg:Gl X x) (hm:X.mg x = some u) (r:RelV v u) (hd:(x == ("__debug__" : Str)) = false:=by decide):PE X (.Name x pos) (tC v) :=
 fun _ _ _ H _ I h => Jdy I hg hm ⟨v,H,I,r,h⟩ hd
theorem Jbx {x:Str} {v:V} {u:Value} {pos:Pos} (hg:Gl X x) (hm:X.mg x = none) (hv:bootBuiltins x = some u) (r:RelV v u) (hn:x ≠ "__name__":=by decide) (hd:(x == ("__debug__" : Str)) = false:=by decide):PE X (.Name x pos) (tC v) :=
 fun _ _ _ H _ I h => JcI I hg hm hv ⟨v,H,I,r,h⟩ hn hd
variable {a b:Expr} {ta tb:TE} {pos:Pos}
def PC (X:Cx) (op:CmpOp) (a b:Expr) (t:TE):Prop :=
 ∀ (pins:List (Addr × Obj)) (s:Shared) (σ : St) (H:Hp) (Q:VK),Inv X pins σ H s→t σ H Q →
  wpAny (model X.prog X.w) X.A (eval a X.env) (fun v s₁ => wpAny (model X.prog X.w) X.A (eval b X.env) (fun u s₂ => wpAny (model X.prog X.w) X.A (compareOp op v u) (EP X pins σ Q) X.xe s₂) X.xe s₁) X.xe s
def tB (t:TE):TT:=fun σ H Q => t σ H fun x H1 => ∃ c,x = .bl c∧Q c H1
theorem Jdm {op:CmpOp} {t:TE} (h:PC X op a b t) (h1:behindInMarks op b = false:=by first | exact nobehind _ (by decide) (by decide) | rfl):PT X (.Compare a [op] [b] pos) (tB t):=by
 intro pins s σ H Q I hw
 refine wpAny_isTrue_Compare1 (thn (h pins s σ H _ I hw) fun v s1 h1 => thn h1 fun u s2 h2 => thn h2 fun c s3 ⟨x,H1,I1,r1,q1⟩ => ?_) h1
 obtain ⟨d,rfl,q⟩:=q1
 cases r1
 exact wpAny_truthy_bool ⟨H1,I1,q⟩
theorem Jbf {e:Expr} {t:TE} (h:PE X e t) (he:∀ whole,isTrue e X.env whole = (do let v ← whole; standAt e.pos; holding [v] (truthy v)):=by intro _; rfl):PT X e (tB t):=by
 intro pins s σ H Q I hw
 refine isTrue_plain (thn (h pins s σ H _ I hw) fun v s1 ⟨x,H1,I1,r1,q1⟩ => ?_) (he _)
 obtain ⟨d,rfl,q⟩:=q1
 cases r1
 exact wpAny_truthy_bool ⟨H1,I1,q⟩
variable {tA tB':TT} {rest:List Expr}
def tAnd (t u:TT):TT:=fun σ H Q => t σ H fun c H1 => if c = true then u σ H1 Q else Q false H1
def tOr (t u:TT):TT:=fun σ H Q => t σ H fun c H1 => if c = true then Q true H1 else u σ H1 Q
def tNot (t:TT):TT:=fun σ H Q => t σ H fun c H1 => Q (!c) H1
theorem Jiq (ha:PT X a tA):PW X (.BoolOp .And [a] pos) tA:=by
 intro wh pins s σ H Q I h
 refine isTrue_and (thn (ha pins s σ H Q I h) fun c s1 e => ?_)
 cases c with
 | true => exact isTrue_and_nil e
 | false => exact e
theorem JbH (ha:PT X a tA):PW X (.BoolOp .Or [a] pos) tA:=by
 intro wh pins s σ H Q I h
 refine isTrue_or (thn (ha pins s σ H Q I h) fun c s1 e => ?_)
 cases c with
 | false => exact isTrue_or_nil e
 | true => exact e
theorem Ji8 (ha:PT X a tA) (hb:PW X (.BoolOp .And (b :: rest) pos) tB'):PW X (.BoolOp .And (a :: b :: rest) pos) (tAnd tA tB'):=by
 intro wh pins s σ H Q I h
 refine isTrue_and (thn (ha pins s σ H _ I h) fun c s1 ⟨H1,I1,q1⟩ => ?_)
 cases c with
 | true => exact hb wh pins s1 σ H1 Q I1 q1
 | false => exact ⟨H1,I1,q1⟩
theorem pw_or (ha:PT X a tA) (hb:PW X (.BoolOp .Or (b :: rest) pos) tB'):PW X (.BoolOp .Or (a :: b :: rest) pos) (tOr tA tB'):=by
 intro wh pins s σ H Q I h
 refine isTrue_or (thn (ha pins s σ H _ I h) fun c s1 ⟨H1,I1,q1⟩ => ?_)
 cases c with
 | true => exact ⟨H1,I1,q1⟩
 | false => exact hb wh pins s1 σ H1 Q I1 q1
theorem Jbt (ha:PT X a tA):PT X (.UnaryOp .Not a pos) (tNot tA):=by
 intro pins s σ H Q I h
 exact isTrue_not (ha pins s σ H (fun c H1 => Q (!c) H1) I h)
def tAndV (ta tb:TE):TE:=fun σ H Q => ta σ H fun x H1 => ∃ c,x = .bl c∧if c = true then tb σ H1 Q else Q (.bl false) H1
def tOrV (ta tb:TE):TE:=fun σ H Q => ta σ H fun x H1 => ∃ c,x = .bl c∧if c = true then Q (.bl true) H1 else tb σ H1 Q
def tNotV (ta:TE):TE:=fun σ H Q => ta σ H fun x H1 => ∃ c,x = .bl c∧Q (.bl (!c)) H1
theorem Jdj {op} {t:TE} (h:PE X a t):PE X (.BoolOp op [a] pos) t:=fun pins s σ H Q I hw => BoolOp_one (h pins s σ H Q I hw)
theorem Jb9 (ha:PE X a ta) (hb:PE X (.BoolOp .And (b :: rest) pos) tb):PE X (.BoolOp .And (a :: b :: rest) pos) (tAndV ta tb):=by
 intro pins s σ H Q I h
 refine BoolOp_and (thn (ha pins s σ H _ I h) fun v s1 ⟨x,H1,I1,r1,q1⟩ => ?_)
 obtain ⟨c,rfl,q1⟩:=q1
 cases r1
 refine wpAny_truthy_bool ?_
 cases c with
 | true => exact hb pins s1 σ H1 Q I1 q1
 | false => exact ⟨.bl false,H1,I1,rfl,q1⟩
theorem pe_or (ha:PE X a ta) (hb:PE X (.BoolOp .Or (b :: rest) pos) tb):PE X (.BoolOp .Or (a :: b :: rest) pos) (tOrV ta tb):=by
 intro pins s σ H Q I h
 refine BoolOp_or (thn (ha pins s σ H _ I h) fun v s1 ⟨x,H1,I1,r1,q1⟩ => ?_)
 obtain ⟨c,rfl,q1⟩:=q1
 cases r1
 refine wpAny_truthy_bool ?_
 cases c with
 | false => exact hb pins s1 σ H1 Q I1 q1
 | true => exact ⟨.bl true,H1,I1,rfl,q1⟩
theorem JhH (ha:PE X a ta):PE X (.UnaryOp .Not a pos) (tNotV ta):=by
 intro pins s σ H Q I h
 refine UnaryOp_ (thn (ha pins s σ H _ I h) fun v s1 ⟨x,H1,I1,r1,q1⟩ => ?_)
 obtain ⟨c,rfl,q1⟩:=q1
 cases r1
 exact not_of (wpAny_truthy_bool ⟨.bl (!c),H1,I1,rfl,q1⟩)
def tIf (t:TT) (ta tb:TE):TE:=fun σ H Q => t σ H fun c H1 => if c = true then ta σ H1 Q else tb σ H1 Q
end
end L2
namespace L2
open PySem PySem.Spec PyProof.Rows
def SqL (K:PySem.W.Frag) (H:Hp) (a:Addr) (xs:List V):Prop :=
 Rd H a (.lst xs) ∨
  ∃ (o:Obj) (its:Array Value) (n:Nat),K.lookup a = some o∧o.cls = .type "list"∧o.dict = none∧o.data = .seq its n∧its.size ≤ sizeLine∧Vals xs its.toList
def SqT (K:PySem.W.Frag) (H:Hp) (a:Addr) (xs:List V):Prop :=
 Rd H a (.tup xs) ∨
  ∃ (o:Obj) (its:Array Value) (n:Nat),K.lookup a = some o∧o.cls = .type "tuple"∧o.data = .seq its n∧its.size ≤ sizeLine∧Vals xs its.toList
def absV:Value→Option V
 | .none => some .non
 | .bool b => some (.bl b)
 | .int i _ => some (.int i)
 | .str x _ => some (.str x)
 | .bytes b _ => some (.byt b)
 | .float b _ => some (.flt b)
 | .ref a => some (.ref a)
 | .type n => some (.ty n)
 | _ => none
theorem RelV.abs {x:V} {u:Value} (r:RelV x u):absV u = some x:=by
 cases x with
 | non => cases r; rfl
 | bl _ => cases r; rfl
 | int _ => obtain ⟨t,rfl⟩:=r; rfl
 | str _ => obtain ⟨t,rfl⟩:=r; rfl
 | byt _ => obtain ⟨t,rfl⟩:=r; rfl
 | flt _ => obtain ⟨t,rfl⟩:=r; rfl
 | ref _ => cases r; rfl
 | ty _ => cases r; rfl
theorem RelV.inj {x y:V} {u:Value} (r:RelV x u) (q:RelV y u):x = y:=Option.some.inj (r.abs.symm.trans q.abs)
theorem Vals.inj:∀ {xs ys:List V} {us:List Value},Vals xs us→Vals ys us→xs = ys
 | _,_,_, .nil, .nil => rfl
 | _,_,_, .cons r t, .cons r' t' => by rw [r.inj r',Vals.inj t t']
section
variable {X:Cx} {pins:List (Addr × Obj)} {σ : St} {H:Hp} {s:Shared} {a:Addr} {xs ys:List V}
theorem SqL.of {K:PySem.W.Frag} (h:H a = some (.lst xs)):SqL K H a xs:=.inl (.inl h)
theorem SqT.of {K:PySem.W.Frag} (h:H a = some (.tup xs)):SqT K H a xs:=.inl (.inl h)
theorem Inv.list (I:Inv X pins σ H s) (h:SqL X.K H a xs):∃ its:List Value,Vals xs its∧PlainL s.heap a its.toArray∧xs.length ≤ sizeLine:=by
 rcases h with h | ⟨o,its,n,hk,hc,hd,hs,hz,r⟩
 ·obtain ⟨z,its,n,r,e⟩:=h.ok I.hok
  exact ⟨its,r,⟨_,n,e,rfl,rfl,rfl⟩,z⟩
 ·refine ⟨its.toList,r,⟨o,n,I.kIn a o hk,hc,hd,by simpa using hs⟩, ?_⟩
  have e:=r.length
  simp only [Array.length_toList] at e
  omega
theorem Inv.tuple (I:Inv X pins σ H s) (h:SqT X.K H a xs):∃ its:List Value,Vals xs its∧IsTup s.heap a its.toArray∧xs.length ≤ sizeLine:=by
 rcases h with h | ⟨o,its,n,hk,hc,hs,hz,r⟩
 ·obtain ⟨z,its,r,p⟩:=h.ok I.hok
  exact ⟨its,r,p,z⟩
 ·refine ⟨its.toList,r,⟨o,I.kIn a o hk,hc,n,by simpa using hs⟩, ?_⟩
  have e:=r.length
  simp only [Array.length_toList] at e
  omega
theorem Inv.list_inj (I:Inv X pins σ H s) (h:SqL X.K H a xs) (h':SqL X.K H a ys):xs = ys:=by
 obtain ⟨its,r,⟨o,n,e,_,_,d⟩,_⟩:=I.list h
 obtain ⟨its',r',⟨o',n',e',_,_,d'⟩,_⟩:=I.list h'
 rw [e] at e'; cases e'
 rw [d] at d'
 injection d' with d1 _
 have : its = its':=by simpa using congrArg Array.toList d1
 subst this
 exact r.inj r'
theorem Inv.tuple_inj (I:Inv X pins σ H s) (h:SqT X.K H a xs) (h':SqT X.K H a ys):xs = ys:=by
 obtain ⟨its,r,⟨o,e,_,n,d⟩,_⟩:=I.tuple h
 obtain ⟨its',r',⟨o',e',_,n',d'⟩,_⟩:=I.tuple h'
 rw [e] at e'; cases e'
 rw [d] at d'
 injection d' with d1 _
 have : its = its':=by simpa using congrArg Array.toList d1
 subst this
 exact r.inj r'
end
abbrev Cx.wish (X:Cx) (E:Value→Shared→Prop):Cx:={ X with xe:=E }
abbrev Cx.nox (X:Cx):Cx:=X.wish fun _ _ => False
theorem Cx.Ok.wish {X:Cx} (ok:X.Ok) (E:Value→Shared→Prop):(X.wish E).Ok :=
 ⟨ok.mod,ok.kind,ok.glob,ok.blt,ok.above,ok.inj,ok.has,ok.cab,ok.hd,ok.frames,ok.stk,ok.exf,ok.bs,ok.bsz,ok.noex,ok.exfs,ok.funs,ok.frf⟩
theorem Cx.Ok.unwish {X:Cx} {E:Value→Shared→Prop} (ok:(X.wish E).Ok):X.Ok :=
 ⟨ok.mod,ok.kind,ok.glob,ok.blt,ok.above,ok.inj,ok.has,ok.cab,ok.hd,ok.frames,ok.stk,ok.exf,ok.bs,ok.bsz,ok.noex,ok.exfs,ok.funs,ok.frf⟩
section
variable {X:Cx} {pins:List (Addr × Obj)} {σ : St} {H:Hp} {s:Shared} {E:Value→Shared→Prop}
theorem Inv.wish (I:Inv X pins σ H s) (E:Value→Shared→Prop):Inv (X.wish E) pins σ H s:=⟨I.ok.wish E,I.os,I.bare,I.base,I.loc,I.cell,I.free,I.freeC,I.pin,I.hok,I.len⟩
theorem Inv.unwish (I:Inv (X.wish E) pins σ H s):Inv X pins σ H s:=⟨I.ok.unwish,I.os,I.bare,I.base,I.loc,I.cell,I.free,I.freeC,I.pin,I.hok,I.len⟩
theorem SP.unwish {D:Ends} {f:Flow} {s':Shared} (h:SP (X.wish E) pins D f s'):SP X pins D f s':=by
 cases f with
 | next => obtain ⟨σ',H',I,q⟩:=h; exact ⟨σ',H',I.unwish,q⟩
 | brk => obtain ⟨σ',H',I,q⟩:=h; exact ⟨σ',H',I.unwish,q⟩
 | cont => obtain ⟨σ',H',I,q⟩:=h; exact ⟨σ',H',I.unwish,q⟩
 | ret u => obtain ⟨v, σ',H',I,r,q⟩:=h; exact ⟨v, σ',H',I.unwish,r,q⟩
theorem PSs.nox {st:List Stmt} {t:TS} (h:PSs X.nox st t):PSs X st t:=fun pins s σ H D I hw =>
 wpAny_mono (h pins s σ H D (I.wish _) hw) (fun _ _ q => q.unwish) fun _ _ z => False.elim z
end
section
variable {X:Cx} {st:Stmt} {rest:List Stmt} {t u:TS} {e:Expr} {te:TE} {pos:Pos}
def tNext:TS:=fun D σ H => D.nx σ H
def tSeq (t u:TS):TS:=fun D σ H => t { D with nx:=u D } σ H
theorem Jas:PSs X [] tNext:=fun _ _ σ H _ I h => wpAny_execs_nil ⟨σ,H,I,h⟩
theorem Jab (h1:PS X st t) (h2:PSs X rest u):PSs X (st :: rest) (tSeq t u):=by
 intro pins s σ H D I h
 refine wpAny_execs_cons (thn (h1 pins s σ H { D with nx:=u D } I h) fun f s1 q => ?_)
 cases f with
 | next =>
  obtain ⟨σ',H',I',q⟩:=q
  exact h2 pins s1 σ' H' D I' q
 | ret v => exact q
 | brk => exact q
 | cont => exact q
theorem Jah (h1:PS X st t):PSs X [st] t:=by
 intro pins s σ H D I h
 refine wpAny_execs_cons (thn (h1 pins s σ H D I h) fun f s1 q => ?_)
 cases f with
 | next => exact wpAny_execs_nil q
 | ret v => exact q
 | brk => exact q
 | cont => exact q
theorem Inv.quiet {pins:List (Addr × Obj)} {σ : St} {H:Hp} {s:Shared} (I:Inv X pins σ H s):interactive X.env = false:=by simp [interactive,I.ok.kind]
def tDrop (te:TE):TS:=fun D σ H => te σ H fun _ H1 => D.nx σ H1
theorem Ja6 (he:PE X e te) (hs:swapsWith e none pos.line X.env = pure false:=by rfl):PS X (.Expr e pos) (tDrop te):=by
 intro pins s σ H D I h
 exact wpAny_Expr_any (thn (he pins s σ H _ I h) fun v s1 ⟨x,H1,I1,r1,q1⟩ => ⟨σ,H1,I1,q1⟩) I.quiet hs
def tRet (te:TE):TS:=fun D σ H => te σ H D.rt
theorem Jao (he:PE X e te):PS X (.Return (some e) pos) (tRet te):=by
 intro pins s σ H D I h
 exact wpAny_Return_some (thn (he pins s σ H _ I h) fun v s1 ⟨x,H1,I1,r1,q1⟩ => ⟨x, σ,H1,I1,r1,q1⟩)
def tRetN:TS:=fun D _ H => D.rt .non H
def tIfS (c:TT) (t u:TS):TS:=fun D σ H => c σ H fun b H1 => if b = true then t D σ H1 else u D σ H1
theorem ps_if {c:Expr} {a b:List Stmt} {tc:TT} (hc:PT X c tc) (ha:PSs X a t) (hb:PSs X b u):PS X (.If c a b pos) (tIfS tc t u):=by
 intro pins s σ H D I h
 refine wpAny_If (thn (hc pins s σ H _ I h) fun d s1 ⟨H1,I1,q1⟩ => ?_)
 cases d with
 | true => exact ha pins s1 σ H1 D I1 q1
 | false => exact hb pins s1 σ H1 D I1 q1
end
abbrev TG:=V→St→Hp→(St→Hp→Prop)→Prop
abbrev TGs:=List V→St→Hp→(St→Hp→Prop)→Prop
def PG (X:Cx) (target:Expr) (t:TG):Prop :=
 ∀ (pins:List (Addr × Obj)) (s:Shared) (σ : St) (H:Hp) (v:V) (u:Value) (Q:St→Hp→Prop),Inv X pins σ H s→RelV v u→t v σ H Q →
  wpAny (model X.prog X.w) X.A (assign target X.env u) (fun _ s' => ∃ σ' H',Inv X pins σ' H' s'∧Q σ' H') X.xe s
def PGs (X:Cx) (ts:List Expr) (t:TGs):Prop :=
 ∀ (pins:List (Addr × Obj)) (s:Shared) (σ : St) (H:Hp) (vs:List V) (us:List Value) (Q:St→Hp→Prop),Inv X pins σ H s→Vals vs us→t vs σ H Q →
  wpAny (model X.prog X.w) X.A (assignInOrder ((assignEach ts X.env).map (·.2)) us) (fun _ s' => ∃ σ' H',Inv X pins σ' H' s'∧Q σ' H') X.xe s
section
variable {X:Cx} {pos:Pos}
def gName (i:Nat):TG:=fun v σ H Q => Q (σ.set i (some v)) H
theorem Jaj {i:Nat} {x:Str} (hN:X.N.Nodup) (hi:X.N[i]? = some x) (hx:Loc X.env.scope x) (hf:X.fn x = true ∨ X.env.scope.names.lookup x = some .local:=by first | exact .inl rfl | exact .inr rfl | assumption):PG X (.Name x pos) (gName i):=by
 intro pins s σ H v u Q I r h
 exact wpAny_assign_Name (Jcx I hN hi hx r (fun s' I' => ⟨_,H,I',h⟩) hf)
def gNil:TGs:=fun vs σ H Q => vs = []∧Q σ H
def gCons (t:TG) (u:TGs):TGs:=fun vs σ H Q => ∃ v r,vs = v :: r∧t v σ H fun σ' H' => u r σ' H' Q
theorem JbZ:PGs X [] gNil:=by
 intro pins s σ H vs us Q I r h
 obtain ⟨e,h⟩:=h
 subst e
 cases r
 exact assignInOrder_nil ⟨σ,H,I,h⟩
theorem JaA {e:Expr} {es:List Expr} {t:TG} {u:TGs} (h1:PG X e t) (h2:PGs X es u)
  (hs:(assignEach (e :: es) X.env).map (·.2) = assign e X.env :: (assignEach es X.env).map (·.2):=by rfl):PGs X (e :: es) (gCons t u):=by
 intro pins s σ H vs us Q I r h
 obtain ⟨v,vr,e1,h⟩:=h
 subst e1
 cases r with
 | cons r rr =>
  rw [hs]
  refine assignInOrder_cons (thn (h1 pins s σ H _ _ _ I r h) fun _ s1 ⟨σ1,H1,I1,q1⟩ => ?_)
  exact h2 pins s1 σ1 H1 _ _ Q I1 rr q1
def gTup (K:PySem.W.Frag) (n:Nat) (t:TGs):TG:=fun v σ H Q => ∃ a xs,v = .ref a∧SqT K H a xs∧xs.length = n∧t xs σ H Q
theorem Jec {es:List Expr} {k:Nat} {t:TGs} {n:Nat} (hc:X.calm = true) (h:PGs X es t)
  (hn:(assignEach es X.env).length = n:=by rfl) (hst:(assignEach es X.env).findIdx? (·.1) = none:=by rfl):PG X (.Tuple es k pos) (gTup X.K n t):=by
 intro pins s σ H v u Q I r hw
 obtain ⟨a,xs,e1,hq,hl,hw⟩:=hw
 subst e1
 cases r
 obtain ⟨its,rv,ht,hz⟩:=I.tuple hq
 refine assign_Tuple_tuple (I.ok.hd hc) ht (by simp [hn, ← hl,rv.length]) hst fun h' hx => ?_
 have I1:Inv X pins σ H { s with heap:=h' }:=I.kept (t':=s.toks) fun b o e => hx b o (Nat.ne_of_lt (Heap.lt_size e)) e
 exact h pins _ σ H xs _ Q I1 (by simpa using rv) hw
def tAsg (te:TE) (g:TG):TS:=fun D σ H => te σ H fun x H1 => g x σ H1 D.nx
theorem Ji6 {tg e:Expr} {te:TE} {g:TG} (he:PE X e te) (hg:PG X tg g) (hs:swapsWithSole [tg] e pos.line X.env = pure false:=by rfl) (hw:swappedStores [tg] e X.env = pure none:=by rfl)
  (h1:(assignEach [tg] X.env).map (·.2) = [assign tg X.env]:=by rfl):PS X (.Assign [tg] e pos) (tAsg te g):=by
 intro pins s σ H D I h
 refine wpAny_Assign_stores (thn (he pins s σ H _ I h) fun v s1 ⟨x,H1,I1,r1,q1⟩ => ?_) hs hw
 rw [h1]
 exact thn (hg pins s1 σ H1 x v _ I1 r1 q1) fun _ s2 q => q
theorem Jak {i:Nat} {x:Str} {e:Expr} {te:TE} {pos':Pos} (hN:X.N.Nodup) (hi:X.N[i]? = some x) (hx:Loc X.env.scope x) (he:PE X e te) (hs:swapsWith e (some (.Name x pos')) pos.line X.env = pure false:=by rfl) (hf:X.fn x = true ∨ X.env.scope.names.lookup x = some .local:=by first | exact .inl rfl | exact .inr rfl | assumption) :
  PS X (.Assign [.Name x pos'] e pos) (tAsg te (gName i)):=by
 intro pins s σ H D I h
 refine wpAny_Assign_Name (thn (he pins s σ H _ I h) fun v s1 ⟨y,H1,I1,r1,q1⟩ => ?_) hs
 exact Jcx I1 hN hi hx r1 (fun s2 I2 => ⟨_,H1,I2,q1⟩) hf
def tPar (i j:Nat) (ta:TA):TS:=fun D σ H => ta σ H fun vs H1 => ∃ v w,vs = [v,w]∧D.nx ((σ.set i (some v)).set j (some w)) H1
theorem Ji7 {i j:Nat} {x y:Str} {a b:Expr} {ta:TA} {px py pt:Pos} {kt k2 pt2} (hc:X.calm = true) (hN:X.N.Nodup) (hi:X.N[i]? = some x) (hj:X.N[j]? = some y) (hij:i ≠ j)
  (hx:X.env.scope.names.lookup x = some .local) (hy:X.env.scope.names.lookup y = some .local) (ha:PA X [a,b] ta)
  (hw:swappedStores [.Tuple [.Name x px, .Name y py] kt pt] (.Tuple [a,b] k2 pt2) X.env = pure (some [x,y]))
  (hs:swapsWithSole [.Tuple [.Name x px, .Name y py] kt pt] (.Tuple [a,b] k2 pt2) pos.line X.env = pure false:=by rfl) :
  PS X (.Assign [.Tuple [.Name x px, .Name y py] kt pt] (.Tuple [a,b] k2 pt2) pos) (tPar i j ta):=by
 intro pins s σ H D I h
 rw [exec_Assign_arm]
 refine wpAny_bind (wpAny_standAt ?_)
 rw [hs]
 refine wpAny_bind (wpAny_pure ?_)
 rw [if_neg (by decide)]
 refine wpAny_bind (Tuple_ (thn (ha _ pins s σ H _ I h) fun us s1 ⟨vs,H1,I1,r1,q1⟩ => ?_))
 obtain ⟨v,w,e1,q1⟩:=q1
 subst e1
 obtain ⟨u1,u2,rfl,rv,rw'⟩:∃ u1 u2,us = [u1,u2]∧RelV v u1∧RelV w u2:=by
  cases r1 with
  | cons p q =>
   cases q with
   | cons p' q' =>
    cases q'
    exact ⟨_,_,rfl,p,p'⟩
 refine wpAny_newObj_type ?_ (by show 2 ≤ sizeLine; decide)
 have I2:Inv X pins σ H1 { s1 with heap:=s1.heap.push { cls:=.type "tuple",data:=.seq [u1,u2].toArray } }:=I1.kept (t':=s1.toks) fun b o e => Heap.get?_push_of_some _ e
 rw [hw]
 refine wpAny_bind (wpAny_pure ?_)
 show wpAny (model X.prog X.w) X.A (do rule "assign.swapped-stores"; let items ← unpackItems (.ref s1.heap.objs.size) 2 none; assignInOrder [fun v => bindName X.env y v,fun v => bindName X.env x v] items.reverse; pure Flow.next) _ _ _
 refine wpAny_bind (wpAny_rule (wpAny_bind (unpackItems_tuple (items:=#[u1,u2]) (I.ok.hd hc) (IsTup.new s1.heap _) fun h' hx' => ?_)))
 have I3:=I2.kept (h':=h') (t':=s1.toks) fun b o e => hx' b o (Nat.ne_of_lt (Heap.lt_size e)) e
 show wpAny _ _ (assignInOrder [fun v => bindName X.env y v,fun v => bindName X.env x v] [u2,u1] >>= fun _ => pure Flow.next) _ _ _
 refine wpAny_bind (assignInOrder_cons (wpAny_bindName (Jcx I3 hN hj (.inl hy) rw' (fun s2 I4 => ?_) (.inr hy))))
 refine assignInOrder_cons (wpAny_bindName (Jcx I4 hN hi (.inl hx) rv (fun s3 I5 => assignInOrder_nil (wpAny_pure ?_)) (.inr hx)))
 rw [List.set_comm _ _ (Ne.symm hij)] at I5
 exact ⟨_,H1,I5,q1⟩
end
section
variable {X:Cx} {pos:Pos}
def Jjk (c:TT) (tb:TS):TS:=fun D σ H => ∃ W:Nat→St→Hp→Prop,(∃ m,W m σ H)∧∀ m σ H,W m σ H →
 c σ H fun b H1 => if b = true then ∃ N:St→Hp→Prop,(∀ σ' H',N σ' H'→∃ m',m' < m∧W m' σ' H')∧tb { D with nx:=N,ct:=N,bk:=D.nx } σ H1 else D.nx σ H1
theorem JdI {c:Expr} {body:List Stmt} {tc:TT} {tb:TS} (hp:PassesOwn (model X.prog X.w) X.A X.env X.xe) (hc:PT X c tc) (hb:PSs X body tb):PS X (.While c body [] pos) (Jjk tc tb):=by
 intro pins s σ H D I h
 obtain ⟨W,⟨m0,w0⟩,turn⟩:=h
 refine wpAny_While (codeAny_whileLoop (fun n s' => ∃ σ' H',Inv X pins σ' H' s'∧W n σ' H') ?_ m0 ⟨σ,H,I,w0⟩)
 rintro n s1 ⟨σ1,H1,I1,w1⟩
 refine wpAny_passesOwn hp (thn (hc pins s1 σ1 H1 _ I1 (turn n σ1 H1 w1)) fun b s2 ⟨H2,I2,q2⟩ => ?_)
 cases b with
 | true =>
  obtain ⟨N,hN,q2⟩:=q2
  rw [if_pos rfl]
  refine wpAny_passesOwn hp (thn (hb pins s2 σ1 H2 _ I2 q2) fun f s3 q3 => ?_)
  cases f with
  | next =>
   obtain ⟨σ3,H3,I3,n3⟩:=q3
   obtain ⟨m',hm,w3⟩:=hN σ3 H3 n3
   exact ⟨m',hm, σ3,H3,I3,w3⟩
  | cont =>
   obtain ⟨σ3,H3,I3,n3⟩:=q3
   obtain ⟨m',hm,w3⟩:=hN σ3 H3 n3
   exact ⟨m',hm, σ3,H3,I3,w3⟩
  | brk => exact q3
  | ret v => exact q3
 | false =>
  rw [if_neg Bool.false_ne_true]
  exact wpAny_execs_nil ⟨σ1,H2,I2,q2⟩
end
structure It where
 go:Nat→Hp→Prop
 yld:Nat→Hp→V→Hp→Prop
 stop:Nat→Hp→Prop
def FpOk (X:Cx) (pins:List (Addr × Obj)) (H:Hp) (b:Addr):Prop :=
 H b = none∧b ≠ X.env.locals∧b ∉ X.fs∧(b ∈ X.ex ∨ X.s₀.heap.objs.size ≤ b)∧(∀ x c,X.env.cells.lookup x = some c→c ≠ b)∧∀ p ∈ X.pn ++ pins,p.1 ≠ b
theorem Inv.fpOk {X:Cx} {pins:List (Addr × Obj)} {σ : St} {H H':Hp} {s:Shared} {b:Addr} (I:Inv X pins σ H s) (hb:s.heap.objs.size ≤ b) (hn:H' b = none):FpOk X pins H' b:=by
 refine ⟨hn,Nat.ne_of_gt (Nat.lt_of_lt_of_le I.lt hb),I.nofs hb, .inr (Nat.le_trans I.sz hb),fun x c e z => ?_,fun p hp z => ?_⟩
 ·obtain ⟨v,q⟩:=I.cell x c e
  exact absurd (Nat.lt_of_lt_of_le q.lt (by rw [z]; exact hb)) (Nat.lt_irrefl _)
 ·exact absurd (Nat.lt_of_lt_of_le (Heap.lt_size (I.pin p hp).1) (by rw [z]; exact hb)) (Nat.lt_irrefl _)
structure Turn (P:Program) (w:World) (K:PySem.W.Frag) (tg:Expr) (J:It) (fp:List Addr) (it:Addr) (tn:Nat→Heap→Prop):Prop where
 mem:it ∈ fp
 obj:∀ i h,tn i h→∀ b ∈ fp, ∃ o,h.get? b = some o∧∀ v,o.data ≠ .cell v
 keep:∀ i h h',tn i h→(∀ b ∈ fp, ∀ o,h.get? b = some o→h'.get? b = some o)→tn i h'
 item:∀ (X:Cx),X.prog = P→X.w = w→X.K = K→X.calm = true→∀ (i:Nat) (pins:List (Addr × Obj)) (s:Shared) (σ : St) (H:Hp) (E:Value→Shared→Prop),Inv X pins σ H s→(∀ b ∈ fp,FpOk X pins H b)→tn i s.heap→J.go i H →
  wpAny (model P w) X.A (pyNext (.ref it)) (fun r s1 => ∃ u,r = some u ∧
   wpAny (model P w) X.A (letOwnedTupleGo tg (.ref it) u) (fun _ s2 => ∃ x H',Inv X pins σ H' s2∧RelV x u∧J.yld i H x H'∧tn (i + 1) s2.heap∧∀ b ∈ fp,H' b = none) E s1) E s
 done:∀ (X:Cx),X.prog = P→X.w = w→X.K = K→X.calm = true→∀ (i:Nat) (pins:List (Addr × Obj)) (s:Shared) (σ : St) (H:Hp) (E:Value→Shared→Prop),Inv X pins σ H s→(∀ b ∈ fp,FpOk X pins H b)→tn i s.heap→J.stop i H →
  wpAny (model P w) X.A (pyNext (.ref it)) (fun r s1 => r = none∧Inv X pins σ H s1) E s
 self:∀ (A:Around) (i:Nat) (s:Shared) (Q:Value→Shared→Prop) (E:Value→Shared→Prop),tn i s.heap→Q (.ref it) s→wpAny (model P w) A (pyIter (.ref it)) Q E s
abbrev TI:=St→Hp→(It→Hp→Prop)→Prop
def PIE (X:Cx) (pins:List (Addr × Obj)) (σ : St) (tg:Expr) (R:It→Hp→Prop) (itv:Value) (s2:Shared):Prop :=
 ∃ (it:Addr) (fp:List Addr) (tn:Nat→Heap→Prop) (J:It) (H':Hp),itv = .ref it∧Inv X pins σ H' s2∧Turn X.prog X.w X.K tg J fp it tn∧tn 0 s2.heap∧(∀ b ∈ fp,FpOk X pins H' b)∧R J H'
def PI (X:Cx) (tg iter:Expr) (wi:TI):Prop :=
 ∀ (pins:List (Addr × Obj)) (s:Shared) (σ : St) (H:Hp) (R:It→Hp→Prop),Inv X pins σ H s→wi σ H R →
  wpAny (model X.prog X.w) X.A (eval iter X.env) (fun v s1 => wpAny (model X.prog X.w) X.A (pyIter v) (PIE X pins σ tg R) X.xe s1) X.xe s
theorem go_of {M:Model} {A:Around} {E:Value→Shared→Prop} {s:Shared} {tg:Expr} {it:Addr} {u:Value} {o:Obj} {n:String} {vs:Array Value} {Q:Unit→Shared→Prop} (ho:s.heap.get? it = some o) (hc:o.cls = .type n) (hd:o.data = .fields vs)
    (hn:["enumerate", "zip", "dict_itemiterator", "dict_reverseitemiterator", "odict_iterator", "itertools.zip_longest", "itertools.pairwise"].contains n = false) (hQ:Q () s):wpAny M A (letOwnedTupleGo tg (.ref it) u) Q E s:=by
  unfold letOwnedTupleGo
  cases tg <;> first
    | exact wpAny_pure hQ
    | (cases u <;> first
        | exact wpAny_pure hQ
        | (refine wpAny_bind (wpAny_load ho ?_)
           rw [hc,hd]
           show wpAny M A (if (["enumerate", "zip", "dict_itemiterator", "dict_reverseitemiterator", "odict_iterator", "itertools.zip_longest", "itertools.pairwise"].contains n && vs[0]? == some (rawInt _)) = true then _ else _) Q E s
           rw [if_neg (by intro h; rw [hn,Bool.false_and] at h; cases h)]
           exact wpAny_pure hQ))
def Itl (K:PySem.W.Frag) (a:Addr):It :=
 ⟨fun i H => ∃ xs x,SqL K H a xs∧xs[i]? = some x,fun i H x H' => H' = H∧∀ xs,SqL K H a xs→xs[i]? = some x,fun i H => ∃ xs,SqL K H a xs∧xs.length ≤ i⟩
def Itt (K:PySem.W.Frag) (a:Addr):It :=
 ⟨fun i H => ∃ xs x,SqT K H a xs∧xs[i]? = some x,fun i H x H' => H' = H∧∀ xs,SqT K H a xs→xs[i]? = some x,fun i H => ∃ xs,SqT K H a xs∧xs.length ≤ i⟩
def Itr (lo:Int) (n:Nat):It:=⟨fun i _ => i < n,fun i H x H' => H' = H∧x = .int (lo + i),fun i _ => n ≤ i⟩
theorem JgM {P:Program} {w:World} {K:PySem.W.Frag} {tg:Expr} (a it:Addr):Turn P w K tg (Itl K a) [it] it (fun i h => h.IsListIter it a i) where
 mem:=by simp
 obj:=fun i h st b hb => by
  have e:b = it:=by simpa using hb
  subst e
  obtain ⟨o,e,c,d⟩:=st
  exact ⟨o,e,fun v z => by rw [d] at z; cases z⟩
 keep:=fun i h h' st k => st.at fun o e => k it (by simp) o e
 item:=by
  intro X hP hw hK hc i pins s σ H E I hf st hg
  subst hP hw hK
  obtain ⟨xs,x,hq,hx⟩:=hg
  obtain ⟨its,rv,p,hz⟩:=I.list hq
  obtain ⟨u,hu,ru⟩:=rv.get hx
  obtain ⟨f0,f1,f2,f3,f4,f5⟩:=hf it (by simp)
  refine wpAny_pyNext_list_item st p.isList (x:=u) (by simpa using hu) fun h' st' sb => ?_
  have I1:Inv X pins σ H { s with heap:=h' }:=I.turned (t':=s.toks) (fun b o hb e => (sb.2 b hb).trans e) f0 f1 f3 f4 f5
  obtain ⟨o,e,c,d⟩:=id st'
  exact ⟨u,rfl,go_of (s:={ s with heap:=h' }) e c d (by decide) ⟨x,H,I1,ru,⟨rfl,fun ys hy => by rw [I.list_inj hy hq]; exact hx⟩,st',fun b hb => (hf b hb).1⟩⟩
 done:=by
  intro X hP hw hK hc i pins s σ H E I hf st hg
  subst hP hw hK
  obtain ⟨xs,hq,hx⟩:=hg
  obtain ⟨its,rv,p,hz⟩:=I.list hq
  obtain ⟨f0,f1,f2,f3,f4,f5⟩:=hf it (by simp)
  have hl:=rv.length
  exact wpAny_pyNext_list_end (I.ok.hd hc) st p.isList (by simp; omega) fun h' eb => ⟨rfl,I.turned (t':=s.toks) (fun b o hb e => eb b o hb e) f0 f1 f3 f4 f5⟩
 self:=fun _ _ _ _ _ st h => wpAny_pyIter_listiter st h
theorem JfJ {P:Program} {w:World} {K:PySem.W.Frag} {tg:Expr} (a it:Addr):Turn P w K tg (Itt K a) [it] it (fun i h => h.IsTupleIter it a i) where
 mem:=by simp
 obj:=fun i h st b hb => by
  have e:b = it:=by simpa using hb
  subst e
  obtain ⟨o,e,c,d⟩:=st
  exact ⟨o,e,fun v z => by rw [d] at z; cases z⟩
 keep:=fun i h h' st k => st.at fun o e => k it (by simp) o e
 item:=by
  intro X hP hw hK hc i pins s σ H E I hf st hg
  subst hP hw hK
  obtain ⟨xs,x,hq,hx⟩:=hg
  obtain ⟨its,rv,p,hz⟩:=I.tuple hq
  obtain ⟨u,hu,ru⟩:=rv.get hx
  obtain ⟨f0,f1,f2,f3,f4,f5⟩:=hf it (by simp)
  refine wpAny_pyNext_tuple_item st (show s.heap.IsTuple a its.toArray from p) (x:=u) (by simpa using hu) fun h' st' sb => ?_
  have I1:Inv X pins σ H { s with heap:=h' }:=I.turned (t':=s.toks) (fun b o hb e => (sb.2 b hb).trans e) f0 f1 f3 f4 f5
  obtain ⟨o,e,c,d⟩:=id st'
  exact ⟨u,rfl,go_of (s:={ s with heap:=h' }) e c d (by decide) ⟨x,H,I1,ru,⟨rfl,fun ys hy => by rw [I.tuple_inj hy hq]; exact hx⟩,st',fun b hb => (hf b hb).1⟩⟩
 done:=by
  intro X hP hw hK hc i pins s σ H E I hf st hg
  subst hP hw hK
  obtain ⟨xs,hq,hx⟩:=hg
  obtain ⟨its,rv,p,hz⟩:=I.tuple hq
  obtain ⟨f0,f1,f2,f3,f4,f5⟩:=hf it (by simp)
  have hl:=rv.length
  exact wpAny_pyNext_tuple_end (I.ok.hd hc) st (show s.heap.IsTuple a its.toArray from p) (by simp; omega) fun h' eb => ⟨rfl,I.turned (t':=s.toks) (fun b o hb e => eb b o hb e) f0 f1 f3 f4 f5⟩
 self:=fun _ _ _ _ _ st h => wpAny_pyIter_tupleiter st h
theorem JfI {P:Program} {w:World} {K:PySem.W.Frag} {tg:Expr} (it:Addr) (lo:Int) (n:Nat):Turn P w K tg (Itr lo n) [it] it (fun i h => IsRangeIter h it (lo + (i:Nat) * 1) ((n:Int) - (i:Nat)) 1) where
 mem:=by simp
 obj:=fun i h st b hb => by
  have e:b = it:=by simpa using hb
  subst e
  exact ⟨_,st,fun v z => by
   have z':Data.fields _ = Data.cell v:=z
   cases z'⟩
 keep:=fun i h h' st k => k it (by simp) _ st
 item:=by
  intro X hP hw hK hc i pins s σ H E I hf st hg
  subst hP hw hK
  obtain ⟨f0,f1,f2,f3,f4,f5⟩:=hf it (by simp)
  have W:=Walks.range (prog:=X.prog) (w:=X.w) (I.ok.hd hc) it lo 1 n
  refine W.item i s _ _ hg st fun v h' tk hv st' kk => ?_
  obtain ⟨t,rfl⟩:=hv
  have I1:Inv X pins σ H { s with heap:=h',toks:=tk }:=I.turned (fun b o hb e => kk b o (by simpa using hb) e) f0 f1 f3 f4 f5
  refine ⟨_,rfl,go_of (s:={ s with heap:=h',toks:=tk }) (n:="range_iterator") st' rfl rfl (by decide) ⟨.int (lo + i),H,I1,⟨t, ?_⟩,⟨rfl,rfl⟩,st',fun b hb => (hf b hb).1⟩⟩
  rw [Int.mul_one]
 done:=by
  intro X hP hw hK hc i pins s σ H E I hf st hg
  subst hP hw hK
  obtain ⟨f0,f1,f2,f3,f4,f5⟩:=hf it (by simp)
  exact wpAny_pyNext_range_end (I.ok.hd hc) st (by have : n ≤ i:=hg; omega) fun h' eb => ⟨rfl,I.turned (t':=s.toks) (fun b o hb e => eb b o hb e) f0 f1 f3 f4 f5⟩
 self:=fun _ _ _ _ _ st h => wpAny_pyIter_rangeiter st h
end L2
namespace L2
open PySem PySem.Spec PyProof.Rows
section
variable {X:Cx} {tg:Expr}
theorem Jhi {pins:List (Addr × Obj)} {σ : St} {H:Hp} {s:Shared} {R:It→Hp→Prop} {E:Value→Shared→Prop} {lo hi:Int} {t u v:Tok} {tk:Nat} (I:Inv X pins σ H s) (h1 : -(2 ^ 62) ≤ lo) (h2:lo < 2 ^ 62) (h3 : -(2 ^ 62) ≤ hi) (h4:hi < 2 ^ 62)
  (q:R (Itr lo (hi - lo).toNat) H):wpAny (model X.prog X.w) X.A (pyIter (.ref s.heap.objs.size)) (PIE X pins σ tg R) E { s with heap:=s.heap.push { cls:=.type "range",data:=.fields #[.int lo t, .int hi u, .int 1 v] },toks:=tk }:=by
 refine wpAny_pyIter_range (IsRange.new ..) (small_one h1 h2 h3 h4) ?_
 have I1:Inv X pins σ H { s with heap:=s.heap.push { cls:=.type "range",data:=.fields #[.int lo t, .int hi u, .int 1 v] },toks:=tk }:=I.kept fun b o e => Heap.get?_push_of_some _ e
 refine ⟨(s.heap.push { cls:=.type "range",data:=.fields #[.int lo t, .int hi u, .int 1 v] }).objs.size,[(s.heap.push { cls:=.type "range",data:=.fields #[.int lo t, .int hi u, .int 1 v] }).objs.size],_,_,H,rfl,
  I1.kept (t':=tk) fun b o e => Heap.get?_push_of_some _ e,JfI _ lo (hi - lo).toNat, ?_,fun b hb => ?_,q⟩
 ·have e1:lo + ((0:Nat):Int) * 1 = lo:=by simp
  have e2:(((hi - lo).toNat:Nat):Int) - ((0:Nat):Int) = Builtin.Range.rangeSize lo hi 1:=by rw [rangeSize_one]; split <;> omega
  show IsRangeIter _ _ (lo + ((0:Nat):Int) * 1) ((((hi - lo).toNat:Nat):Int) - ((0:Nat):Int)) 1
  rw [e1,e2]
  exact Heap.get?_push_size _ rfl
 ·have e:b = (s.heap.push { cls:=.type "range",data:=.fields #[.int lo t, .int hi u, .int 1 v] }).objs.size:=by simpa using hb
  subst e
  exact I1.fpOk (Nat.le_refl _) (I1.hok.fresh (Nat.le_refl _))
def iRng1 (ta:TA):TI:=fun σ H R => ta σ H fun vs H1 => ∃ j:Int,vs = [.int j]∧-(2 ^ 62) ≤ j∧j < 2 ^ 62∧R (Itr 0 j.toNat) H1
def iRng2 (ta:TA):TI:=fun σ H R => ta σ H fun vs H1 => ∃ i j:Int,vs = [.int i, .int j]∧(-(2 ^ 62) ≤ i∧i < 2 ^ 62∧-(2 ^ 62) ≤ j∧j < 2 ^ 62)∧R (Itr i (j - i).toNat) H1
theorem JcQ {a:Expr} {ta:TA} {p pos:Pos} (hg:Gl X "range") (hm:X.mg "range" = none) (ha:PA X [a] ta) (hs:starEach [a] X.env = [(false,eval a X.env)]:=by rfl):PI X tg (.Call (.Name "range" p) [a] [] pos) (iRng1 ta):=by
 intro pins s σ H R I h
 refine Call_ (JcI I hg hm boot_range (PyProof.Rows.callWith_type1 (thn (ha pos pins s σ H _ I h) fun us s1 ⟨vs,H1,I1,r1,q1⟩ => ?_) hs rfl))
 obtain ⟨j,e,q1,q2,q⟩:=q1
 subst e
 cases r1 with
 | cons r rr =>
  cases rr
  obtain ⟨t,rfl⟩:=r
  exact call_range_1 (Jhi I1 (by omega) (by omega) q1 q2 (by simpa using q))
def tFor (wi:TI) (g:TG) (tb:TS):TS:=fun D σ H => wi σ H fun J H1 => ∃ W:Nat→Nat→St→Hp→Prop,(∃ m,W 0 m σ H1)∧∀ i m σ H,W i m σ H →
 (J.stop i H∧D.nx σ H) ∨ (J.go i H∧∃ N:St→Hp→Prop,(∀ σ' H',N σ' H'→∃ m',m' < m∧W (i + 1) m' σ' H')∧∀ x H',J.yld i H x H'→g x σ H' fun σ2 H2 => tb { D with nx:=N,ct:=N,bk:=D.nx } σ2 H2)
def Jfj (fp:List Addr) (h:Heap):List (Addr × Obj):=fp.filterMap fun b => (h.get? b).map fun o => (b,o)
theorem Jbb {fp:List Addr} {h:Heap} {b:Addr} {o:Obj} (hb:b ∈ fp) (e:h.get? b = some o):(b,o) ∈ Jfj fp h:=List.mem_filterMap.mpr ⟨b,hb,by rw [e]; rfl⟩
theorem Jgo {fp:List Addr} {h:Heap} {p:Addr × Obj} (hp:p ∈ Jfj fp h):p.1 ∈ fp∧h.get? p.1 = some p.2:=by
 obtain ⟨b,hb,e⟩:=List.mem_filterMap.mp hp
 cases q:h.get? b with
 | none => rw [q] at e; cases e
 | some o =>
  rw [q] at e
  have e':(b,o) = p:=Option.some.inj e
  subst e'
  exact ⟨hb,q⟩
theorem Inv.pinned {pins:List (Addr × Obj)} {σ : St} {H:Hp} {s:Shared} {fp:List Addr} (I:Inv X pins σ H s) (hf:∀ b ∈ fp,FpOk X pins H b) (ho:∀ b ∈ fp, ∃ o,s.heap.get? b = some o∧∀ v,o.data ≠ .cell v):Inv X (pins ++ Jfj fp s.heap) σ H s :=
 I.pins_of fun p hp => (List.mem_append.mp hp).elim (fun z => I.pin p (List.mem_append_right _ z)) fun z => by
  obtain ⟨hb,e⟩:=Jgo z
  obtain ⟨f0,f1,f2,_⟩:=hf p.1 hb
  obtain ⟨o,e',d⟩:=ho p.1 hb
  rw [e] at e'; cases e'
  exact ⟨e,f0,f1,f2,d⟩
theorem Inv.unpinned {pins pl:List (Addr × Obj)} {σ : St} {H:Hp} {s:Shared} (I:Inv X (pins ++ pl) σ H s):Inv X pins σ H s:=I.pins_of fun p hp => I.pin p (List.mem_append_right _ (List.mem_append_left _ hp))
theorem JaY {iter:Expr} {body:List Stmt} {wi:TI} {g:TG} {tb:TS} {pos:Pos} (hp:PassesOwn (model X.prog X.w) X.A X.env X.xe) (hc:X.calm = true) (hi:PI X tg iter wi) (hg:PG X tg g) (hb:PSs X body tb)
  (hs:∀ x,foldedSetIterable iter X.env x = pure x:=by intro _; rfl):PS X (.For tg iter body [] pos) (tFor wi g tb):=by
 intro pins s σ H D I h
 refine wpAny_For (thn (hi pins s σ H _ I h) fun v s1 h1 => thn h1 fun itv s2 h2 => ?_) hs
 obtain ⟨it,fp,tn,J,H2,e,I2,T,st2,f2,W,⟨m0,w0⟩,turn⟩:=h2
 subst e
 have stat:∀ {H':Hp},(∀ b ∈ fp,H' b = none)→∀ b ∈ fp,FpOk X pins H' b:=fun hn b hb => ⟨hn b hb,(f2 b hb).2⟩
 refine codeAny_forLoop_any (fun n s' => ∃ i σ' H',Inv X pins σ' H' s'∧tn i s'.heap∧(∀ b ∈ fp,H' b = none)∧W i n σ' H') ?_ m0 ⟨0, σ,H2,I2,st2,fun b hb => (f2 b hb).1,w0⟩
 rintro n s3 ⟨i, σ3,H3,I3,st3,fr3,w3⟩
 rcases turn i n σ3 H3 w3 with ⟨stop,qn⟩ | ⟨go,N,hN,step⟩
 ·refine wpAny_passesOwn hp (thn (T.done X rfl rfl rfl hc i pins s3 σ3 H3 X.xe I3 (stat fr3) st3 stop) fun r s4 ⟨hr,I4⟩ => ?_)
  subst hr
  exact wpAny_execs_nil ⟨σ3,H3,I4,qn⟩
 ·refine wpAny_passesOwn hp (thn (T.item X rfl rfl rfl hc i pins s3 σ3 H3 X.xe I3 (stat fr3) st3 go) fun r s4 ⟨u,hr,h4⟩ => ?_)
  subst hr
  refine wpAny_passesOwn hp (thn h4 fun _ s5 ⟨x,H5,I5,r5,y5,st5,fr5⟩ => ?_)
  have I5':=I5.pinned (stat fr5) (T.obj _ _ st5)
  refine wpAny_passesOwn hp (thn (hg _ s5 σ3 H5 x u _ I5' r5 (step x H5 y5)) fun _ s6 ⟨σ6,H6,I6,q6⟩ => ?_)
  refine wpAny_passesOwn hp (thn (hb _ s6 σ6 H6 _ I6 q6) fun f s7 q7 => ?_)
  have again:∀ {σ7:St} {H7:Hp},Inv X (pins ++ Jfj fp s5.heap) σ7 H7 s7→N σ7 H7→∃ m,m < n∧∃ i σ' H',Inv X pins σ' H' s7∧tn i s7.heap∧(∀ b ∈ fp,H' b = none)∧W i m σ' H':=fun {σ7 H7} I7 n7 => by
   obtain ⟨m',hm,w7⟩:=hN σ7 H7 n7
   refine ⟨m',hm,i + 1, σ7,H7,I7.unpinned,T.keep _ _ _ st5 fun b hb o e => (I7.pin (b,o) (List.mem_append_right _ (List.mem_append_right _ (Jbb hb e)))).1,fun b hb => ?_,w7⟩
   obtain ⟨o,e,d⟩:=T.obj _ _ st5 b hb
   exact (I7.pin (b,o) (List.mem_append_right _ (List.mem_append_right _ (Jbb hb e)))).2.1
  cases f with
  | next => obtain ⟨σ7,H7,I7,n7⟩:=q7; exact again I7 n7
  | cont => obtain ⟨σ7,H7,I7,n7⟩:=q7; exact again I7 n7
  | brk => obtain ⟨σ7,H7,I7,q7⟩:=q7; exact ⟨σ7,H7,I7.unpinned,q7⟩
  | ret v => obtain ⟨x7, σ7,H7,I7,r7,q7⟩:=q7; exact ⟨x7, σ7,H7,I7.unpinned,r7,q7⟩
end
theorem Jf2 {lo:Int} {n:Nat} {g:TG} {tb:TS} {D:Ends} {σ : St} {H:Hp} (Pv:Nat→St→Hp→Prop) (h0:Pv 0 σ H)
  (hs:∀ i σ H,i < n→Pv i σ H→g (.int (lo + i)) σ H fun σ2 H2 => tb { D with nx:=Pv (i + 1),ct:=Pv (i + 1),bk:=D.nx } σ2 H2) (hd:∀ σ H,Pv n σ H→D.nx σ H) :
  ∃ W:Nat→Nat→St→Hp→Prop,(∃ m,W 0 m σ H)∧∀ i m σ H,W i m σ H →
   ((Itr lo n).stop i H∧D.nx σ H) ∨ ((Itr lo n).go i H∧∃ N:St→Hp→Prop,(∀ σ' H',N σ' H'→∃ m',m' < m∧W (i + 1) m' σ' H')∧∀ x H',(Itr lo n).yld i H x H'→g x σ H' fun σ2 H2 => tb { D with nx:=N,ct:=N,bk:=D.nx } σ2 H2):=by
 refine ⟨fun i m σ H => m = n - i∧i ≤ n∧Pv i σ H,⟨n,by simp,Nat.zero_le _,h0⟩, ?_⟩
 rintro i m σ H ⟨rfl,hi,p⟩
 by_cases hlt:i < n
 ·refine .inr ⟨hlt,Pv (i + 1),fun σ' H' p' => ⟨n - (i + 1),by omega,rfl,hlt,p'⟩,fun x H' y => ?_⟩
  obtain ⟨e,y⟩:=y
  subst e y
  exact hs i σ _ hlt p
 ·have e:i = n:=by omega
  subst e
  exact .inl ⟨Nat.le_refl _,hd σ H p⟩
end L2
namespace L2
open PySem PySem.Spec PyProof.Rows
abbrev R2:=V→V→Hp→VK→Prop
def OpR (X:Cx) (f:Value→Value→Sem Value) (r:R2):Prop :=
 ∀ (pins:List (Addr × Obj)) (s:Shared) (σ : St) (H:Hp) (x y:V) (v u:Value) (Q:VK),Inv X pins σ H s→RelV x v→RelV y u→r x y H Q →
  wpAny (model X.prog X.w) X.A (f v u) (EP X pins σ Q) X.xe s
def UnR (X:Cx) (f:Value→Sem Value) (r:V→Hp→VK→Prop):Prop :=
 ∀ (pins:List (Addr × Obj)) (s:Shared) (σ : St) (H:Hp) (x:V) (v:Value) (Q:VK),Inv X pins σ H s→RelV x v→r x H Q →
  wpAny (model X.prog X.w) X.A (f v) (EP X pins σ Q) X.xe s
def CallR (X:Cx) (f:Value) (r:List V→Hp→VK→Prop):Prop :=
 ∀ (pins:List (Addr × Obj)) (s:Shared) (σ : St) (H:Hp) (xs:List V) (us:List Value) (Q:VK),Inv X pins σ H s→Vals xs us→r xs H Q →
  wpAny (model X.prog X.w) X.A (call f us) (EP X pins σ Q) X.xe s
def tOp (r:R2) (ta tb:TE):TE:=fun σ H Q => ta σ H fun x H1 => tb σ H1 fun y H2 => r x y H2 Q
def tUn (r:V→Hp→VK→Prop) (ta:TE):TE:=fun σ H Q => ta σ H fun x H1 => r x H1 Q
def rI (C:Int→Int→Prop) (g:Int→Int→V):R2:=fun x y H Q => ∃ i j,x = .int i∧y = .int j∧C i j∧Q (g i j) H
def rI0 (g:Int→Int→V):R2:=fun x y H Q => ∃ i j,x = .int i∧y = .int j∧Q (g i j) H
def rU (g:Int→V):V→Hp→VK→Prop:=fun x H Q => ∃ i,x = .int i∧Q (g i) H
section
variable {X:Cx} {a b c:Expr} {ta tb tc:TE} {pos:Pos}
theorem binT (ha:PE X a ta) (hb:PE X b tb) {pins:List (Addr × Obj)} {s:Shared} {σ : St} {H:Hp} {R:V→V→Hp→Prop} (I:Inv X pins σ H s)
  (h:ta σ H fun x H1 => tb σ H1 fun y H2 => R x y H2) {Q:Value→Shared→Prop} {f:Value→Value→Sem Value}
  (hf:∀ v u s2 x y H2,Inv X pins σ H2 s2→RelV x v→RelV y u→R x y H2→wpAny (model X.prog X.w) X.A (f v u) Q X.xe s2) :
  wpAny (model X.prog X.w) X.A (eval a X.env) (fun v s₁ => wpAny (model X.prog X.w) X.A (eval b X.env) (fun u s₂ => wpAny (model X.prog X.w) X.A (f v u) Q X.xe s₂) X.xe s₁) X.xe s:=by
 refine thn (ha pins s σ H _ I h) fun v s1 ⟨x,H1,I1,r1,q1⟩ => ?_
 refine thn (hb pins s1 σ H1 _ I1 q1) fun u s2 ⟨y,H2,I2,r2,q2⟩ => ?_
 exact hf v u s2 x y H2 I2 r1 r2 q2
theorem pe_op {op:Operator} {r:R2} (ho:OpR X (binaryOp op) r) (ha:PE X a ta) (hb:PE X b tb):PE X (.BinOp a op b pos) (tOp r ta tb):=by
 intro pins s σ H Q I h
 exact wpAny_BinOp (binT ha hb I h fun v u s2 x y H2 I2 rx ry q => ho pins s2 σ H2 x y v u Q I2 rx ry q)
theorem pe_un {op:UnaryOp} {r:V→Hp→VK→Prop} (ho:UnR X (unaryOp op) r) (ha:PE X a ta):PE X (.UnaryOp op a pos) (tUn r ta):=by
 intro pins s σ H Q I h
 exact UnaryOp_ (thn (ha pins s σ H _ I h) fun v s1 ⟨x,H1,I1,r1,q1⟩ => ho pins s1 σ H1 x v Q I1 r1 q1)
theorem opI {f:Value→Value→Sem Value} {C:Int→Int→Prop} {g:Int→Int→Int}
  (rule:∀ (i j:Int) (t u:Tok) (s:Shared) (Q:Value→Shared→Prop) (E:Value→Shared→Prop),C i j→Q (.int (g i j) s.toks) { s with toks:=s.toks + 1 }→wpAny (model X.prog X.w) X.A (f (.int i t) (.int j u)) Q E s) :
  OpR X f (rI C fun i j => .int (g i j)):=by
 intro pins s σ H x y v u Q I rx ry h
 obtain ⟨i,j,rfl,rfl,hc,q⟩:=h
 obtain ⟨t,rfl⟩:=rx
 obtain ⟨t',rfl⟩:=ry
 exact rule i j t t' s _ _ hc ⟨.int (g i j),H,I.tok _,⟨_,rfl⟩,q⟩
theorem opI0 {f:Value→Value→Sem Value} {g:Int→Int→Int}
  (rule:∀ (i j:Int) (t u:Tok) (s:Shared) (Q:Value→Shared→Prop) (E:Value→Shared→Prop),Q (.int (g i j) s.toks) { s with toks:=s.toks + 1 }→wpAny (model X.prog X.w) X.A (f (.int i t) (.int j u)) Q E s) :
  OpR X f (rI0 fun i j => .int (g i j)):=by
 intro pins s σ H x y v u Q I rx ry h
 obtain ⟨i,j,rfl,rfl,q⟩:=h
 obtain ⟨t,rfl⟩:=rx
 obtain ⟨t',rfl⟩:=ry
 exact rule i j t t' s _ _ ⟨.int (g i j),H,I.tok _,⟨_,rfl⟩,q⟩
theorem opB0 {f:Value→Value→Sem Value} {g:Int→Int→Bool}
  (rule:∀ (i j:Int) (t u:Tok) (s:Shared) (Q:Value→Shared→Prop) (E:Value→Shared→Prop),Q (.bool (g i j)) s→wpAny (model X.prog X.w) X.A (f (.int i t) (.int j u)) Q E s) :
  OpR X f (rI0 fun i j => .bl (g i j)):=by
 intro pins s σ H x y v u Q I rx ry h
 obtain ⟨i,j,rfl,rfl,q⟩:=h
 obtain ⟨t,rfl⟩:=rx
 obtain ⟨t',rfl⟩:=ry
 exact rule i j t t' s _ _ ⟨.bl (g i j),H,I,rfl,q⟩
def CPow (i j:Int):Prop:=0 ≤ j∧j ≤ 1000000∧i.natAbs < 2 ^ 64
theorem JiX:OpR X (binaryOp .Add) (rI0 fun i j => .int (i + j)):=opI0 fun _ _ _ _ _ _ _ q => add_int q
theorem Jgw:OpR X (binaryOp .Sub) (rI0 fun i j => .int (i - j)):=opI0 fun _ _ _ _ _ _ _ q => sub_int q
theorem Jie:OpR X (binaryOp .Mod) (rI (fun _ j => j ≠ 0) fun i j => .int (i.fmod j)):=opI fun _ _ _ _ _ _ _ hc q => mod_int' hc q
theorem Ji3:OpR X (binaryOp .Pow) (rI CPow fun i j => .int (i ^ j.toNat)):=opI fun _ _ _ _ _ _ _ hc q => pow_int_small hc.1 hc.2.1 hc.2.2 q
theorem unI {f:Value→Sem Value} {g:Int→Int}
  (rule:∀ (i:Int) (t:Tok) (s:Shared) (Q:Value→Shared→Prop) (E:Value→Shared→Prop),Q (.int (g i) s.toks) { s with toks:=s.toks + 1 }→wpAny (model X.prog X.w) X.A (f (.int i t)) Q E s) :
  UnR X f (rU fun i => .int (g i)):=by
 intro pins s σ H x v Q I rx h
 obtain ⟨i,rfl,q⟩:=h
 obtain ⟨t,rfl⟩:=rx
 exact rule i t s _ _ ⟨.int (g i),H,I.tok _,⟨_,rfl⟩,q⟩
theorem Jdo:UnR X (unaryOp .USub) (rU fun i => .int (-i)):=unI fun _ _ _ _ _ q => neg_int q
end
def scal:V→V→Bool
 | .non, .non => true | .non, .int _ => true | .int _, .non => true | .non, .bl _ => true | .bl _, .non => true | .non, .str _ => true | .str _, .non => true
 | .int _, .int _ => true | .bl _, .bl _ => true | .str _, .str _ => true | .byt _, .byt _ => true
 | .int _, .str _ => true | .str _, .int _ => true | .bl _, .str _ => true | .str _, .bl _ => true
 | _,_ => false
def rEq:R2:=fun x y H Q => scal x y = true∧Q (.bl (decide (x = y))) H
def rNe:R2:=fun x y H Q => scal x y = true∧Q (.bl (!decide (x = y))) H
theorem JfT {i j:Int}:decide (V.int i = V.int j) = (i == j):=by
 rw [Bool.eq_iff_iff]
 simp
theorem Jhw {i j:Bool}:decide (V.bl i = V.bl j) = (i == j):=by
 rw [Bool.eq_iff_iff]
 simp
theorem JfU {i j:Str}:decide (V.str i = V.str j) = (i == j):=by
 rw [Bool.eq_iff_iff]
 simp
theorem JfS {i j:Array UInt8}:decide (V.byt i = V.byt j) = (i.toList == j.toList):=by
 rw [Bool.eq_iff_iff]
 cases i
 cases j
 simp
section
variable {X:Cx} {a b c:Expr} {ta tb tc:TE} {pos:Pos}
theorem JaC {pins:List (Addr × Obj)} {σ : St} {H:Hp} {s:Shared} {Q:VK} {k k':Bool} (I:Inv X pins σ H s) (q:Q (.bl k) H) (e:k = k'):EP X pins σ Q (.bool k') s:=by
 subst e
 exact ⟨.bl k,H,I,rfl,q⟩
theorem op_eq:OpR X (compareOp .Eq) rEq:=by
 intro pins s σ H x y v u Q I rx ry h
 obtain ⟨hs,q⟩:=h
 cases x with
 | non =>
  cases rx
  cases y with
  | non => cases ry; exact PySem.EqNone.eq_none_none (JaC I q (by simp))
  | bl j => cases ry; exact PySem.EqNone.eq_none_bool (JaC I q (by simp))
  | int j => obtain ⟨t',rfl⟩:=ry; exact PySem.EqNone.eq_none_int (JaC I q (by simp))
  | str j => obtain ⟨t',rfl⟩:=ry; exact PySem.EqNone.eq_none_str (JaC I q (by simp))
  | _ => exact absurd (show false = true from hs) Bool.false_ne_true
 | bl i =>
  cases rx
  cases y with
  | non => cases ry; exact PySem.EqNone.eq_bool_none (JaC I q (by simp))
  | bl j => cases ry; exact eq_bool (JaC I q Jhw)
  | str j => obtain ⟨t',rfl⟩:=ry; exact PySem.EqMixed.eq_bool_str (JaC I q (by simp))
  | _ => exact absurd (show false = true from hs) Bool.false_ne_true
 | int i =>
  obtain ⟨t,rfl⟩:=rx
  cases y with
  | non => cases ry; exact PySem.EqNone.eq_int_none (JaC I q (by simp))
  | int j => obtain ⟨t',rfl⟩:=ry; exact eq_int (JaC I q JfT)
  | str j => obtain ⟨t',rfl⟩:=ry; exact PySem.EqMixed.eq_int_str (JaC I q (by simp))
  | _ => exact absurd (show false = true from hs) Bool.false_ne_true
 | str i =>
  obtain ⟨t,rfl⟩:=rx
  cases y with
  | non => cases ry; exact PySem.EqNone.eq_str_none (JaC I q (by simp))
  | bl j => cases ry; exact PySem.EqMixed.eq_str_bool (JaC I q (by simp))
  | int j => obtain ⟨t',rfl⟩:=ry; exact PySem.EqMixed.eq_str_int (JaC I q (by simp))
  | str j => obtain ⟨t',rfl⟩:=ry; exact eq_str (JaC I q JfU)
  | _ => exact absurd (show false = true from hs) Bool.false_ne_true
 | byt i =>
  obtain ⟨t,rfl⟩:=rx
  cases y with
  | byt j => obtain ⟨t',rfl⟩:=ry; exact PySem.W.eq_bytes (JaC I q JfS)
  | _ => exact absurd (show false = true from hs) Bool.false_ne_true
 | _ => cases y <;> exact absurd (show false = true from hs) Bool.false_ne_true
theorem op_ne:OpR X (compareOp .NotEq) rNe:=by
 intro pins s σ H x y v u Q I rx ry h
 obtain ⟨hs,q⟩:=h
 cases x with
 | non =>
  cases rx
  cases y with
  | non => cases ry; exact PySem.EqNone.ne_none_none (JaC I q (by simp))
  | bl j => cases ry; exact PySem.EqNone.ne_none_bool (JaC I q (by simp))
  | int j => obtain ⟨t',rfl⟩:=ry; exact PySem.EqNone.ne_none_int (JaC I q (by simp))
  | str j => obtain ⟨t',rfl⟩:=ry; exact PySem.EqNone.ne_none_str (JaC I q (by simp))
  | _ => exact absurd (show false = true from hs) Bool.false_ne_true
 | bl i =>
  cases rx
  cases y with
  | non => cases ry; exact PySem.EqNone.ne_bool_none (JaC I q (by simp))
  | bl j => cases ry; exact ne_bool (JaC I q (congrArg not Jhw))
  | str j => obtain ⟨t',rfl⟩:=ry; exact PySem.EqMixed.ne_bool_str (JaC I q (by simp))
  | _ => exact absurd (show false = true from hs) Bool.false_ne_true
 | int i =>
  obtain ⟨t,rfl⟩:=rx
  cases y with
  | non => cases ry; exact PySem.EqNone.ne_int_none (JaC I q (by simp))
  | int j => obtain ⟨t',rfl⟩:=ry; exact ne_int (JaC I q (congrArg not JfT))
  | str j => obtain ⟨t',rfl⟩:=ry; exact PySem.EqMixed.ne_int_str (JaC I q (by simp))
  | _ => exact absurd (show false = true from hs) Bool.false_ne_true
 | str i =>
  obtain ⟨t,rfl⟩:=rx
  cases y with
  | non => cases ry; exact PySem.EqNone.ne_str_none (JaC I q (by simp))
  | bl j => cases ry; exact PySem.EqMixed.ne_str_bool (JaC I q (by simp))
  | int j => obtain ⟨t',rfl⟩:=ry; exact PySem.EqMixed.ne_str_int (JaC I q (by simp))
  | str j => obtain ⟨t',rfl⟩:=ry; exact ne_str (JaC I q (congrArg not JfU))
  | _ => exact absurd (show false = true from hs) Bool.false_ne_true
 | byt i =>
  obtain ⟨t,rfl⟩:=rx
  cases y with
  | byt j => obtain ⟨t',rfl⟩:=ry; exact PySem.W.ne_bytes (JaC I q (congrArg not JfS))
  | _ => exact absurd (show false = true from hs) Bool.false_ne_true
 | _ => cases y <;> exact absurd (show false = true from hs) Bool.false_ne_true
theorem op_lt:OpR X (compareOp .Lt) (rI0 fun i j => .bl (decide (i < j))):=opB0 fun _ _ _ _ _ _ _ q => lt_int q
theorem op_gt:OpR X (compareOp .Gt) (rI0 fun i j => .bl (decide (j < i))):=opB0 fun _ _ _ _ _ _ _ q => gt_int q
theorem op_ge:OpR X (compareOp .GtE) (rI0 fun i j => .bl (decide (j ≤ i))):=opB0 fun _ _ _ _ _ _ _ q => ge_int q
theorem Jgt:OpR X (compareOp .In) (fun x y H Q => ∃ i j,x = .str i∧y = .str j∧Q (.bl (!(Builtin.Str.occurrences j i 0 j.length 1).isEmpty)) H):=by
 intro pins s σ H x y v u Q I rx ry h
 obtain ⟨i,j,rfl,rfl,q⟩:=h
 obtain ⟨t,rfl⟩:=rx
 obtain ⟨t',rfl⟩:=ry
 exact in_str (JaC I q rfl)
theorem Ji2:OpR X (compareOp .Is) (fun x y H Q => y = .non∧Q (.bl (decide (x = .non))) H):=by
 intro pins s σ H x y v u Q I rx ry h
 obtain ⟨rfl,q⟩:=h
 cases ry
 refine is_none_gen (JaC I q ?_)
 cases x <;> first
  | (cases rx; rfl)
  | (obtain ⟨t,rfl⟩:=rx; rfl)
theorem Jii:OpR X (compareOp .IsNot) (fun x y H Q => y = .non∧Q (.bl (!decide (x = .non))) H):=by
 intro pins s σ H x y v u Q I rx ry h
 obtain ⟨rfl,q⟩:=h
 cases ry
 refine isnot_none_gen (JaC I q ?_)
 cases x <;> first
  | (cases rx; rfl)
  | (obtain ⟨t,rfl⟩:=rx; rfl)
theorem Jay (b:Expr) {op:CmpOp} (h:op ≠ .In:=by decide) (h2:op ≠ .NotIn:=by decide):behindInMarks op b = false:=by
 have e1:(op == CmpOp.In) = false:=by cases op <;> first | rfl | exact absurd rfl h
 have e2:(op == CmpOp.NotIn) = false:=by cases op <;> first | rfl | exact absurd rfl h2
 cases b <;> simp [behindInMarks,e1,e2]
theorem Jbi {op:CmpOp} {r:R2} (ho:OpR X (compareOp op) r) (ha:PE X a ta) (hb:PE X b tb) (hm:behindInMarks op b = false):PE X (.Compare a [op] [b] pos) (tOp r ta tb):=by
 intro pins s σ H Q I h
 exact wpAny_Compare1 (binT ha hb I h fun v u s2 x y H2 I2 rx ry q => ho pins s2 σ H2 x y v u Q I2 rx ry q) hm
def tTest (t:TE):TT:=fun σ H Q => t σ H fun x H' => ∃ k,x = .bl k∧Q k H'
theorem Jav {op:CmpOp} {r:R2} (ho:OpR X (compareOp op) r) (ha:PE X a ta) (hb:PE X b tb) (hm:behindInMarks op b = false):PT X (.Compare a [op] [b] pos) (tTest (tOp r ta tb)):=by
 intro pins s σ H Q I h
 refine wpAny_isTrue_Compare1 (thn (ha pins s σ H _ I h) fun v s1 ⟨x,H1,I1,r1,q1⟩ => thn (hb pins s1 σ H1 _ I1 q1) fun u s2 ⟨y,H2,I2,r2,q2⟩ =>
  thn (ho pins s2 σ H2 x y v u _ I2 r1 r2 q2) fun c s3 ⟨z,H3,I3,r3,k,e,q3⟩ => ?_) hm
 subst e
 cases r3
 exact wpAny_truthy_bool ⟨H3,I3,q3⟩
def Jje (r r':R2) (ta tb tc:TE):TE:=fun σ H Q => ta σ H fun x H1 => tb σ H1 fun y H2 => r x y H2 fun z H3 => ∃ k,z = .bl k ∧
 (if k = true then tc σ H3 fun w' H4 => r' y w' H4 Q else Q (.bl false) H3)
theorem Jd1:(sizeLine:Nat) < 2 ^ 63:=by rw [sizeLine_eq]; decide
theorem JfD:OpR X (binaryOp .Add) (fun x y H Q => ∃ i j,x = .str i∧y = .str j∧i.length + j.length ≤ sizeLine∧Q (.str (i ++ j)) H):=by
 intro pins s σ H x y v u Q I rx ry h
 obtain ⟨i,j,rfl,rfl,hz,q⟩:=h
 obtain ⟨t,rfl⟩:=rx
 obtain ⟨t',rfl⟩:=ry
 exact add_str (fun t' tk => ⟨.str (i ++ j),H,I.tok _,⟨_,rfl⟩,q⟩) hz
theorem vals1 {x:V} {us:List Value} (r:Vals [x] us):∃ u,us = [u]∧RelV x u:=by
 cases r with
 | cons r1 r2 => cases r2; exact ⟨_,rfl,r1⟩
theorem vals2 {x y:V} {us:List Value} (r:Vals [x,y] us):∃ u w',us = [u,w']∧RelV x u∧RelV y w':=by
 cases r with
 | cons r1 r2 =>
  cases r2 with
  | cons r3 r4 => cases r4; exact ⟨_,_,rfl,r1,r3⟩
theorem JgS:CallR X (.builtin "abs") (fun xs H Q => ∃ i,xs = [.int i]∧Q (.int (if i < 0 then -i else i)) H):=by
 intro pins s σ H xs us Q I r h
 obtain ⟨i,rfl,q⟩:=h
 obtain ⟨u,rfl,t,rfl⟩:=vals1 r
 exact call_abs_int fun u tk => ⟨.int (if i < 0 then -i else i),H,I.tok _,⟨_,rfl⟩,q⟩
end
end L2
namespace L2
open PySem PySem.Spec PyProof.Rows
structure ObjM (h:Heap) (x dx C:Addr) (mA:Str→Option Value):Prop where
 obj:h.get? x = some (PySem.W.instObj C dx)
 ns:h.Ns1 dx mA
 ne:dx ≠ x
theorem Jd3 {h:Heap} {dx:Addr} {mA:Str→Option Value} (n:h.Ns1 dx mA):∃ od,h.get? dx = some od∧∀ name,PySem.W.lookIn name od = some (mA name):=by
 obtain ⟨o,es,ep,ho,hd,hk,_,hm⟩:=n
 refine ⟨o,ho,fun name => ?_⟩
 have e:=hm name
 unfold nsFind findBy at e
 rw [← Array.find?_toList] at e
 unfold PySem.W.lookIn
 rw [hd]
 dsimp only
 split
 ·rename_i y q
  rw [q] at e
  exact congrArg some e
 ·rename_i q
  rw [q] at e
  have a:es.toList.any (·.refKey) = false:=by
   rw [List.any_eq_false]
   intro y hy
   obtain ⟨z,t,hkey⟩:=hk y (Array.mem_toList_iff.mp hy)
   simp [DictEntry.refKey,hkey]
  have a':¬ es.toList.any (·.refKey) = true:=by rw [a]; exact Bool.false_ne_true
  rw [if_neg a']
  exact congrArg some e
theorem ObjM.look {h:Heap} {x dx C:Addr} {mA:Str→Option Value} (I:ObjM h x dx C mA):∃ od,PySem.W.InstAt h x (PySem.W.instObj C dx) C (some od)∧∀ name,PySem.W.lookIn name od = some (mA name) :=
 let ⟨od,ho,hl⟩:=Jd3 I.ns
 ⟨od,⟨I.obj,rfl,rfl,ho⟩,hl⟩
section
variable {prog:Program} {w:World} {A:Around} {E:Value→Shared→Prop} {s:Shared} {K:PySem.W.Frag} {x dx C f:Addr} {mA:Str→Option Value} {name:Str} {v:Value}
theorem get_map {expr:Bool} {Q:Value→Shared→Prop} (X:K.In s.heap) (I:ObjM s.heap x dx C mA) (hg:PySem.W.plainGet K C name = true) (hh:PySem.W.hasDictIn K C = true)
  (ha:PySem.W.findIn K (.ref C) name = some none) (hv:mA name = some v) (hv':PySem.W.handedIn v = true) (h:Q v { s with toks:=s.toks + 1 }) :
  wpAny (model prog w) A (getAttr (.ref x) name expr) Q E s:=by
 obtain ⟨od,J,hl⟩:=I.look
 exact PySem.W.get_value X J (PySem.W.plainGet_of hg).1 (PySem.W.findObj_own hh ha rfl (by rw [hl,hv])) hv' h
theorem Jg1 {pl:Sem Bool} {Q:Value × List Value→Shared→Prop} (X:K.In s.heap) (I:ObjM s.heap x dx C mA) (hg:PySem.W.plainGet K C name = true)
  (hf:PySem.W.findIn K (.ref C) name = some (some (.ref f))) (ht:PySem.W.isFn K (.ref f) = true) (hv:mA name = none) (h:Q (.ref f,[.ref x]) s) :
  wpAny (model prog w) A (getMethod (.ref x) name pl) Q E s:=by
 obtain ⟨od,J,hl⟩:=I.look
 exact PySem.W.method_fn X J (PySem.W.plainGet_of hg).1 (PySem.W.plainGet_of hg).2 hf (beq_iff_eq.mp ht) (by show (PySem.W.lookIn name od).map (·.isSome) = some false; rw [hl,hv]; rfl) h
theorem Jiv {ns:List Str} {Q:Unit→Shared→Prop} (X:K.In s.heap) (I:ObjM s.heap x dx C mA)
  (hs:PySem.W.findIn K (.ref C) "__setattr__" = some (some (.builtin "object.__setattr__"))) (hp:PySem.W.plainOver K C = true) (ht:PySem.W.takerIn K C name = some none) (hh:PySem.W.hasDictIn K C = true)
  (hw:PySem.Within mA ns) (hsz:ns.length ≤ sizeLine)
  (h:∀ h',ObjM h' x dx C (fun y => if y = name then some v else mA y)→Heap.SameBut dx s.heap h'→Q () { s with heap:=h',toks:=s.toks + 2 }) :
  wpAny (model prog w) A (setAttr (.ref x) name v) Q E s:=by
 obtain ⟨od,J,hl⟩:=I.look
 refine PySem.W.set_plain X J hs (PySem.W.osa_open (s:={ s with toks:=s.toks + 1 }) (r:=none) X J hp ht fun b => ?_)
 obtain ⟨cd,hc,hd'⟩:=PySem.W.any_some hh
 have hx:s.heap.get? x = some ⟨.ref C,some dx, .plain, #[]⟩:=I.obj
 refine wpAny_bind (wpAny_pure (wpAny_bind (wpAny_bind (wpAny_loadPart hx (wpAny_bind (PySem.W.Looks.here (s:={ s with toks:=s.toks + 1 }) (PySem.W.looks_clsIn X hc) ?_))))))
 rw [hd']
 refine wpAny_pure (a:=some dx) (wpAny_bind (wpAny_pure (wpAny_bind ?_)))
 refine wpAny_nsSet1 (s:={ s with toks:=s.toks + 1 }) I.ns fun h' hn2 hs2 => ?_
 obtain ⟨oD,esD,epD,hoD,hdD,hcD⟩:=hn2.count (PySem.Within.cons name v hw)
 refine wpAny_bind (wpAny_lookBehind hoD (by rw [hdD]; exact pastItsLine_dict (Nat.le_trans hcD (by rw [List.length_cons]; omega))) ?_)
 exact wpAny_pure (h _ ⟨(hs2.2 _ (Ne.symm I.ne)).trans I.obj,hn2,I.ne⟩ hs2)
theorem Jha {R:Result→Shared→Prop} {vs:List Value} {kw:List (Str × Value)} (X:K.In s.heap) (hm:PySem.W.makesIn K C = true)
  (hi:PySem.W.findIn K (.ref C) "__init__" = some (some (.ref f))) (hf:PySem.W.typeIn K (.ref f) = some (.type "function"))
  (h:codeAny (model prog w) (A.under (.builtin "type.__call__" ⟨.ref C :: vs,kw⟩)) (.call (.ref f) ⟨.ref (s.heap.objs.size + 1) :: vs,kw⟩) (PySem.W.InitBack (s.heap.objs.size + 1) R)
   { s with heap:=(s.heap.push PySem.W.emptyDict).push (PySem.W.instObj C s.heap.objs.size) }) :
  codeAny (model prog w) A (.call (.ref C) ⟨vs,kw⟩) R s:=by
 obtain ⟨hh,g,d,t,os⟩:=s
 exact PySem.W.make_core (PySem.W.makes_of X hm) (PySem.W.looks_findIn X hi) (fun self => PySem.W.bind_fn X self hf) (.inl rfl) h
end
def putF (f:Str) (v:V):List (Str × V)→List (Str × V)
 | [] => [(f,v)]
 | (g,x) :: r => if g = f then (g,v) :: r else (g,x) :: putF f v r
theorem JcL (f g:Str) (v:V):∀ fs:List (Str × V),(putF f v fs).lookup g = if g = f then some v else fs.lookup g
 | [] => by
  show List.lookup g [(f,v)] = _
  by_cases h:g = f
  ·have hb:(g == f) = true:=beq_iff_eq.mpr h
   simp only [List.lookup,hb,if_pos h]
  ·have hb:(g == f) = false:=beq_eq_false_iff_ne.mpr h
   simp only [List.lookup,hb,if_neg h]
 | (k,x) :: r => by
  have ih:=JcL f g v r
  rw [show putF f v ((k,x) :: r) = (if k = f then (k,v) :: r else (k,x) :: putF f v r) from rfl]
  by_cases hk:k = f
  ·rw [if_pos hk]
   by_cases h:g = k
   ·have hb:(g == k) = true:=beq_iff_eq.mpr h
    simp only [List.lookup,hb,if_pos (h.trans hk)]
   ·have hb:(g == k) = false:=beq_eq_false_iff_ne.mpr h
    simp only [List.lookup,hb,if_neg (fun e:g = f => h (e.trans hk.symm))]
  ·rw [if_neg hk]
   by_cases h:g = k
   ·have hb:(g == k) = true:=beq_iff_eq.mpr h
    simp only [List.lookup,hb,if_neg (fun e:g = f => hk (h.symm.trans e))]
   ·have hb:(g == k) = false:=beq_eq_false_iff_ne.mpr h
    simp only [List.lookup,hb]
    exact ih
theorem JcH (f:Str) (v:V):∀ fs:List (Str × V),f ∈ (putF f v fs).map (·.1)∧∀ g,g ∈ fs.map (·.1)→g ∈ (putF f v fs).map (·.1)
 | [] => ⟨by simp [putF],fun g h => by simp at h⟩
 | (k,x) :: r => by
  obtain ⟨i1,i2⟩:=JcH f v r
  rw [show putF f v ((k,x) :: r) = (if k = f then (k,v) :: r else (k,x) :: putF f v r) from rfl]
  by_cases hk:k = f
  ·rw [if_pos hk]
   subst hk
   exact ⟨by simp,fun g h => by simpa using h⟩
  ·rw [if_neg hk]
   refine ⟨?_,fun g h => ?_⟩
   ·rw [List.map_cons]
    exact List.mem_cons_of_mem _ i1
   ·rw [List.map_cons] at h ⊢
    rcases List.mem_cons.mp h with e | e
    ·exact List.mem_cons.mpr (.inl e)
    ·exact List.mem_cons_of_mem _ (i2 g e)
theorem JcJ (f:Str) (v:V):∀ fs:List (Str × V),(putF f v fs).length ≤ fs.length + 1
 | [] => by simp [putF]
 | (k,x) :: r => by
  have ih:=JcJ f v r
  rw [show putF f v ((k,x) :: r) = (if k = f then (k,v) :: r else (k,x) :: putF f v r) from rfl]
  by_cases hk:k = f
  ·rw [if_pos hk,List.length_cons,List.length_cons]; omega
  ·rw [if_neg hk,List.length_cons,List.length_cons]; omega
theorem RelO.some_of {v:V} {o:Option Value} (r:RelO (some v) o):∃ u,o = some u∧RelV v u:=by
 cases o with
 | none => exact (show False from r).elim
 | some u => exact ⟨u,rfl,r⟩
theorem RelO.none_of {o:Option Value} (r:RelO none o):o = none:=by
 cases o with
 | none => rfl
 | some u => exact (show False from r).elim
theorem Jf5 {v:V} {u:Value} (r:RelV v u):PySem.W.handedIn u = true:=by
 cases v with
 | non => cases (show u = Value.none from r); rfl
 | bl b => cases (show u = Value.bool b from r); rfl
 | int i => obtain ⟨t,e⟩:=(show ∃ t,u = Value.int i t from r); cases e; rfl
 | str x => obtain ⟨t,e⟩:=(show ∃ t,u = Value.str x t from r); cases e; rfl
 | byt b => obtain ⟨t,e⟩:=(show ∃ t,u = Value.bytes b t from r); cases e; rfl
 | flt b => obtain ⟨t,e⟩:=(show ∃ t,u = Value.float b t from r); cases e; rfl
 | ref a => cases (show u = Value.ref a from r); rfl
 | ty n => cases (show u = Value.type n from r); rfl
section
variable {P:Program} {w:World} {H H':Hp} {h h':Heap} {a C dx:Addr} {fs fs':List (Str × V)}
theorem JeA (hok:HOk P w H h) (e:H a = some (.ins C dx fs)):∃ mA,ObjM h a dx C mA∧(∀ f,RelO (fs.lookup f) (mA f))∧PySem.Within mA (fs.map (·.1))∧fs.length ≤ 1000∧H dx = some (.own a):=by
 obtain ⟨d,z,ne,ob,mA,n,r,q⟩:=(show ObjOk P w H h a (.ins C dx fs) from hok a _ e)
 exact ⟨mA,⟨ob,n,ne⟩,r,q,z,d⟩
end
structure Cls (K:PySem.W.Frag) (C:Addr):Prop where
 pg:PySem.W.plainGet K C Str.empty = true
 hd:PySem.W.hasDictIn K C = true
 po:PySem.W.plainOver K C = true
 sa:PySem.W.findIn K (.ref C) "__setattr__" = some (some (.builtin "object.__setattr__"))
theorem Cls.get {K:PySem.W.Frag} {C:Addr} (c:Cls K C) (f:Str):PySem.W.plainGet K C f = true:=c.pg
def JaW (K:PySem.W.Frag) (C:Addr) (f:Str):Prop:=PySem.W.findIn K (.ref C) f = some none
theorem JaW.taker {K:PySem.W.Frag} {C:Addr} {f:Str} (n:JaW K C f):PySem.W.takerIn K C f = some none:=by
 unfold PySem.W.takerIn
 rw [show PySem.W.findIn K (.ref C) f = some none from n]
 rfl
structure Meth (K:PySem.W.Frag) (C:Addr) (m:Str) (f:Addr):Prop where
 at_:PySem.W.findIn K (.ref C) m = some (some (.ref f))
 fn:PySem.W.isFn K (.ref f) = true
 kp:PySem.W.keepIn K (.ref f) = true
section
variable {X:Cx} {pins:List (Addr × Obj)} {σ : St} {H:Hp} {s:Shared} {a C dx:Addr} {fs:List (Str × V)} {f:Str} {v:V} {A:Around} {E:Value→Shared→Prop}
theorem Jfr {b:Bool} {Q:Value→Shared→Prop} (I:Inv X pins σ H s) (e:H a = some (.ins C dx fs)) (c:Cls X.K C) (n:JaW X.K C f) (l:fs.lookup f = some v)
  (h:∀ u s',Inv X pins σ H s'→RelV v u→Q u s'):wpAny (model X.prog X.w) A (getAttr (.ref a) f b) Q E s:=by
 obtain ⟨mA,O,r,_,_,_⟩:=JeA I.hok e
 obtain ⟨u,hu,ru⟩:=RelO.some_of (v:=v) (o:=mA f) (by rw [← l]; exact r f)
 exact get_map I.kIn O (c.get f) c.hd n hu (Jf5 ru) (h u _ (I.tok _) ru)
theorem Jde {m:Str} {g:Addr} {pl:Sem Bool} {Q:Value × List Value→Shared→Prop} (I:Inv X pins σ H s) (e:H a = some (.ins C dx fs)) (c:Cls X.K C) (k:Meth X.K C m g) (l:fs.lookup m = none)
  (h:Q (.ref g,[.ref a]) s):wpAny (model X.prog X.w) A (getMethod (.ref a) m pl) Q E s:=by
 obtain ⟨mA,O,r,_,_,_⟩:=JeA I.hok e
 have hn:mA m = none:=RelO.none_of (by rw [← l]; exact r m)
 exact Jg1 I.kIn O (c.get m) k.at_ k.fn hn h
theorem JfF {y:V} {u:Value} {Q:Unit→Shared→Prop} (I:Inv X pins σ H s) (e:H a = some (.ins C dx fs)) (c:Cls X.K C) (n:JaW X.K C f) (hl:fs.length < 1000) (ry:RelV y u)
  (h:∀ s',Inv X pins σ (upd H a (.ins C dx (putF f y fs))) s'→Q () s'):wpAny (model X.prog X.w) A (setAttr (.ref a) f u) Q E s:=by
 obtain ⟨mA,O,r,wi,_,ho⟩:=JeA I.hok e
 have hz:(fs.map (·.1)).length ≤ sizeLine:=by rw [List.length_map,sizeLine_eq]; omega
 refine Jiv I.kIn O c.sa c.po n.taker c.hd wi hz fun h' O' sb => h _ ?_
 have hd:∃ o,h'.get? dx = some o:=let ⟨o,_,_,e',_⟩:=O'.ns; ⟨o,e'⟩
 refine I.write (x:=a) (e:=dx) (by rw [e]; exact True.intro) (.inr ho) (fun b q hb z => (sb.2 b hb).trans z) hd ?_
 refine ⟨by rw [Jag O.ne]; exact ho, ?_,O.ne,O'.obj,_,O'.ns,fun g => ?_,fun g hg => ?_⟩
 ·have:=JcJ f y fs; omega
 ·show RelO ((putF f y fs).lookup g) (if g = f then some u else mA g)
  rw [JcL]
  by_cases q:g = f
  ·rw [if_pos q,if_pos q]; exact ry
  ·rw [if_neg q,if_neg q]; exact r g
 ·by_cases q:g = f
  ·rw [q]; exact (JcH f y fs).1
  ·refine (JcH f y fs).2 g (wi g fun z => hg ?_)
   show (if g = f then some u else mA g) = none
   rw [if_neg q]; exact z
theorem Inv.made (I:Inv X pins σ H s):Inv X pins σ (upd (upd H s.heap.objs.size (.own (s.heap.objs.size + 1))) (s.heap.objs.size + 1) (.ins C s.heap.objs.size []))
  { s with heap:=(s.heap.push PySem.W.emptyDict).push (PySem.W.instObj C s.heap.objs.size) }:=by
 have e1:(s.heap.push PySem.W.emptyDict).get? s.heap.objs.size = some PySem.W.emptyDict:=Heap.get?_push_size s.heap rfl
 have e2:((s.heap.push PySem.W.emptyDict).push (PySem.W.instObj C s.heap.objs.size)).get? (s.heap.objs.size + 1) = some (PySem.W.instObj C s.heap.objs.size):=by
  have:=Heap.get?_push_size (s.heap.push PySem.W.emptyDict) (o:=PySem.W.instObj C s.heap.objs.size) rfl
  rwa [Heap.size_push] at this
 have e3:(s.heap.push PySem.W.emptyDict).Ns s.heap.objs.size (fun _ => none):=⟨PySem.W.emptyDict, #[],_,e1,rfl,(fun e he => absurd he (by simp)),fun _ => rfl⟩
 have I1:=I.laid (a:=s.heap.objs.size) (o:=.own (s.heap.objs.size + 1)) (h':=s.heap.push PySem.W.emptyDict) (t':=s.toks) (fun b u q => Heap.get?_push_of_some _ q) (Nat.le_refl _) ⟨_,e1⟩
 refine I1.laid (a:=s.heap.objs.size + 1) (o:=.ins C s.heap.objs.size []) (t':=s.toks) (fun b u q => Heap.get?_push_of_some _ q) (Nat.le_of_eq (Heap.size_push _ _)) ?_
 have ne:s.heap.objs.size ≠ s.heap.objs.size + 1:=Nat.ne_of_lt (Nat.lt_succ_self _)
 refine ⟨by rw [Jag ne,Jap],Nat.zero_le _,ne,e2,fun _ => none,(Heap.Ns1.of_empty e3).at fun o q => Heap.get?_push_of_some _ q,fun _ => True.intro,fun y hy => absurd rfl hy⟩
theorem JhT {prog:Program} {w:World} {env:Env} {e:Expr} {f:Str} {pos:Pos} {s:Shared} {Q:Value→Shared→Prop} (hb:attributeBase e f env (eval e env) = eval e env)
  (h:wpAny (model prog w) A (eval e env) (fun o s₁ => wpAny (model prog w) A (getAttr o f true) Q E s₁) E s):wpAny (model prog w) A (eval (.Attribute e f pos) env) Q E s :=
 Attribute_any_ h (by rw [arm_eval_Attribute,hb])
end
def tFld (K:PySem.W.Frag) (ta:TE) (f:Str):TE:=fun σ H Q => ta σ H fun x H1 => ∃ a C dx fs v,x = .ref a∧H1 a = some (.ins C dx fs)∧Cls K C∧JaW K C f∧fs.lookup f = some v∧Q v H1
def sFld (K:PySem.W.Frag) (ta tv:TE) (f:Str):TS:=fun D σ H => tv σ H fun y H1 => ta σ H1 fun x H2 => ∃ a C dx fs,x = .ref a∧H2 a = some (.ins C dx fs)∧Cls K C∧JaW K C f∧fs.length < 1000 ∧
 D.nx σ (upd H2 a (.ins C dx (putF f y fs)))
section
variable {X:Cx} {o e value:Expr} {f:Str} {pos pos' tpos:Pos} {ta tv:TE}
theorem JaK (he:PE X e ta) (hb:attributeBase e f X.env (eval e X.env) = eval e X.env):PE X (.Attribute e f pos) (tFld X.K ta f):=by
 intro pins s σ H Q I h
 refine JhT hb (thn (he pins s σ H _ I h) fun u s1 ⟨x,H1,I1,rx,a,C,dx,fs,v,ex,ea,c,n,l,q⟩ => ?_)
 subst ex
 obtain rfl:u = Value.ref a:=rx
 exact Jfr I1 ea c n l fun u' s2 I2 ru => ⟨v,H1,I2,ru,q⟩
theorem Jbs (ha:PE X o ta) (hv:PE X value tv) (hs:swapsWith value (some (.Attribute o f pos')) pos.line X.env = pure false):PS X (.Assign [.Attribute o f pos'] value pos) (sFld X.K ta tv f):=by
 intro pins s σ H D I h
 refine plainObj_wpAny_Assign_Attribute (thn (hv pins s σ H _ I h) fun u s1 ⟨y,H1,I1,ry,q⟩ => thn (ha pins s1 σ H1 _ I1 q) fun ov s2 ⟨x,H2,I2,rx,a,C,dx,fs,ex,ea,c,n,l,q2⟩ => ?_) hs
 subst ex
 obtain rfl:ov = Value.ref a:=rx
 exact JfF I2 ea c n l ry fun s3 I3 => ⟨σ,_,I3,q2⟩
end
section
variable {X:Cx} {pins:List (Addr × Obj)} {σ : St} {H:Hp} {s:Shared} {A:Around} {E:Value→Shared→Prop} {Q:Value→Shared→Prop} {c:Value} {b:Bool}
end
end L2
namespace L2
open PySem PySem.Spec PyProof.Rows
structure Room (k:Nat) (A:Around):Prop where
 hd:A.handled = none
 dp:A.depth + 3 * k + 5 < recursionLimit
 un:A.units + 16 * k + 200 < cLine
theorem Room.mono {j k:Nat} {A:Around} (r:Room k A) (h:j ≤ k):Room j A:=⟨r.hd,by have:=r.dp; omega,by have:=r.un; omega⟩
theorem Room.deeper {k:Nat} {A:Around} (r:Room (k + 1) A) (env:Env):Room k (A.deeper env) :=
 ⟨r.hd,by have:=r.dp; show A.depth + 1 + 3 * k + 5 < _; omega,by have:=r.un; show A.units + 3 + 16 * k + 200 < _; omega⟩
theorem Jfx {A:Around} {C:Addr} {us:List Value} {kw:List (Str × Value)}:(A.under (.builtin "type.__call__" ⟨.ref C :: us,kw⟩)).depth = A.depth + 1:=by
 first | rfl | simp [Around.under,Code.weight,Code.isCreation,Code.isGuard,Code.isCaller,Code.frames,Code.isFrame,guardIds]
theorem Jfy {A:Around} {C:Addr} {us:List Value} {kw:List (Str × Value)}:(A.under (.builtin "type.__call__" ⟨.ref C :: us,kw⟩)).units = A.units + 1:=by
 first | rfl | simp [Around.under,Code.cUnits,Code.frames,Code.isFrame]
theorem Room.make {k:Nat} {A:Around} (r:Room (k + 1) A) (C:Addr) (us:List Value) (kw:List (Str × Value)):Room k (A.under (.builtin "type.__call__" ⟨.ref C :: us,kw⟩)) :=
 ⟨r.hd,by have:=r.dp; rw [Jfx]; omega,by have:=r.un; rw [Jfy]; omega⟩
theorem Room.depth {k:Nat} {A:Around} (r:Room k A):A.depth < recursionLimit:=by have:=r.dp; omega
theorem Room.units {k:Nat} {A:Around} (r:Room k A):A.units + 64 < cLine:=by have:=r.un; omega
def tNil:TA:=fun _ H Q => Q [] H
def tCons (ta:TE) (tr:TA):TA:=fun σ H Q => ta σ H fun x H1 => tr σ H1 fun xs H2 => Q (x :: xs) H2
section
variable {X:Cx} {e:Expr} {es:List Expr} {te:TE} {t:TA} {pos:Pos}
theorem Jae:PA X [] tNil:=fun _ _ _ _ H Q I h => Calls.spliced_nil ⟨[],H,I, .nil,h⟩
theorem Jij (ha:PE X e te) (hr:PA X es t) (hs:starEach (e :: es) X.env = (false,eval e X.env) :: starEach es X.env:=by rfl):PA X (e :: es) (tCons te t):=by
 intro pos pins s σ H Q I h
 rw [hs]
 show wpAny _ _ (spliced ((false,eval e X.env) :: backTo pos (starEach es X.env))) _ _ s
 refine Calls.spliced_cons (thn (ha pins s σ H _ I h) fun u s1 ⟨x,H1,I1,r1,q1⟩ => ?_)
 exact thn (hr pos pins s1 σ H1 _ I1 q1) fun us s2 ⟨xs,H2,I2,r2,q2⟩ => ⟨x :: xs,H2,I2, .cons r1 r2,q2⟩
def tTup (t:TA):TE:=fun σ H Q => t σ H fun xs H1 => xs.length ≤ sizeLine∧∀ p,H1 p = none→Q (.ref p) (upd H1 p (.tup xs))
def tLst (t:TA):TE:=fun σ H Q => t σ H fun xs H1 => xs.length ≤ sizeLine∧∀ p,H1 p = none→Q (.ref p) (upd H1 p (.lst xs))
theorem JaO {x1} (h:PA X es t):PE X (.Tuple es x1 pos) (tTup t):=by
 intro pins s σ H Q I hq
 refine wpAny_Tuple_spliced (thn (h pos pins s σ H _ I hq) fun us s1 ⟨xs,H1,I1,r,z,q⟩ => ⟨by rw [← r.length]; exact z, ?_⟩)
 have hf:H1 s1.heap.objs.size = none:=I1.hok.fresh (Nat.le_refl _)
 refine ⟨.ref s1.heap.objs.size,upd H1 s1.heap.objs.size (.tup xs),I1.laid (t':=s1.toks) (fun b u e => Heap.get?_push_of_some _ e) (Nat.le_refl _) ?_,rfl,q _ hf⟩
 exact ⟨z,us,r,⟨_,Heap.get?_push_size _ rfl,rfl,_,rfl⟩⟩
theorem Jbq (h:PA X es t):PE X (.List es pos) (tLst t):=by
 intro pins s σ H Q I hq
 refine wpAny_List_spliced (thn (h pos pins s σ H _ I hq) fun us s1 ⟨xs,H1,I1,r,z,q⟩ => ⟨by rw [← r.length]; exact z, ?_⟩)
 have hf:H1 s1.heap.objs.size = none:=I1.hok.fresh (Nat.le_refl _)
 refine ⟨.ref s1.heap.objs.size,upd H1 s1.heap.objs.size (.lst xs),I1.laid (t':=s1.toks) (fun b u e => Heap.get?_push_of_some _ e) (Nat.le_refl _) ?_,rfl,q _ hf⟩
 exact ⟨z,us,0,r,Heap.get?_push_size _ rfl⟩
end
abbrev Sp:=List V→Hp→VK→XK→Prop
abbrev CXT:=List Env→Hp→Shared→XK→Value→Shared→Prop
structure Env0 (P:Program) (w:World) (K:PySem.W.Frag) (mg:Str→Option Value) (base:Heap) (A:Around) (outer:List Env) (s:Shared) (H:Hp):Prop where
 frames:A.frames = some outer
 mod:Mod K mg base
 bs:∀ b o,base.get? b = some o→s.heap.get? b = some o∧H b = none
 bsz:base.objs.size ≤ s.heap.objs.size
 funs:s.heap.FunFrames base outer
 frf:∀ b ∈ frs outer,H b = none
 hok:HOk P w H s.heap
 bare:AllBare s.gens
def CE (outer:List Env) (P:Program) (w:World) (H:Hp) (s:Shared) (Q:VK) (u:Value) (s':Shared):Prop :=
 ∃ v H',s'.os = s.os∧AllBare s'.gens∧Un (frs outer) [] H H' s.heap s'.heap∧HOk P w H' s'.heap∧RelV v u∧Q v H'
def CR (CX:CXT) (outer:List Env) (P:Program) (w:World) (H:Hp) (s:Shared) (Q:VK) (E:XK) (r:Result) (s':Shared):Prop :=
 match r with
 | .ok (.ret u) => CE outer P w H s Q u s'
 | .ok _ => False
 | .error e => CX outer H s E e s'
structure FnOk (P:Program) (w:World) (K:PySem.W.Frag) (mg:Str→Option Value) (base:Heap) (CX:CXT) (k:Nat) (f:Addr) (fd:FuncData) (ps:List Str) (sp:Sp):Prop where
 len:∀ vs H Q E,sp vs H Q E→vs.length = ps.length
 run:∀ (A:Around) (outer:List Env) (s:Shared) (H:Hp) (args:Args) (us:List Value) (vs:List V) (Q:VK) (E:XK),Room k A→Env0 P w K mg base A outer s H→BindsTo s fd args (ps.zip us)→Vals vs us→sp vs H Q E →
  codeAny (model P w) A (.call (.ref f) args) (CR CX outer P w H s Q E) s
theorem Env0.make {P:Program} {w:World} {K:PySem.W.Frag} {mg:Str→Option Value} {base:Heap} {A:Around} {outer:List Env} {s:Shared} {H:Hp} (e:Env0 P w K mg base A outer s H) (C:Addr) (us:List Value) (kw:List (Str × Value)) :
  Env0 P w K mg base (A.under (.builtin "type.__call__" ⟨.ref C :: us,kw⟩)) outer s H:=⟨by first | exact e.frames | (simpa [Around.under,Code.envs,Code.isFrame,pushEnvs] using e.frames),e.mod,e.bs,e.bsz,e.funs,e.frf,e.hok,e.bare⟩
section
variable {X:Cx} {pins:List (Addr × Obj)} {σ : St} {H:Hp} {s s':Shared}
theorem Inv.env0 (I:Inv X pins σ H s):Env0 X.prog X.w X.K X.mg X.base X.A X.stack s H :=
 ⟨I.ok.frames,I.ok.mod,I.bs,Nat.le_trans I.ok.bsz I.sz,I.stack,I.stkFree,I.hok,I.bare⟩
theorem Inv.after {Q:VK} {u:Value} (I:Inv X pins σ H s) (h:CE X.stack X.prog X.w H s Q u s'):EP X pins σ Q u s':=by
 obtain ⟨v,H',os,bare,un,hok,r,q⟩:=h
 obtain ⟨hh,g,d,t,os'⟩:=s'
 obtain rfl:os' = s.os:=os
 exact ⟨v,H',I.call (h':=hh) (g':=g) (d':=d) (t':=t) (ch:=[]) un hok bare (fun b z => absurd z (by simp)),r,q⟩
end
def tCall (sp:Sp) (dvs:List V) (E:XK) (t:TA):TE:=fun σ H Q => t σ H fun vs H1 => sp (vs ++ dvs) H1 Q E
def tMake (C:Addr) (sp:Sp) (dvs:List V) (E:XK) (t:TA):TE:=fun σ H Q => t σ H fun vs H1 => ∀ x dx,H1 x = none→H1 dx = none→dx ≠ x →
 sp (.ref x :: (vs ++ dvs)) (upd (upd H1 dx (.own x)) x (.ins C dx [])) (fun v H2 => v = .non∧Q (.ref x) H2) E
def Binds (K:PySem.W.Frag) (fd:FuncData) (ps:List Str) (ds:List Value):Prop :=
 ∀ (s:Shared) (us:List Value),K.In s.heap→(us ++ ds).length = ps.length→BindsTo s fd ⟨us,[]⟩ (ps.zip (us ++ ds))
theorem Binds.all {K:PySem.W.Frag} {fd:FuncData} {ps:List Str} (h:∀ us:List Value,us.length = ps.length→bindArgs fd ⟨us,[]⟩ = pure (ps.zip us)):Binds K fd ps []:=fun s us _ hl => by
 rw [List.append_nil] at hl ⊢
 exact .of_eq (h us hl)
def JbW (CX:CXT) (X:Cx) (E:XK):Prop:=∀ (pins:List (Addr × Obj)) (σ : St) (H:Hp) (s:Shared) (e:Value) (s':Shared),Inv X pins σ H s→CX X.stack H s E e s'→X.xe e s'
section
variable {X:Cx} {CX:CXT} {k:Nat} {f C:Addr} {fd:FuncData} {ps:List Str} {sp:Sp} {dvs:List V} {ds:List Value} {E:XK} {x m:Str} {p pos apos:Pos} {e o:Expr} {es:List Expr} {ta:TE} {t:TA}
theorem JgD {pins:List (Addr × Obj)} {σ : St} {H:Hp} {s:Shared} {Q:VK} {us:List Value} {vs:List V} (F:FnOk X.prog X.w X.K X.mg X.base CX k f fd ps sp) (hr:Room k X.A) (hb:Binds X.K fd ps ds) (hd:Vals dvs ds) (hx:JbW CX X E)
  (I:Inv X pins σ H s) (r:Vals vs us) (h:sp (vs ++ dvs) H Q E):wpAny (model X.prog X.w) X.A (call (.ref f) us) (EP X pins σ Q) X.xe s:=by
 have r2:Vals (vs ++ dvs) (us ++ ds):=r.append hd
 have hl:(us ++ ds).length = ps.length:=by rw [← r2.length]; exact F.len _ _ _ _ h
 refine wpAny_call (codeAny_mono (F.run X.A X.stack s H ⟨us,[]⟩ (us ++ ds) (vs ++ dvs) Q E hr I.env0 (hb s us I.kIn hl) r2 h) fun r s' hq => ?_)
 cases r with
 | error e => exact hx pins σ H s e s' I hq
 | ok fl =>
  cases fl with
  | ret u => exact I.after hq
  | next => exact False.elim hq
  | brk => exact False.elim hq
  | cont => exact False.elim hq
theorem Jik (F:FnOk X.prog X.w X.K X.mg X.base CX k f fd ps sp) (hr:Room k X.A) (hg:Gl X x) (hm:X.mg x = some (.ref f)) (hk:PySem.W.keepIn X.K (.ref f) = true) (hb:Binds X.K fd ps ds) (hd:Vals dvs ds) (hx:JbW CX X E)
  (ha:PA X (e :: es) t) (hdb:(x == ("__debug__" : Str)) = false:=by decide) (he:starEach (e :: es) X.env = (false,eval e X.env) :: starEach es X.env:=by rfl) (hpl:(backTo pos (starEach es X.env)).any (·.1) = false:=by rfl) :
  PE X (.Call (.Name x p) (e :: es) [] pos) (tCall sp dvs E t):=by
 intro pins s σ H Q I h
 refine wpAny_Call_Name_kw (Jdy I hg hm ?_ hdb)
 refine PySem.W.callWith_K (h₀:=X.base) I.ok.mod.kin hk (thn (ha pos pins s σ H _ I h) fun us s1 ⟨vs,H1,I1,r,q⟩ => ⟨I1.kIn, ?_⟩) he hpl
 exact JgD F hr hb hd hx I1 r q
structure Mk (K:PySem.W.Frag) (C f:Addr):Prop where
 makes:PySem.W.makesIn K C = true
 init:PySem.W.findIn K (.ref C) "__init__" = some (some (.ref f))
 fn:PySem.W.isFn K (.ref f) = true
 kp:PySem.W.keepIn K (.ref C) = true
theorem Jhk {pins:List (Addr × Obj)} {σ : St} {H:Hp} {s:Shared} {Q:VK} {us:List Value} {vs:List V} (M:Mk X.K C f) (F:FnOk X.prog X.w X.K X.mg X.base CX k f fd ps sp) (hr:Room (k + 1) X.A) (hb:Binds X.K fd ps ds) (hd:Vals dvs ds)
  (hx:JbW CX X E) (I:Inv X pins σ H s) (r:Vals vs us)
  (h:∀ x dx,H x = none→H dx = none→dx ≠ x→sp (.ref x :: (vs ++ dvs)) (upd (upd H dx (.own x)) x (.ins C dx [])) (fun v H2 => v = .non∧Q (.ref x) H2) E) :
  wpAny (model X.prog X.w) X.A (call (.ref C) us) (EP X pins σ Q) X.xe s:=by
 have hq:=h (s.heap.objs.size + 1) s.heap.objs.size (I.hok.fresh (Nat.le_succ _)) (I.hok.fresh (Nat.le_refl _)) (Nat.ne_of_lt (Nat.lt_succ_self _))
 have I2:=Inv.made (C:=C) I
 have r2:Vals (V.ref (s.heap.objs.size + 1) :: (vs ++ dvs)) (Value.ref (s.heap.objs.size + 1) :: (us ++ ds)):=.cons rfl (r.append hd)
 have hl:(Value.ref (s.heap.objs.size + 1) :: us ++ ds).length = ps.length:=by
  have e:=r2.length
  rw [F.len _ _ _ _ hq] at e
  exact e.symm
 refine wpAny_call (Jha (f:=f) I.kIn M.makes M.init (beq_iff_eq.mp M.fn) (codeAny_mono (F.run _ X.stack _ _ ⟨Value.ref (s.heap.objs.size + 1) :: us,[]⟩ (Value.ref (s.heap.objs.size + 1) :: (us ++ ds)) _ _ E (hr.make C us [])
  (I2.env0.make C us []) (hb _ (Value.ref (s.heap.objs.size + 1) :: us) I2.kIn hl) r2 hq) fun r s' hq' => ?_))
 cases r with
 | error e => exact hx pins σ _ _ e s' I2 hq'
 | ok fl =>
  cases fl with
  | ret u =>
   obtain ⟨v,H',I3,rv,ev,q3⟩:=I2.after hq'
   subst ev
   exact ⟨rv,⟨V.ref (s.heap.objs.size + 1),H',I3,rfl,q3⟩⟩
  | next => exact False.elim hq'
  | brk => exact False.elim hq'
  | cont => exact False.elim hq'
theorem Jim (M:Mk X.K C f) (F:FnOk X.prog X.w X.K X.mg X.base CX k f fd ps sp) (hr:Room (k + 1) X.A) (hg:Gl X x) (hm:X.mg x = some (.ref C)) (hb:Binds X.K fd ps ds) (hd:Vals dvs ds) (hx:JbW CX X E)
  (ha:PA X (e :: es) t) (hdb:(x == ("__debug__" : Str)) = false:=by decide) (he:starEach (e :: es) X.env = (false,eval e X.env) :: starEach es X.env:=by rfl) (hpl:(backTo pos (starEach es X.env)).any (·.1) = false:=by rfl) :
  PE X (.Call (.Name x p) (e :: es) [] pos) (tMake C sp dvs E t):=by
 intro pins s σ H Q I h
 refine wpAny_Call_Name_kw (Jdy I hg hm ?_ hdb)
 refine PySem.W.callWith_K (h₀:=X.base) I.ok.mod.kin M.kp (thn (ha pos pins s σ H _ I h) fun us s1 ⟨vs,H1,I1,r,q⟩ => ⟨I1.kIn, ?_⟩) he hpl
 exact Jhk M F hr hb hd hx I1 r q
end
section
variable {X:Cx} {CX:CXT} {k:Nat} {f C:Addr} {fd:FuncData} {ps ks:List Str} {sp:Sp} {E:XK} {x m:Str} {p pos apos kpos:Pos} {e o:Expr} {es:List Expr} {kws:List Keyword} {te ta:TE} {t tk:TA} {nm:Option Str}
variable {g:List Value→List Value→List Value} {gV:List V→List V→List V}
end
structure Jan (N P:List Str) (sc:Scope):Prop where
 kind:sc.kind = .function
 co:sc.isCoroutine = false
 gen:sc.isGenerator = false
 nd:N.Nodup
 pre:N.take P.length = P
 par:∀ x ∈ P,sc.names.lookup x = some .local ∨ sc.names.lookup x = some .cell
 nofree:∀ y ∈ sc.names,y.2 ≠ .free
theorem JdV {kindOf:Str→Option NameKind} {x:Str}:∀ {binds:List (Str × Value)} {m:Str→Option Value},(∀ v,(x,v) ∉ binds)→bindL kindOf binds m x = m x
 | [],_,_ => rfl
 | (n,v) :: r,m,h => by
  unfold bindL
  rw [JdV fun w hw => h w (List.mem_cons_of_mem _ hw)]
  split
  ·have : x ≠ n:=by rintro rfl; exact h v List.mem_cons_self
   simp [this]
  ·rfl
theorem JdT {kindOf:Str→Option NameKind} {x:Str}:∀ {binds:List (Str × Value)} {m:Str→Option Value},(∀ v,(x,v) ∉ binds)→bindC kindOf binds m x = m x
 | [],_,_ => rfl
 | (n,v) :: r,m,h => by
  unfold bindC
  rw [JdT fun w hw => h w (List.mem_cons_of_mem _ hw)]
  split
  ·rfl
  ·have : x ≠ n:=by rintro rfl; exact h v List.mem_cons_self
   simp [this]
theorem JdU {kindOf:Str→Option NameKind} {x:Str} {v:Value}:∀ {P:List Str} {vs:List Value} {i:Nat} {m:Str→Option Value},P.Nodup→P[i]? = some x→vs[i]? = some v→kindOf x = some .local →
  bindL kindOf (P.zip vs) m x = some v
 | [],_,_,_,_,h,_,_ => by simp at h
 | _ :: _,[],_,_,_,_,h,_ => by simp at h
 | p :: P,w :: vs,0,m,nd,h1,h2,hk => by
  simp at h1 h2; subst h1; subst h2
  show bindL kindOf ((p,w) :: P.zip vs) m p = _
  unfold bindL
  rw [JdV fun v hv => (List.nodup_cons.mp nd).1 (List.of_mem_zip hv).1,if_pos hk]
  simp
 | p :: P,w :: vs,i + 1,m,nd,h1,h2,hk => by
  show bindL kindOf ((p,w) :: P.zip vs) m x = _
  unfold bindL
  exact JdU (i:=i) (List.nodup_cons.mp nd).2 (by simpa using h1) (by simpa using h2) hk
theorem JdS {kindOf:Str→Option NameKind} {x:Str} {v:Value}:∀ {P:List Str} {vs:List Value} {i:Nat} {m:Str→Option Value},P.Nodup→P[i]? = some x→vs[i]? = some v→kindOf x ≠ some .local →
  bindC kindOf (P.zip vs) m x = some v
 | [],_,_,_,_,h,_,_ => by simp at h
 | _ :: _,[],_,_,_,_,h,_ => by simp at h
 | p :: P,w :: vs,0,m,nd,h1,h2,hk => by
  simp at h1 h2; subst h1; subst h2
  show bindC kindOf ((p,w) :: P.zip vs) m p = _
  unfold bindC
  rw [JdT fun v hv => (List.nodup_cons.mp nd).1 (List.of_mem_zip hv).1,if_neg hk]
  simp
 | p :: P,w :: vs,i + 1,m,nd,h1,h2,hk => by
  show bindC kindOf ((p,w) :: P.zip vs) m x = _
  unfold bindC
  exact JdS (i:=i) (List.nodup_cons.mp nd).2 (by simpa using h1) (by simpa using h2) hk
def start (N:List Str) (vs:List V):St:=vs.map some ++ List.replicate (N.length - vs.length) none
def cxOf (CX:CXT) (P:Program) (w:World) (K:PySem.W.Frag) (mg:Str→Option Value) (base:Heap) (N:List Str) (qual:Str) (scope:Scope) (f:Addr) (cd:Value) (A:Around) (outer:List Env) (s:Shared) (H:Hp) (E:XK):Cx where
 prog:=P
 w:=w
 K:=K
 mg:=mg
 base:=base
 A:=A.deeper (envOfC qual scope s.heap.objs.size f cd)
 N:=N
 s₀:=s
 H₀:=H
 env:=envOfC qual scope s.heap.objs.size f cd
 outer:=outer
 stack:=envOfC qual scope s.heap.objs.size f cd :: outer
 ex:=[]
 calm:=true
 fn:=fun _ => true
 pn:=[]
 xe:=fun e s' => wpAny (model P w) (A.deeper (envOfC qual scope s.heap.objs.size f cd)) (leaving (envOfC qual scope s.heap.objs.size f cd) e) (fun _ s'' => CX outer H s E e s'') (fun e' s'' => CX outer H s E e' s'') s'
theorem Je5 {sc:Scope} {n:Nat} {x:Str} (h:sc.names.lookup x = some .cell):∃ c,(cellsFrom n sc.names []).lookup x = some c:=by
 have q:=PySem.W.cellsFrom_some sc.names n [] (.inl h)
 exact Option.isSome_iff_exists.mp q
theorem Jf8 {CX:CXT} {P:Program} {w:World} {K:PySem.W.Frag} {mg:Str→Option Value} {base:Heap} {N ps:List Str} {qual:Str} {scope:Scope} {f:Addr} {cd:Value} {A:Around} {outer:List Env} {s s1:Shared} {H:Hp} {E:XK} {us:List Value} {vs:List V}
  (S:Jan N ps scope) (hd:A.handled = none) (e0:Env0 P w K mg base A outer s H) (hl:vs.length = ps.length) (r:Vals vs us)
  (x:InCallC s s.heap.objs.size (bindL (envOfC qual scope s.heap.objs.size f cd).kindOf (ps.zip us) fun _ => none) (cellsFrom (s.heap.objs.size + 1) scope.names []) (bindC (envOfC qual scope s.heap.objs.size f cd).kindOf (ps.zip us) fun _ => none) s1) :
  Inv (cxOf CX P w K mg base N qual scope f cd A outer s H E) [] (start N vs) H s1:=by
 have hpl:ps.length ≤ N.length:=by have:=congrArg List.length S.pre; rw [List.length_take] at this; omega
 obtain ⟨h1,tk,rfl,hk⟩:=x.done
 have noA:∀ b:Addr,b ∉ (cxOf CX P w K mg base N qual scope f cd A outer s H E).ex:=fun b z => absurd (show b ∈ ([]:List Addr) from z) (by simp)
 refine ⟨⟨e0.mod,S.kind,rfl,rfl,Nat.le_refl _,fun y z c h1 h2 => ?_,fun y hy => ?_,fun y c _ h => ?_,fun _ => hd,Around.frames_deeper e0.frames, .inr ⟨rfl,rfl⟩,fun b z => absurd z (noA b),e0.bs,e0.bsz,fun b _ _ => noA b,fun b z => absurd z (noA b),e0.funs,e0.frf⟩,
  rfl,e0.bare,Un.kept hk,⟨_,x.toInCall.ns,fun i y v h1 h2 h3 => ?_⟩,fun y c h => ⟨_,x.cell y c h⟩,e0.hok.fresh (Nat.le_refl _),fun y c h => ?_,fun p hp => absurd (show p ∈ ([]:List (Addr × Obj)) from hp) (by simp),e0.hok.kept hk, ?_⟩
 ·exact name_of_addr x.apart (PySem.mem_of_lookup h1) (PySem.mem_of_lookup h2)
 ·have hy:scope.names.lookup y = some .cell ∨ scope.names.lookup y = some .free:=hy
  rcases hy with hy | hy
  ·exact Je5 hy
  ·exact absurd rfl (S.nofree _ (PySem.mem_of_lookup hy))
 ·exact Nat.le_of_lt (x.above y c (PySem.mem_of_lookup h))
 ·have hi:i < vs.length:=by
   unfold start at h2
   by_cases hi:i < vs.length
   ·exact hi
   ·rw [List.getElem?_append_right (by simpa using hi)] at h2
    rw [List.getElem?_replicate] at h2
    split at h2 <;> cases h2
  have ha:vs[i]? = some v:=by
   unfold start at h2
   rw [List.getElem?_append_left (by simpa using hi),List.getElem?_map] at h2
   cases e:vs[i]? with
   | none => rw [e] at h2; cases h2
   | some a => rw [e] at h2; cases h2; rfl
  obtain ⟨u,hu,rv⟩:=r.get ha
  have hp:ps[i]? = some y:=by
   rw [← S.pre,List.getElem?_take_of_lt (by omega)]; exact h1
  have ndP:ps.Nodup:=by rw [← S.pre]; exact S.nd.sublist (List.take_sublist _ _)
  refine ⟨u,rv, ?_⟩
  rcases S.par y (List.mem_of_getElem? hp) with k | k
  ·exact .inl ⟨k,JdU ndP hp hu k⟩
  ·obtain ⟨c,e⟩:=Je5 (n:=s.heap.objs.size + 1) k
   refine .inr ⟨.inl k,c,e, ?_⟩
   have q:=x.cell y c e
   rw [JdS ndP hp hu (by show scope.names.lookup y ≠ _; rw [k]; decide)] at q
   exact q
 ·exact e0.hok.fresh (Nat.le_of_lt (x.above y c (PySem.mem_of_lookup h)))
 ·unfold start
  show _ = N.length
  rw [List.length_append,List.length_map,List.length_replicate]
  omega
theorem fn_of {CX:CXT} {P:Program} {w:World} {K:PySem.W.Frag} {mg:Str→Option Value} {base:Heap} {k:Nat} {f:Addr} {name qual:Str} {params:Arguments} {body:List Stmt} {scope:Scope} {dV kV doc pm cdv ct oc:Value} {an od:Option Addr}
  {osl:Array (Option Value)} {N ps:List Str} {sp:Sp} (lk:K.lookup f = some ⟨oc,od, .func (PySem.W.fnOf name qual params body scope dV kV doc pm an cdv ct),osl⟩) (hcd:PySem.W.codeIn K cdv qual = true) (S:Jan N ps scope)
  (len:∀ vs H Q E,sp vs H Q E→vs.length = ps.length)
  (hbody:∀ (A:Around) (outer:List Env) (s:Shared) (H:Hp) (vs:List V) (Q:VK) (E:XK),Room k (A.deeper (envOfC qual scope s.heap.objs.size f cdv))→sp vs H Q E →
   ∃ t,PSs (cxOf CX P w K mg base N qual scope f cdv A outer s H E) body t∧t { nx:=fun _ H' => Q .non H',rt:=Q } (start N vs) H) :
  FnOk P w K mg base CX (k + 1) f (PySem.W.fnOf name qual params body scope dV kV doc pm an cdv ct) ps sp:=by
 refine ⟨len,fun A outer s H args us vs Q E hr e0 hb r hsp => ?_⟩
 have hl:=len _ _ _ _ hsp
 have KX:K.In s.heap:=e0.mod.kin.keeps fun b o e => (e0.bs b o e).1
 have lim:s.heap.NoLimit:=e0.mod.nolimit.keeps fun b o e => (e0.bs b o e).1
 have hkind:∀ y ∈ ps.zip us,scope.names.lookup y.1 = some .local ∨ (scope.names.lookup y.1 = some .cell∧((cellsFrom (s.heap.objs.size + 1) scope.names []).lookup y.1).isSome = true):=fun ⟨n,v⟩ hy => by
  rcases S.par n (List.of_mem_zip hy).1 with q | q
  ·exact .inl q
  ·exact .inr ⟨q,PySem.W.cellsFrom_some _ _ _ (.inl q)⟩
 refine codeAny_call_function hr.depth (KX _ _ lk) rfl S.co S.gen rfl (PySem.W.codeRec_of KX hcd) (hb _ _ _ _ ?_)
 refine wpAny_newFunctionEnv_cells S.kind hkind fun env he s1 x => ?_
 subst he
 refine ⟨lim.keeps x.toInCall.keep,codeAny_func ?_⟩
 obtain ⟨t,ht,hq⟩:=hbody A outer s H vs Q E (hr.deeper _) hsp
 have I:Inv (cxOf CX P w K mg base N qual scope f cdv A outer s H E) [] (start N vs) H s1:=Jf8 S hr.hd e0 hl r x
 refine wpAny_mono (ht [] s1 (start N vs) H _ I hq) (fun fl s' hs => ?_) fun e s' hs => hs
 have fin:∀ {σ':St} {H':Hp} {v:V} {u:Value},Inv (cxOf CX P w K mg base N qual scope f cdv A outer s H E) [] σ' H' s'→RelV v u→Q v H'→CE outer P w H s Q u s' :=
  fun {σ' H' v u} J rv q => ⟨v,H',J.os,J.bare,J.base,J.hok,rv,q⟩
 cases fl with
 | ret u =>
  obtain ⟨v, σ',H',J,rv,q⟩:=hs
  exact fin J rv q
 | next =>
  obtain ⟨σ',H',J,q⟩:=hs
  exact fin (v:=V.non) (u:=Value.none) J rfl q
 | brk =>
  obtain ⟨_,_,_,q⟩:=hs
  exact False.elim q
 | cont =>
  obtain ⟨_,_,_,q⟩:=hs
  exact False.elim q
end L2
namespace L2
open PySem PySem.Spec PyProof.Rows
section
variable {X:Cx} {x:Str} {p pos:Pos} {e:Expr} {es:List Expr} {t:TA} {id T:String} {r:List V→Hp→VK→Prop}
def tCB (r:List V→Hp→VK→Prop) (t:TA):TE:=fun σ H Q => t σ H fun vs H1 => r vs H1 Q
theorem Jat (hc:CallR X (.builtin id) r) (hg:Gl X x) (hm:X.mg x = none) (hv:bootBuiltins x = some (.builtin id)) (ha:PA X (e :: es) t) (hn:x ≠ "__name__":=by decide) (hdb:(x == ("__debug__" : Str)) = false:=by decide)
  (he:starEach (e :: es) X.env = (false,eval e X.env) :: starEach es X.env:=by rfl) (hpl:(backTo pos (starEach es X.env)).any (·.1) = false:=by rfl):PE X (.Call (.Name x p) (e :: es) [] pos) (tCB r t):=by
 intro pins s σ H Q I h
 refine wpAny_Call_Name_kw (JcI I hg hm hv ?_ hn hdb)
 exact PyProof.Rows.callWith_builtin1 (thn (ha pos pins s σ H _ I h) fun us s1 ⟨vs,H1,I1,r1,q1⟩ => hc pins s1 σ H1 vs us Q I1 r1 q1) he hpl
theorem JcO (hc:CallR X (.type T) r) (hg:Gl X x) (hm:X.mg x = none) (hv:bootBuiltins x = some (.type T)) (ha:PA X (e :: es) t) (hn:x ≠ "__name__":=by decide) (hdb:(x == ("__debug__" : Str)) = false:=by decide)
  (he:starEach (e :: es) X.env = (false,eval e X.env) :: starEach es X.env:=by rfl) (hpl:(backTo pos (starEach es X.env)).any (·.1) = false:=by rfl):PE X (.Call (.Name x p) (e :: es) [] pos) (tCB r t):=by
 intro pins s σ H Q I h
 refine wpAny_Call_Name_kw (JcI I hg hm hv ?_ hn hdb)
 exact PyProof.Rows.callWith_type1 (thn (ha pos pins s σ H _ I h) fun us s1 ⟨vs,H1,I1,r1,q1⟩ => hc pins s1 σ H1 vs us Q I1 r1 q1) he hpl
end
end L2
namespace HT
open PySem PyProof.Rows
section
open PySem.SeqAt
open PySem.AutoSeq1 (wpAny_loadPart')
open PySem.MeetsSeq PySem.MeetsSeq2 PySem.MeetsSeq3
end
section
variable {prog:Program} {w:World} {A:Around} {E:Value→Shared→Prop} {s:Shared}
theorem cat_tup {t b:Addr} {vs ws:List Value} {Q:Value→Shared→Prop} (ht:IsTup s.heap t vs.toArray) (hb:IsTup s.heap b ws.toArray) (hv:vs ≠ [])
  (h1:ws = []→Q (.ref t) s) (h2:ws ≠ []→Q (.ref s.heap.objs.size) { s with heap:=s.heap.push { cls:=.type "tuple",data:=.seq (vs ++ ws).toArray } })
  (hsz:vs.length + ws.length ≤ sizeLine):wpAny (model prog w) A (binaryOp .Add (.ref t) (.ref b)) Q E s:=by
 obtain ⟨⟨cls,dd,data,sl⟩,ho,hc,n,hd⟩:=id ht
 obtain ⟨⟨cls2,dd2,data2,sl2⟩,ho2,hc2,n2,hd2⟩:=id hb
 simp only at hc hd hc2 hd2
 subst hc hd hc2 hd2
 have e:vs.toArray ++ ws.toArray = (vs ++ ws).toArray:=by simp
 by_cases hw:ws = []
 ·exact concat_meets ⟨_,ho,rfl⟩ ⟨_,ho2,rfl⟩ noFill_tuple_add seq_tuple_add PySem.F.slot_tuple_add PySem.F.entry_tuple_add (PySem.F.args_tuple_add_2 _ _)
   (tuple_addW1 t b vs.toArray ws.toArray n n2 dd dd2 sl sl2 (by simpa using hv) (by simp [hw])) ⟨ho,ho2,h1 hw⟩
 ·refine concat_meets ⟨_,ho,rfl⟩ ⟨_,ho2,rfl⟩ noFill_tuple_add seq_tuple_add PySem.F.slot_tuple_add PySem.F.entry_tuple_add (PySem.F.args_tuple_add_2 _ _)
   (tuple_addW2 t b vs.toArray ws.toArray n n2 dd dd2 sl sl2 (by simpa using hv) (by simpa using hw) (by rw [List.size_toArray,List.size_toArray]; exact hsz)) ⟨ho,ho2, ?_⟩
  rw [e]
  exact h2 hw
end
end HT
namespace L2
open PySem PySem.Spec PyProof.Rows
abbrev TO:=St→Hp→(Option Int→Hp→Prop)→Prop
def PO (X:Cx) (e:Option Expr) (t:TO):Prop :=
 ∀ (pins:List (Addr × Obj)) (s:Shared) (σ : St) (H:Hp) (Q:Option Int→Hp→Prop),Inv X pins σ H s→t σ H Q →
  wpAny (model X.prog X.w) X.A (evalPart e X.env) (fun u s' => ∃ o H',Inv X pins σ H' s'∧IsPart u o∧Q o H') X.xe s
def Jiy:TO:=fun _ H Q => Q none H
def tPart (t:TE):TO:=fun σ H Q => t σ H fun x H1 => ∃ i,x = .int i∧Q (some i) H1
section
variable {X:Cx} {e:Expr} {te:TE} {lo hi:Option Expr} {tl th:TO} {pos p2:Pos}
def tSl (r:V→Option Int→Option Int→Hp→VK→Prop) (te:TE) (tl th:TO):TE:=fun σ H Q => te σ H fun x H1 => tl σ H1 fun l H2 => th σ H2 fun u H3 => r x l u H3 Q
def rCatT (K:PySem.W.Frag):R2:=fun x y H Q => ∃ a b xs ys,x = .ref a∧y = .ref b∧SqT K H a xs∧SqT K H b ys∧xs ≠ []∧xs.length + ys.length ≤ sizeLine ∧
 (ys = []→Q (.ref a) H)∧(ys ≠ []→∀ p,H p = none→Q (.ref p) (upd H p (.tup (xs ++ ys))))
theorem Vals.nil_iff {xs:List V} {us:List Value} (r:Vals xs us):us = [] ↔ xs = []:=by
 cases r with
 | nil => simp
 | cons _ _ => simp
theorem Jid:OpR X (binaryOp .Add) (rCatT X.K):=by
 intro pins s σ H x y v u Q I rx ry h
 obtain ⟨a,b,xs,ys,rfl,rfl,ha,hb,hx,hz,q1,q2⟩:=h
 cases rx
 cases ry
 obtain ⟨its,r1,p1,_⟩:=I.tuple ha
 obtain ⟨its2,r2,p2,_⟩:=I.tuple hb
 refine HT.cat_tup p1 p2 (fun z => hx (r1.nil_iff.mp z)) (fun z => ⟨.ref a,H,I,rfl,q1 (r2.nil_iff.mp z)⟩) (fun z => ?_) (by rw [← r1.length, ← r2.length]; exact hz)
 refine ⟨.ref s.heap.objs.size,_,I.laid (t':=s.toks) (o:=.tup (xs ++ ys)) (fun b ob q => Heap.get?_push_of_some _ q) (Nat.le_refl _) ?_,rfl,q2 (fun w => z (r2.nil_iff.mpr w)) _ (I.hok.fresh (Nat.le_refl _))⟩
 exact ⟨by rw [List.length_append]; exact hz,_,r1.append r2,IsTup.new _ _⟩
end
end L2
namespace L2
open PySem PySem.Spec PyProof.Rows
def ixN (n:Nat) (i:Int):Option Nat:=if 0 ≤ i then (if i < n then some i.toNat else none) else if -(n:Int) ≤ i then some (i + n).toNat else none
def atI {α : Type} (xs:List α) (i:Int):Option α:=(ixN xs.length i).bind fun j => xs[j]?
theorem Jh5 {n:Nat} {i:Int} {j:Nat} (h:ixN n i = some j):seqIndex? i n = some j∧j < n∧-(n:Int) ≤ i∧i < n:=by
 unfold ixN at h
 by_cases h0:0 ≤ i
 ·rw [if_pos h0] at h
  by_cases h1:i < n
  ·rw [if_pos h1] at h
   have e:i.toNat = j:=Option.some.inj h
   exact ⟨by rw [seqIndex_of h0 h1,e],by omega,by omega,h1⟩
  ·rw [if_neg h1] at h; cases h
 ·rw [if_neg h0] at h
  by_cases h1 : -(n:Int) ≤ i
  ·rw [if_pos h1] at h
   have e:(i + n).toNat = j:=Option.some.inj h
   exact ⟨by rw [seqIndex_neg (by omega) h1,e],by omega,h1,by omega⟩
  ·rw [if_neg h1] at h; cases h
theorem Jes {α : Type} {xs:List α} {i:Int} {v : α} (h:atI xs i = some v):∃ j,seqIndex? i xs.length = some j∧xs[j]? = some v∧j < xs.length∧-(xs.length:Int) ≤ i∧i < xs.length:=by
 unfold atI at h
 cases e:ixN xs.length i with
 | none => rw [e] at h; cases h
 | some j =>
  rw [e] at h
  obtain ⟨h1,h2,h3,h4⟩:=Jh5 e
  exact ⟨j,h1,h,h2,h3,h4⟩
theorem JcA {α : Type} {xs:List α} {j:Nat} {v : α} (h:xs[j]? = some v):atI xs (j:Int) = some v:=by
 have hj:j < xs.length:=(List.getElem?_eq_some_iff.mp h).1
 have e:ixN xs.length (j:Int) = some j:=by
  unfold ixN
  rw [if_pos (by omega),if_pos (by omega)]; simp
 unfold atI; rw [e]; exact h
def JhP (b:Expr):Prop:=∀ o i,subscripted b false o i = operate [o,i] (getItem o i)
def IxR (X:Cx) (r:R2):Prop :=
 ∀ (value slice:Expr) (pins:List (Addr × Obj)) (s:Shared) (σ : St) (H:Hp) (x y:V) (v u:Value) (Q:VK),Inv X pins σ H s→RelV x v→RelV y u→r x y H Q →
  subscripted slice false v u = operate [v,u] (getItem v u)→wpAny (model X.prog X.w) X.A (subscriptTail value slice v u) (EP X pins σ Q) X.xe s
def MtR (X:Cx) (id:String) (r:V→List V→Hp→VK→Prop):Prop :=
 ∀ (pins:List (Addr × Obj)) (s:Shared) (σ : St) (H:Hp) (x:V) (xs:List V) (v:Value) (us:List Value) (Q:VK),Inv X pins σ H s→RelV x v→Vals xs us→r x xs H Q →
  wpAny (model X.prog X.w) X.A (call (.builtin id) (v :: us)) (EP X pins σ Q) X.xe s
section
variable {X:Cx} {a b:Expr} {ta tb:TE} {pos:Pos}
theorem pe_ix {r:R2} (hr:IxR X r) (ha:PE X a ta) (hb:PE X b tb) (hs:JhP b):PE X (.Subscript a b pos) (tOp r ta tb):=by
 intro pins s σ H Q I h
 exact Subscript_ (binT ha hb I h fun v u s2 x y H2 I2 rx ry q => hr a b pins s2 σ H2 x y v u Q I2 rx ry q (hs _ _))
def rIxL (K:PySem.W.Frag):R2:=fun x y H Q => ∃ p xs i v,x = .ref p∧y = .int i∧SqL K H p xs∧atI xs i = some v∧Q v H
def rIxT (K:PySem.W.Frag):R2:=fun x y H Q => ∃ p xs i v,x = .ref p∧y = .int i∧SqT K H p xs∧atI xs i = some v∧Q v H
def rIxS:R2:=fun x y H Q => ∃ z i c,x = .str z∧y = .int i∧z.length ≤ sizeLine∧atI z.cps.toList i = some c∧Q (.str ⟨#[c]⟩) H
theorem Jh6:IxR X (rIxL X.K):=by
 intro value slice pins s σ H x y v u Q I rx ry h hs
 obtain ⟨p,xs,i,z,rfl,rfl,hq,he,q⟩:=h
 cases rx
 obtain ⟨t,rfl⟩:=ry
 obtain ⟨its,r,pl,hz⟩:=I.list hq
 obtain ⟨j,h1,h2,h3,h4,h5⟩:=Jes he
 obtain ⟨w,ew,rw'⟩:=r.get h2
 have hl:=r.length
 have hn:=Jd1
 have fin:EP X pins σ Q w s:=⟨z,H,I,rw',q⟩
 by_cases h0:0 ≤ i
 ·have hj:i.toNat = j:=by
   rw [seqIndex_of h0 h5] at h1
   exact Option.some.inj h1
  exact item_listR pl.isList h0 (by omega) (by rw [hj]; simpa using ew) fin hs
 ·have hj:(i + (its.toArray.size:Int)).toNat = j:=by
   rw [seqIndex_neg (by omega) h4] at h1
   rw [List.size_toArray, ← hl]
   exact Option.some.inj h1
  exact subscriptTail_builtinR (x:=w) pl.isList.typeIs slot_list_getitem.lookup
   (wpAny_getItem_list_neg (Q:=fun r s' => r = w∧EP X pins σ Q r s') pl.isList (by omega) (by rw [List.size_toArray] <;> omega) (by omega) (by rw [hj]; simpa using ew) ⟨rfl,fin⟩) hs
theorem JiN:IxR X (rIxT X.K):=by
 intro value slice pins s σ H x y v u Q I rx ry h hs
 obtain ⟨p,xs,i,z,rfl,rfl,hq,he,q⟩:=h
 cases rx
 obtain ⟨t,rfl⟩:=ry
 obtain ⟨its,r,pl,hz⟩:=I.tuple hq
 obtain ⟨j,h1,h2,h3,h4,h5⟩:=Jes he
 obtain ⟨w,ew,rw'⟩:=r.get h2
 have hl:=r.length
 have hn:=Jd1
 have fin:EP X pins σ Q w s:=⟨z,H,I,rw',q⟩
 exact subscriptTail_builtinR (x:=w) pl.typeIs slot_tuple_getitem.lookup
  (getItem_tuple (j:=j) (Q:=fun r s' => r = w∧EP X pins σ Q r s') pl (by omega) (by omega) (by rw [List.size_toArray, ← hl]; exact h1) (by simpa using ew) ⟨rfl,fin⟩) hs
theorem JiM:IxR X rIxS:=by
 intro value slice pins s σ H x y v u Q I rx ry h hs
 obtain ⟨z,i,c,rfl,rfl,hz,he,q⟩:=h
 obtain ⟨t,rfl⟩:=rx
 obtain ⟨t',rfl⟩:=ry
 obtain ⟨j,h1,h2,h3,h4,h5⟩:=Jes he
 have hl:z.cps.toList.length = z.length:=by simp [Str.length]
 rw [hl] at h1 h4 h5
 have hn:=Jd1
 exact tail_any (typeIs_str s z t) slot_str_getitem.lookup (getItem_str (c:=c) (by
  have e1:decide (i < -(2 ^ 63:Int)) = false:=decide_eq_false (by omega)
  have e2:decide (i ≥ 2 ^ 63) = false:=decide_eq_false (by omega)
  rw [e1,e2,Bool.or_false]) (by rw [h1]; simpa using h2) ⟨.str ⟨#[c]⟩,H,I.tok _,⟨_,rfl⟩,q⟩) hs
def flatV:V→Bool
 | .non => true
 | .bl _ => true
 | .int _ => true
 | .str _ => true
 | _ => false
def eqV:V→V→Bool
 | .non, .non => true
 | .bl a, .bl b => a == b
 | .bl a, .int b => (if a then 1 else 0) == b
 | .int a, .bl b => a == (if b then 1 else 0)
 | .int a, .int b => a == b
 | .str a, .str b => a == b
 | _,_ => false
theorem Jhx {A:Around} {s:Shared} {y x:V} {u v:Value} (ry:RelV y u) (rx:RelV x v) (fy:flatV y = true) (fx:flatV x = true):SeqAt.EqAt A s u v (eqV y x):=by
 cases y with
 | non =>
  cases ry
  cases x with
  | non => cases rx; exact SeqAt.EqAt.same _
  | bl b => cases rx; exact SeqAt.EqAt.none_bool b
  | int b => obtain ⟨t,rfl⟩:=rx; exact SeqAt.EqAt.none_int b t
  | str b => obtain ⟨t,rfl⟩:=rx; exact SeqAt.EqAt.none_str b t
  | _ => exact absurd (show false = true from fx) Bool.false_ne_true
 | bl a =>
  cases ry
  cases x with
  | non => cases rx; exact SeqAt.EqAt.bool_none a
  | bl b => cases rx; exact SeqAt.EqAt.bool_bool a b
  | int b => obtain ⟨t,rfl⟩:=rx; exact SeqAt.EqAt.bool_int a b t
  | str b => obtain ⟨t,rfl⟩:=rx; exact SeqAt.EqAt.bool_str a b t
  | _ => exact absurd (show false = true from fx) Bool.false_ne_true
 | int a =>
  obtain ⟨t',rfl⟩:=ry
  cases x with
  | non => cases rx; exact SeqAt.EqAt.int_none a t'
  | bl b => cases rx; exact SeqAt.EqAt.int_bool a t' b
  | int b => obtain ⟨t,rfl⟩:=rx; exact SeqAt.EqAt.int_int a t' b t
  | str b => obtain ⟨t,rfl⟩:=rx; exact SeqAt.EqAt.int_str a t' b t
  | _ => exact absurd (show false = true from fx) Bool.false_ne_true
 | str a =>
  obtain ⟨t',rfl⟩:=ry
  cases x with
  | non => cases rx; exact SeqAt.EqAt.str_none a t'
  | bl b => cases rx; exact SeqAt.EqAt.str_bool a t' b
  | int b => obtain ⟨t,rfl⟩:=rx; exact SeqAt.EqAt.str_int a t' b t
  | str b => obtain ⟨t,rfl⟩:=rx; exact SeqAt.EqAt.str_str a t' b t
  | _ => exact absurd (show false = true from fx) Bool.false_ne_true
 | _ => exact absurd (show false = true from fy) Bool.false_ne_true
def eqU (x:V) (u:Value):Bool:=match u with
 | .none => eqV .non x
 | .bool b => eqV (.bl b) x
 | .int i _ => eqV (.int i) x
 | .str z _ => eqV (.str z) x
 | _ => false
theorem Jhy {x y:V} {u:Value} (r:RelV y u) (f:flatV y = true):eqU x u = eqV y x:=by
 cases y with
 | non => cases r; rfl
 | bl b => cases r; rfl
 | int i => obtain ⟨t,rfl⟩:=r; rfl
 | str z => obtain ⟨t,rfl⟩:=r; rfl
 | _ => exact absurd (show false = true from f) Bool.false_ne_true
theorem Jer {x:V}:∀ {xs:List V} {us:List Value},Vals xs us→xs.all flatV = true→us.any (eqU x) = xs.any fun y => eqV y x
 | _,_, .nil,_ => rfl
 | y :: xs,u :: us, .cons r t,f => by
  rw [List.all_cons,Bool.and_eq_true] at f
  rw [List.any_cons,List.any_cons,Jhy r f.1,Jer t f.2]
theorem Jdz {A:Around} {s:Shared} {x:V} {v:Value} (rx:RelV x v) (fx:flatV x = true):∀ {xs:List V} {us:List Value},Vals xs us→xs.all flatV = true→∀ u ∈ us,SeqAt.EqAt A s u v (eqU x u)
 | _,_, .nil,_ => fun u hu => by cases hu
 | y :: xs,u :: us, .cons r t,f => fun u' hu => by
  rw [List.all_cons,Bool.and_eq_true] at f
  rcases List.mem_cons.mp hu with rfl | hu
  ·rw [Jhy r f.1]; exact Jhx r rx f.1 fx
  ·exact Jdz rx fx t f.2 u' hu
def inV (x:V) (xs:List V):Bool:=xs.any fun y => eqV y x
def rIn (K:PySem.W.Frag) (neg:Bool):R2:=fun x y H Q => ∃ p xs,y = .ref p∧(SqL K H p xs ∨ SqT K H p xs)∧flatV x = true∧xs.all flatV = true∧Q (.bl (if neg then !inV x xs else inV x xs)) H
theorem Jgs:OpR X (compareOp .In) (rIn X.K false):=by
 intro pins s σ H x y v u Q I rx ry h
 obtain ⟨p,xs,rfl,hq,fx,fs,q⟩:=h
 cases ry
 rcases hq with hq | hq
 ·obtain ⟨its,r,pl,hz⟩:=I.list hq
  refine SeqAt.in_listAt (eqU x) pl.isList (fun w hw => Jdz rx fx r fs w (by simpa using hw)) ⟨.bl _,H,I,rfl, ?_⟩
  rw [show its.toArray.any (eqU x) = its.any (eqU x) by simp,Jer r fs]
  exact q
 ·obtain ⟨its,r,pl,hz⟩:=I.tuple hq
  refine SeqAt.in_tupleAt (eqU x) pl (fun w hw => Jdz rx fx r fs w (by simpa using hw)) ⟨.bl _,H,I,rfl, ?_⟩
  rw [show its.toArray.any (eqU x) = its.any (eqU x) by simp,Jer r fs]
  exact q
theorem JdW:CallR X (.builtin "len") (fun xs H Q => ∃ p ys,xs = [.ref p]∧(SqL X.K H p ys ∨ SqT X.K H p ys)∧Q (.int ys.length) H):=by
 intro pins s σ H xs us Q I r h
 obtain ⟨p,ys,rfl,hq,q⟩:=h
 obtain ⟨u,rfl,rx⟩:=vals1 r
 cases rx
 have hn:=Jd1
 rcases hq with hq | hq
 ·obtain ⟨its,r',pl,hz⟩:=I.list hq
  have hlen:=r'.length
  exact Calls.call_len_list pl.isList (by simp only [List.size_toArray] <;> omega) ⟨.int ys.length,H,I.tok _,⟨s.toks + 1,by rw [List.size_toArray,hlen]⟩,q⟩
 ·obtain ⟨its,r',pl,hz⟩:=I.tuple hq
  have hlen:=r'.length
  exact len_tuple pl (by simp only [List.size_toArray] <;> omega) ⟨.int ys.length,H,I.tok _,⟨s.toks + 1,by rw [List.size_toArray,hlen]⟩,q⟩
theorem JdX:CallR X (.builtin "len") (fun xs H Q => ∃ z,xs = [.str z]∧z.length ≤ sizeLine∧Q (.int z.length) H):=by
 intro pins s σ H xs us Q I r h
 obtain ⟨z,rfl,hz,q⟩:=h
 obtain ⟨u,rfl,t,rfl⟩:=vals1 r
 have hn:=Jd1
 exact len_str (by omega) ⟨.int z.length,H,I.tok _,⟨_,rfl⟩,q⟩
theorem JdY:CallR X (.type "list") (fun xs H Q => ∃ p ys,xs = [.ref p]∧(SqL X.K H p ys ∨ SqT X.K H p ys)∧∀ l,H l = none→Q (.ref l) (upd H l (.lst ys))):=by
 intro pins s σ H xs us Q I r h
 obtain ⟨p,ys,rfl,hq,q⟩:=h
 obtain ⟨u,rfl,rx⟩:=vals1 r
 cases rx
 have fin:∀ (its:List Value),Vals ys its→ys.length ≤ sizeLine→∀ (h':Heap) (c':Nat),(∀ b o',s.heap.get? b = some o'→h'.get? b = some o') →
   h'.get? s.heap.objs.size = some { cls:=.type "list",dict:=none,data:=.seq its.toArray c',slots:=#[] }→EP X pins σ Q (.ref s.heap.objs.size) { s with heap:=h' }:=fun its r' hz h' c' kp e =>
  ⟨.ref s.heap.objs.size,_,I.laid (t':=s.toks) kp (Nat.le_refl _) (show ObjOk X.prog X.w _ h' _ (.lst ys) from ⟨hz,its,c',r',e⟩),rfl,q _ (I.hok.fresh (Nat.le_refl _))⟩
 rcases hq with hq | hq
 ·obtain ⟨its,r',pl,hz⟩:=I.list hq
  have hlen:=r'.length
  obtain ⟨o,ho,hc,n,hd⟩:=pl.isList
  exact call_list_seq p (.inl rfl) ho hc hd (fun h' c' kp e => fin its r' hz h' c' kp e) (by simp only [List.size_toArray] <;> omega)
 ·obtain ⟨its,r',pl,hz⟩:=I.tuple hq
  have hlen:=r'.length
  obtain ⟨o,ho,hc,n,hd⟩:=pl
  exact call_list_seq p (.inr rfl) ho hc hd (fun h' c' kp e => fin its r' hz h' c' kp e) (by simp only [List.size_toArray] <;> omega)
def tyV (K:PySem.W.Frag) (T:String) (x:V) (H:Hp):Prop:=match x with
 | .str _ => T = "str"
 | .int _ => T = "int"
 | .ref p => (T = "list"∧∃ xs,SqL K H p xs) ∨ (T = "tuple"∧∃ o,K.lookup p = some o∧o.cls = .type "tuple"∧o.dict = none) ∨
   (T = "dict"∧((∃ kvs,H p = some (.dK kvs)) ∨ ∃ kvs,H p = some (.dT kvs))) ∨ (T = "set"∧∃ S n,H p = some (.set S n))
 | _ => False
theorem JhM {pins:List (Addr × Obj)} {σ : St} {H:Hp} {s:Shared} {T:String} {x:V} {v:Value} (I:Inv X pins σ H s) (r:RelV x v) (ty:tyV X.K T x H) :
  s.TypeIs v T∧∀ a,v = .ref a→∃ ob,s.heap.get? a = some ob∧ob.dict = none:=by
 cases x with
 | str z =>
  obtain ⟨t,rfl⟩:=r
  cases (show T = "str" from ty)
  exact ⟨typeIs_str s z t,fun _ e => nomatch e⟩
 | int i =>
  obtain ⟨t,rfl⟩:=r
  cases (show T = "int" from ty)
  exact ⟨typeIs_int s i t,fun _ e => nomatch e⟩
 | ref p =>
  cases r
  rcases ty with ⟨rfl,xs,hq⟩ | ⟨rfl,o,hk,hc,hd⟩ | ⟨rfl,hk⟩ | ⟨rfl,S,n,hk⟩
  ·obtain ⟨its,_,pl,_⟩:=I.list hq
   refine ⟨pl.isList.typeIs,fun a e => ?_⟩
   cases e
   obtain ⟨o,n,e,c,hd,_⟩:=pl
   exact ⟨o,e,hd⟩
  ·refine ⟨⟨o,I.kIn p o hk,hc⟩,fun a e => ?_⟩
   cases e
   exact ⟨o,I.kIn _ o hk,hd⟩
  ·have z:∃ o,s.heap.get? p = some o∧o.ExactDict:=by
    rcases hk with ⟨kvs,hk⟩ | ⟨kvs,hk⟩
    ·obtain ⟨_,_,_,_,o,_,_,e,ex,_⟩:=I.hok p _ hk
     exact ⟨o,e,ex⟩
    ·obtain ⟨_,_,_,_,o,_,_,e,ex,_⟩:=I.hok p _ hk
     exact ⟨o,e,ex⟩
   obtain ⟨o,e,ex⟩:=z
   refine ⟨⟨o,e,ex.1⟩,fun a e2 => ?_⟩
   cases e2
   exact ⟨o,e,ex.2.1⟩
  ·obtain ⟨o,_,_,_,e,ex,_⟩:=I.hok p _ hk
   refine ⟨⟨o,e,ex.1⟩,fun a e2 => ?_⟩
   cases e2
   exact ⟨o,e,ex.2.1⟩
 | _ => exact False.elim ty
def tBM0 (K:PySem.W.Frag) (T:String) (r:V→List V→Hp→VK→Prop) (to:TE):TE:=fun σ H Q => to σ H fun x H1 => tyV K T x H1∧r x [] H1 Q
def tBM (K:PySem.W.Frag) (T:String) (r:V→List V→Hp→VK→Prop) (to:TE) (t:TA):TE:=fun σ H Q => to σ H fun x H1 => tyV K T x H1∧t σ H1 fun xs H2 => r x xs H2 Q
variable {o e:Expr} {es:List Expr} {to:TE} {t:TA} {name:Str} {apos cpos:Pos} {T id:String} {r:V→List V→Hp→VK→Prop}
theorem JhG (pa:PlainAttrs T) (slot:Slot T name id) (hty:typeOf (.builtin id) = pure (.type "method_descriptor")) (hm:MtR X id r) (ho:PE X o to)
  (hbase:attributeBase o name X.env (eval o X.env) = eval o X.env:=by rfl) (hline:(apos.endLine == cpos.line) = true:=by rfl):PE X (.Call (.Attribute o name apos) [] [] cpos) (tBM0 X.K T r to):=by
 intro pins s σ H Q I h
 refine wpAny_Call_method0_late hbase hline (thn (ho pins s σ H _ I h) fun v s1 ⟨x,H1,I1,r1,ty,q1⟩ => ?_)
 obtain ⟨h1,h2⟩:=JhM I1 r1 ty
 exact ⟨T,id,pa,slot,hty,h1,h2,Calls.callWith_builtin rfl (PySem.evalArgs_none (hm pins s1 σ H1 x [] v [] Q I1 r1 .nil q1))⟩
theorem pe_bm (pa:PlainAttrs T) (slot:Slot T name id) (hty:typeOf (.builtin id) = pure (.type "method_descriptor")) (hm:MtR X id r) (ho:PE X o to) (ha:PA X (e :: es) t)
  (hbase:attributeBase o name X.env (eval o X.env) = eval o X.env:=by rfl)
  (hfew:((backTo cpos (starEach (e :: es) X.env)).all (fun x => !x.1) && (backToKw cpos (keywordEach [] X.env)).all (fun x => x.1.isSome)
   && decide ((e :: es).length + ([]:List Keyword).length + (if ([]:List Keyword).isEmpty then 0 else 1) < 30)) = true:=by rfl)
  (hline:(apos.endLine == cpos.line) = true:=by rfl) (hs:starEach (e :: es) X.env = (false,eval e X.env) :: starEach es X.env:=by rfl) (hplain:(backTo cpos (starEach es X.env)).any (·.1) = false:=by rfl) :
  PE X (.Call (.Attribute o name apos) (e :: es) [] cpos) (tBM X.K T r to t):=by
 intro pins s σ H Q I h
 refine wpAny_Call_method_late hbase hfew hline rfl (thn (ho pins s σ H _ I h) fun v s1 ⟨x,H1,I1,r1,ty,q1⟩ => ?_)
 obtain ⟨h1,h2⟩:=JhM I1 r1 ty
 refine ⟨T,id,pa,slot,hty,h1,h2, ?_⟩
 have hA:=ha cpos pins s1 σ H1 _ I1 q1
 rw [hs] at hA ⊢
 refine Calls.callWith_builtin (by show (false || (backTo cpos (starEach es X.env)).any (·.1)) = false; rw [hplain] <;> rfl) (Calls.evalArgs_plain ?_)
 exact thn hA fun us s2 ⟨vs,H2,I2,r2,q2⟩ => hm pins s2 σ H2 x vs v us Q I2 r1 r2 q2
/- xs.append(e),list.index on a module's tuple .. are MtR facts of 06m -/
end
end L2
namespace L2
open PySem PySem.Spec PyProof.Rows
def MtM (X:Cx) (id:String) (r:V→List V→Hp→VK→Prop):Prop :=
 ∀ (pins:List (Addr × Obj)) (s:Shared) (σ : St) (H:Hp) (x:V) (xs:List V) (v:Value) (us:List Value) (Q:VK),Inv X pins σ H s→RelV x v→Vals xs us→r x xs H Q →
  wpAny (model X.prog X.w) X.A (call (.builtin id) (v :: us)) (EP X pins σ Q) X.xe s
theorem Vals.one:∀ {x:V} {us:List Value},Vals [x] us→∃ u,us = [u]∧RelV x u
 | _,_, .cons r .nil => ⟨_,rfl,r⟩
theorem Vals.zero:∀ {us:List Value},Vals [] us→us = []
 | _, .nil => rfl
section
variable {X:Cx} {pins:List (Addr × Obj)} {σ : St} {H:Hp} {s:Shared} {l b:Addr} {xs ys zs:List V}
theorem Inv.lset {its its':List Value} {n:Nat} {f:Array Value→Array Value} {t':Nat} (I:Inv X pins σ H s) (hH:H l = some (.lst xs))
  (e:s.heap.get? l = some { cls:=.type "list",data:=.seq its.toArray n }) (hf:f its.toArray = its'.toArray) (hv:Vals ys its') (hz:ys.length ≤ sizeLine) :
  Inv X pins σ (upd H l (.lst ys)) { s with heap:=s.heap.update l (Obj.mapSeq f),toks:=t' }:=by
 have q:=PySem.IsL.update e f
 rw [hf] at q
 refine I.write (x:=l) (e:=l) (by rw [hH]; exact trivial) (.inl rfl) (fun b' u hb hu => (Heap.get?_update_other s.heap (Obj.mapSeq f) (Ne.symm hb)).trans hu) ⟨_,q⟩ ?_
 exact ⟨hz,its',_,hv,q⟩
theorem Inv.lnew {its:List Value} {t':Nat} (I:Inv X pins σ H s) (hv:Vals ys its) (hz:ys.length ≤ sizeLine) :
  Inv X pins σ (upd H s.heap.objs.size (.lst ys)) { s with heap:=s.heap.push { cls:=.type "list",data:=.seq its.toArray },toks:=t' } :=
 I.laid (fun _ _ q => Heap.get?_push_of_some _ q) (Nat.le_refl _) ⟨hz,its,0,hv,Heap.get?_push_size _ rfl⟩
theorem Inv.fresh (I:Inv X pins σ H s):H s.heap.objs.size = none:=I.hok.fresh (Nat.le_refl _)
theorem Inv.lstM (I:Inv X pins σ H s) (hH:H l = some (.lst xs)):xs.length ≤ sizeLine∧∃ (its:List Value) (n:Nat),Vals xs its∧xs.length = its.length∧s.heap.get? l = some { cls:=.type "list",data:=.seq its.toArray n }:=by
 obtain ⟨z,its,n,r,e⟩:=I.hok l _ hH
 exact ⟨z,its,n,r,r.length,e⟩
theorem Jhc {n:Nat} (h:n ≤ sizeLine):Builtin.List.listTooLong n = false:=by
 unfold Builtin.List.listTooLong
 exact decide_eq_false (by omega)
end
section
variable {X:Cx}
def Jir:V→List V→Hp→VK→Prop:=fun x vs H Q => ∃ l xs y,x = .ref l∧vs = [y]∧H l = some (.lst xs)∧xs.length < sizeLine∧Q .non (upd H l (.lst (xs ++ [y])))
theorem JaX:MtM X "list.append" Jir:=by
 intro pins s σ H x vs v us Q I rx rv h
 obtain ⟨l,xs,y,rfl,rfl,hH,hz,q⟩:=h
 cases rx
 obtain ⟨u,rfl,ru⟩:=rv.one
 obtain ⟨z,its,n,r,hl,e⟩:=I.lstM hH
 refine call_meets F.slot_list_append ⟨_,e,rfl⟩ F.entry_list_append (F.args_list_append_2 _ _) (PySem.list_append l its.toArray n u (by rw [List.size_toArray]; omega)) ⟨e, ?_⟩
 refine ⟨.non,_,I.lset (its':=its ++ [u]) hH e (by simp) (r.append (.cons ru .nil)) ?_,rfl,q⟩
 rw [List.length_append,List.length_singleton]
 omega
def Jis:V→List V→Hp→VK→Prop:=fun x vs H Q => ∃ l b xs zs,x = .ref l∧vs = [.ref b]∧H l = some (.lst xs)∧H b = some (.lst zs)∧xs.length + zs.length ≤ sizeLine∧Q .non (upd H l (.lst (xs ++ zs)))
theorem Jgk:MtM X "list.extend" Jis:=by
 intro pins s σ H x vs v us Q I rx rv h
 obtain ⟨l,b,xs,zs,rfl,rfl,hH,hB,hz,q⟩:=h
 cases rx
 obtain ⟨u,rfl,ru⟩:=rv.one
 cases ru
 obtain ⟨z,its,n,r,hl,e⟩:=I.lstM hH
 obtain ⟨z2,its2,n2,r2,hl2,e2⟩:=I.lstM hB
 have hsz:its.toArray.size + its2.toArray.size ≤ sizeLine:=by rw [List.size_toArray,List.size_toArray]; omega
 have hlong:¬ (!its.toArray.isEmpty && Builtin.List.listTooLong (its.toArray.size + its2.toArray.size)) = true:=by
  rw [Jhc hsz,Bool.and_false]
  exact Bool.false_ne_true
 refine call_meets F.slot_list_extend ⟨_,e,rfl⟩ F.entry_list_extend (F.args_list_extend_2 _ _)
  (AutoSeq1.list_extend_list_list_0 l its.toArray n b its2.toArray n2 hlong (by rw [List.size_toArray]; omega) (by omega)) ⟨e,e2, ?_⟩
 refine ⟨.non,_,I.lset (its':=its ++ its2) hH e (by simp) (r.append r2) ?_,rfl,q⟩
 rw [List.length_append]
 omega
def Ji9:V→List V→Hp→VK→Prop:=fun x vs H Q => ∃ l xs,x = .ref l∧vs = []∧H l = some (.lst xs)∧Q .non (upd H l (.lst []))
theorem Jfg:MtM X "list.clear" Ji9:=by
 intro pins s σ H x vs v us Q I rx rv h
 obtain ⟨l,xs,rfl,rfl,hH,q⟩:=h
 cases rx
 have hus:=rv.zero
 subst hus
 obtain ⟨z,its,n,r,hl,e⟩:=I.lstM hH
 refine call_meets F.slot_list_clear ⟨_,e,rfl⟩ F.entry_list_clear (F.args_list_clear_1 _) (AutoSeq1.list_clear_list_0 l its.toArray n (by rw [List.size_toArray]; omega)) ⟨e, ?_⟩
 exact ⟨.non,_,I.lset (its':=[]) (ys:=[]) hH e rfl .nil (Nat.zero_le _),rfl,q⟩
def rCat:R2:=fun x y H Q => ∃ l b xs zs,x = .ref l∧y = .ref b∧H l = some (.lst xs)∧H b = some (.lst zs)∧xs.length + zs.length ≤ sizeLine∧∀ p,H p = none→Q (.ref p) (upd H p (.lst (xs ++ zs)))
theorem JiY:OpR X (binaryOp .Add) rCat:=by
 intro pins s σ H x y v u Q I rx ry h
 obtain ⟨l,b,xs,zs,rfl,rfl,hH,hB,hz,q⟩:=h
 cases rx
 cases ry
 obtain ⟨z,its,n,r,hl,e⟩:=I.lstM hH
 obtain ⟨z2,its2,n2,r2,hl2,e2⟩:=I.lstM hB
 refine PySem.P.add_list e e2 ?_ (by rw [List.size_toArray,List.size_toArray]; omega)
 have ea:its.toArray ++ its2.toArray = (its ++ its2).toArray:=by simp
 rw [ea]
 exact ⟨.ref _,_,I.lnew (t':=s.toks) (r.append r2) (by rw [List.length_append]; omega),rfl,q _ I.fresh⟩
end
section
variable {prog:Program} {w:World} {A:Around} {E:Value→Shared→Prop} {s:Shared}
end
section
variable {X:Cx}
end
end L2
namespace Att
open PySem PySem.W PySem.Calls PyProof.Rows
theorem JcG {P:Params} {h:Heap}:∀ (ns:List Int) (vs:List Value),WellAll P h vs (ns.map WData.int)→IntsAre vs ns:=by
 intro ns
 induction ns with
 | nil =>
  intro vs w
  rw [List.map_nil] at w
  cases w
  exact .nil
 | cons n ns ih =>
  intro vs w
  rw [List.map_cons] at w
  cases w with
  | cons a b =>
   cases a
   exact .cons _ _ (ih _ b)
theorem JgF {l:OpenLaw} {n:Nat} (hn:l.most = some n) {P:Params} {h:Heap} {args:List WData} {vals:List Value}
  (hpre:l.row.toRowW.claim.pre args = true) (hwl:WellAll P h vals args) :
  ∃ a vs ns,vals = [Value.ref a]∧args = [WData.list (ns.map WData.int)]∧h.get? a = some { cls:=.type "list",data:=.seq vs.toArray }∧IntsAre vs ns∧ns.length ≤ n:=by
 have hsh:WShape.hasAll [] args [.list .int] = true:=(pre_splitW hpre).1
 have hc:l.pre.holds [] { args:=args } = true:=(pre_splitW hpre).2
 obtain ⟨d,r,rfl,h1,h2⟩:=hasAllW_cons hsh
 obtain rfl:=hasAllW_nil h2
 obtain ⟨xs,rfl,h3⟩:=hasW_list h1
 obtain ⟨ns,rfl⟩:=items_int h3
 have hlen:ns.length ≤ n:=by
  unfold OpenLaw.pre at hc
  have h4:(WTm.not (.lt (.lit (.int (n:Int))) (.len (.arg 0)))).holds [] { args:=[.list (ns.map .int)] } = true:=by
   have h4:=(holds_andW hc).1
   rw [hn] at h4
   exact h4
  have h5:=condW_of h4 (w_not (w_lt w_lit (w_len_list (w_arg rfl))))
  rw [List.length_map] at h5
  refine Nat.le_of_not_lt fun q => ?_
  have q':(n:Int) < ((ns.length:Nat):Int):=by omega
  first
   | (rw [decide_eq_true q'] at h5; exact absurd h5 (by decide))
   | (simp at h5; omega)
 cases hwl with
 | cons w1 w2 =>
  cases w2
  cases w1 with
  | list ho hall => exact ⟨_,_,ns,rfl,rfl,ho,JcG ns _ hall,hlen⟩
theorem Jgz (l:OpenLaw) (args:List WData):l.row.toRowW.claim.post args (.bool true) args = true :=
 postW_of (r:=l.row.toRowW) (X:=(true == true))
  (show WShape.has [] (.bool true) .bool = true by first | rfl | decide | simp [WShape.has,WShape.arms,WShape.armsAll])
  (show (WTm.eq .res (.lit (.bool true))).value [] { args:=args,res:=some (.bool true),after:=args } = some (.bool (true == true)) from w_eq_bool (w_res rfl) w_lit) rfl
theorem attach_call {l:OpenLaw} {n:Nat} {q:Program} {loose:List Str} {XP:(Str→Option Value)→Heap→Prop} {YP:World→Heap→Prop} {d:DefRec}
  (hn:l.most = some n) (hdf:d.params.defaults = [])
  (call:∀ (w:World) (s₀ s₁ : Shared) (mg mb:Str→Option Value) (fa:Addr) (o:Obj) (pm cd doc:Value) (a:Addr) (vs:List Value) (ns:List Int),
   Ground q loose [] XP w s₀ mg mb s₁.heap→YP w s₁.heap →
   s₁.heap.get? fa = some o→o.data = .func (docDef d.name d.params d.body d.scope pm cd doc)→s₁.heap.CodeRec cd d.name→mg d.name = some (.ref fa) →
   s₁.heap.get? a = some { cls:=.type "list",data:=.seq vs.toArray }→IntsAre vs ns→ns.length ≤ n→s₁.gens = #[] →
   codeAny (model l.prog w) callerA (.call (.ref fa) ⟨[.ref a],[]⟩) (fun r s' => r = .ok (.ret (.bool true))∧OldK s₁.heap s'.heap∧s'.os = s₁.os∧AllBare s'.gens) s₁) :
  WalkO q loose XP YP l.row.toRowW d [] (fun f vs => PySem.call f vs):=by
 intro w s₀ s₁ mg mb G Y fa o pm cd doc dV kV ho hd hcd hD hmg hg args vals as hpre hlay hrd hwl hlo
 obtain rfl:dV = .none:=Dflts.none hD hdf
 obtain rfl:kV = .none:=Dflts.noKw hD
 obtain ⟨a,vs,ns,rfl,rfl,hobj,hints,hlen⟩:=JgF hn hpre hwl
 refine enter_call (codeAny_mono (call w s₀ s₁ mg mb fa o pm cd doc a vs ns G Y ho (fd_plain hd) hcd hmg hobj hints hlen hg) fun r s' hq => ?_)
 obtain ⟨rfl,h2,h3,h4⟩:=hq
 exact ⟨.inl ⟨.bool true, .bool true,[],rfl,fun _ => rfl, .bool true,Jgz l _,fun _ => ⟨List.Pairwise.nil,fun _ hm => (nomatch hm)⟩⟩,h2,h3,h4⟩
section
variable {prog:Program} {w:World} {A:Around} {E:Value→Shared→Prop} {s:Shared} {K:Frag}
end
end Att
namespace L2
open PySem PySem.Spec PyProof.Rows
theorem Jen:∀ {vs:List Value} {ns:List Int},IntsAre vs ns→Vals (ns.map V.int) vs
 | _,_, .nil => .nil
 | _,_, .cons n t h => .cons ⟨t,rfl⟩ (Jen h)
def Only (H:Hp):Prop:=∀ b,H b = none ∨ ∃ o xs,H b = some (.frz o (.lst xs))
theorem Jg7 {P:Program} {w:World} {K:PySem.W.Frag} {mg mb:Str→Option Value} {CX:CXT} {k:Nat} {fa a:Addr} {fd:FuncData} {x:Str} {sp:Sp} {s₁ : Shared} {vs:List Value} {ns:List Int}
  (KX:K.In s₁.heap) (hns:s₁.heap.Ns mainGlobals mg) (hb:s₁.heap.Ns builtinsNs mb) (hbb:∀ x:Str,x ≠ "__name__"→mb x = bootBuiltins x) (hlim:s₁.heap.NoLimit) (hg:s₁.gens = #[])
  (ha:s₁.heap.get? a = some { cls:=.type "list",data:=.seq vs.toArray }) (hi:IntsAre vs ns) (hl:ns.length ≤ sizeLine) (hr:Room k callerA)
  (F:∀ base:Heap,K.In base→base.Ns mainGlobals mg→FnOk P w K mg base CX k fa fd [x] sp) (hbind:∀ (s:Shared) (u:Value),BindsTo s fd ⟨[u],[]⟩ [(x,u)])
  (hsp:∀ H:Hp,Only H→SqL K H a (ns.map V.int)→sp [.ref a] H (fun v _ => v = .bl true) fun _ _ _ => False)
  (hCX:∀ H e s',CX [] H s₁ (fun _ _ _ => False) e s'→False) :
  codeAny (model P w) callerA (.call (.ref fa) ⟨[.ref a],[]⟩) (fun r s' => r = .ok (.ret (.bool true))∧OldK s₁.heap s'.heap∧s'.os = s₁.os∧AllBare s'.gens) s₁:=by
 have rv:=Jen hi
 have lenV:=hi.length
 have core:∀ H:Hp,Only H→SqL K H a (ns.map V.int)→HOk P w H s₁.heap→(∀ b,H b ≠ none→b = a)→(H a ≠ none→K.lookup a = none) →
   codeAny (model P w) callerA (.call (.ref fa) ⟨[.ref a],[]⟩) (fun r s' => r = .ok (.ret (.bool true))∧OldK s₁.heap s'.heap∧s'.os = s₁.os∧AllBare s'.gens) s₁:=by
  intro H hO hS hok hA hK
  have base_of:∀ {b:Addr} {o:Obj},s₁.heap.get? b = some o→H b = none→(hidT s₁.heap H).get? b = some o:=fun e n => Jg2 e n
  have noA:∀ {b:Addr} {o:Obj} {es:Array DictEntry} {ep:Nat},s₁.heap.get? b = some o→o.data = .dict es ep→H b = none:=fun {b o es ep} e d => by
   cases q:H b with
   | none => rfl
   | some u =>
    have e':b = a:=hA b (by rw [q]; simp)
    subst e'
    rw [ha] at e; cases e
    have d':Data.seq vs.toArray _ = Data.dict es ep:=d
    cases d'
  have nsK:∀ {b:Addr} {m:Str→Option Value},s₁.heap.Ns b m→(hidT s₁.heap H).Ns b m:=fun {b m} ⟨o,es,ep,e,d,r⟩ => ⟨o,es,ep,base_of e (noA e d),d,r⟩
  have hKb:K.In (hidT s₁.heap H):=fun b o e => base_of (KX b o e) (by
   cases q:H b with
   | none => rfl
   | some u =>
    have e':b = a:=hA b (by rw [q]; simp)
    subst e'
    rw [hK (by rw [q]; simp)] at e; cases e)
  have hM:Mod K mg (hidT s₁.heap H):=⟨hKb,nsK hns,⟨mb,nsK hb,hbb⟩,let ⟨mc,h1,h2⟩:=hlim; ⟨mc,nsK h1,h2⟩⟩
  have e0:Env0 P w K mg (hidT s₁.heap H) callerA [] s₁ H:=⟨rfl,hM,fun b o e => Jib e,Nat.le_of_eq (Jf6 _ _),trivial,fun b hb => absurd (show b ∈ ([]:List Addr) from hb) (by simp),hok, .of_eq hg⟩
  refine codeAny_mono ((F _ hKb (nsK hns)).run callerA [] s₁ H ⟨[.ref a],[]⟩ [.ref a] [.ref a] _ _ hr e0 (hbind s₁ (.ref a)) (.cons rfl .nil) (hsp H hO hS)) fun r s' h => ?_
  cases r with
  | error e => exact (hCX H e s' h).elim
  | ok fl =>
   cases fl with
   | next => exact False.elim h
   | brk => exact False.elim h
   | cont => exact False.elim h
   | ret u =>
    obtain ⟨v,H',os,bare,un,hok',r',q⟩:=h
    have q':v = .bl true:=q
    subst q'
    obtain rfl:u = Value.bool true:=r'
    refine ⟨rfl,OldK.of_keep fun b o e => ?_,os,bare⟩
    cases q:H b with
    | none => exact un.keep b o e q (by intro z; exact absurd (show b ∈ ([]:List Addr) from z) (by simp)) (by simp)
    | some u =>
     rcases hO b with z | ⟨ob,xs,z⟩
     ·rw [q] at z; cases z
     ·have z2:=un.frzs b ob _ z
      obtain ⟨e1,_⟩:=hok b _ z
      obtain ⟨e2,_⟩:=hok' b _ z2
      rw [e] at e1; cases e1
      exact e2
 cases hk:K.lookup a with
 | some o =>
  have e:=KX a o hk
  rw [ha] at e
  cases e
  refine core (fun _ => none) (fun _ => .inl rfl) (.inr ⟨_,vs.toArray,_,hk,rfl,rfl,rfl,by rw [List.size_toArray,lenV]; exact hl,by simpa using rv⟩) (fun b u z => by have z':(none:Option HO) = some u:=z; cases z') (fun b z => absurd rfl z) fun z => absurd rfl z
 | none =>
  refine core (fun b => if b = a then some (.frz { cls:=.type "list",data:=.seq vs.toArray } (.lst (ns.map V.int))) else none) (fun b => ?_) (.inl (.inr ⟨{ cls:=.type "list",data:=.seq vs.toArray },if_pos rfl⟩)) (fun b u z => ?_) (fun b z => ?_) fun _ => hk
  ·by_cases hb:b = a
   ·exact .inr ⟨_,_,if_pos hb⟩
   ·exact .inl (if_neg hb)
  ·by_cases hb:b = a
   ·have z':=(if_pos hb).symm.trans z
    cases z'
    subst hb
    exact ⟨ha,by rw [List.length_map]; exact hl,vs,_,rv,ha⟩
   ·have z':=(if_neg hb).symm.trans z
    cases z'
  ·by_cases hb:b = a
   ·exact hb
   ·exact absurd (if_neg hb) z
end L2
namespace L2
open PySem PySem.Spec PyProof.Rows
abbrev KOf {K:PySem.W.Frag} {h:Heap} (_:K.In h):PySem.W.Frag:=K
theorem JgO {l:PySem.W.OpenLaw} {n k:Nat} {q:Program} {loose:List Str} {XP:(Str→Option Value)→Heap→Prop} {YP:World→Heap→Prop} {d:DefRec} {K:Params→PySem.W.Frag} {CX:World→CXT} {sp:World→Sp} {x:Str}
  (hn:l.most = some n) (hn2:n ≤ sizeLine) (hdf:d.params.defaults = []) (hr:Room k callerA)
  (hY:∀ (w:World) (h:Heap),YP w h→(K w.params).In h)
  (F:∀ (w:World) (mg:Str→Option Value) (fa:Addr) (h:Heap),(K w.params).In h→h.Ns mainGlobals mg→mg d.name = some (.ref fa) →
   ∃ fd:FuncData,(∀ (s:Shared) (u:Value),BindsTo s fd ⟨[u],[]⟩ [(x,u)]) ∧
    ∀ base:Heap,(K w.params).In base→base.Ns mainGlobals mg→FnOk l.prog w (K w.params) mg base (CX w) k fa fd [x] (sp w))
  (hsp:∀ (w:World) (H:Hp) (a:Addr) (ns:List Int),ns.length ≤ n→Only H→SqL (K w.params) H a (ns.map V.int)→sp w [.ref a] H (fun v _ => v = .bl true) fun _ _ _ => False)
  (hCX:∀ (w:World) (H:Hp) (s:Shared) (e:Value) (s':Shared),CX w [] H s (fun _ _ _ => False) e s'→False) :
  PySem.W.WalkO q loose XP YP l.row.toRowW d [] (fun f vs => PySem.call f vs):=by
 refine Att.attach_call hn hdf fun w s₀ s₁ mg mb fa o pm cd doc a vs ns G Y ho hd hcd hmg hobj hints hlen hg => ?_
 have KX:=hY w _ Y
 obtain ⟨fd,hb,hF⟩:=F w mg fa _ KX G.T.g hmg
 exact Jg7 KX G.T.g G.T.b G.T.builtins G.T.nolimit hg hobj hints (Nat.le_trans hlen hn2) hr hF hb (fun H hO hS => hsp w H a ns hlen hO hS) fun H e s' => hCX w H s₁ e s'
end L2
/- THE LAST THEOREM (shape; LID,My.* are yours):
   My.Adr: a structure of the addresses that your layer names (classes,functions); My.Txt K t: a structure (Prop) of the equations over K;
   My.txt_mk:{K} {implicit addresses ..} (e1:nsIn K mainGlobals "law" = some (some (.ref f))) (e2:K.lookup f = some ⟨oc,od, .func (fnOf "law" "law" params body scope dV kV doc pm an cdv ct),sl⟩) (e3:codeIn K cdv "law" = true) .. : ∃ t,My.Txt K t
set_option maxRecDepth 100000 in
set_option maxHeartbeats 0 in
theorem PySem.Challenge.cw_LID_holds : PySem.Challenge.rw_LID.Holds := by
 w_on; o_law; k_head; (case hw => w_witness2)
 k_fill
 refine L2.JgO (l:=PySem.Challenge.rw_LID) (n:=63) (k:=40) (x:="script") (CX:=fun w => ..) (sp:=fun _ => My.Bbz) rfl (by decide) rfl ⟨rfl,by decide,by decide⟩ (fun w h Y => PySem.W.kIn_of Y) ?F ?S ?C
 case F =>
  intro w mg fa h KX G hmg
  have T:∃ t,My.Txt (L2.KOf KX) t:=by
   dsimp only [L2.KOf]                          -- K must stand as «<heap const> w.params» for k_is
   refine' My.txt_mk ?e1 ?e2 ?e3 ..
   (case e1 => PySem.W.k_is)                    -- in the order: a name -> its address -> its object -> its parts
   (case e2 => PySem.W.k_is)
   ..
  obtain ⟨t,T⟩:=T
  have e0:=hmg.symm.trans (PySem.W.mg_of KX G T.law)
  cases e0                                       -- fa is the law's own address
  exact ⟨_,fun s u => .of_eq rfl,fun base kb nb => My.law_fn T kb nb⟩     -- if «.of_eq rfl» comes too early: refine' ⟨_, ?b,fun base kb nb => My.law_fn T kb nb⟩; exact fun s u => .of_eq rfl
 case S => exact fun w H a ns hl hO hS => ..
 case C => exact ..
(the tactic k_is has no namespace: write k_is) -/
namespace L2
open PySem PySem.Spec PyProof.Rows
def inClass (s:Stmt) (j:Nat):Stmt:=match s with
 | .ClassDef _ _ _ body _ _ _ _ _ _ _ => body.getD j (.Pass ⟨0,0,0,0⟩)
 | _ => .Pass ⟨0,0,0,0⟩
def Jam (s:Stmt):Arguments:=match s with
 | .FunctionDef _ a _ _ _ _ _ _ _ _ => a
 | _ => { posonlyargs:=[],args:=[],vararg:=none,kwonlyargs:=[],kw_defaults:=[],kwarg:=none,defaults:=[] }
def Jal (s:Stmt):List Stmt:=match s with
 | .FunctionDef _ _ b _ _ _ _ _ _ _ => b
 | _ => []
def Jaf (s:Stmt):Scope:=match s with
 | .FunctionDef _ _ _ _ _ _ sc _ _ _ => sc
 | _ => { kind:=.function,names:=[],isGenerator:=false,isCoroutine:=false }
abbrev E0:XK:=fun _ _ _ => False
structure Fun (K:PySem.W.Frag) (x qual:Str) (st:Stmt) (f:Addr) (fd:FuncData):Prop where
 ex:∃ (oc:Value) (od:Option Addr) (kV doc pm:Value) (an:Option Addr) (cdv ct:Value) (osl:Array (Option Value)),
  fd = PySem.W.fnOf x qual (Jam st) (Jal st) (Jaf st) .none kV doc pm an cdv ct∧K.lookup f = some ⟨oc,od, .func fd,osl⟩∧PySem.W.codeIn K cdv qual = true
 kp:PySem.W.keepIn K (.ref f) = true
section
variable {P:Program} {w:World} {K:PySem.W.Frag} {mg:Str→Option Value} {base:Heap}
theorem Fun.binds {x qual:Str} {st:Stmt} {f:Addr} {fd:FuncData} {ps:List Str} (F:Fun K x qual st f fd)
  (h:∀ (kV doc pm:Value) (an:Option Addr) (cdv ct:Value) (us:List Value),us.length = ps.length→bindArgs (PySem.W.fnOf x qual (Jam st) (Jal st) (Jaf st) .none kV doc pm an cdv ct) ⟨us,[]⟩ = pure (ps.zip us)):Binds K fd ps []:=by
 obtain ⟨oc,od,kV,doc,pm,an,cdv,ct,osl,rfl,lk,hcd⟩:=F.ex
 exact .all (h kV doc pm an cdv ct)
end
section
variable {X:Cx}
theorem pv (i:Nat) {x:Str} {pos:Pos} (hN:X.N[i]? = some x:=by rfl) (hv:Vis X.env.scope x:=by first | exact Or.inl rfl | exact Or.inr (Or.inl rfl) | exact Or.inr (Or.inr rfl)) (hd:(x == ("__debug__" : Str)) = false:=by decide)
  (hcd:(x == ("__classdict__" : Str)) = false:=by decide):PE X (.Name x pos) (tVar i):=Ji4 hN hv hd hcd
end
def Same (H H':Hp):Prop:=∀ b o,H b = some o→H' b = some o
theorem Same.refl (H:Hp):Same H H:=fun _ _ h => h
theorem Same.trans {H H1 H2:Hp} (a:Same H H1) (b:Same H1 H2):Same H H2:=fun c o h => b c o (a c o h)
theorem Same.seq {K:PySem.W.Frag} {H H':Hp} {a:Addr} {xs:List V} (e:Same H H') (h:SqL K H a xs):SqL K H' a xs:=by
 rcases h with (h | ⟨o,h⟩) | h
 ·exact .inl (.inl (e _ _ h))
 ·exact .inl (.inr ⟨o,e _ _ h⟩)
 ·exact .inr h
end L2
set_option maxHeartbeats 4000000
namespace L2
open PySem PySem.Spec PyProof.Rows
section
variable {κ : Type} [DecidableEq κ]
def valV (kvs:List (κ × V)) (k : κ):Option V:=(kvs.find? fun kv => decide (kv.1 = k)).map (·.2)
def putK (kvs:List (κ × V)) (k : κ) (v:V):List (κ × V) :=
 if (kvs.any fun kv => decide (kv.1 = k)) = true then kvs.map (fun kv => if kv.1 = k then (kv.1,v) else kv) else kvs ++ [(k,v)]
theorem Jcy {p : κ × V} {r:List (κ × V)} {k : κ} (e:p.1 = k):valV (p :: r) k = some p.2:=by simp [valV,List.find?_cons,e]
theorem Jcb {p : κ × V} {r:List (κ × V)} {k : κ} (e:¬ p.1 = k):valV (p :: r) k = valV r k:=by simp [valV,List.find?_cons,e]
theorem Jfn (k : κ):∀ kvs:List (κ × V),(kvs.any fun kv => decide (kv.1 = k)) = (valV kvs k).isSome
 | [] => rfl
 | p :: r => by
  rw [List.any_cons]
  by_cases e:p.1 = k
  ·simp only [Jcy e,decide_eq_true e,Bool.true_or,Option.isSome_some]
  ·rw [Jcb e,decide_eq_false e,Bool.false_or]; exact Jfn k r
theorem JcK (kvs:List (κ × V)) (k : κ) (v:V):(putK kvs k v).length ≤ kvs.length + 1:=by
 unfold putK
 split
 ·rw [List.length_map]; omega
 ·rw [List.length_append,List.length_cons,List.length_nil]; omega
theorem RelO.isSome_eq {o:Option V} {u:Option Value} (r:RelO o u):o.isSome = u.isSome:=by
 cases o with
 | none => cases u with
  | none => rfl
  | some _ => exact (show False from r).elim
 | some _ => cases u with
  | none => exact (show False from r).elim
  | some _ => rfl
theorem KV.val {kvs:List (κ × V)} {vs:List (κ × Value)} (r:KV kvs vs) (k : κ):RelO (valV kvs k) (valueAt vs k):=by
 unfold KV at r
 induction r with
 | nil => exact True.intro
 | @cons p q ps qs h t ih =>
  obtain ⟨h1,h2⟩:=h
  by_cases e:p.1 = k
  ·have e':q.1 = k:=h1.symm.trans e
   have b:valueAt (q :: qs) k = some q.2:=by simp [valueAt,List.find?_cons,e']
   rw [Jcy e,b]; exact h2
  ·have e':¬ q.1 = k:=fun z => e (h1.trans z)
   have b:valueAt (q :: qs) k = valueAt qs k:=by simp [valueAt,List.find?_cons,e']
   rw [Jcb e,b]; exact ih
theorem KV.any {kvs:List (κ × V)} {vs:List (κ × Value)} (r:KV kvs vs) (k : κ):(kvs.any fun kv => decide (kv.1 = k)) = vs.any fun kv => decide (kv.1 = k):=by
 unfold KV at r
 induction r with
 | nil => rfl
 | cons h t ih => rw [List.any_cons,List.any_cons,ih,h.1]
theorem KV.repl {kvs:List (κ × V)} {vs:List (κ × Value)} (r:KV kvs vs) (k : κ) {y:V} {u:Value} (ry:RelV y u) :
  KV (kvs.map fun kv => if kv.1 = k then (kv.1,y) else kv) (vs.map fun kv => if kv.1 = k then (kv.1,u) else kv):=by
 unfold KV at r ⊢
 induction r with
 | nil => exact .nil
 | @cons p q ps qs h t ih =>
  rw [List.map_cons,List.map_cons]
  refine .cons ?_ ih
  obtain ⟨h1,h2⟩:=h
  by_cases e:p.1 = k
  ·rw [if_pos e,if_pos (h1.symm.trans e)]; exact ⟨h1,ry⟩
  ·rw [if_neg e,if_neg (fun z => e (h1.trans z))]; exact ⟨h1,h2⟩
theorem KV.put {kvs:List (κ × V)} {vs:List (κ × Value)} (r:KV kvs vs) (k : κ) {y:V} {u:Value} (ry:RelV y u):KV (putK kvs k y) (stored vs k u):=by
 unfold putK stored
 rw [r.any k]
 by_cases e:(vs.any fun kv => decide (kv.1 = k)) = true
 ·rw [if_pos e,if_pos e]; exact r.repl k ry
 ·rw [if_neg e,if_neg e]; exact Paired.snoc r ⟨rfl,ry⟩
theorem KV.length {kvs:List (κ × V)} {vs:List (κ × Value)} (r:KV kvs vs):kvs.length = vs.length:=Paired.length r
end
theorem kV_is {P:Program} {w:World} {k:Key} {u:Value} (r:RelV (kV k) u):(JaS P w).is k u = true:=by
 cases k with
 | inl i => have e:=(show u = Value.bool i from r); subst e; exact Jd4 P w i
 | inr x => obtain ⟨t,e⟩:=(show ∃ t,u = Value.str x t from r); subst e; exact JeE P w x t
theorem JdZ {P:Program} {w:World}:∀ {ks:List Key} {us:List Value},Vals (ks.map kV) us→ItemsAre (JaS P w) ks us
 | [],_,r => by rw [List.map_nil] at r; cases r; exact .nil
 | k :: ks,_,r => by
  rw [List.map_cons] at r
  cases r with
  | cons h t => exact .cons (kV_is h) (JdZ t)
abbrev KT (H:Hp):List (List Key × V)→List (List Key × Addr × Value)→Prop:=Paired fun p q => p.1 = q.1∧H q.2.1 = some (.tup (p.1.map kV))∧RelV p.2 q.2.2
theorem KT.val {H:Hp} {kvs:List (List Key × V)} {xs:List (List Key × Addr × Value)} (r:KT H kvs xs) (k:List Key):RelO (valV kvs k) ((atKey xs k).map (·.2)):=by
 induction r with
 | nil => exact True.intro
 | @cons p q ps qs h t ih =>
  obtain ⟨h1,_,h2⟩:=h
  by_cases e:p.1 = k
  ·have e':q.1 = k:=h1.symm.trans e
   have b:atKey (q :: qs) k = some q.2:=by simp [atKey,List.find?_cons,e']
   rw [Jcy e,b]; exact h2
  ·have e':¬ q.1 = k:=fun z => e (h1.trans z)
   have b:atKey (q :: qs) k = atKey qs k:=by simp [atKey,List.find?_cons,e']
   rw [Jcb e,b]; exact ih
theorem KT.repl {H:Hp} {kvs:List (List Key × V)} {xs:List (List Key × Addr × Value)} (r:KT H kvs xs) (k:List Key) {y:V} {u:Value} (ry:RelV y u) :
  KT H (kvs.map fun kv => if kv.1 = k then (kv.1,y) else kv) (xs.map (putAt k u)):=by
 induction r with
 | nil => exact .nil
 | @cons p q ps qs h t ih =>
  rw [List.map_cons,List.map_cons]
  refine .cons ?_ ih
  obtain ⟨h1,h2,h3⟩:=h
  unfold putAt
  by_cases e:p.1 = k
  ·rw [if_pos e,if_pos (h1.symm.trans e)]; exact ⟨h1,h2,ry⟩
  ·rw [if_neg e,if_neg (fun z => e (h1.trans z))]; exact ⟨h1,h2,h3⟩
theorem KT.put {H:Hp} {kvs:List (List Key × V)} {xs:List (List Key × Addr × Value)} (r:KT H kvs xs) (k:List Key) {b:Addr} {y:V} {u:Value} (hb:H b = some (.tup (k.map kV))) (ry:RelV y u) :
  KT H (putK kvs k y) (storedH xs k b u):=by
 have e:(kvs.any fun kv => decide (kv.1 = k)) = (atKey xs k).isSome:=by
  rw [Jfn,(r.val k).isSome_eq,Option.isSome_map]
 unfold putK storedH
 rw [e]
 by_cases q:(atKey xs k).isSome = true
 ·rw [if_pos q,if_pos q]; exact r.repl k ry
 ·rw [if_neg q,if_neg q]; exact Paired.snoc r ⟨rfl,hb,ry⟩
theorem KT.keeps {H H':Hp} {kvs:List (List Key × V)} {xs:List (List Key × Addr × Value)} (r:KT H kvs xs) (ht:∀ b ys,H b = some (.tup ys)→H' b = some (.tup ys)):KT H' kvs xs :=
 Paired.mapP r fun _ _ z => ⟨z.1,ht _ _ z.2.1,z.2.2⟩
section
variable {P:Program} {w:World} {H:Hp} {h:Heap} {a:Addr}
theorem y7ay {u:HO} (ok:HOk P w H h) (e:Rd H a u):ObjOk P w H h a u:=e.ok ok
theorem dk_rd {kvs:List (Key × V)} (ok:HOk P w H h) (e:Rd H a (.dK kvs)):kvs.length ≤ sizeLine∧(a == sysModules) = false∧∃ vs,KV kvs vs∧h.DictOf (JaS P w) a vs :=
 show ObjOk P w H h a (.dK kvs) from y7ay ok e
theorem dk_of {kvs:List (Key × V)} (ok:HOk P w H h) (e:H a = some (.dK kvs)):kvs.length ≤ sizeLine∧(a == sysModules) = false∧∃ vs,KV kvs vs∧h.DictOf (JaS P w) a vs:=dk_rd ok (.inl e)
theorem Jd0 {ks:List Key} (ok:HOk P w H h) (e:H a = some (.tup (ks.map kV))):(tupleKind (JaS P w)).is h ks a:=by
 obtain ⟨_,its,r,o,h1,h2,n,h3⟩:=(show ObjOk P w H h a (.tup (ks.map kV)) from ok a _ e)
 exact ⟨o,its.toArray,n,h1,h2,h3,by simpa using JdZ r⟩
theorem dt_rd {kvs:List (List Key × V)} (ok:HOk P w H h) (e:Rd H a (.dT kvs)):kvs.length ≤ sizeLine∧(a == sysModules) = false ∧
  ∃ xs,KT H kvs xs∧h.DictOfH (tupleKind (JaS P w)) a xs:=by
 obtain ⟨z,y,xs,r,o,es,ep,h1,h2,h3,h4,h5⟩:=(show ObjOk P w H h a (.dT kvs) from y7ay ok e)
 refine ⟨z,y,xs,r,o,es,ep,h1,h2,h3,h4,fun x hx => ?_,h5⟩
 have all:∀ {l:List (List Key × V)} {m:List (List Key × Addr × Value)},KT H l m→∀ x ∈ m,(tupleKind (JaS P w)).is h x.1 x.2.1:=by
  intro l m q
  induction q with
  | nil => intro x hx; exact nomatch hx
  | @cons p q ps qs hq t ih =>
   intro x hx
   rcases List.mem_cons.mp hx with e | hx
   ·subst e
    exact Jd0 ok (by rw [← hq.1]; exact hq.2.1)
   ·exact ih x hx
 exact all r x hx
theorem dt_of {kvs:List (List Key × V)} (ok:HOk P w H h) (e:H a = some (.dT kvs)):kvs.length ≤ sizeLine∧(a == sysModules) = false ∧
  ∃ xs,KT H kvs xs∧h.DictOfH (tupleKind (JaS P w)) a xs:=dt_rd ok (.inl e)
end
def DGet (H:Hp) (a:Addr) (y:V) (r:Option V):Prop :=
 (∃ kvs k,Rd H a (.dK kvs)∧y = kV k∧r = valV kvs k) ∨ ∃ kvs k b,Rd H a (.dT kvs)∧y = .ref b∧H b = some (.tup (k.map kV))∧r = valV kvs k
def DPut (H:Hp) (a:Addr) (y v:V) (H':Hp):Prop :=
 (∃ kvs k,H a = some (.dK kvs)∧y = kV k∧kvs.length < sizeLine∧H' = upd H a (.dK (putK kvs k v))) ∨
 ∃ kvs k b,H a = some (.dT kvs)∧y = .ref b∧H b = some (.tup (k.map kV))∧kvs.length < sizeLine∧H' = upd H a (.dT (putK kvs k v))
theorem DGet.k {H:Hp} {a:Addr} {kvs:List (Key × V)} {k:Key} (e:H a = some (.dK kvs)):DGet H a (kV k) (valV kvs k):=.inl ⟨kvs,k, .inl e,rfl,rfl⟩
theorem DPut.k {H:Hp} {a:Addr} {kvs:List (Key × V)} {k:Key} {v:V} (e:H a = some (.dK kvs)) (hl:kvs.length < sizeLine):DPut H a (kV k) v (upd H a (.dK (putK kvs k v))):=.inl ⟨kvs,k,e,rfl,hl,rfl⟩
section
variable {X:Cx} {pins:List (Addr × Obj)} {σ : St} {H:Hp} {s:Shared} {a:Addr} {y v:V} {u r:Value} {o:Option V} {A:Around} {E:Value→Shared→Prop}
theorem Inv.big (I:Inv X pins σ H s):sysModules < s.heap.objs.size:=by
 have h:mainGlobals < s.heap.objs.size:=(I.mod.glob.keeps I.bk).lt
 exact Nat.lt_trans (by decide) h
theorem JfP {Q:Value→Shared→Prop} (hu:A.units + 1 < cLine) (I:Inv X pins σ H s) (g:DGet H a y (some v)) (ry:RelV y u) (h:∀ w' s',Inv X pins σ H s'→RelV v w'→Q w' s') :
  wpAny (model X.prog X.w) A (getItem (.ref a) u) Q E s:=by
 rcases g with ⟨kvs,k,e,ey,l⟩ | ⟨kvs,k,b,e,ey,eb,l⟩
 ·subst ey
  obtain ⟨z,hd,vs,rel,dd⟩:=dk_rd I.hok e
  obtain ⟨w',hw,rw'⟩:=RelO.some_of (v:=v) (o:=valueAt vs k) (by rw [l]; exact rel.val k)
  exact wpAny_getItem_of (kV_is ry) dd.mapOf hw (h w' _ (I.tok _) rw')
 ·subst ey
  cases (show u = Value.ref b from ry)
  obtain ⟨z,hd,xs,rel,dd⟩:=dt_rd I.hok e
  obtain ⟨w',hw,rw'⟩:=RelO.some_of (v:=v) (o:=(atKey xs k).map (·.2)) (by rw [l]; exact rel.val k)
  obtain ⟨p,hp,hp2⟩:=Option.map_eq_some_iff.mp hw
  refine wpAny_getItem_heap (tupleKind_room_in1 hu) (Jd0 I.hok eb) dd hp ?_
  rw [hp2]
  exact h w' _ (I.tok _) rw'
theorem d_in {Q:Value→Shared→Prop} (hu:A.units + 1 < cLine) (I:Inv X pins σ H s) (g:DGet H a y o) (ry:RelV y u) (h:∀ s',Inv X pins σ H s'→Q (.bool o.isSome) s') :
  wpAny (model X.prog X.w) A (compareOp .In u (.ref a)) Q E s:=by
 rcases g with ⟨kvs,k,e,ey,l⟩ | ⟨kvs,k,b,e,ey,eb,l⟩
 ·subst ey
  obtain ⟨z,hd,vs,rel,dd⟩:=dk_rd I.hok e
  refine wpAny_in_of (kV_is ry) hd dd.mapOf ?_
  rw [← (rel.val k).isSome_eq, ← l]
  exact h _ (I.tok _)
 ·subst ey
  cases (show u = Value.ref b from ry)
  obtain ⟨z,hd,xs,rel,dd⟩:=dt_rd I.hok e
  refine wpAny_in_heap (tupleKind_room_in1 hu) (Jd0 I.hok eb) hd dd ?_
  have q:=(rel.val k).isSome_eq
  rw [Option.isSome_map] at q
  rw [← q, ← l]
  exact h _ (I.tok _)
theorem JhY {Q:Value→Shared→Prop} (hu:A.units + 1 < cLine) (I:Inv X pins σ H s) (g:DGet H a y o) (ry:RelV y u) (h:∀ s',Inv X pins σ H s'→Q (.bool (!o.isSome)) s') :
  wpAny (model X.prog X.w) A (compareOp .NotIn u (.ref a)) Q E s:=by
 rcases g with ⟨kvs,k,e,ey,l⟩ | ⟨kvs,k,b,e,ey,eb,l⟩
 ·subst ey
  obtain ⟨z,hd,vs,rel,dd⟩:=dk_rd I.hok e
  refine wpAny_notIn_of (kV_is ry) hd dd.mapOf ?_
  rw [← (rel.val k).isSome_eq, ← l]
  exact h _ (I.tok _)
 ·subst ey
  cases (show u = Value.ref b from ry)
  obtain ⟨z,hd,xs,rel,dd⟩:=dt_rd I.hok e
  refine wpAny_notIn_heap (tupleKind_room_in1 hu) (Jd0 I.hok eb) hd dd ?_
  have q:=(rel.val k).isSome_eq
  rw [Option.isSome_map] at q
  rw [← q, ← l]
  exact h _ (I.tok _)
theorem JfR {h':Heap} {t':Nat} {ob:HO} (I:Inv X pins σ H s) (mu:Mut (H a)) (hs:Heap.SameBut a s.heap h') (he:∃ q,h'.get? a = some q) (new:ObjOk X.prog X.w (upd H a ob) h' a ob) :
  Inv X pins σ (upd H a ob) { s with heap:=h',toks:=t' } :=
 I.write (x:=a) (e:=a) mu (.inl rfl) (fun b q hb z => (hs.2 b hb).trans z) he new
theorem JiH {P:Program} {w:World} {H':Hp} {h':Heap} {kvs:List (Key × V)} {vs:List (Key × Value)} (z:kvs.length ≤ sizeLine) (hd:(a == sysModules) = false) (rel:KV kvs vs) (dd:h'.DictOf (JaS P w) a vs) :
  ObjOk P w H' h' a (.dK kvs):=⟨z,hd,vs,rel,dd⟩
theorem JfQ {H':Hp} {Q:Unit→Shared→Prop} (hu:A.units + 1 < cLine) (I:Inv X pins σ H s) (g:DPut H a y v H') (ry:RelV y u) (rv:RelV v r) (h:∀ s',Inv X pins σ H' s'→Q () s') :
  wpAny (model X.prog X.w) A (setItem (.ref a) u r) Q E s:=by
 rcases g with ⟨kvs,k,e,ey,l,eH⟩ | ⟨kvs,k,b,e,ey,eb,l,eH⟩
 ·subst ey eH
  obtain ⟨z,hd,vs,rel,dd⟩:=dk_of I.hok e
  have hz:vs.length ≤ sizeLine:=by rw [← rel.length]; exact z
  have hl:(putK kvs k v).length ≤ sizeLine:=by have:=JcK kvs k v; omega
  refine wpAny_setItem_pairs (hsz:=hz) (kV_is ry) dd fun h' dd' hs => h _ ?_
  have he:∃ q,h'.get? a = some q:=let ⟨q,_,_,hq,_⟩:=dd'; ⟨q,hq⟩
  exact JfR I (by rw [e]; exact True.intro) hs he (JiH hl hd (rel.put k rv) dd')
 ·subst ey eH
  cases (show u = Value.ref b from ry)
  obtain ⟨z,hd,xs,rel,dd⟩:=dt_of I.hok e
  have hz:xs.length ≤ sizeLine:=by rw [← Paired.length rel]; exact z
  have hl:(putK kvs k v).length ≤ sizeLine:=by have:=JcK kvs k v; omega
  refine wpAny_setItem_heap (hsz:=hz) (tupleKind_room_in1 hu) (Jd0 I.hok eb) dd fun h' dd' hs => h _ ?_
  obtain ⟨q,es,ep,hq,h2,h3,h4,_,h5⟩:=dd'
  refine JfR I (by rw [e]; exact True.intro) hs ⟨q,hq⟩ ⟨hl,hd,_,(rel.put k eb rv).keeps fun c ys ec => ?_,q,es,ep,hq,h2,h3,h4,h5⟩
  rw [Jag (ne_of ec e (fun z => nomatch z))]
  exact ec
end
section
variable {X:Cx} {pins:List (Addr × Obj)} {σ : St} {H:Hp} {s:Shared} {a:Addr} {kvs:List (Key × V)} {k:Key} {u:Value} {A:Around} {E:Value→Shared→Prop}
end
def NoSl (i:Expr):Prop:=∀ ov iv,subscripted i false ov iv = operate [ov,iv] (getItem ov iv)
theorem Jiw {prog:Program} {w:World} {A:Around} {E:Value→Shared→Prop} {s:Shared} {env:Env} {value slice:Expr} {pos:Pos} {T id:String} {Q:Value→Shared→Prop}
  (hl:typeLookup (.type T) "__getitem__" = pure (some (.builtin id))) (hs:NoSl slice)
  (h:wpAny (model prog w) A (eval value env) (fun o s₁ => wpAny (model prog w) A (eval slice env) (fun i s₂ => s₂.TypeIs o T∧wpAny (model prog w) A (getItem o i) Q E s₂) E s₁) E s) :
  wpAny (model prog w) A (eval (.Subscript value slice pos) env) Q E s:=by
 refine Subscript_ (wpAny_mono h (fun o s₁ h₁ => wpAny_mono h₁ (fun i s₂ h₂ => ?_) fun _ _ x => x) fun _ _ x => x)
 obtain ⟨hT,h₂⟩:=h₂
 unfold subscriptTail
 refine wpAny_bind ?_
 rw [getitemInPython_of_ne hT.not_modules]
 refine wpAny_bind (wpAny_specialOf hT hl ?_)
 have fin:wpAny (model prog w) A (subscripted slice false o i) (fun r s₃ => wpAny (model prog w) A (letTemporaryGo value o r >>= fun _ => pure r) Q E s₃) E s₂:=by
  rw [hs o i]
  exact wpAny_operating (wpAny_mono h₂ (fun r s₃ h₃ => wpAny_bind (wpAny_letTemporaryGo (wpAny_pure h₃))) fun _ _ x => x)
 first
  | exact wpAny_pure (wpAny_bind fin)
  | exact wpAny_bind (wpAny_pure (wpAny_bind fin))
  | exact wpAny_bind fin
theorem Jey {X:Cx} {pins:List (Addr × Obj)} {σ : St} {H:Hp} {s:Shared} {a:Addr} {y:V} {o:Option V} (I:Inv X pins σ H s) (g:DGet H a y o):s.TypeIs (.ref a) "dict":=by
 rcases g with ⟨kvs,k,e,_,_⟩ | ⟨kvs,k,b,e,_,_,_⟩
 ·obtain ⟨_,_,vs,_,dd⟩:=dk_rd I.hok e
  exact dd.typeIs
 ·obtain ⟨_,_,xs,_,dd⟩:=dt_rd I.hok e
  exact dd.typeIs
def tDGet (td ty:TE):TE:=fun σ H Q => td σ H fun x H1 => ty σ H1 fun y H2 => ∃ a v,x = .ref a∧DGet H2 a y (some v)∧Q v H2
def tDIn (ty td:TE):TE:=fun σ H Q => ty σ H fun y H1 => td σ H1 fun x H2 => ∃ a o,x = .ref a∧DGet H2 a y o∧Q (.bl o.isSome) H2
def JgJ (ty td:TE):TE:=fun σ H Q => ty σ H fun y H1 => td σ H1 fun x H2 => ∃ a o,x = .ref a∧DGet H2 a y o∧Q (.bl (!o.isSome)) H2
def sDPut (td ty tv:TE):TS:=fun D σ H => tv σ H fun v H1 => td σ H1 fun x H2 => ty σ H2 fun y H3 => ∃ a H4,x = .ref a∧DPut H3 a y v H4∧D.nx σ H4
section
variable {X:Cx} {o i e value:Expr} {pos pos' tpos:Pos} {td ty tv:TE}
theorem Jby (hu:X.A.units + 1 < cLine) (ho:PE X o td) (hi:PE X i ty) (hs:NoSl i):PE X (.Subscript o i pos) (tDGet td ty):=by
 intro pins s σ H Q I h
 refine Jiw PySem.F.slot_dict_getitem.lookup hs (thn (ho pins s σ H _ I h) fun u s1 ⟨x,H1,I1,rx,q1⟩ => thn (hi pins s1 σ H1 _ I1 q1) fun iv s2 ⟨y,H2,I2,ry,a,v,ex,g,q2⟩ => ?_)
 subst ex
 obtain rfl:u = Value.ref a:=rx
 exact ⟨Jey I2 g,JfP hu I2 g ry fun w' s3 I3 rw' => ⟨v,H2,I3,rw',q2⟩⟩
theorem JhF (hu:X.A.units + 1 < cLine) (hi:PE X i ty) (ho:PE X o td):PC X .In i o (tDIn ty td):=by
 intro pins s σ H Q I h
 refine thn (hi pins s σ H _ I h) fun iv s1 ⟨y,H1,I1,ry,q1⟩ => thn (ho pins s1 σ H1 _ I1 q1) fun u s2 ⟨x,H2,I2,rx,a,ov,ex,g,q2⟩ => ?_
 subst ex
 obtain rfl:u = Value.ref a:=rx
 exact d_in hu I2 g ry fun s3 I3 => ⟨.bl ov.isSome,H2,I3,rfl,q2⟩
theorem Jb8 (hu:X.A.units + 1 < cLine) (hi:PE X i ty) (ho:PE X o td):PC X .NotIn i o (JgJ ty td):=by
 intro pins s σ H Q I h
 refine thn (hi pins s σ H _ I h) fun iv s1 ⟨y,H1,I1,ry,q1⟩ => thn (ho pins s1 σ H1 _ I1 q1) fun u s2 ⟨x,H2,I2,rx,a,ov,ex,g,q2⟩ => ?_
 subst ex
 obtain rfl:u = Value.ref a:=rx
 exact JhY hu I2 g ry fun s3 I3 => ⟨.bl (!ov.isSome),H2,I3,rfl,q2⟩
theorem Jci (hu:X.A.units + 1 < cLine) (ho:PE X o td) (hi:PE X i ty) (hv:PE X value tv) (hs:swapsWith value (some (.Subscript o i pos')) pos.line X.env = pure false) :
  PS X (.Assign [.Subscript o i pos'] value pos) (sDPut td ty tv):=by
 intro pins s σ H D I h
 refine wpAny_Assign_Subscript (thn (hv pins s σ H _ I h) fun r s1 ⟨v,H1,I1,rv,q1⟩ => thn (ho pins s1 σ H1 _ I1 q1) fun u s2 ⟨x,H2,I2,rx,q2⟩ => thn (hi pins s2 σ H2 _ I2 q2) fun iv s3 ⟨y,H3,I3,ry,a,H4,ex,g,q3⟩ => ?_) hs
 subst ex
 obtain rfl:u = Value.ref a:=rx
 exact JfQ hu I3 g ry rv fun s4 I4 => ⟨σ,H4,I4,q3⟩
end
theorem JgT {P:Program} {w:World} {H:Hp} (h:Heap) (hb:sysModules < h.objs.size):ObjOk P w H (h.push { cls:=.type "dict",data:=.dict #[] }) h.objs.size (.dK []) :=
 ⟨Nat.zero_le _,beq_eq_false_iff_ne.mpr (Ne.symm (Nat.ne_of_lt hb)),[], .nil,Heap.DictOf.new h⟩
def JhK:TE:=fun _ H Q => ∀ p,H p = none→Q (.ref p) (upd H p (.dK []))
def Jjh:TE:=fun _ H Q => ∀ p,H p = none→Q (.ref p) (upd H p (.dT []))
section
variable {X:Cx} {pos:Pos}
theorem Jcw:PE X (.Dict [] [] pos) JhK:=fun pins s σ H Q I h =>
 wpAny_Dict_empty ⟨.ref s.heap.objs.size,_,I.laid (a:=s.heap.objs.size) (o:=.dK []) (t':=s.toks) (fun _ _ q => Heap.get?_push_of_some _ q) (Nat.le_refl _) (JgT s.heap I.big),rfl,h _ (I.hok.fresh (Nat.le_refl _))⟩
end
def Jfm:List (TE × TE)→St→Hp→(List (V × V)→Hp→Prop)→Prop
 | [],_,H,Q => Q [] H
 | (tk,tv) :: r, σ,H,Q => tk σ H fun x H1 => tv σ H1 fun y H2 => Jfm r σ H2 fun ps H3 => Q ((x,y) :: ps) H3
def JhD (kvs more:List (Key × V)):List (Key × V):=more.foldl (fun acc kv => putK acc kv.1 kv.2) kvs
def tDisp (trs:List (TE × TE)):TE:=fun σ H Q => ∀ p,H p = none→Jfm trs σ (upd H p (.dK [])) fun ps H2 => H2 p = some (.dK [])∧∃ kvs:List (Key × V),ps = kvs.map (fun kv => (kV kv.1,kv.2))∧kvs.length ≤ 15∧Q (.ref p) (upd H2 p (.dK (JhD [] kvs)))
def IsD (H:Hp) (a:Addr):Prop:=(∃ kvs,Rd H a (.dK kvs)) ∨ ∃ kvs,Rd H a (.dT kvs)
section
variable {X:Cx} {pins:List (Addr × Obj)} {σ : St} {H:Hp} {s:Shared} {a:Addr} {y d:V} {u r:Value} {o:Option V} {A:Around} {E:Value→Shared→Prop}
end
def Jjf (td ty:TE):TE:=fun σ H Q => td σ H fun x H1 => ∃ a,x = .ref a∧IsD H1 a∧ty σ H1 fun y H2 => ∃ o,DGet H2 a y o∧Q (o.getD .non) H2
def Jjg (td ty tx:TE):TE:=fun σ H Q => td σ H fun x H1 => ∃ a,x = .ref a∧IsD H1 a∧ty σ H1 fun y H2 => tx σ H2 fun z H3 => ∃ o,DGet H3 a y o∧Q (o.getD z) H3
section
variable {X:Cx} {o e f:Expr} {apos cpos:Pos} {td ty tx:TE}
end
section
variable {X:Cx} {pins:List (Addr × Obj)} {σ : St} {H:Hp} {s:Shared} {a:Addr} {kvs:List (Key × V)} {A:Around} {E:Value→Shared→Prop}
end
section
variable {X:Cx} {pins:List (Addr × Obj)} {σ : St} {H:Hp} {s:Shared} {a:Addr} {y:V} {u:Value} {A:Around} {E:Value→Shared→Prop}
end
end L2
namespace L2
open PySem PySem.Spec PyProof.Rows
section
variable {κ : Type} [DecidableEq κ]
end
end L2
namespace L2
open PySem PySem.Spec PyProof.Rows
theorem ObjOk.is_there {P:Program} {w:World} {H:Hp} {h:Heap} {a:Addr} {o:HO} (x:ObjOk P w H h a o):∃ ob,h.get? a = some ob:=by
 cases o with
 | lst xs => obtain ⟨_,_,_,_,e⟩:=x; exact ⟨_,e⟩
 | tup xs => obtain ⟨_,_,_,p⟩:=x; obtain ⟨o,e,_⟩:=p; exact ⟨_,e⟩
 | dK kvs => obtain ⟨_,_,_,_,o,_,_,e,_⟩:=x; exact ⟨_,e⟩
 | dT kvs => obtain ⟨_,_,_,_,o,_,_,e,_⟩:=x; exact ⟨_,e⟩
 | set S n =>
  obtain ⟨o,_,_,_,e,_⟩:=x
  exact ⟨_,e⟩
 | ins C dx fs => obtain ⟨_,_,_,e,_⟩:=x; exact ⟨_,e⟩
 | own y => exact x
 | xd fs => obtain ⟨mA,n,_⟩:=x; obtain ⟨od,e,_⟩:=Jd3 n; exact ⟨_,e⟩
 | rng lo hi => obtain ⟨_,_,_,e⟩:=x; exact ⟨_,e⟩
 | frz ob u => exact ⟨_,x.1⟩
 | tbl ps => exact ⟨_,x⟩
 | met f y => exact ⟨_,x⟩
 | ext φ => exact x.2.1
theorem HOk.isnone {P:Program} {w:World} {H:Hp} {h:Heap} {a:Addr} (x:HOk P w H h) (e:h.get? a = none):H a = none:=by
 cases q:H a with
 | none => rfl
 | some u =>
  obtain ⟨ob,z⟩:=(x a u q).is_there
  rw [e] at z
  cases z
structure Fly (l:List Env) (H':Hp) (h0:Heap) (ea:Addr) (cls a0:Value) (B h:Heap):Prop where
 fly:Heap.FlyingW B l ea cls a0 h
 free:H' ea = none
 new:h0.get? ea = none
 kept:∀ b o,h.get? b = some o→((∃ o',h0.get? b = some o') ∨ ∃ u,H' b = some u)→b ∉ frs l→B.get? b = some o
def CX1 (P:Program) (w:World):CXT:=fun outer H s E e s' =>
 ∃ (ea:Addr) (cls a0:Value) (B:Heap) (H':Hp),e = .ref ea∧s'.os = s.os∧AllBare s'.gens∧Un (frs outer) [] H H' s.heap s'.heap∧HOk P w H' s'.heap ∧
  Fly outer H' s.heap ea cls a0 B s'.heap∧E cls none H'
section
variable {P:Program} {w:World} {l l':List Env} {H H':Hp} {h0 h h' B:Heap} {ea:Addr} {cls a0:Value}
theorem Fly.next (u:Un (frs l) [] H H' h0 h) (hok:HOk P w H' h) (F:Fly l H' h0 ea cls a0 B h) (fr:∀ b ∈ frs l,H' b = none) (k:B.StaysIn h') (sl:h.UpToSlots h') :
  HOk P w H' h'∧Un (frs l) [] H H' h0 h'∧∀ b o,h.get? b = some o→((∃ o',h0.get? b = some o') ∨ ∃ u,H' b = some u)→b ∉ frs l→h'.get? b = some o:=by
 have keepB:∀ b o,h.get? b = some o→((∃ o',h0.get? b = some o') ∨ ∃ u,H' b = some u)→b ∉ frs l→h'.get? b = some o:=fun b o q r n => k b o (F.kept b o q r n)
 have frame:∀ b o,b ∈ frs l→h.get? b = some o→∃ s2,h'.get? b = some { o with slots:=s2 }:=fun b o m q => by
  obtain ⟨_,o',q',nf⟩:=F.fly.2.2.1.mem m
  rw [q] at q'
  cases q'
  exact sl b o q nf
 refine ⟨fun a o e => ?_,⟨fun b o q n nb _ => ?_,fun b o q n m _ => ?_,u.free,fun b o q nx => ?_,u.tups,u.frzs,u.tbls⟩,keepB⟩
 ·have tr:∀ b u,H' b = some u→b ∉ frs l:=fun b u q m => by
   rw [fr b m] at q
   cases q
  refine (hok a o e).stay (fun b v hb q => ?_) (fun _ r => r) (fun _ _ r => r)
  rcases hb with rfl | hb
  ·exact keepB _ _ q (.inr ⟨_,e⟩) (tr _ _ e)
  ·exact keepB _ _ q (.inr ⟨_,hb⟩) (tr _ _ hb)
 ·exact keepB b o (u.keep b o q n nb (by simp)) (.inl ⟨o,q⟩) nb
 ·obtain ⟨s1,e1⟩:=u.slot b o q n m (by simp)
  obtain ⟨s2,e2⟩:=frame b _ m e1
  exact ⟨s2,e2⟩
 ·obtain ⟨o',e1⟩:=u.there b o q (by simp)
  by_cases m:b ∈ frs l
  ·obtain ⟨s2,e2⟩:=frame b _ m e1
   exact ⟨_,e2⟩
  ·exact ⟨o',keepB b o' e1 (.inl ⟨o,q⟩) m⟩
end
section
variable {X:Cx} {pins:List (Addr × Obj)} {σ : St} {H H':Hp} {s:Shared} {h h' B:Heap} {ea:Addr} {cls a0:Value}
theorem Inv.out (I:Inv X pins σ H s) (hex:X.ex = []) (u:Un (frs X.stack) [] H H' s.heap h'):Un X.fs [] X.H₀ H' X.s₀.heap h':=by
 have J:=I.base
 rw [hex] at J
 have nL:∀ b o,X.s₀.heap.get? b = some o→b ≠ X.env.locals:=fun b o q z => by
  have h1:=Heap.lt_size q
  have h2:=I.ok.above
  rw [z] at h1
  exact absurd (Nat.lt_of_lt_of_le h1 h2) (Nat.lt_irrefl _)
 have nS:∀ b o,X.s₀.heap.get? b = some o→b ∉ X.fs→b ∉ frs X.stack:=fun b o q nb m => by
  rcases List.mem_cons.mp (I.stkSub b m) with z | z
  ·exact nL b o q z
  ·exact nb z
 refine ⟨fun b o q n nb _ => ?_,fun b o q n m _ => ?_,fun b o q n _ => ?_,fun b o q _ => ?_,fun b xs q => u.tups b xs (J.tups b xs q),fun b o v q => u.frzs b o v (J.frzs b o v q),fun b ps q => ?_⟩
 ·exact u.keep b o (J.keep b o q n nb (by simp)) (J.free b o q n (by simp)) (nS b o q nb) (by simp)
 ·obtain ⟨s1,e1⟩:=J.slot b o q n m (by simp)
  obtain ⟨s2,e2⟩:=u.any e1 (J.free b o q n (by simp)) (by simp)
  exact ⟨s2,e2⟩
 ·obtain ⟨o',e1⟩:=J.there b o q (by simp)
  exact u.free b o' e1 (J.free b o q n (by simp)) (by simp)
 ·obtain ⟨o',e1⟩:=J.there b o q (by simp)
  exact u.there b o' e1 (by simp)
 ·obtain ⟨m1,e1⟩:=J.tbls b ps q
  obtain ⟨m2,e2⟩:=u.tbls b _ e1
  exact ⟨m1 ++ m2,by rw [e2,Array.append_assoc]⟩
theorem Inv.stkFree' (I:Inv X pins σ H s) (u:Un (frs X.stack) [] H H' s.heap h):∀ b ∈ frs X.stack,H' b = none:=fun b m => by
 obtain ⟨_,o,q,_⟩:=I.stack.mem m
 exact u.free b o q (I.stkFree b m) (by simp)
end
section
variable {P:Program} {w:World} {K:PySem.W.Frag} {mg:Str→Option Value} {base:Heap} {N:List Str} {qual:Str} {scope:Scope} {f:Addr} {cdv:Value} {A:Around} {outer:List Env} {s0:Shared} {H0:Hp} {E:XK}
theorem pass1:JbW (CX1 P w) (cxOf (CX1 P w) P w K mg base N qual scope f cdv A outer s0 H0 E) E:=by
 intro pins σ H s e s' I hx
 obtain ⟨ea,cls,a0,B,H',rfl,hos,hg,u,hok,F,he⟩:=hx
 have fr:=I.stkFree' u
 show wpAny (model P w) (A.deeper (envOfC qual scope s0.heap.objs.size f cdv)) (leaving (envOfC qual scope s0.heap.objs.size f cdv) (.ref ea)) (fun _ s'' => CX1 P w outer H0 s0 E (.ref ea) s'') (fun e' s'' => CX1 P w outer H0 s0 E e' s'') s'
 refine wpAny_leaves_onW (base:=B) (cls:=cls) (a0:=a0) I.ok.frames rfl F.fly fun h' hfl hup => ?_
 obtain ⟨hok',u',kB⟩:=F.next u hok fr hfl.1 hup
 have new0:s0.heap.get? ea = none:=by
  cases q:s0.heap.get? ea with
  | none => rfl
  | some o =>
   obtain ⟨o',e1⟩:=I.base.there ea o q (by intro z; cases z)
   have:=F.new
   rw [e1] at this
   cases this
 refine ⟨ea,cls,a0,B,H',rfl,hos.trans I.os,hg,I.out rfl u',hok',⟨hfl,F.free,new0,fun b o q r nb => ?_⟩,he⟩
 have nL:b ≠ s0.heap.objs.size:=fun z => by
  rcases r with ⟨o',q'⟩ | ⟨v,q'⟩
  ·have:=Heap.lt_size q'
   rw [z] at this
   exact absurd this (Nat.lt_irrefl _)
  ·have e0:=fr s0.heap.objs.size (by
    show s0.heap.objs.size ∈ frs (envOfC qual scope s0.heap.objs.size f cdv :: outer)
    exact List.mem_filterMap.mpr ⟨_,List.mem_cons_self ..,rfl⟩)
   rw [z,e0] at q'
   cases q'
 have nS:b ∉ frs (envOfC qual scope s0.heap.objs.size f cdv :: outer):=fun m => by
  rcases List.mem_cons.mp (I.stkSub b m) with z | z
  ·exact nL z
  ·exact nb z
 have r':(∃ o',s.heap.get? b = some o') ∨ ∃ v,H' b = some v:=by
  rcases r with ⟨o',q'⟩ | r
  ·exact .inl (I.base.there b o' q' (by intro z; cases z))
  ·exact .inr r
 have there':∃ o',s'.heap.get? b = some o':=by
  rcases r' with ⟨o',q'⟩ | ⟨v,q'⟩
  ·exact u.there b o' q' (by simp)
  ·exact (hok b v q').is_there
 obtain ⟨o',q'⟩:=there'
 have z:=F.kept b o' q' r' nS
 have z2:=hfl.1 b o' z
 rw [show h'.get? b = some o from q] at z2
 cases z2
 exact z
end
theorem passF {P:Program} {w:World} {X:Cx}:JbW (CX1 P w) X E0:=fun _ _ _ _ _ _ _ h => by
 obtain ⟨_,_,_,_,_,_,_,_,_,_,_,z⟩:=h
 exact False.elim z
theorem Jh2 {K:PySem.W.Frag} {h:Heap} {C:Addr} {bmB:List Value} {newId:String} (X:K.In h) (q:PySem.W.excIn K C bmB newId = true) :
  ∃ (bm:List Value) (N:Addr) (nm qn:Str) (bs:List Value) (hdct:Bool) (sn:List Str) (sub:List Value) (ab:Bool) (col:Option Bool) (dd:Option Addr) (k0 k1 k2 k3 k5:Option Value) (mN:Str→Option Value),
   h.get? C = some (excClassObj nm qn C N bs bm hdct sn sub ab col dd k0 k1 k2 k3 k5 newId)∧h.Ns N mN∧mN "__init__" = none∧OwnTail h bmB bm:=by
 unfold PySem.W.excIn at q
 split at q
 next dd cd sl ho =>
  split at q
  next C' bm k0 k1 k2 k3 n k5 hm hs =>
   have q':((((C' = C∧n = newId)∧cd.hasDel = false)∧PySem.W.tailIn K bmB bm = true)∧PySem.W.nsOkIn K cd.ns = true)∧PySem.W.nsIn K cd.ns "__init__" = some none:=by simpa using q
   obtain ⟨⟨⟨⟨⟨e1,e2⟩,e3⟩,e4⟩,e5⟩,e6⟩:=q'
   obtain ⟨nm,bs,mro,ns,qn,hd,sn,sub,ab,col,del⟩:=cd
   have hl:sl = #[k0,k1,k2,k3,some (.builtin n),k5]:=by
    cases sl
    exact congrArg Array.mk hs
   subst e1
   subst e2
   subst hl
   have hm':mro = .ref C' :: bm:=hm
   subst hm'
   have hd':del = false:=e3
   subst hd'
   exact ⟨bm,ns,nm,qn,bs,hd,sn,sub,ab,col,dd,k0,k1,k2,k3,k5,_,X _ _ ho, .of_isNs (PySem.W.isNs_of_in X e5),PySem.W.nsMap_none_of_in X e5 e6,PySem.W.tail_of_in X e4⟩
  next => cases q
 next => cases q
section
variable {P:Program} {w:World} {K:PySem.W.Frag} {mg:Str→Option Value} {base:Heap} {N:List Str} {qual:Str} {scope:Scope} {f:Addr} {cdv:Value} {A:Around} {outer:List Env} {s0:Shared} {H0:Hp} {E:XK}
theorem JiS {pins:List (Addr × Obj)} {σ : St} {H:Hp} {s:Shared} {h':Heap} {e:Addr} {cls:Value} {us:List Value}
  (I:Inv (cxOf (CX1 P w) P w K mg base N qual scope f cdv A outer s0 H0 E) pins σ H s) (hm:Heap.MadeExcOf s.heap h' e cls us) (q:E cls none H) :
  (cxOf (CX1 P w) P w K mg base N qual scope f cdv A outer s0 H0 E).xe (.ref e) { s with heap:=h' }:=by
 show wpAny (model P w) (A.deeper (envOfC qual scope s0.heap.objs.size f cdv)) (leaving (envOfC qual scope s0.heap.objs.size f cdv) (.ref e)) (fun _ s'' => CX1 P w outer H0 s0 E (.ref e) s'') (fun e' s'' => CX1 P w outer H0 s0 E e' s'') { s with heap:=h' }
 have fr:=I.stkFree
 have hin:∀ env ∈ (envOfC qual scope s0.heap.objs.size f cdv :: outer), ∀ b,env.frame = some b→b ∈ frs (envOfC qual scope s0.heap.objs.size f cdv :: outer):=fun env he b hb => List.mem_filterMap.mpr ⟨env,he,hb⟩
 refine wpAny_leaves_madeW (base:=PySem.W.hideAll s.heap (frs (envOfC qual scope s0.heap.objs.size f cdv :: outer))) (h:=s.heap) (cls:=cls) (args:=us) I.ok.frames rfl (fun b o z => PySem.W.of_hideAll _ z) (PySem.W.funFrames_hide I.stack hin) hm fun h2 t hfl _ _ hup => ?_
 have enone:H e = none:=I.hok.isnone hm.new
 have keepB:∀ b o,s.heap.get? b = some o→b ∉ frs (envOfC qual scope s0.heap.objs.size f cdv :: outer)→h2.get? b = some o:=fun b o z n => hfl.1 b o (PySem.W.hideAll_get _ z n)
 have u:Un (frs (envOfC qual scope s0.heap.objs.size f cdv :: outer)) [] H H s.heap h2:=by
  refine ⟨fun b o z _ n _ => keepB b o z n,fun b o z _ m _ => ?_,fun _ _ _ n _ => n,fun b o z _ => ?_,fun _ _ z => z,fun _ _ _ z => z,fun _ ps z => ⟨#[],by rw [z]; simp⟩⟩
  ·obtain ⟨_,o',z',nf⟩:=I.stack.mem m
   rw [z] at z'
   cases z'
   exact hup b o (hm.keeps b o z) nf
  ·by_cases m:b ∈ frs (envOfC qual scope s0.heap.objs.size f cdv :: outer)
   ·obtain ⟨_,o',z',nf⟩:=I.stack.mem m
    rw [z] at z'
    cases z'
    obtain ⟨s2,e2⟩:=hup b o (hm.keeps b o z) nf
    exact ⟨_,e2⟩
   ·exact ⟨o,keepB b o z m⟩
 have tr:∀ b v,H b = some v→b ∉ frs (envOfC qual scope s0.heap.objs.size f cdv :: outer):=fun b v z m => by
  rw [fr b m] at z
  cases z
 have hok:HOk P w H h2:=fun a o z => by
  refine (I.hok a o z).stay (fun b v hb z2 => ?_) (fun _ r => r) (fun _ _ r => r)
  rcases hb with rfl | hb
  ·exact keepB _ _ z2 (tr _ _ z)
  ·exact keepB _ _ z2 (tr _ _ hb)
 have new0:s0.heap.get? e = none:=by
  cases z:s0.heap.get? e with
  | none => rfl
  | some o =>
   obtain ⟨o',e1⟩:=I.base.there e o z (by intro z; cases z)
   have:=hm.new
   rw [e1] at this
   cases this
 refine ⟨e,cls, .ref t,_,H,rfl,I.os,I.bare,I.out rfl u,hok,⟨hfl,enone,new0,fun b o z r nb => ?_⟩,q⟩
 have r':∃ o',s.heap.get? b = some o':=by
  rcases r with ⟨o',z'⟩ | ⟨v,z'⟩
  ·exact I.base.there b o' z' (by intro z; cases z)
  ·exact (I.hok b v z').is_there
 have nS:b ∉ frs (envOfC qual scope s0.heap.objs.size f cdv :: outer):=fun m => by
  rcases List.mem_cons.mp (I.stkSub b m) with y | y
  ·rcases r with ⟨o',z'⟩ | ⟨v,z'⟩
   ·have h1:=Heap.lt_size z'
    rw [y] at h1
    exact absurd h1 (Nat.lt_irrefl _)
   ·exact tr b v z' m
  ·exact nb y
 obtain ⟨o',z'⟩:=r'
 have z2:=keepB b o' z' nS
 rw [show h2.get? b = some o from z] at z2
 cases z2
 exact PySem.W.hideAll_get _ z' nS
def JhL (E:XK) (C:Addr) (ta:TA):TS:=fun _ σ H => ta σ H fun vs H1 => vs.length ≤ sizeLine∧E (.ref C) none H1
theorem Jhh {x:Str} {np cpos pos:Pos} {e:Expr} {es:List Expr} {C:Addr} {B newId initId:String} {bmB:List Value} {ta:TA} (FB:ExcBaseFacts B newId initId bmB) (hx:PySem.W.excIn K C bmB newId = true)
  (hg:Gl (cxOf (CX1 P w) P w K mg base N qual scope f cdv A outer s0 H0 E) x) (hm:mg x = some (.ref C)) (ha:PA (cxOf (CX1 P w) P w K mg base N qual scope f cdv A outer s0 H0 E) (e :: es) ta)
  (he:starEach (e :: es) (envOfC qual scope s0.heap.objs.size f cdv) = (false,eval e (envOfC qual scope s0.heap.objs.size f cdv)) :: starEach es (envOfC qual scope s0.heap.objs.size f cdv):=by rfl)
  (hpl:(backTo cpos (starEach es (envOfC qual scope s0.heap.objs.size f cdv))).any (·.1) = false:=by rfl) (hdb:(x == ("__debug__" : Str)) = false:=by decide) :
  PS (cxOf (CX1 P w) P w K mg base N qual scope f cdv A outer s0 H0 E) (.Raise (some (.Call (.Name x np) (e :: es) [] cpos)) none pos) (JhL E C ta):=by
 intro pins s σ H D I h
 obtain ⟨bm,N',nm,qn,bs,hdct,sn,sub,ab,col,dd,k0,k1,k2,k3,k5,mN,hC,hN,hni,T⟩:=Jh2 I.mod.kin hx
 have hh:(A.deeper (envOfC qual scope s0.heap.objs.size f cdv)).handled = none:=I.ok.hd rfl
 refine wpAny_Raise_call_subT (C:=C) (nm:=nm) (q:=qn) (N:=N') (bs:=bs) (bm:=bm) (hdct:=hdct) (sn:=sn) (sub:=sub) (ab:=ab) (col:=col) (dd:=dd) (k0:=k0) (k1:=k1) (k2:=k2) (k3:=k3) (k5:=k5)
  FB (mN:=mN) (T.hasType FB.hasBase) hh ?_ hni (Jdy I hg hm ⟨rfl, ?_⟩ hdb)
 ·show (backTo cpos (starEach (e :: es) (envOfC qual scope s0.heap.objs.size f cdv))).any (·.1) = false
  rw [he]
  show (false || (backTo cpos (starEach es (envOfC qual scope s0.heap.objs.size f cdv))).any (·.1)) = false
  rw [hpl]
  rfl
 ·have z:=ha cpos pins s σ H _ I h
  show wpAny _ _ (evalArgs (.ref C) true (backTo cpos (starEach (e :: es) (envOfC qual scope s0.heap.objs.size f cdv))) []) _ _ _
  have he':=he
  rw [he]
  refine Calls.evalArgs_plain ?_
  have z':wpAny (model P w) (A.deeper (envOfC qual scope s0.heap.objs.size f cdv)) (spliced (backTo cpos (starEach (e :: es) (envOfC qual scope s0.heap.objs.size f cdv)))) _ _ s:=z
  rw [he] at z'
  refine thn z' fun us s2 ⟨vs,H1,I1,r,hl,q⟩ => ?_
  exact ⟨rfl,by rw [← r.length]; exact hl,I1.bk _ _ hC,hN.keeps I1.bk,T.keeps I1.bk,fun h' e hm => JiS I1 hm q⟩
end
end L2
namespace L2
open PySem PySem.Spec PyProof.Rows
def xCall (sp:Sp) (dvs:List V) (t:TA):St→Hp→VK→XK→Prop:=fun σ H Q E => t σ H fun vs H1 => sp (vs ++ dvs) H1 Q E
section
variable {X:Cx} {k:Nat} {f C:Addr} {fd:FuncData} {ps:List Str} {sp:Sp} {dvs:List V} {ds:List Value} {E:XK} {x m:Str} {p pos apos:Pos} {e o:Expr} {es:List Expr} {ta:TE} {t:TA}
end
section
variable {X:Cx} {pins:List (Addr × Obj)} {σ : St} {H H':Hp} {s s':Shared} {h' B:Heap} {ea:Addr} {cls a0:Value}
theorem Inv.track {a:Addr} {o:HO} (I:Inv X pins σ H s) (hn:H a = none) (h1:X.s₀.heap.get? a = none) (h2:a ≠ X.env.locals) (h3:∀ x c,X.env.cells.lookup x = some c→c ≠ a) (h4:∀ p ∈ X.pn ++ pins,p.1 ≠ a)
  (ok:ObjOk X.prog X.w (upd H a o) s.heap a o):Inv X pins σ (upd H a o) s:=by
 have ne:∀ b u,H b = some u→b ≠ a:=fun b u q => Jac q hn
 refine ⟨I.ok,I.os,I.bare,⟨I.base.keep,I.base.slot,fun b ob q n hx => ?_,I.base.there,fun b xs q => ?_,fun b ob u q => ?_,fun b ps q => ?_⟩,I.loc,I.cell, ?_,fun x c e => ?_,fun p hp => ?_,fun b u q => ?_,I.len⟩
 ·have : b ≠ a:=fun z => by rw [z,h1] at q; cases q
  rw [Jag this]
  exact I.base.free b ob q n hx
 ·have z:=I.base.tups b xs q
  rw [Jag (ne _ _ z)]
  exact z
 ·have z:=I.base.frzs b ob u q
  rw [Jag (ne _ _ z)]
  exact z
 ·obtain ⟨mo,z⟩:=I.base.tbls b ps q
  exact ⟨mo,by rw [Jag (ne _ _ z)]; exact z⟩
 ·rw [Jag (Ne.symm h2)]
  exact I.free
 ·rw [Jag (h3 x c e)]
  exact I.freeC x c e
 ·obtain ⟨e,n,r⟩:=I.pin p hp
  exact ⟨e,by rw [Jag (h4 p hp)]; exact n,r⟩
 ·by_cases hb:b = a
  ·subst hb
   rw [Jap] at q
   cases q
   exact ok
  ·rw [Jag hb] at q
   exact (I.hok b u q).stay (fun _ _ _ z => z) (fun c z => by rw [Jag (ne _ _ z)]; exact z) (fun c xs z => by rw [Jag (ne _ _ z)]; exact z)
def ExcO (e C:Addr):HO:=.ext fun h => ∃ ox vs,h.get? e = some ox∧ox.cls = .ref C∧ox.data = .fields vs
end
structure JfK (K:PySem.W.Frag) (C D:Addr):Prop where
 cl:PySem.W.hasDictIn K D = true
 ty:PySem.W.typeIn K (.ref D) = some (.type "type")
 ex:PySem.W.mroIn K D (.type "BaseException") = some true
 ab:PySem.W.mroIn K C (.ref D) = some true
section
variable {X:Cx} {ce:Expr} {epos pos hpos np:Pos} {x n:Str} {b0:Stmt} {suite:List Stmt} {D:Addr} {t:St→Hp→VK→XK→Prop} {ts:TS}
def Jjj (K:PySem.W.Frag) (D:Addr) (i:Nat) (t:St→Hp→VK→XK→Prop) (ts:TS):TS:=fun Dn σ H => t σ H (fun _ H1 => Dn.nx σ H1) fun cls _ H1 => ∃ C,cls = .ref C∧JfK K C D ∧
 ∀ ea,H1 ea = none→ts { nx:=fun σ' H' => Dn.nx (σ'.set i none) H',rt:=Dn.rt,bk:=fun σ' H' => Dn.bk (σ'.set i none) H',ct:=fun σ' H' => Dn.ct (σ'.set i none) H' } (σ.set i (some (.ref ea))) (upd H1 ea (ExcO ea C))
end
end L2
namespace L2
open PySem PySem.Spec PyProof.Rows
inductive D where
 | non | bl (b:Bool) | int (i:Int) | str (x:Str) | tup (xs:List D) | lst (xs:List D)
mutual
def Rep (K:PySem.W.Frag) (H:Hp):D→V→Prop
 | .non,v => v = .non
 | .bl b,v => v = .bl b
 | .int i,v => v = .int i
 | .str x,v => v = .str x
 | .tup ds,v => ∃ a xs,v = .ref a∧SqT K H a xs∧RepL K H ds xs
 | .lst ds,v => ∃ a xs,v = .ref a∧SqL K H a xs∧RepL K H ds xs
def RepL (K:PySem.W.Frag) (H:Hp):List D→List V→Prop
 | [],vs => vs = []
 | d :: ds,vs => ∃ v r,vs = v :: r∧Rep K H d v∧RepL K H ds r
end
mutual
def eqD:D→D→Bool
 | .non, .non => true
 | .bl a, .bl b => a == b
 | .int a, .int b => a == b
 | .bl a, .int b => (if a then 1 else 0) == b
 | .int a, .bl b => a == (if b then 1 else 0)
 | .str a, .str b => a == b
 | .tup xs, .tup ys => eqL xs ys
 | .lst xs, .lst ys => eqL xs ys
 | _,_ => false
def eqL:List D→List D→Bool
 | [],[] => true
 | x :: xs,y :: ys => eqD x y && eqL xs ys
 | _,_ => false
end
mutual
def depD:D→Nat
 | .tup xs => depL xs + 1
 | .lst xs => depL xs + 1
 | _ => 0
def depL:List D→Nat
 | [] => 0
 | x :: xs => max (depD x) (depL xs)
end
theorem Jdc:∀ {xs ys:List D},eqL xs ys = true→xs.length = ys.length
 | [],[],_ => rfl
 | [],_ :: _,h => by simp [eqL] at h
 | _ :: _,[],h => by simp [eqL] at h
 | x :: xs,y :: ys,h => by
  simp only [eqL,Bool.and_eq_true] at h
  simp only [List.length_cons,Jdc h.2]
mutual
theorem JbR:∀ d:D,eqD d d = true
 | .non => by simp [eqD]
 | .bl b => by simp [eqD]
 | .int i => by simp [eqD]
 | .str x => by simp [eqD]
 | .tup xs => by simp only [eqD]; exact Jdv xs
 | .lst xs => by simp only [eqD]; exact Jdv xs
theorem Jdv:∀ d:List D,eqL d d = true
 | [] => by simp [eqL]
 | x :: xs => by simp only [eqL,Bool.and_eq_true]; exact ⟨JbR x,Jdv xs⟩
end
theorem RepL.length {K:PySem.W.Frag} {H:Hp}:∀ {ds:List D} {vs:List V},RepL K H ds vs→ds.length = vs.length
 | [],vs,h => by
  simp only [RepL] at h
  rw [h]; rfl
 | d :: ds,vs,h => by
  simp only [RepL] at h
  obtain ⟨v,r,rfl,_,h2⟩:=h
  simp only [List.length_cons,RepL.length h2]
theorem RepL.get {K:PySem.W.Frag} {H:Hp}:∀ {ds:List D} {vs:List V} {i:Nat} {d:D},RepL K H ds vs→ds[i]? = some d→∃ v,vs[i]? = some v∧Rep K H d v
 | [],_,_,_,_,e => by simp at e
 | d :: ds,vs,i,d',h,e => by
  simp only [RepL] at h
  obtain ⟨v,r,rfl,h1,h2⟩:=h
  cases i with
  | zero => simp at e; subst e; exact ⟨v,rfl,h1⟩
  | succ i =>
   obtain ⟨v',e',h'⟩:=RepL.get h2 (by simpa using e)
   exact ⟨v',by simpa using e',h'⟩
theorem SqL.same {K:PySem.W.Frag} {H H':Hp} {a:Addr} {xs:List V} (e:Same H H') (h:SqL K H a xs):SqL K H' a xs:=e.seq h
theorem SqT.same {K:PySem.W.Frag} {H H':Hp} {a:Addr} {xs:List V} (e:Same H H') (h:SqT K H a xs):SqT K H' a xs:=by
 rcases h with (h | ⟨o,h⟩) | h
 ·exact .inl (.inl (e _ _ h))
 ·exact .inl (.inr ⟨o,e _ _ h⟩)
 ·exact .inr h
mutual
theorem Rep.same {K:PySem.W.Frag} {H H':Hp} (e:Same H H'):∀ {d:D} {v:V},Rep K H d v→Rep K H' d v
 | .non,_,h => by simpa only [Rep] using h
 | .bl _,_,h => by simpa only [Rep] using h
 | .int _,_,h => by simpa only [Rep] using h
 | .str _,_,h => by simpa only [Rep] using h
 | .tup ds,_,h => by
  simp only [Rep] at h ⊢
  obtain ⟨a,xs,h1,h2,h3⟩:=h
  exact ⟨a,xs,h1,h2.same e,RepL.same e h3⟩
 | .lst ds,_,h => by
  simp only [Rep] at h ⊢
  obtain ⟨a,xs,h1,h2,h3⟩:=h
  exact ⟨a,xs,h1,h2.same e,RepL.same e h3⟩
theorem RepL.same {K:PySem.W.Frag} {H H':Hp} (e:Same H H'):∀ {d:List D} {v:List V},RepL K H d v→RepL K H' d v
 | [],_,h => by simpa only [RepL] using h
 | x :: xs,_,h => by
  simp only [RepL] at h ⊢
  obtain ⟨v,r,h1,h2,h3⟩:=h
  exact ⟨v,r,h1,Rep.same e h2,RepL.same e h3⟩
end
section
variable {X:Cx} {pins:List (Addr × Obj)} {σ : St} {H:Hp} {s:Shared}
theorem Inv.list_tuple (I:Inv X pins σ H s) {a:Addr} {xs ys:List V} (h:SqL X.K H a xs) (h':SqT X.K H a ys):False:=by
 obtain ⟨_,_,p,_⟩:=I.list h
 obtain ⟨_,_,q,_⟩:=I.tuple h'
 obtain ⟨o,_,e1,c1,_⟩:=p
 obtain ⟨o',e2,c2,_⟩:=q
 rw [e1] at e2
 cases e2
 rw [c1] at c2
 exact absurd c2 (by decide)
mutual
theorem Inv.rep_inj (I:Inv X pins σ H s):∀ {d e:D} {v:V},Rep X.K H d v→Rep X.K H e v→d = e
 | .non,e,v,h,h' => by
  simp only [Rep] at h; subst h
  cases e <;> simp [Rep] at h' ⊢
 | .bl _,e,v,h,h' => by
  simp only [Rep] at h; subst h
  cases e <;> simp [Rep] at h' ⊢
  exact h'
 | .int _,e,v,h,h' => by
  simp only [Rep] at h; subst h
  cases e <;> simp [Rep] at h' ⊢
  exact h'
 | .str _,e,v,h,h' => by
  simp only [Rep] at h; subst h
  cases e <;> simp [Rep] at h' ⊢
  exact h'
 | .tup ds,e,v,h,h' => by
  simp only [Rep] at h
  obtain ⟨a,xs,rfl,h2,h3⟩:=h
  cases e with
  | tup es =>
   simp only [Rep] at h'
   obtain ⟨a',ys,q,g2,g3⟩:=h'
   cases q
   have:=I.tuple_inj h2 g2
   subst this
   rw [Inv.repL_inj I h3 g3]
  | lst es =>
   simp only [Rep] at h'
   obtain ⟨a',ys,q,g2,g3⟩:=h'
   cases q
   exact (I.list_tuple g2 h2).elim
  | _ => simp [Rep] at h'
 | .lst ds,e,v,h,h' => by
  simp only [Rep] at h
  obtain ⟨a,xs,rfl,h2,h3⟩:=h
  cases e with
  | lst es =>
   simp only [Rep] at h'
   obtain ⟨a',ys,q,g2,g3⟩:=h'
   cases q
   have:=I.list_inj h2 g2
   subst this
   rw [Inv.repL_inj I h3 g3]
  | tup es =>
   simp only [Rep] at h'
   obtain ⟨a',ys,q,g2,g3⟩:=h'
   cases q
   exact (I.list_tuple h2 g2).elim
  | _ => simp [Rep] at h'
theorem Inv.repL_inj (I:Inv X pins σ H s):∀ {d e:List D} {v:List V},RepL X.K H d v→RepL X.K H e v→d = e
 | [],e,v,h,h' => by
  simp only [RepL] at h; subst h
  cases e <;> simp [RepL] at h' ⊢
 | x :: xs,e,v,h,h' => by
  simp only [RepL] at h
  obtain ⟨u,r,rfl,h1,h2⟩:=h
  cases e with
  | nil => simp [RepL] at h'
  | cons y ys =>
   simp only [RepL] at h'
   obtain ⟨u',r',q,g1,g2⟩:=h'
   cases q
   rw [Inv.rep_inj I h1 g1,Inv.repL_inj I h2 g2]
end
end
def JbN {α β : Type} (f : α→β→Bool):List α→List β→Bool
 | [],[] => true
 | x :: xs,y :: ys => f x y && JbN f xs ys
 | _,_ => false
def atB {α β : Type} (f : α→β→Bool) (xs:List α) (ys:List β) (j:Nat):Bool:=match xs[j]?,ys[j]? with
 | some x,some y => f x y
 | _,_ => true
theorem JbO {α β : Type} (f : α→β→Bool):∀ (xs:List α) (ys:List β),
  ((List.range (min xs.length ys.length)).all (atB f xs ys) && (xs.length == ys.length)) = JbN f xs ys
 | [],[] => by simp [JbN]
 | [],_ :: _ => by simp [JbN]
 | _ :: _,[] => by simp [JbN]
 | x :: xs,y :: ys => by
  have ih:=JbO f xs ys
  simp only [JbN,List.length_cons]
  rw [← ih,Nat.succ_min_succ,List.range_succ_eq_map,List.all_cons,List.all_map]
  have e:((List.range (min xs.length ys.length)).all (atB f (x :: xs) (y :: ys) ∘ Nat.succ)) = (List.range (min xs.length ys.length)).all (atB f xs ys):=by
   congr 1
  rw [e]
  have e0:atB f (x :: xs) (y :: ys) 0 = f x y:=by unfold atB; simp
  rw [e0,Bool.and_assoc]
  congr 2
  simp
theorem Jez:∀ xs ys:List D,eqL xs ys = JbN eqD xs ys
 | [],[] => by simp [eqL,JbN]
 | [],_ :: _ => by simp [eqL,JbN]
 | _ :: _,[] => by simp [eqL,JbN]
 | x :: xs,y :: ys => by simp only [eqL,JbN,Jez xs ys]
theorem Je7:∀ {ds:List D} {d:D},d ∈ ds→depD d ≤ depL ds
 | [],_,h => by simp at h
 | x :: xs,d,h => by
  simp only [depL]
  rcases List.mem_cons.mp h with rfl | h
  ·exact Nat.le_max_left ..
  ·exact Nat.le_trans (Je7 h) (Nat.le_max_right ..)
def flatD:D→Bool
 | .tup _ => false
 | .lst _ => false
 | _ => true
def valD:D→V
 | .bl b => .bl b
 | .int i => .int i
 | .str x => .str x
 | _ => .non
theorem JdJ {K:PySem.W.Frag} {H:Hp} {d:D} {v:V} (f:flatD d = true) (h:Rep K H d v):v = valD d:=by
 cases d <;> simp_all [flatD,Rep,valD]
theorem Jfb {d:D} (f:flatD d = true):flatV (valD d) = true:=by
 cases d <;> simp_all [flatD,valD,flatV]
theorem Jh1 {d e:D} (f:flatD d = true) (g:flatD e = true):eqV (valD d) (valD e) = eqD d e:=by
 cases d <;> cases e <;> simp_all [flatD,valD,eqV,eqD]
section
variable {X:Cx} {pins:List (Addr × Obj)} {σ : St} {H:Hp} {s:Shared}
theorem in1_units (A:Around):A.in1.units = A.units + 1:=rfl
def EqP (X:Cx) (H:Hp) (s:Shared) (n:Nat):Prop:=∀ (d e:D) (A:Around) (x y:V) (u v:Value),depD d ≤ n→Rep X.K H d x→Rep X.K H e y→RelV x u→RelV y v→A.units + n < cLine→SeqAt.EqAt A s u v (eqD d e)
theorem Jff {n:Nat} (ih:EqP X H s n) {ds es:List D} {xs ys:List V} {its jts:List Value} (h3:RepL X.K H ds xs) (g3:RepL X.K H es ys) (vi:Vals xs its) (vj:Vals ys jts) (hds:depL ds ≤ n) {A:Around} (hA:A.units + n < cLine) :
  ∀ j (p1:j < its.toArray.size) (p2:j < jts.toArray.size),SeqAt.EqAt A s its.toArray[j] jts.toArray[j] (atB eqD ds es j):=by
 intro j p1 p2
 have l1:its.length = ds.length:=by rw [h3.length,vi.length]
 have l2:jts.length = es.length:=by rw [g3.length,vj.length]
 have q1:j < ds.length:=by rw [← l1]; simpa using p1
 have q2:j < es.length:=by rw [← l2]; simpa using p2
 obtain ⟨v1,e1,r1⟩:=h3.get (List.getElem?_eq_getElem q1)
 obtain ⟨v2,e2,r2⟩:=g3.get (List.getElem?_eq_getElem q2)
 obtain ⟨u1,f1,s1⟩:=vi.get e1
 obtain ⟨u2,f2,s2⟩:=vj.get e2
 have z1:its.toArray[j] = u1:=by
  have:=f1
  rw [List.getElem?_eq_getElem (by simpa using p1)] at this
  simpa using this
 have z2:jts.toArray[j] = u2:=by
  have:=f2
  rw [List.getElem?_eq_getElem (by simpa using p2)] at this
  simpa using this
 rw [z1,z2]
 have eb:atB eqD ds es j = eqD ds[j] es[j]:=by
  unfold atB
  rw [List.getElem?_eq_getElem q1,List.getElem?_eq_getElem q2]
 rw [eb]
 exact ih _ _ _ _ _ _ _ (Nat.le_trans (Je7 (List.getElem_mem q1)) hds) r1 r2 s1 s2 hA
theorem Jjm (I:Inv X pins σ H s) {n:Nat} (ih:EqP X H s n) {ds es:List D} {a b:Addr} {xs ys:List V} (h2:SqT X.K H a xs) (h3:RepL X.K H ds xs) (g2:SqT X.K H b ys) (g3:RepL X.K H es ys) (hds:depL ds ≤ n) {A:Around} (hA:A.units + (n + 1) < cLine) :
  SeqAt.RcAt A s (.ref a) (.ref b) (eqD (.tup ds) (.tup es))∧SeqAt.RcNeAt A s (.ref a) (.ref b) (!eqD (.tup ds) (.tup es)):=by
 obtain ⟨its,vi,ht,_⟩:=I.tuple h2
 obtain ⟨jts,vj,hu,_⟩:=I.tuple g2
 have l1:its.length = ds.length:=by rw [h3.length,vi.length]
 have l2:jts.length = es.length:=by rw [g3.length,vj.length]
 have it:=Jff ih h3 g3 vi vj hds (A:=A.in1) (by rw [in1_units]; omega)
 have eb:eqD (.tup ds) (.tup es) = ((List.range (min its.toArray.size jts.toArray.size)).all (atB eqD ds es) && its.toArray.size == jts.toArray.size):=by
  simp only [eqD,Jez]
  rw [← JbO]
  simp only [List.size_toArray,l1,l2]
 rw [eb]
 exact ⟨SeqAt.RcAt.tuples ht hu (by omega) it,SeqAt.RcNeAt.tuples ht hu (by omega) it⟩
theorem JiT (I:Inv X pins σ H s) {n:Nat} (ih:EqP X H s n) {ds es:List D} {a b:Addr} {xs ys:List V} (h2:SqL X.K H a xs) (h3:RepL X.K H ds xs) (g2:SqL X.K H b ys) (g3:RepL X.K H es ys) (hds:depL ds ≤ n) {A:Around} (hA:A.units + (n + 1) < cLine) :
  SeqAt.RcAt A s (.ref a) (.ref b) (eqD (.lst ds) (.lst es))∧SeqAt.RcNeAt A s (.ref a) (.ref b) (!eqD (.lst ds) (.lst es)):=by
 obtain ⟨its,vi,ht,_⟩:=I.list h2
 obtain ⟨jts,vj,hu,_⟩:=I.list g2
 have l1:its.length = ds.length:=by rw [h3.length,vi.length]
 have l2:jts.length = es.length:=by rw [g3.length,vj.length]
 have it:=Jff ih h3 g3 vi vj hds (A:=A.in1) (by rw [in1_units]; omega)
 by_cases hl:ds.length = es.length
 ·have eb:eqD (.lst ds) (.lst es) = (List.range its.toArray.size).all (atB eqD ds es):=by
   simp only [eqD,Jez]
   rw [← JbO]
   simp [l1,hl]
  rw [eb]
  exact ⟨SeqAt.RcAt.lists ht.isList hu.isList (by simp [l1,l2,hl]) (by omega) it,SeqAt.RcNeAt.lists ht.isList hu.isList (by simp [l1,l2,hl]) (by omega) it⟩
 ·have eb:eqD (.lst ds) (.lst es) = false:=by
   cases q:eqD (.lst ds) (.lst es) with
   | false => rfl
   | true => simp only [eqD] at q; exact absurd (Jdc q) hl
  rw [eb]
  exact ⟨SeqAt.RcAt.lists_lengths ht.isList hu.isList (by simp [l1,l2,hl]) (by omega),SeqAt.RcNeAt.lists_lengths ht.isList hu.isList (by simp [l1,l2,hl]) (by omega)⟩
theorem Jb0 {K:PySem.W.Frag} {d:D} {x:V} (h:Rep K H d x):(flatD d = true∧x = valD d) ∨ (∃ ds a xs,d = .tup ds∧x = .ref a∧SqT K H a xs∧RepL K H ds xs) ∨ ∃ ds a xs,d = .lst ds∧x = .ref a∧SqL K H a xs∧RepL K H ds xs:=by
 cases d with
 | tup ds => simp only [Rep] at h; obtain ⟨a,xs,h1,h2,h3⟩:=h; exact .inr (.inl ⟨ds,a,xs,rfl,h1,h2,h3⟩)
 | lst ds => simp only [Rep] at h; obtain ⟨a,xs,h1,h2,h3⟩:=h; exact .inr (.inr ⟨ds,a,xs,rfl,h1,h2,h3⟩)
 | _ => exact .inl ⟨rfl,JdJ rfl h⟩
theorem JbT (I:Inv X pins σ H s) {d e:D} {x y:V} {u v:Value} (hd:Rep X.K H d x) (he:Rep X.K H e y) (ru:RelV x u) (rv:RelV y v) (m:flatD d = !flatD e) {A:Around} (hA:A.units < cLine) :
  eqD d e = false∧SeqAt.EqAt A s u v false∧SeqAt.RcAt A s u v false∧SeqAt.RcNeAt A s u v true:=by
 rcases Jb0 hd with ⟨fd,rfl⟩ | ⟨ds,a,xs,rfl,rfl,h2,h3⟩ | ⟨ds,a,xs,rfl,rfl,h2,h3⟩
 ·rcases Jb0 he with ⟨fe,rfl⟩ | ⟨es,b,ys,rfl,rfl,g2,g3⟩ | ⟨es,b,ys,rfl,rfl,g2,g3⟩
  ·rw [fd,fe] at m; cases m
  ·obtain rfl:v = Value.ref b:=rv
   obtain ⟨jts,vj,hu,_⟩:=I.tuple g2
   refine ⟨by cases d <;> simp [eqD,flatD] at fd ⊢, ?_⟩
   cases d <;> simp only [valD,RelV] at ru <;> first | (simp [flatD] at fd; done) | skip
   ·subst ru; exact ⟨SeqAt.EqAt.none_tuple hu hA,SeqAt.RcAt.none_tuple hu hA,SeqAt.RcNeAt.none_tuple hu hA⟩
   ·subst ru; exact ⟨SeqAt.EqAt.bool_tuple _ hu hA,SeqAt.RcAt.bool_tuple _ hu hA,SeqAt.RcNeAt.bool_tuple _ hu hA⟩
   ·obtain ⟨t,rfl⟩:=ru; exact ⟨SeqAt.EqAt.int_tuple _ _ hu hA,SeqAt.RcAt.int_tuple _ _ hu hA,SeqAt.RcNeAt.int_tuple _ _ hu hA⟩
   ·obtain ⟨t,rfl⟩:=ru; exact ⟨SeqAt.EqAt.str_tuple _ _ hu hA,SeqAt.RcAt.str_tuple _ _ hu hA,SeqAt.RcNeAt.str_tuple _ _ hu hA⟩
  ·obtain rfl:v = Value.ref b:=rv
   obtain ⟨jts,vj,hu,_⟩:=I.list g2
   have hu:=hu.isList
   refine ⟨by cases d <;> simp [eqD,flatD] at fd ⊢, ?_⟩
   cases d <;> simp only [valD,RelV] at ru <;> first | (simp [flatD] at fd; done) | skip
   ·subst ru; exact ⟨SeqAt.EqAt.none_list hu hA,SeqAt.RcAt.none_list hu hA,SeqAt.RcNeAt.none_list hu hA⟩
   ·subst ru; exact ⟨SeqAt.EqAt.bool_list _ hu hA,SeqAt.RcAt.bool_list _ hu hA,SeqAt.RcNeAt.bool_list _ hu hA⟩
   ·obtain ⟨t,rfl⟩:=ru; exact ⟨SeqAt.EqAt.int_list _ _ hu hA,SeqAt.RcAt.int_list _ _ hu hA,SeqAt.RcNeAt.int_list _ _ hu hA⟩
   ·obtain ⟨t,rfl⟩:=ru; exact ⟨SeqAt.EqAt.str_list _ _ hu hA,SeqAt.RcAt.str_list _ _ hu hA,SeqAt.RcNeAt.str_list _ _ hu hA⟩
 ·rcases Jb0 he with ⟨fe,rfl⟩ | ⟨es,b,ys,rfl,rfl,g2,g3⟩ | ⟨es,b,ys,rfl,rfl,g2,g3⟩
  ·obtain rfl:u = Value.ref a:=ru
   obtain ⟨jts,vj,hu,_⟩:=I.tuple h2
   refine ⟨by cases e <;> simp [eqD,flatD] at fe ⊢, ?_⟩
   cases e <;> simp only [valD,RelV] at rv <;> first | (simp [flatD] at fe; done) | skip
   ·subst rv; exact ⟨SeqAt.EqAt.tuple_none hu hA,SeqAt.RcAt.tuple_none hu hA,SeqAt.RcNeAt.tuple_none hu hA⟩
   ·subst rv; exact ⟨SeqAt.EqAt.tuple_bool _ hu hA,SeqAt.RcAt.tuple_bool _ hu hA,SeqAt.RcNeAt.tuple_bool _ hu hA⟩
   ·obtain ⟨t,rfl⟩:=rv; exact ⟨SeqAt.EqAt.tuple_int _ _ hu hA,SeqAt.RcAt.tuple_int _ _ hu hA,SeqAt.RcNeAt.tuple_int _ _ hu hA⟩
   ·obtain ⟨t,rfl⟩:=rv; exact ⟨SeqAt.EqAt.tuple_str _ _ hu hA,SeqAt.RcAt.tuple_str _ _ hu hA,SeqAt.RcNeAt.tuple_str _ _ hu hA⟩
  ·simp [flatD] at m
  ·simp [flatD] at m
 ·rcases Jb0 he with ⟨fe,rfl⟩ | ⟨es,b,ys,rfl,rfl,g2,g3⟩ | ⟨es,b,ys,rfl,rfl,g2,g3⟩
  ·obtain rfl:u = Value.ref a:=ru
   obtain ⟨jts,vj,hu,_⟩:=I.list h2
   have hu:=hu.isList
   refine ⟨by cases e <;> simp [eqD,flatD] at fe ⊢, ?_⟩
   cases e <;> simp only [valD,RelV] at rv <;> first | (simp [flatD] at fe; done) | skip
   ·subst rv; exact ⟨SeqAt.EqAt.list_none hu hA,SeqAt.RcAt.list_none hu hA,SeqAt.RcNeAt.list_none hu hA⟩
   ·subst rv; exact ⟨SeqAt.EqAt.list_bool _ hu hA,SeqAt.RcAt.list_bool _ hu hA,SeqAt.RcNeAt.list_bool _ hu hA⟩
   ·obtain ⟨t,rfl⟩:=rv; exact ⟨SeqAt.EqAt.list_int _ _ hu hA,SeqAt.RcAt.list_int _ _ hu hA,SeqAt.RcNeAt.list_int _ _ hu hA⟩
   ·obtain ⟨t,rfl⟩:=rv; exact ⟨SeqAt.EqAt.list_str _ _ hu hA,SeqAt.RcAt.list_str _ _ hu hA,SeqAt.RcNeAt.list_str _ _ hu hA⟩
  ·simp [flatD] at m
  ·simp [flatD] at m
theorem seq_eq (I:Inv X pins σ H s) {n:Nat} (ih:EqP X H s n) {d e:D} {x y:V} {u v:Value} (hn:depD d ≤ n + 1) (hd:Rep X.K H d x) (he:Rep X.K H e y) (ru:RelV x u) (rv:RelV y v) (fd:flatD d = false) (fe:flatD e = false) {A:Around} (hA:A.units + (n + 1) < cLine) :
  SeqAt.EqAt A s u v (eqD d e)∧SeqAt.RcAt A s u v (eqD d e)∧SeqAt.RcNeAt A s u v (!eqD d e):=by
 have hd0:=hd
 have he0:=he
 rcases Jb0 hd with ⟨f,_⟩ | ⟨ds,a,xs,rfl,rfl,h2,h3⟩ | ⟨ds,a,xs,rfl,rfl,h2,h3⟩
 ·rw [f] at fd; cases fd
 ·obtain rfl:u = Value.ref a:=ru
  have hds:depL ds ≤ n:=by simp only [depD] at hn; omega
  rcases Jb0 he with ⟨f,_⟩ | ⟨es,b,ys,rfl,rfl,g2,g3⟩ | ⟨es,b,ys,rfl,rfl,g2,g3⟩
  ·rw [f] at fe; cases fe
  ·obtain rfl:v = Value.ref b:=rv
   have R:=Jjm I ih h2 h3 g2 g3 hds hA
   refine ⟨?_,R.1,R.2⟩
   by_cases hab:a = b
   ·subst hab
    rw [I.rep_inj hd0 he0,JbR]
    exact SeqAt.EqAt.same _
   ·exact SeqAt.EqAt.of_refs hab R.1
  ·obtain rfl:v = Value.ref b:=rv
   obtain ⟨its,_,ht,_⟩:=I.tuple h2
   obtain ⟨jts,_,hu,_⟩:=I.list g2
   exact ⟨SeqAt.EqAt.tuple_list ht hu.isList (by omega),SeqAt.RcAt.tuple_list ht hu.isList (by omega),SeqAt.RcNeAt.tuple_list ht hu.isList (by omega)⟩
 ·obtain rfl:u = Value.ref a:=ru
  have hds:depL ds ≤ n:=by simp only [depD] at hn; omega
  rcases Jb0 he with ⟨f,_⟩ | ⟨es,b,ys,rfl,rfl,g2,g3⟩ | ⟨es,b,ys,rfl,rfl,g2,g3⟩
  ·rw [f] at fe; cases fe
  ·obtain rfl:v = Value.ref b:=rv
   obtain ⟨its,_,ht,_⟩:=I.list h2
   obtain ⟨jts,_,hu,_⟩:=I.tuple g2
   exact ⟨SeqAt.EqAt.list_tuple ht.isList hu (by omega),SeqAt.RcAt.list_tuple ht.isList hu (by omega),SeqAt.RcNeAt.list_tuple ht.isList hu (by omega)⟩
  ·obtain rfl:v = Value.ref b:=rv
   have R:=JiT I ih h2 h3 g2 g3 hds hA
   refine ⟨?_,R.1,R.2⟩
   by_cases hab:a = b
   ·subst hab
    rw [I.rep_inj hd0 he0,JbR]
    exact SeqAt.EqAt.same _
   ·exact SeqAt.EqAt.of_refs hab R.1
theorem Inv.eqP (I:Inv X pins σ H s):∀ n,EqP X H s n
 | 0 => fun d e A x y u v hn hd he ru rv hA => by
  have fd:flatD d = true:=by
   cases d <;> simp [depD,flatD] at hn ⊢
  cases fe:flatD e with
  | true =>
   have ex:=JdJ fd hd
   have ey:=JdJ fe he
   subst ex ey
   rw [← Jh1 fd fe]
   exact Jhx ru rv (Jfb fd) (Jfb fe)
  | false =>
   obtain ⟨e1,e2,_⟩:=JbT I hd he ru rv (by rw [fd,fe]; rfl) (A:=A) (by omega)
   rw [e1]
   exact e2
 | n + 1 => fun d e A x y u v hn hd he ru rv hA => by
  cases fd:flatD d with
  | true =>
   have h0:depD d ≤ n:=by cases d <;> simp [depD,flatD] at fd ⊢
   exact Inv.eqP I n d e A x y u v h0 hd he ru rv (by omega)
  | false =>
   cases fe:flatD e with
   | true =>
    obtain ⟨e1,e2,_⟩:=JbT I hd he ru rv (by rw [fd,fe]; rfl) (A:=A) (by omega)
    rw [e1]
    exact e2
   | false => exact (seq_eq I (Inv.eqP I n) hn hd he ru rv fd fe hA).1
def rEqU (K:PySem.W.Frag):R2:=fun x y H Q => match x,y with
 | .int i, .int j => Q (.bl (decide (i = j))) H
 | .str i, .str j => Q (.bl (decide (i = j))) H
 | .bl i, .bl j => Q (.bl (decide (i = j))) H
 | .non, .non => Q (.bl true) H
 | x,y => ∃ d e,Rep K H d x∧Rep K H e y∧depD d ≤ 50∧(flatD d && flatD e) = false∧Q (.bl (eqD d e)) H
def rNeU (K:PySem.W.Frag):R2:=fun x y H Q => match x,y with
 | .int i, .int j => Q (.bl (!decide (i = j))) H
 | .str i, .str j => Q (.bl (!decide (i = j))) H
 | .bl i, .bl j => Q (.bl (!decide (i = j))) H
 | .non, .non => Q (.bl false) H
 | x,y => ∃ d e,Rep K H d x∧Rep K H e y∧depD d ≤ 50∧(flatD d && flatD e) = false∧Q (.bl (!eqD d e)) H
theorem JbX (hu:X.A.units + 64 < cLine):OpR X (compareOp .Eq) (rEqU X.K):=fun pins s σ H x y v u Q I rx ry q => by
 unfold rEqU at q
 split at q
 ·rename_i i j; exact op_eq pins s σ H _ _ v u Q I rx ry ⟨rfl,by rw [show decide (V.int i = V.int j) = decide (i = j) from by simp]; exact q⟩
 ·rename_i i j; exact op_eq pins s σ H _ _ v u Q I rx ry ⟨rfl,by rw [show decide (V.str i = V.str j) = decide (i = j) from by simp]; exact q⟩
 ·rename_i i j; exact op_eq pins s σ H _ _ v u Q I rx ry ⟨rfl,by rw [show decide (V.bl i = V.bl j) = decide (i = j) from by simp]; exact q⟩
 ·exact op_eq pins s σ H _ _ v u Q I rx ry ⟨rfl,by simpa using q⟩
 ·obtain ⟨d,e,hd,he,hn,hf,q⟩:=q
  show wpAny (model X.prog X.w) X.A (richCompare .Eq v u) (EP X pins σ Q) X.xe s
  cases fd:flatD d with
  | true =>
   cases fe:flatD e with
   | true => rw [fd,fe] at hf; cases hf
   | false =>
    obtain ⟨e1,_,e3,_⟩:=JbT I hd he rx ry (by rw [fd,fe]; rfl) (A:=X.A) (by omega)
    rw [e1] at q
    exact e3 _ _ _ _ ⟨V.bl _,H,I,rfl,q⟩
  | false =>
   cases fe:flatD e with
   | true =>
    obtain ⟨e1,_,e3,_⟩:=JbT I hd he rx ry (by rw [fd,fe]; rfl) (A:=X.A) (by omega)
    rw [e1] at q
    exact e3 _ _ _ _ ⟨V.bl _,H,I,rfl,q⟩
   | false => exact (seq_eq I (I.eqP 49) hn hd he rx ry fd fe (by omega)).2.1 _ _ _ _ ⟨V.bl _,H,I,rfl,q⟩
theorem Jcl (hu:X.A.units + 64 < cLine):OpR X (compareOp .NotEq) (rNeU X.K):=fun pins s σ H x y v u Q I rx ry q => by
 unfold rNeU at q
 split at q
 ·rename_i i j; exact op_ne pins s σ H _ _ v u Q I rx ry ⟨rfl,by rw [show decide (V.int i = V.int j) = decide (i = j) from by simp]; exact q⟩
 ·rename_i i j; exact op_ne pins s σ H _ _ v u Q I rx ry ⟨rfl,by rw [show decide (V.str i = V.str j) = decide (i = j) from by simp]; exact q⟩
 ·rename_i i j; exact op_ne pins s σ H _ _ v u Q I rx ry ⟨rfl,by rw [show decide (V.bl i = V.bl j) = decide (i = j) from by simp]; exact q⟩
 ·exact op_ne pins s σ H _ _ v u Q I rx ry ⟨rfl,by simpa using q⟩
 ·obtain ⟨d,e,hd,he,hn,hf,q⟩:=q
  show wpAny (model X.prog X.w) X.A (richCompare .NotEq v u) (EP X pins σ Q) X.xe s
  cases fd:flatD d with
  | true =>
   cases fe:flatD e with
   | true => rw [fd,fe] at hf; cases hf
   | false =>
    obtain ⟨e1,_,_,e3⟩:=JbT I hd he rx ry (by rw [fd,fe]; rfl) (A:=X.A) (by omega)
    rw [e1] at q
    exact e3 _ _ _ _ ⟨V.bl _,H,I,rfl,q⟩
  | false =>
   cases fe:flatD e with
   | true =>
    obtain ⟨e1,_,_,e3⟩:=JbT I hd he rx ry (by rw [fd,fe]; rfl) (A:=X.A) (by omega)
    rw [e1] at q
    exact e3 _ _ _ _ ⟨V.bl _,H,I,rfl,q⟩
   | false => exact (seq_eq I (I.eqP 49) hn hd he rx ry fd fe (by omega)).2.2 _ _ _ _ ⟨V.bl _,H,I,rfl,q⟩
end
def DivOk (j:Int):Prop:=j ≠ 0∧j.natAbs.log2 < 9000
section
variable {X:Cx}
def rAddU (K:PySem.W.Frag):R2:=fun x y H Q => match x,y with
 | .int i, .int j => Q (.int (i + j)) H
 | .str i, .str j => i.length + j.length ≤ sizeLine∧Q (.str (i ++ j)) H
 | .ref a, .ref b => rCat (.ref a) (.ref b) H Q ∨ rCatT K (.ref a) (.ref b) H Q
 | _,_ => False
theorem JaV:OpR X (binaryOp .Add) (rAddU X.K):=fun pins s σ H x y v u Q I rx ry q => by
 unfold rAddU at q
 split at q
 ·exact JiX pins s σ H _ _ v u Q I rx ry ⟨_,_,rfl,rfl,q⟩
 ·exact JfD pins s σ H _ _ v u Q I rx ry ⟨_,_,rfl,rfl,q.1,q.2⟩
 ·rcases q with q | q
  ·exact JiY pins s σ H _ _ v u Q I rx ry q
  ·exact Jid pins s σ H _ _ v u Q I rx ry q
 ·exact q.elim
def rMulU:R2:=fun x y H Q => match x,y with
 | .int i, .int j => IntMulOk i j∧Q (.int (i * j)) H
 | _,_ => False
theorem Jif:OpR X (binaryOp .Mult) (rI IntMulOk fun i j => .int (i * j)):=opI fun _ _ _ _ _ _ _ hc q => mul_int q hc
theorem Jig:OpR X (binaryOp .Mult) rMulU:=fun pins s σ H x y v u Q I rx ry q => by
 unfold rMulU at q
 split at q
 ·exact Jif pins s σ H _ _ v u Q I rx ry ⟨_,_,rfl,rfl,q.1,q.2⟩
 ·exact q.elim
def JgB:R2:=fun x y H Q => match x,y with
 | .int i, .int j => DivOk j∧Q (.int (i.fdiv j)) H
 | _,_ => False
theorem Jhf:OpR X (binaryOp .FloorDiv) (rI (fun _ j => DivOk j) fun i j => .int (i.fdiv j)):=opI fun _ _ _ _ _ _ _ hc q => floordiv_int hc.1 q (.inl (PyProof.noPylong_of_log2 hc.2))
theorem Jaz:OpR X (binaryOp .FloorDiv) JgB:=fun pins s σ H x y v u Q I rx ry q => by
 unfold JgB at q
 split at q
 ·exact Jhf pins s σ H _ _ v u Q I rx ry ⟨_,_,rfl,rfl,q.1,q.2⟩
 ·exact q.elim
def rModU:R2:=fun x y H Q => match x,y with
 | .int i, .int j => j ≠ 0∧Q (.int (i.fmod j)) H
 | _,_ => False
theorem JaL:OpR X (binaryOp .Mod) rModU:=fun pins s σ H x y v u Q I rx ry q => by
 unfold rModU at q
 split at q
 ·exact Jie pins s σ H _ _ v u Q I rx ry ⟨_,_,rfl,rfl,q.1,q.2⟩
 ·exact q.elim
def rPowU:R2:=fun x y H Q => match x,y with
 | .int i, .int j => CPow i j∧Q (.int (i ^ j.toNat)) H
 | _,_ => False
theorem Jgv:OpR X (binaryOp .Pow) rPowU:=fun pins s σ H x y v u Q I rx ry q => by
 unfold rPowU at q
 split at q
 ·exact Ji3 pins s σ H _ _ v u Q I rx ry ⟨_,_,rfl,rfl,q.1,q.2⟩
 ·exact q.elim
def rCmpU (p:Int→Int→Bool):R2:=fun x y H Q => match x,y with
 | .int i, .int j => Q (.bl (p i j)) H
 | _,_ => False
theorem JeM {op:CmpOp} {p:Int→Int→Bool} (h:OpR X (compareOp op) (rI0 fun i j => .bl (p i j))):OpR X (compareOp op) (rCmpU p):=fun pins s σ H x y v u Q I rx ry q => by
 unfold rCmpU at q
 split at q
 ·exact h pins s σ H _ _ v u Q I rx ry ⟨_,_,rfl,rfl,q⟩
 ·exact q.elim
theorem Jeb:OpR X (compareOp .Lt) (rCmpU fun i j => decide (i < j)):=JeM op_lt
theorem Jgr:OpR X (compareOp .Gt) (rCmpU fun i j => decide (j < i)):=JeM op_gt
theorem Ji0:OpR X (compareOp .GtE) (rCmpU fun i j => decide (j ≤ i)):=JeM op_ge
def SqA (K:PySem.W.Frag) (H:Hp) (a:Addr) (xs:List V):Prop:=SqL K H a xs ∨ SqT K H a xs
def rIxU (K:PySem.W.Frag):R2:=fun x y H Q => match x,y with
 | .ref p, .int i => ∃ xs v,SqA K H p xs∧atI xs i = some v∧Q v H
 | .str z, .int i => ∃ c,z.length ≤ sizeLine∧atI z.cps.toList i = some c∧Q (.str ⟨#[c]⟩) H
 | _,_ => False
theorem ix_U:IxR X (rIxU X.K):=fun value slice pins s σ H x y v u Q I rx ry q hs => by
 unfold rIxU at q
 split at q
 ·obtain ⟨xs,w,h | h,e,q⟩:=q
  ·exact Jh6 value slice pins s σ H _ _ v u Q I rx ry ⟨_,_,_,_,rfl,rfl,h,e,q⟩ hs
  ·exact JiN value slice pins s σ H _ _ v u Q I rx ry ⟨_,_,_,_,rfl,rfl,h,e,q⟩ hs
 ·obtain ⟨c,h1,h2,q⟩:=q
  exact JiM value slice pins s σ H _ _ v u Q I rx ry ⟨_,_,_,rfl,rfl,h1,h2,q⟩ hs
 ·exact q.elim
def rLen (K:PySem.W.Frag):List V→Hp→VK→Prop:=fun xs H Q => match xs with
 | [.ref p] => ∃ ys,SqA K H p ys∧Q (.int ys.length) H
 | [.str z] => z.length ≤ sizeLine∧Q (.int z.length) H
 | _ => False
theorem JaP:CallR X (.builtin "len") (rLen X.K):=fun pins s σ H xs us Q I r q => by
 unfold rLen at q
 split at q
 ·obtain ⟨ys,h,q⟩:=q
  exact JdW pins s σ H _ us Q I r ⟨_,_,rfl,h,q⟩
 ·exact JdX pins s σ H _ us Q I r ⟨_,rfl,q.1,q.2⟩
 ·exact q.elim
def rAbs:List V→Hp→VK→Prop:=fun xs H Q => match xs with
 | [.int i] => Q (.int (if i < 0 then -i else i)) H
 | _ => False
theorem Jb6:CallR X (.builtin "abs") rAbs:=fun pins s σ H xs us Q I r q => by
 unfold rAbs at q
 split at q
 ·exact JgS pins s σ H _ us Q I r ⟨_,rfl,q⟩
 ·exact q.elim
def rMin:List V→Hp→VK→Prop:=fun xs H Q => match xs with
 | [.int i, .int j] => Q (.int (if j < i then j else i)) H
 | _ => False
def isiB (t T:String):Bool:=t == T || (t == "bool" && T == "int")
def tyN (K:PySem.W.Frag) (H:Hp) (x:V) (t:String):Prop:=match x with
 | .int _ => t = "int"
 | .str _ => t = "str"
 | .bl _ => t = "bool"
 | .non => t = "NoneType"
 | .ref a => (t = "list"∧∃ xs,SqL K H a xs) ∨ (t = "tuple"∧∃ xs,SqT K H a xs)
 | _ => False
theorem kit_b (K:PySem.W.Frag) {t T:String} (ht:t ∈ ["int", "str", "bool", "NoneType", "list", "tuple"]) (hT:T ∈ ["int", "str", "bool", "list", "tuple"]):PySem.W.kitOne K (.type t) (.type T) = some (isiB t T):=by
 simp only [List.mem_cons,List.not_mem_nil,or_false] at ht hT
 rcases ht with rfl | rfl | rfl | rfl | rfl | rfl <;> rcases hT with rfl | rfl | rfl | rfl | rfl <;> with_unfolding_all rfl
def rIsi (K:PySem.W.Frag):List V→Hp→VK→Prop:=fun xs H Q => match xs with
 | [x, .ty T] => T ∈ ["int", "str", "bool", "list", "tuple"]∧∃ t,tyN K H x t∧Q (.bl (isiB t T)) H
 | _ => False
theorem Jaw:CallR X (.builtin "isinstance") (rIsi X.K):=fun pins s σ H xs us Q I r q => by
 unfold rIsi at q
 split at q
 ·rename_i x T
  obtain ⟨hT,t,ht,q⟩:=q
  obtain ⟨u,c,rfl,ru,rc⟩:=vals2 r
  obtain rfl:c = Value.type T:=rc
  have fin:∀ tk,EP X pins σ Q (.bool (isiB t T)) { s with toks:=tk }:=fun tk => ⟨V.bl _,H,I.tok tk,rfl,q⟩
  unfold tyN at ht
  split at ht
  ·subst ht; obtain ⟨_,rfl⟩:=ru; exact PySem.W.kia_one PySem.W.kitx_int I.kIn True.intro (kit_b _ (by decide) hT) (fun z => nomatch z) fin
  ·subst ht; obtain ⟨_,rfl⟩:=ru; exact PySem.W.kia_one PySem.W.kitx_str I.kIn True.intro (kit_b _ (by decide) hT) (fun z => nomatch z) fin
  ·subst ht; cases (show u = Value.bool _ from ru); exact PySem.W.kia_one PySem.W.kitx_bool I.kIn True.intro (kit_b _ (by decide) hT) (fun z => nomatch z) fin
  ·subst ht; cases (show u = Value.none from ru); exact PySem.W.kia_one PySem.W.kitx_none I.kIn True.intro (kit_b _ (by decide) hT) (fun z => nomatch z) fin
  ·rename_i a
   cases (show u = Value.ref a from ru)
   rcases ht with ⟨rfl,ys,h⟩ | ⟨rfl,ys,h⟩
   ·obtain ⟨its,_,p,_⟩:=I.list h
    obtain ⟨o,_,h1,h2,_⟩:=p
    exact PySem.W.kia_one PySem.W.kitx_list I.kIn ⟨o,h1,h2⟩ (kit_b _ (by decide) hT) (fun z => nomatch z) fin
   ·obtain ⟨its,_,p,_⟩:=I.tuple h
    obtain ⟨o,h1,h2,_⟩:=p
    exact PySem.W.kia_one PySem.W.kitx_tuple I.kIn ⟨o,h1,h2⟩ (kit_b _ (by decide) hT) (fun z => nomatch z) fin
  ·exact ht.elim
 ·exact q.elim
end
section
variable {X:Cx} {tg:Expr}
def iAny (K:PySem.W.Frag) (tl:TE):TI:=fun σ H R => tl σ H fun x H1 => ∃ a,x = .ref a∧(((∃ xs,SqL K H1 a xs)∧R (Itl K a) H1) ∨ ((∃ xs,SqT K H1 a xs)∧R (Itt K a) H1))
theorem pi_U {l:Expr} {tl:TE} (hl:PE X l tl):PI X tg l (iAny X.K tl):=fun pins s σ H R I h => by
 refine thn (hl pins s σ H _ I h) fun v s1 ⟨x,H1,I1,r1,a,ex,q⟩ => ?_
 subst ex
 cases r1
 rcases q with ⟨⟨xs,hq⟩,q⟩ | ⟨⟨xs,hq⟩,q⟩
 ·obtain ⟨its,rv,p,hz⟩:=I1.list hq
  refine wpAny_pyIter_list p.isList ?_
  refine ⟨s1.heap.objs.size,[s1.heap.objs.size],_,_,H1,rfl,I1.kept (t':=s1.toks) fun b o e => Heap.get?_push_of_some _ e,JgM a _,⟨_,Heap.get?_push_size _ rfl,rfl,rfl⟩,fun b hb => ?_,q⟩
  have e:b = s1.heap.objs.size:=by simpa using hb
  subst e
  exact I1.fpOk (Nat.le_refl _) (I1.hok.fresh (Nat.le_refl _))
 ·obtain ⟨its,rv,p,hz⟩:=I1.tuple hq
  refine wpAny_pyIter_tuple (show s1.heap.IsTuple a its.toArray from p) ?_
  refine ⟨s1.heap.objs.size,[s1.heap.objs.size],_,_,H1,rfl,I1.kept (t':=s1.toks) fun b o e => Heap.get?_push_of_some _ e,JfJ a _,⟨_,Heap.get?_push_size _ rfl,rfl,rfl⟩,fun b hb => ?_,q⟩
  have e:b = s1.heap.objs.size:=by simpa using hb
  subst e
  exact I1.fpOk (Nat.le_refl _) (I1.hok.fresh (Nat.le_refl _))
end
structure FunD (K:PySem.W.Frag) (x qual:Str) (st:Stmt) (dV:Value) (f:Addr) (fd:FuncData):Prop where
 ex:∃ (oc:Value) (od:Option Addr) (kV doc pm:Value) (an:Option Addr) (cdv ct:Value) (osl:Array (Option Value)),
  fd = PySem.W.fnOf x qual (Jam st) (Jal st) (Jaf st) dV kV doc pm an cdv ct∧K.lookup f = some ⟨oc,od, .func fd,osl⟩∧PySem.W.codeIn K cdv qual = true
 kp:PySem.W.keepIn K (.ref f) = true
section
variable {P:Program} {w:World} {K:PySem.W.Frag} {mg:Str→Option Value} {base:Heap}
theorem FunD.okn {x qual:Str} {st:Stmt} {dV:Value} {f:Addr} {fd:FuncData} {N ps:List Str} {k:Nat} {sp:Sp} (F:FunD K x qual st dV f fd) (S:Jan N ps (Jaf st)) (len:∀ vs H Q E,sp vs H Q E→vs.length = ps.length)
  (hbody:∀ (cdv:Value) (A:Around) (outer:List Env) (s:Shared) (H:Hp) (vs:List V) (Q:VK) (E:XK),Room k (A.deeper (envOfC qual (Jaf st) s.heap.objs.size f cdv))→sp vs H Q E →
   ∃ t,PSs (cxOf (CX1 P w) P w K mg base N qual (Jaf st) f cdv A outer s H E).nox (Jal st) t∧t { nx:=fun _ H' => Q .non H',rt:=Q } (start N vs) H):FnOk P w K mg base (CX1 P w) (k + 1) f fd ps sp:=by
 obtain ⟨oc,od,kV,doc,pm,an,cdv,ct,osl,rfl,lk,hcd⟩:=F.ex
 refine fn_of lk hcd S len fun A outer s H vs Q E hr hsp => ?_
 obtain ⟨t,h,q⟩:=hbody cdv A outer s H vs Q E hr hsp
 exact ⟨t,h.nox,q⟩
theorem FunD.okx {x qual:Str} {st:Stmt} {dV:Value} {f:Addr} {fd:FuncData} {N ps:List Str} {k:Nat} {sp:Sp} (F:FunD K x qual st dV f fd) (S:Jan N ps (Jaf st)) (len:∀ vs H Q E,sp vs H Q E→vs.length = ps.length)
  (hbody:∀ (cdv:Value) (A:Around) (outer:List Env) (s:Shared) (H:Hp) (vs:List V) (Q:VK) (E:XK),Room k (A.deeper (envOfC qual (Jaf st) s.heap.objs.size f cdv))→sp vs H Q E →
   ∃ t,PSs (cxOf (CX1 P w) P w K mg base N qual (Jaf st) f cdv A outer s H E) (Jal st) t∧t { nx:=fun _ H' => Q .non H',rt:=Q } (start N vs) H):FnOk P w K mg base (CX1 P w) (k + 1) f fd ps sp:=by
 obtain ⟨oc,od,kV,doc,pm,an,cdv,ct,osl,rfl,lk,hcd⟩:=F.ex
 exact fn_of lk hcd S len fun A outer s H vs Q E hr hsp => hbody cdv A outer s H vs Q E hr hsp
theorem FunD.binds {x qual:Str} {st:Stmt} {dV:Value} {f:Addr} {fd:FuncData} {ps:List Str} (F:FunD K x qual st dV f fd)
  (h:∀ (kV doc pm:Value) (an:Option Addr) (cdv ct:Value) (us:List Value),us.length = ps.length→bindArgs (PySem.W.fnOf x qual (Jam st) (Jal st) (Jaf st) dV kV doc pm an cdv ct) ⟨us,[]⟩ = pure (ps.zip us)):Binds K fd ps []:=by
 obtain ⟨oc,od,kV,doc,pm,an,cdv,ct,osl,rfl,lk,hcd⟩:=F.ex
 exact .all (h kV doc pm an cdv ct)
theorem Jar {x qual:Str} {st:Stmt} {dV:Value} {f:Addr} {oc:Value} {od an:Option Addr} {osl:Array (Option Value)} {kV doc pm cdv ct:Value} (l:K.lookup f = some ⟨oc,od, .func (PySem.W.fnOf x qual (Jam st) (Jal st) (Jaf st) dV kV doc pm an cdv ct),osl⟩)
  (c:PySem.W.codeIn K cdv qual = true) (k:PySem.W.keepIn K (.ref f) = true):FunD K x qual st dV f (PySem.W.fnOf x qual (Jam st) (Jal st) (Jaf st) dV kV doc pm an cdv ct):=⟨⟨oc,od,kV,doc,pm,an,cdv,ct,osl,rfl,l,c⟩,k⟩
end
structure Cal (P:Program) (w:World) (K:PySem.W.Frag) (mg:Str→Option Value) (base:Heap) (k:Nat) (x:Str) (ps:List Str) (dvs:List V) (sp:Sp):Prop where
 ex:∃ (f:Addr) (fd:FuncData) (ds:List Value),FnOk P w K mg base (CX1 P w) k f fd ps sp∧mg x = some (.ref f)∧PySem.W.keepIn K (.ref f) = true∧Binds K fd ps ds∧Vals dvs ds
section
variable {X:Cx} {k k':Nat} {x:Str} {ps:List Str} {dvs:List V} {sp:Sp} {E:XK} {p pos:Pos} {e:Expr} {es:List Expr} {t:TA}
theorem Cal.ev (G:Cal X.prog X.w X.K X.mg X.base k x ps dvs sp) (hr:Room k' X.A) (hk:k ≤ k') (hg:Gl X x) (hx:JbW (CX1 X.prog X.w) X E) (ha:PA X (e :: es) t)
  (hdb:(x == ("__debug__" : Str)) = false:=by decide) (he:starEach (e :: es) X.env = (false,eval e X.env) :: starEach es X.env:=by rfl) (hpl:(backTo pos (starEach es X.env)).any (·.1) = false:=by rfl) :
  PE X (.Call (.Name x p) (e :: es) [] pos) (tCall sp dvs E t):=by
 obtain ⟨f,fd,ds,F,hm,kp,hb,hd⟩:=G.ex
 exact Jik F (hr.mono hk) hg hm kp hb hd hx ha hdb he hpl
end
end L2
namespace Mth
def g (a b:Int):Int:=(Int.gcd a b:Nat)
theorem Jhz (a:Int):g a 0 = (a.natAbs:Int):=by unfold g; rw [Int.gcd_zero_right]
theorem g_pos {a b:Int} (h:b ≠ 0):0 < g a b:=by
 unfold g
 exact Int.natCast_pos.mpr (Int.gcd_pos_of_ne_zero_right a h)
theorem JcF (a b:Int):g a b ∣ a:=Int.gcd_dvd_left ..
theorem Jb7 (a b:Int):g a b ∣ b:=Int.gcd_dvd_right ..
theorem JiJ (a b:Int):g b (a % b) = g a b:=by
 unfold g
 rw [Int.gcd_comm b (a % b)]
 first
  | rw [Int.gcd_emod_left]
  | (rw [Int.emod_def]; simp [Int.gcd_comm])
theorem BbP (a b:Int):g (if a < 0 then -a else a) (if b < 0 then -b else b) = g a b:=by
 unfold g
 split <;> split <;> simp [Int.neg_gcd,Int.gcd_neg]
theorem Je3 (a:Int):0 ≤ (if a < 0 then -a else a):=by split <;> omega
theorem g_le {a b:Int} (h:b ≠ 0):g a b ≤ (b.natAbs:Int):=by
 unfold g
 exact Int.ofNat_le.mpr (Nat.le_of_dvd (by omega) (Int.natAbs_dvd_natAbs.mpr (by simpa using Int.gcd_dvd_right (a:=a) (b:=b)) |> fun z => by simpa using z))
theorem fm {x y:Int} (h:0 < y):0 ≤ x.fmod y∧x.fmod y < y:=by
 rw [Int.fmod_eq_emod_of_nonneg _ (by omega)]
 exact ⟨Int.emod_nonneg _ (by omega),Int.emod_lt_of_pos _ h⟩
theorem Jf4 {x y:Int} (h:0 < y):g y (x.fmod y) = g x y:=by
 rw [Int.fmod_eq_emod_of_nonneg _ (by omega)]
 exact JiJ x y
def by_ (t b:Int):Int:=if b < 0 then -(g t b) else g t b
def top (t b:Int):Int:=t.fdiv (by_ t b)
def bot (t b:Int):Int:=b.fdiv (by_ t b)
theorem by_ne {t b:Int} (h:b ≠ 0):by_ t b ≠ 0:=by
 have:=g_pos (a:=t) h
 unfold by_; split <;> omega
theorem JhW (t b:Int):by_ t b ∣ t:=by
 unfold by_; split
 ·exact Int.neg_dvd.mpr (JcF t b)
 ·exact JcF t b
theorem JhX (t b:Int):by_ t b ∣ b:=by
 unfold by_; split
 ·exact Int.neg_dvd.mpr (Jb7 t b)
 ·exact Jb7 t b
theorem JaU {a d:Int} (h:d ∣ a) (hd:d ≠ 0):a.fdiv d * d = a:=by
 obtain ⟨k,rfl⟩:=h
 rw [Int.mul_comm d k,Int.mul_fdiv_cancel _ hd]
theorem Je1 {t b:Int} (h:b ≠ 0):top t b * by_ t b = t:=JaU (JhW t b) (by_ne h)
theorem Jdq {t b:Int} (h:b ≠ 0):bot t b * by_ t b = b:=JaU (JhX t b) (by_ne h)
theorem Jbg {t b:Int} (h:b ≠ 0):1 ≤ bot t b:=by
 have h1:=Jdq (t:=t) h
 have h2:=g_pos (a:=t) h
 by_cases hb:b < 0
 ·have e:by_ t b = -(g t b):=by unfold by_; rw [if_pos hb]
  rw [e] at h1
  have h3:bot t b * g t b = -b:=by rw [Int.mul_neg] at h1; omega
  rcases Int.lt_trichotomy (bot t b) 0 with z | z | z
  ·have:=Int.mul_neg_of_neg_of_pos z h2; omega
  ·rw [z] at h3; omega
  ·omega
 ·have e:by_ t b = g t b:=by unfold by_; rw [if_neg hb]
  rw [e] at h1
  rcases Int.lt_trichotomy (bot t b) 0 with z | z | z
  ·have:=Int.mul_neg_of_neg_of_pos z h2; omega
  ·rw [z] at h1; omega
  ·omega
theorem cross {t b:Int} (h:b ≠ 0):top t b * b = t * bot t b:=by
 have h1:=Je1 (t:=t) h
 have h2:=Jdq (t:=t) h
 calc top t b * b = top t b * (bot t b * by_ t b):=by rw [h2]
  _ = (top t b * by_ t b) * bot t b:=by rw [Int.mul_comm (bot t b),Int.mul_assoc]
  _ = t * bot t b:=by rw [h1]
theorem Jgl (t b:Int):(by_ t b).natAbs = Int.gcd t b:=by
 unfold by_ g; split <;> simp
theorem g_low {t b:Int} (h:b ≠ 0):g (top t b) (bot t b) = 1:=by
 have hg:0 < Int.gcd t b:=Int.gcd_pos_of_ne_zero_right t h
 have e:Int.gcd (top t b * by_ t b) (bot t b * by_ t b) = Int.gcd (top t b) (bot t b) * (by_ t b).natAbs:=Int.gcd_mul_right ..
 rw [Je1 h,Jdq h,Jgl] at e
 have : Int.gcd (top t b) (bot t b) = 1:=by
  rcases Nat.lt_trichotomy (Int.gcd (top t b) (bot t b)) 1 with z | z | z
  ·have : Int.gcd (top t b) (bot t b) = 0:=by omega
   rw [this] at e; omega
  ·exact z
  ·have:=Nat.mul_le_mul_right (Int.gcd t b) z
   omega
 unfold g; rw [this]; rfl
theorem Jda {a b d:Int} (g1:Int.gcd a b = 1) (h:b ∣ a * d):b ∣ d:=by
 have h':b.natAbs ∣ a.natAbs * d.natAbs:=by rw [← Int.natAbs_mul]; exact Int.natAbs_dvd_natAbs.mpr h
 have c:Nat.Coprime b.natAbs a.natAbs:=by
  unfold Nat.Coprime
  rw [Nat.gcd_comm]
  exact g1
 exact Int.natAbs_dvd_natAbs.mp (c.dvd_of_dvd_mul_left h')
theorem Jdh {a b c d:Int} (hb:1 ≤ b) (hd:1 ≤ d) (h1:g a b = 1) (h2:g c d = 1) (e:a * d = c * b):a = c∧b = d:=by
 have g1:Int.gcd a b = 1:=by unfold g at h1; omega
 have g2:Int.gcd c d = 1:=by unfold g at h2; omega
 have d1:b ∣ d:=by
  have : b ∣ a * d:=⟨c,by rw [e,Int.mul_comm]⟩
  exact Jda g1 this
 have d2:d ∣ b:=by
  have : d ∣ c * b:=⟨a,by rw [← e,Int.mul_comm]⟩
  exact Jda g2 this
 have eb:b = d:=Int.dvd_antisymm (by omega) (by omega) d1 d2
 subst eb
 refine ⟨?_,rfl⟩
 exact Int.eq_of_mul_eq_mul_right (by omega) e
theorem Jjl {t b:Int} (h:b ≠ 0):(top t b).natAbs ≤ t.natAbs:=by
 have h1:=Je1 (t:=t) h
 have h2:(by_ t b).natAbs ≠ 0:=by have:=by_ne (t:=t) h; omega
 have h3:=congrArg Int.natAbs h1
 rw [Int.natAbs_mul] at h3
 rw [← h3]
 exact Nat.le_mul_of_pos_right _ (by omega)
theorem bot_le {t b:Int} (h:b ≠ 0):(bot t b).natAbs ≤ b.natAbs:=by
 have h1:=Jdq (t:=t) h
 have h2:(by_ t b).natAbs ≠ 0:=by have:=by_ne (t:=t) h; omega
 have h3:=congrArg Int.natAbs h1
 rw [Int.natAbs_mul] at h3
 calc (bot t b).natAbs ≤ (bot t b).natAbs * (by_ t b).natAbs:=Nat.le_mul_of_pos_right _ (by omega)
  _ = b.natAbs:=h3
theorem Jia {n k:Nat} (h:n < 2 ^ k) (hk:k < 9000):n.log2 < 9000:=by
 by_cases z:n = 0
 ·rw [z]; decide
 ·exact Nat.lt_trans ((Nat.log2_lt z).mpr h) hk
def Sz (n:Nat) (i:Int):Prop:=i.natAbs < 2 ^ n
theorem Sz.mono {m n:Nat} {i:Int} (h:Sz m i) (k:m ≤ n):Sz n i:=Nat.lt_of_lt_of_le h (Nat.pow_le_pow_right (by decide) k)
theorem Sz.mul {m n:Nat} {i j:Int} (h:Sz m i) (k:Sz n j):Sz (m + n) (i * j):=by
 unfold Sz at *
 rw [Int.natAbs_mul,Nat.pow_add]
 exact Nat.mul_lt_mul'' h k
theorem Sz.add {n:Nat} {i j:Int} (h:Sz n i) (k:Sz n j):Sz (n + 1) (i + j):=by
 unfold Sz at *
 have:=Int.natAbs_add_le i j
 rw [Nat.pow_succ]
 omega
theorem Sz.neg {n:Nat} {i:Int} (h:Sz n i):Sz n (-i):=by
 unfold Sz at *
 rw [Int.natAbs_neg]
 exact h
theorem Sz.top {n:Nat} {t b:Int} (hb:b ≠ 0) (h:Sz n t):Sz n (Mth.top t b):=Nat.lt_of_le_of_lt (Jjl hb) h
theorem Sz.bot {n:Nat} {t b:Int} (hb:b ≠ 0) (h:Sz n b):Sz n (Mth.bot t b):=Nat.lt_of_le_of_lt (bot_le hb) h
theorem Sz.lit {n:Nat} {i:Int} (h1 : -(2 ^ n) < i) (h2:i < 2 ^ n):Sz n i:=by
 unfold Sz
 have e:((2 ^ n:Nat):Int) = 2 ^ n:=by simp
 omega
end Mth
namespace Mth
theorem Jfd {a b:Int} (h:g a b = 1):Int.gcd a b = 1:=by unfold g at h; omega
theorem Jg0 {a b:Int} (h:Int.gcd a b = 1):g a b = 1:=by unfold g; rw [h]; rfl
theorem Jds {t x y:Int} (h1:Int.gcd t x = 1) (h2:Int.gcd t y = 1):Int.gcd t (x * y) = 1:=by
 unfold Int.gcd at *
 rw [Int.natAbs_mul]
 exact Nat.Coprime.mul_right h1 h2
theorem Jc8 {x y:Int} (h:∀ k:Int,k ∣ x→k ∣ y→k ∣ 1):Int.gcd x y = 1:=by
 have:=h (Int.gcd x y:Nat) (Int.gcd_dvd_left ..) (Int.gcd_dvd_right ..)
 have z:=Int.natAbs_dvd_natAbs.mpr this
 simp at z
 exact z
theorem Jdb {k x y:Int} (h:Int.gcd x y = 1) (h1:k ∣ x) (h2:k ∣ y):k ∣ 1:=by
 have z:=Int.dvd_coe_gcd h1 h2
 rw [h] at z
 exact z
theorem Jdt {t u x:Int} (h:Int.gcd t x = 1) (d:u ∣ t):Int.gcd u x = 1:=Jc8 fun k h1 h2 => Jdb h (Int.dvd_trans h1 d) h2
theorem Jbv {x y:Int} (h:Int.gcd x y = 1):Int.gcd y x = 1:=by rw [Int.gcd_comm]; exact h
theorem JfM {a b c d:Int} (h1:Int.gcd a b = 1) (h2:Int.gcd d b = 1):Int.gcd (a * d + c * b) b = 1:=by
 have : Int.gcd b (a * d) = 1:=Jds (Jbv h1) (Jbv h2)
 refine Jc8 fun k q1 q2 => Jdb this q2 ?_
 have : k ∣ (a * d + c * b) - c * b:=Int.dvd_sub q1 (Int.dvd_mul_of_dvd_right q2)
 have e:(a * d + c * b) - c * b = a * d:=by omega
 rwa [e] at this
theorem Jcs {a d:Int} (h:d ∣ a) (hd:1 ≤ d) (ha:1 ≤ a):1 ≤ a.fdiv d:=by
 have e:=JaU h (by omega)
 rcases Int.lt_trichotomy (a.fdiv d) 0 with z | z | z
 ·have:=Int.mul_neg_of_neg_of_pos z (show 0 < d by omega); omega
 ·rw [z] at e; omega
 ·omega
theorem Je6 {b d s:Int} (hs:s = g b d) (p:1 ≤ s):Int.gcd (b.fdiv s) (d.fdiv s) = 1:=by
 have e1:b.fdiv s * s = b:=JaU (by rw [hs]; exact JcF ..) (by omega)
 have e2:d.fdiv s * s = d:=JaU (by rw [hs]; exact Jb7 ..) (by omega)
 have e:Int.gcd (b.fdiv s * s) (d.fdiv s * s) = Int.gcd (b.fdiv s) (d.fdiv s) * s.natAbs:=Int.gcd_mul_right ..
 rw [e1,e2] at e
 have sn:Int.gcd b d = s.natAbs:=by rw [hs]; unfold g; simp
 rw [sn] at e
 rcases Nat.lt_trichotomy (Int.gcd (b.fdiv s) (d.fdiv s)) 1 with z | z | z
 ·have : Int.gcd (b.fdiv s) (d.fdiv s) = 0:=by omega
  rw [this] at e; omega
 ·exact z
 ·have:=Nat.mul_le_mul_right s.natAbs z
  omega
theorem Jip {a b c d:Int} (hb:1 ≤ b) (hd:1 ≤ d) (h1:g a b = 1) (h2:g c d = 1) {s t r:Int} (hs:s = g b d) (ht:t = a * d.fdiv s + c * b.fdiv s) (hr:r = g t s) :
  t.fdiv r = top (a * d + c * b) (b * d)∧b.fdiv s * d.fdiv r = bot (a * d + c * b) (b * d):=by
 have sp:1 ≤ s:=by rw [hs]; have:=g_pos (a:=b) (b:=d) (by omega); omega
 have rp:1 ≤ r:=by rw [hr]; have:=g_pos (a:=t) (b:=s) (by omega); omega
 have sb:s ∣ b:=by rw [hs]; exact JcF ..
 have sd:s ∣ d:=by rw [hs]; exact Jb7 ..
 have rt:r ∣ t:=by rw [hr]; exact JcF ..
 have rs:r ∣ s:=by rw [hr]; exact Jb7 ..
 have rd:r ∣ d:=Int.dvd_trans rs sd
 have eb:=JaU sb (by omega)
 have ed:=JaU sd (by omega)
 have et:=JaU rt (by omega)
 have er:=JaU rd (by omega)
 have es:=JaU rs (by omega)
 have bp:=Jcs sb sp hb
 have dp:=Jcs sd sp hd
 have drp:=Jcs rd rp hd
 have cbd:=Je6 hs sp
 have crs:Int.gcd (t.fdiv r) (s.fdiv r) = 1:=Je6 hr rp
 have edr:d.fdiv r = d.fdiv s * s.fdiv r:=by
  refine Int.eq_of_mul_eq_mul_right (a:=r) (by omega) ?_
  rw [er,Int.mul_assoc,es,ed]
 have ca:Int.gcd a (b.fdiv s) = 1:=Jbv (Jdt (Jbv (Jfd h1)) ⟨s,eb.symm⟩)
 have cc:Int.gcd c (d.fdiv s) = 1:=Jbv (Jdt (Jbv (Jfd h2)) ⟨s,ed.symm⟩)
 have tb:Int.gcd t (b.fdiv s) = 1:=by rw [ht]; exact JfM ca (Jbv cbd)
 have td:Int.gcd t (d.fdiv s) = 1:=by rw [ht,Int.add_comm]; exact JfM cc cbd
 have low:g (t.fdiv r) (b.fdiv s * d.fdiv r) = 1:=Jg0 (by
  rw [edr]
  have k:t.fdiv r ∣ t:=⟨r,et.symm⟩
  exact Jds (Jdt tb k) (Jds (Jdt td k) crs))
 have bd0:b * d ≠ 0:=Int.mul_ne_zero (by omega) (by omega)
 have lowu:=g_low (t:=a * d + c * b) bd0
 have posu:=Jbg (t:=a * d + c * b) bd0
 have cru:=cross (t:=a * d + c * b) bd0
 have pos:1 ≤ b.fdiv s * d.fdiv r:=by
  have:=Int.mul_pos (show 0 < b.fdiv s by omega) (show 0 < d.fdiv r by omega)
  omega
 have en:t * s = a * d + c * b:=by
  rw [ht,Int.add_mul,Int.mul_assoc,Int.mul_assoc,ed,eb]
 have cr:t.fdiv r * (b * d) = (a * d + c * b) * (b.fdiv s * d.fdiv r):=by
  have e1:(t.fdiv r * (b * d)) * r = ((a * d + c * b) * (b.fdiv s * d.fdiv r)) * r:=by
   calc (t.fdiv r * (b * d)) * r = (t.fdiv r * r) * (b * d):=by ac_rfl
    _ = t * ((b.fdiv s * s) * d):=by rw [et,eb]
    _ = (t * s) * (b.fdiv s * d):=by ac_rfl
    _ = (a * d + c * b) * (b.fdiv s * (d.fdiv r * r)):=by rw [en,er]
    _ = ((a * d + c * b) * (b.fdiv s * d.fdiv r)) * r:=by ac_rfl
  exact Int.eq_of_mul_eq_mul_right (by omega) e1
 refine Jdh pos posu low lowu ?_
 refine Int.eq_of_mul_eq_mul_right (a:=b * d) bd0 ?_
 calc (t.fdiv r * bot (a * d + c * b) (b * d)) * (b * d) = (t.fdiv r * (b * d)) * bot (a * d + c * b) (b * d):=by ac_rfl
  _ = ((a * d + c * b) * bot (a * d + c * b) (b * d)) * (b.fdiv s * d.fdiv r):=by rw [cr]; ac_rfl
  _ = (top (a * d + c * b) (b * d) * (b * d)) * (b.fdiv s * d.fdiv r):=by rw [cru]
  _ = (top (a * d + c * b) (b * d) * (b.fdiv s * d.fdiv r)) * (b * d):=by ac_rfl
theorem Jh4 {a d:Int} (h:d ∣ a) (hd:1 ≤ d):(a.fdiv d).natAbs ≤ a.natAbs:=by
 have e:=congrArg Int.natAbs (JaU h (show d ≠ 0 by omega))
 rw [Int.natAbs_mul] at e
 calc (a.fdiv d).natAbs ≤ (a.fdiv d).natAbs * d.natAbs:=Nat.le_mul_of_pos_right _ (by omega)
  _ = a.natAbs:=e
theorem Sz.fdiv {n:Nat} {a d:Int} (h:Sz n a) (k:d ∣ a) (hd:1 ≤ d):Sz n (a.fdiv d):=Nat.lt_of_le_of_lt (Jh4 k hd) h
theorem g_neg {a b:Int}:g (-a) b = g a b:=by unfold g; simp [Int.neg_gcd]
end Mth
namespace Mth
end Mth
namespace L2
open PySem PySem.Spec PyProof.Rows
section
variable {D:Ends} {σ : St} {H:Hp} {Q:VK} {t u:TS} {ta tb te:TE} {g:TG} {tA:TA} {r:R2} {E:XK} {sp:Sp} {K:PySem.W.Frag}
theorem y85y:tSeq t u D σ H = t { D with nx:=u D } σ H:=rfl
theorem y74y:tNext D σ H = D.nx σ H:=rfl
theorem y2by:tAsg te g D σ H = te σ H fun x H1 => g x σ H1 D.nx:=rfl
theorem y6fy {i:Nat} {v:V} {R:St→Hp→Prop}:gName i v σ H R = R (σ.set i (some v)) H:=rfl
theorem y82y:tRet te D σ H = te σ H D.rt:=rfl
theorem y83y:tRetN D σ H = D.rt .non H:=rfl
theorem y47y:tDrop te D σ H = te σ H fun _ H1 => D.nx σ H1:=rfl
theorem y2ey {v:V}:tC v σ H Q = Q v H:=rfl
theorem y7by:tOp r ta tb σ H Q = ta σ H fun x H1 => tb σ H1 fun y H2 => r x y H2 Q:=rfl
theorem y95y {f:V→Hp→VK→Prop}:tUn f ta σ H Q = ta σ H fun x H1 => f x H1 Q:=rfl
theorem y30y {f:List V→Hp→VK→Prop}:tCB f tA σ H Q = tA σ H fun vs H1 => f vs H1 Q:=rfl
theorem y3cy {R:List V→Hp→Prop}:tCons ta tA σ H R = ta σ H fun x H1 => tA σ H1 fun xs H2 => R (x :: xs) H2:=rfl
theorem y75y {R:List V→Hp→Prop}:tNil σ H R = R [] H:=rfl
theorem y2fy {dvs:List V}:tCall sp dvs E tA σ H Q = tA σ H fun vs H1 => sp (vs ++ dvs) H1 Q E:=rfl
theorem y8by {R:Bool→Hp→Prop}:tTest te σ H R = te σ H fun x H' => ∃ k,x = .bl k∧R k H':=rfl
theorem y23y {R:Bool→Hp→Prop}:tB te σ H R = te σ H fun x H' => ∃ k,x = .bl k∧R k H':=rfl
theorem y29y {a b:TT} {R:Bool→Hp→Prop}:tAnd a b σ H R = a σ H fun c H1 => if c = true then b σ H1 R else R false H1:=rfl
theorem y7cy {a b:TT} {R:Bool→Hp→Prop}:tOr a b σ H R = a σ H fun c H1 => if c = true then R true H1 else b σ H1 R:=rfl
theorem y77y {a:TT} {R:Bool→Hp→Prop}:tNot a σ H R = a σ H fun c H1 => R (!c) H1:=rfl
theorem y2ay:tAndV ta tb σ H Q = ta σ H fun x H1 => ∃ c,x = .bl c∧if c = true then tb σ H1 Q else Q (.bl false) H1:=rfl
theorem y7dy:tOrV ta tb σ H Q = ta σ H fun x H1 => ∃ c,x = .bl c∧if c = true then Q (.bl true) H1 else tb σ H1 Q:=rfl
theorem y79y:tNotV ta σ H Q = ta σ H fun x H1 => ∃ c,x = .bl c∧Q (.bl (!c)) H1:=rfl
theorem y5dy {c:TT}:tIfS c t u D σ H = c σ H fun b H1 => if b = true then t D σ H1 else u D σ H1:=rfl
theorem y97y {i:Nat}:tVar i σ H Q = ∃ v, σ[i]? = some (some v)∧Q v H:=rfl
theorem y26y {i j:Int}:rAddU K (.int i) (.int j) H Q = Q (.int (i + j)) H:=rfl
theorem y27y {i j:Str}:rAddU K (.str i) (.str j) H Q = (i.length + j.length ≤ sizeLine∧Q (.str (i ++ j)) H):=rfl
theorem y89y {f:Int→Int→V} {i j:Int}:rI0 f (.int i) (.int j) H Q = Q (f i j) H:=by
 unfold rI0; simp
theorem y73y {f:Int→V} {i:Int}:rU f (.int i) H Q = Q (f i) H:=by
 unfold rU; simp
theorem y6cy {i j:Int}:rMulU (.int i) (.int j) H Q = (IntMulOk i j∧Q (.int (i * j)) H):=rfl
theorem y4cy {i j:Int}:JgB (.int i) (.int j) H Q = (DivOk j∧Q (.int (i.fdiv j)) H):=rfl
theorem y6by {i j:Int}:rModU (.int i) (.int j) H Q = (j ≠ 0∧Q (.int (i.fmod j)) H):=rfl
theorem y80y {i j:Int}:rPowU (.int i) (.int j) H Q = (CPow i j∧Q (.int (i ^ j.toNat)) H):=rfl
theorem y33y {p:Int→Int→Bool} {i j:Int}:rCmpU p (.int i) (.int j) H Q = Q (.bl (p i j)) H:=rfl
theorem y4ay {i j:Int}:rEqU K (.int i) (.int j) H Q = Q (.bl (decide (i = j))) H:=rfl
theorem y71y {i j:Int}:rNeU K (.int i) (.int j) H Q = Q (.bl (!decide (i = j))) H:=rfl
theorem y4by {i j:Str}:rEqU K (.str i) (.str j) H Q = Q (.bl (decide (i = j))) H:=rfl
theorem y72y {i j:Str}:rNeU K (.str i) (.str j) H Q = Q (.bl (!decide (i = j))) H:=rfl
theorem y49y {i j:Bool}:rEqU K (.bl i) (.bl j) H Q = Q (.bl (decide (i = j))) H:=rfl
theorem y70y {i j:Bool}:rNeU K (.bl i) (.bl j) H Q = Q (.bl (!decide (i = j))) H:=rfl
theorem y90y:tTup tA σ H Q = tA σ H fun xs H1 => xs.length ≤ sizeLine∧∀ p,H1 p = none→Q (.ref p) (upd H1 p (.tup xs)):=rfl
theorem y67y:tLst tA σ H Q = tA σ H fun xs H1 => xs.length ≤ sizeLine∧∀ p,H1 p = none→Q (.ref p) (upd H1 p (.lst xs)):=rfl
theorem y63y {x:V} {T:String}:rIsi K [x, .ty T] H Q = (T ∈ ["int", "str", "bool", "list", "tuple"]∧∃ t,tyN K H x t∧Q (.bl (isiB t T)) H):=rfl
theorem y25y {i:Int}:rAbs [.int i] H Q = Q (.int (if i < 0 then -i else i)) H:=rfl
theorem y6ay {i j:Int}:rMin [.int i, .int j] H Q = Q (.int (if j < i then j else i)) H:=rfl
theorem y92y {i:Int} {s:String}:tyN K H (.int i) s = (s = "int"):=rfl
theorem y94y {i:Str} {s:String}:tyN K H (.str i) s = (s = "str"):=rfl
theorem y91y {i:Bool} {s:String}:tyN K H (.bl i) s = (s = "bool"):=rfl
theorem y93y {s:String}:tyN K H .non s = (s = "NoneType"):=rfl
end
theorem Je4:bootBuiltins "abs" = some (.builtin "abs"):=by decide +kernel
theorem JbE:bootBuiltins "len" = some (.builtin "len"):=by decide +kernel
theorem JcD:bootBuiltins "sorted" = some (.builtin "sorted"):=by decide +kernel
theorem JaD:bootBuiltins "isinstance" = some (.builtin "isinstance"):=by decide +kernel
theorem JiC:bootBuiltins "all" = some (.builtin "all"):=by decide +kernel
theorem JiD:bootBuiltins "int" = some (.type "int"):=by decide +kernel
theorem JiE:bootBuiltins "str" = some (.type "str"):=by decide +kernel
theorem JhV:bootBuiltins "bool" = some (.type "bool"):=by decide +kernel
theorem JcC:bootBuiltins "list" = some (.type "list"):=by decide +kernel
theorem Jcr:bootBuiltins "tuple" = some (.type "tuple"):=by decide +kernel
theorem Jet:bootBuiltins "reversed" = some (.type "reversed"):=by decide +kernel
theorem Jhu:bootBuiltins "set" = some (.type "set"):=by decide +kernel
theorem yby:isiB "int" "int" = true:=by decide
theorem ydy:isiB "int" "str" = false:=by decide
theorem yay:isiB "int" "bool" = false:=by decide
theorem ycy:isiB "int" "list" = false:=by decide
theorem yey:isiB "int" "tuple" = false:=by decide
theorem y15y:isiB "str" "int" = false:=by decide
theorem y17y:isiB "str" "str" = true:=by decide
theorem y14y:isiB "str" "bool" = false:=by decide
theorem y16y:isiB "str" "list" = false:=by decide
theorem y18y:isiB "str" "tuple" = false:=by decide
theorem y6y:isiB "bool" "int" = true:=by decide
theorem y8y:isiB "bool" "str" = false:=by decide
theorem y5y:isiB "bool" "bool" = true:=by decide
theorem y7y:isiB "bool" "list" = false:=by decide
theorem y9y:isiB "bool" "tuple" = false:=by decide
theorem y1y:isiB "NoneType" "int" = false:=by decide
theorem y3y:isiB "NoneType" "str" = false:=by decide
theorem y0y:isiB "NoneType" "bool" = false:=by decide
theorem y2y:isiB "NoneType" "list" = false:=by decide
theorem y4y:isiB "NoneType" "tuple" = false:=by decide
theorem y10y:isiB "list" "int" = false:=by decide
theorem y12y:isiB "list" "str" = false:=by decide
theorem yfy:isiB "list" "bool" = false:=by decide
theorem y11y:isiB "list" "list" = true:=by decide
theorem y13y:isiB "list" "tuple" = false:=by decide
theorem y1ay:isiB "tuple" "int" = false:=by decide
theorem y1cy:isiB "tuple" "str" = false:=by decide
theorem y19y:isiB "tuple" "bool" = false:=by decide
theorem y1by:isiB "tuple" "list" = false:=by decide
theorem y1dy:isiB "tuple" "tuple" = true:=by decide
theorem y1fy:("int" ∈ ["int", "str", "bool", "list", "tuple"]) = True:=by simp
theorem y21y:("str" ∈ ["int", "str", "bool", "list", "tuple"]) = True:=by simp
theorem y1ey:("bool" ∈ ["int", "str", "bool", "list", "tuple"]) = True:=by simp
theorem y20y:("list" ∈ ["int", "str", "bool", "list", "tuple"]) = True:=by simp
theorem y22y:("tuple" ∈ ["int", "str", "bool", "list", "tuple"]) = True:=by simp
theorem y24y {CX:CXT} {P:Program} {w:World} {K:PySem.W.Frag} {mg:Str→Option Value} {base:Heap} {N:List Str} {qual:Str} {scope:Scope} {f:Addr} {cd:Value} {A:Around} {outer:List Env} {s:Shared} {H:Hp} {E:XK}:(cxOf CX P w K mg base N qual scope f cd A outer s H E).K = K:=rfl
def ForR (lo:Int) (n:Nat) (g:TG) (tb:TS) (D:Ends) (σ : St) (H:Hp):Prop:=∃ W:Nat→Nat→St→Hp→Prop,(∃ m,W 0 m σ H)∧∀ i m σ H,W i m σ H →
 ((Itr lo n).stop i H∧D.nx σ H) ∨ ((Itr lo n).go i H∧∃ N:St→Hp→Prop,(∀ σ' H',N σ' H'→∃ m',m' < m∧W (i + 1) m' σ' H')∧∀ x H',(Itr lo n).yld i H x H'→g x σ H' fun σ2 H2 => tb { D with nx:=N,ct:=N,bk:=D.nx } σ2 H2)
def ForA (K:PySem.W.Frag) (a:Addr) (g:TG) (tb:TS) (D:Ends) (σ : St) (H:Hp):Prop :=
 ((∃ xs,SqL K H a xs)∧∃ W:Nat→Nat→St→Hp→Prop,(∃ m,W 0 m σ H)∧∀ i m σ H,W i m σ H →
  ((Itl K a).stop i H∧D.nx σ H) ∨ ((Itl K a).go i H∧∃ N:St→Hp→Prop,(∀ σ' H',N σ' H'→∃ m',m' < m∧W (i + 1) m' σ' H')∧∀ x H',(Itl K a).yld i H x H'→g x σ H' fun σ2 H2 => tb { D with nx:=N,ct:=N,bk:=D.nx } σ2 H2)) ∨
 ((∃ xs,SqT K H a xs)∧∃ W:Nat→Nat→St→Hp→Prop,(∃ m,W 0 m σ H)∧∀ i m σ H,W i m σ H →
  ((Itt K a).stop i H∧D.nx σ H) ∨ ((Itt K a).go i H∧∃ N:St→Hp→Prop,(∀ σ' H',N σ' H'→∃ m',m' < m∧W (i + 1) m' σ' H')∧∀ x H',(Itt K a).yld i H x H'→g x σ H' fun σ2 H2 => tb { D with nx:=N,ct:=N,bk:=D.nx } σ2 H2))
theorem y4fy {ta:TA} {g:TG} {tb:TS} {D:Ends} {σ : St} {H:Hp}:tFor (iRng1 ta) g tb D σ H = ta σ H fun vs H1 => ∃ j:Int,vs = [.int j]∧-(2 ^ 62) ≤ j∧j < 2 ^ 62∧ForR 0 j.toNat g tb D σ H1:=rfl
theorem y50y {ta:TA} {g:TG} {tb:TS} {D:Ends} {σ : St} {H:Hp}:tFor (iRng2 ta) g tb D σ H = ta σ H fun vs H1 => ∃ i j:Int,vs = [.int i, .int j]∧(-(2 ^ 62) ≤ i∧i < 2 ^ 62∧-(2 ^ 62) ≤ j∧j < 2 ^ 62)∧ForR i (j - i).toNat g tb D σ H1:=rfl
theorem y51y {K:PySem.W.Frag} {tl:TE} {g:TG} {tb:TS} {D:Ends} {σ : St} {H:Hp}:tFor (iAny K tl) g tb D σ H = tl σ H fun x H1 => ∃ a,x = .ref a∧ForA K a g tb D σ H1:=rfl
theorem ForR.by {lo:Int} {n:Nat} {g:TG} {tb:TS} {D:Ends} {σ : St} {H:Hp} (Pv:Nat→St→Hp→Prop) (h0:Pv 0 σ H)
  (hs:∀ i σ H,i < n→Pv i σ H→g (.int (lo + i)) σ H fun σ2 H2 => tb { D with nx:=Pv (i + 1),ct:=Pv (i + 1),bk:=D.nx } σ2 H2) (hd:∀ σ H,Pv n σ H→D.nx σ H):ForR lo n g tb D σ H:=Jf2 Pv h0 hs hd
theorem Jgm {H:Hp} {o:HO} {R:V→Hp→Prop} (h:∀ p H1,Same H H1→H1 p = some o→R (.ref p) H1):∀ p,H p = none→R (.ref p) (upd H p o):=fun p hp =>
 h p _ (fun b u q => by rw [Jag (Jac q hp)]; exact q) Jap
theorem newS {H H':Hp} {p:Addr} {o:HO} (h:H p = none) (e:upd H p o = H'):Same H H':=fun b u q => by rw [← e,Jag (Jac q h)]; exact q
theorem newE {H H':Hp} {p:Addr} {o:HO} (e:upd H p o = H'):H' p = some o:=by rw [← e,Jap]
theorem Jdp {n:Nat} {i:Int} (h:Mth.Sz n i):Builtin.Int.intBits i ≤ n:=by
 unfold Builtin.Int.intBits
 split
 ·exact Nat.zero_le _
 ·rename_i z
  have : i.natAbs.log2 < n:=(Nat.log2_lt (by simpa using z)).mpr h
  omega
theorem mulOk {m n:Nat} {i j:Int} (h:Mth.Sz m i) (k:Mth.Sz n j) (hm:m ≤ 2 ^ 20:=by decide) (hn:n ≤ 2 ^ 20:=by decide):IntMulOk i j:=IntMulOk.of_bits (Nat.le_trans (Jdp h) hm) (Nat.le_trans (Jdp k) hn)
theorem JiU {i j:Int} (h:Mth.Sz 64 j):IntMulOk i j:=IntMulOk.of_right (Jdp h)
theorem divOk {n:Nat} {j:Int} (h:j ≠ 0) (k:Mth.Sz n j) (hn:n < 9000:=by decide):DivOk j:=⟨h,Mth.Jia k hn⟩
theorem len0:([]:List V).length ≤ sizeLine:=by decide
theorem len2 {a b:V}:[a,b].length ≤ sizeLine:=by show 2 ≤ sizeLine; decide
theorem len4 {a b c d:V}:[a,b,c,d].length ≤ sizeLine:=by show 4 ≤ sizeLine; decide
theorem len5 {a b c d e:V}:[a,b,c,d,e].length ≤ sizeLine:=by show 5 ≤ sizeLine; decide
theorem Jbm {j:Int} (h:decide (j ≠ 0∧j.natAbs < 2 ^ 64) = true):DivOk j:=by
 have z:=of_decide_eq_true h
 exact divOk z.1 (n:=64) z.2
theorem Jbp {i j:Int} (h:decide (j.natAbs < 2 ^ 64) = true):IntMulOk i j:=by
 have z:j.natAbs < 2 ^ 64:=of_decide_eq_true h
 exact JiU z
theorem JaZ {i j:Int} (h:decide (i.natAbs < 2 ^ 64) = true):IntMulOk i j:=by
 have z:i.natAbs < 2 ^ 64:=of_decide_eq_true h
 exact IntMulOk.of_left (Jdp (n:=64) z)
theorem Jbr {i j:Int} (h:decide (0 ≤ j∧j ≤ 1000000∧i.natAbs < 2 ^ 64) = true):CPow i j:=by
 have z:0 ≤ j∧j ≤ 1000000∧i.natAbs < 2 ^ 64:=of_decide_eq_true h
 exact z
def FrV (K:PySem.W.Frag) (H:Hp) (v:V) (a b:Int):Prop:=∃ p,v = .ref p∧SqT K H p [.int a, .int b]
theorem FrV.same {K:PySem.W.Frag} {H H':Hp} {v:V} {a b:Int} (S:Same H H') (h:FrV K H v a b):FrV K H' v a b:=by
 obtain ⟨p,e,q⟩:=h
 exact ⟨p,e,q.same S⟩
theorem FrV.of {K:PySem.W.Frag} {H:Hp} {p:Addr} {a b:Int} (h:H p = some (.tup [.int a, .int b])):FrV K H (.ref p) a b:=⟨p,rfl,SqT.of h⟩
theorem ixT0 {K:PySem.W.Frag} {H:Hp} {p:Addr} {x:V} {r:List V} {Q:VK} (h:SqT K H p (x :: r)) (q:Q x H):rIxU K (.ref p) (.int 0) H Q:=⟨_,x, .inr h,JcA (j:=0) rfl,q⟩
theorem ixT1 {K:PySem.W.Frag} {H:Hp} {p:Addr} {x y:V} {r:List V} {Q:VK} (h:SqT K H p (x :: y :: r)) (q:Q y H):rIxU K (.ref p) (.int 1) H Q:=⟨_,y, .inr h,JcA (j:=1) rfl,q⟩
theorem ixF0 {K:PySem.W.Frag} {H:Hp} {v:V} {a b:Int} {Q:VK} (h:FrV K H v a b) (q:Q (.int a) H):rIxU K v (.int 0) H Q:=by
 obtain ⟨p,rfl,z⟩:=h
 exact ixT0 z q
theorem ixF1 {K:PySem.W.Frag} {H:Hp} {v:V} {a b:Int} {Q:VK} (h:FrV K H v a b) (q:Q (.int b) H):rIxU K v (.int 1) H Q:=by
 obtain ⟨p,rfl,z⟩:=h
 exact ixT1 z q
theorem FrV.rep {K:PySem.W.Frag} {H:Hp} {v:V} {a b:Int} (h:FrV K H v a b):Rep K H (.tup [.int a, .int b]) v:=by
 obtain ⟨p,rfl,z⟩:=h
 simp only [Rep,RepL]
 exact ⟨p,_,rfl,z,_,_,rfl,rfl,_,_,rfl,rfl,rfl⟩
theorem eqF {K:PySem.W.Frag} {H:Hp} {x y:V} {a b c d:Int} {Q:VK} (h:FrV K H x a b) (g:FrV K H y c d) (q:Q (.bl (decide (a = c) && decide (b = d))) H):rEqU K x y H Q:=by
 have e:eqD (.tup [.int a, .int b]) (.tup [.int c, .int d]) = (decide (a = c) && decide (b = d)):=by
  simp only [eqD,eqL,Bool.and_true]
  congr 1 <;> simp [BEq.beq]
 have hr:=h.rep
 have gr:=g.rep
 obtain ⟨p,rfl,_⟩:=h
 obtain ⟨p',rfl,_⟩:=g
 exact ⟨_,_,hr,gr,by simp [depD,depL],rfl,by rw [e]; exact q⟩
theorem ixT {K:PySem.W.Frag} {H:Hp} {p:Addr} {xs:List V} {i:Nat} {v:V} {Q:VK} (h:SqT K H p xs) (e:xs[i]? = some v) (q:Q v H):rIxU K (.ref p) (.int (i:Int)) H Q:=⟨xs,v, .inr h,JcA e,q⟩
theorem ixL {K:PySem.W.Frag} {H:Hp} {p:Addr} {xs:List V} {i:Nat} {v:V} {Q:VK} (h:SqL K H p xs) (e:xs[i]? = some v) (q:Q v H):rIxU K (.ref p) (.int (i:Int)) H Q:=⟨xs,v, .inl h,JcA e,q⟩
end L2
namespace L2
open PySem PySem.Spec PyProof.Rows
section
open PySem.W PySem.Builtin PySem.Builtin.ObjectAttr PySem.Builtin.Getset_descriptor
variable {prog:Program} {w:World} {A:Around} {E:Value→Shared→Prop} {s:Shared} {K:Frag} {x D:Addr} {ox:Obj}
end
section
variable {X:Cx}
def Jix (r r' r'':R2) (ta tb tc td:TE):TE:=fun σ H Q => ta σ H fun x H1 => tb σ H1 fun y H2 => r x y H2 fun z H3 => ∃ k,z = .bl k ∧
 (if k = true then tc σ H3 fun w' H4 => r' y w' H4 fun z' H5 => ∃ k',z' = .bl k'∧(if k' = true then td σ H5 fun u' H6 => r'' w' u' H6 Q else Q (.bl false) H5) else Q (.bl false) H3)
def rFmt:V→Hp→VK→Prop:=fun x H Q => match x with
 | .int i => i.natAbs.log2 < 1920∧Q (.str (toString i)) H
 | _ => False
def TJ:=St→Hp→Str→VK→Prop
def jNil:TJ:=fun _ H acc Q => acc.length ≤ sizeLine∧Q (.str acc) H
def jCons (te:TE) (t:TJ):TJ:=fun σ H acc Q => te σ H fun x H1 => ∃ y,x = .str y∧(acc ++ y).length ≤ sizeLine∧t σ H1 (acc ++ y) Q
def tFstr (t:TJ):TE:=fun σ H Q => t σ H Str.empty Q
def rStrI:List V→Hp→VK→Prop:=fun xs H Q => match xs with
 | [.int i] => i.natAbs.log2 < 1920∧Q (.str (toString i)) H
 | _ => False
end
end L2
namespace L2
open PySem PySem.Spec PyProof.Rows
section
variable {En:Ends} {σ : St} {H:Hp} {Q:VK} {t u:TS} {ta tb te tc td:TE} {g:TG} {gs:TGs} {tA:TA} {E:XK} {sp:Sp} {K:PySem.W.Frag}
theorem y87y {r:V→Option Int→Option Int→Hp→VK→Prop} {tl th:TO}:tSl r te tl th σ H Q = te σ H fun x H1 => tl σ H1 fun l H2 => th σ H2 fun u H3 => r x l u H3 Q:=rfl
theorem y7fy {R:Option Int→Hp→Prop}:tPart te σ H R = te σ H fun x H1 => ∃ i,x = .int i∧R (some i) H1:=rfl
theorem y76y {R:Option Int→Hp→Prop}:Jiy σ H R = R none H:=rfl
theorem y58y {vs:List V} {R:St→Hp→Prop}:gCons g gs vs σ H R = ∃ v r,vs = v :: r∧g v σ H fun σ' H' => gs r σ' H' R:=rfl
theorem y5ay {vs:List V} {R:St→Hp→Prop}:gNil vs σ H R = (vs = []∧R σ H):=rfl
theorem y31y {r r':R2}:Jje r r' ta tb tc σ H Q = ta σ H fun x H1 => tb σ H1 fun y H2 => r x y H2 fun z H3 => ∃ k,z = .bl k∧(if k = true then tc σ H3 fun w' H4 => r' y w' H4 Q else Q (.bl false) H3):=rfl
theorem y32y {r r' r'':R2}:Jix r r' r'' ta tb tc td σ H Q = ta σ H fun x H1 => tb σ H1 fun y H2 => r x y H2 fun z H3 => ∃ k,z = .bl k ∧
 (if k = true then tc σ H3 fun w' H4 => r' y w' H4 fun z' H5 => ∃ k',z' = .bl k'∧(if k' = true then td σ H5 fun u' H6 => r'' w' u' H6 Q else Q (.bl false) H5) else Q (.bl false) H3):=rfl
theorem y57y {tj:TJ}:tFstr tj σ H Q = tj σ H Str.empty Q:=rfl
theorem y65y {tj:TJ} {acc:Str}:jCons te tj σ H acc Q = te σ H fun x H1 => ∃ y,x = .str y∧(acc ++ y).length ≤ sizeLine∧tj σ H1 (acc ++ y) Q:=rfl
theorem y66y {acc:Str}:jNil σ H acc Q = (acc.length ≤ sizeLine∧Q (.str acc) H):=rfl
theorem y4ey {i:Int}:rFmt (.int i) H Q = (i.natAbs.log2 < 1920∧Q (.str (toString i)) H):=rfl
theorem y88y {i:Int}:rStrI [.int i] H Q = (i.natAbs.log2 < 1920∧Q (.str (toString i)) H):=rfl
theorem y8ey {D0:Addr} {i:Nat} {tx:St→Hp→VK→XK→Prop} {ts:TS}:Jjj K D0 i tx ts En σ H = tx σ H (fun _ H1 => En.nx σ H1) fun cls _ H1 => ∃ C,cls = .ref C∧JfK K C D0 ∧
 ∀ ea,H1 ea = none→ts { nx:=fun σ' H' => En.nx (σ'.set i none) H',rt:=En.rt,bk:=fun σ' H' => En.bk (σ'.set i none) H',ct:=fun σ' H' => En.ct (σ'.set i none) H' } (σ.set i (some (.ref ea))) (upd H1 ea (ExcO ea C)):=rfl
theorem y98y {dvs:List V} {Qx:VK} {Ex:XK}:xCall sp dvs tA σ H Qx Ex = tA σ H fun vs H1 => sp (vs ++ dvs) H1 Qx Ex:=rfl
theorem y81y {C:Addr}:JhL E C tA En σ H = tA σ H fun vs H1 => vs.length ≤ sizeLine∧E (.ref C) none H1:=rfl
end
end L2
namespace L2
open PySem PySem.Spec PyProof.Rows
def Its (x:Str):It:=⟨fun i _ => i < x.cps.size,fun i H v H' => H' = H∧∃ c,x.cps[i]? = some c∧v = .str ⟨#[c]⟩,fun i _ => i = x.cps.size⟩
theorem Jem {P:Program} {w:World} {K:PySem.W.Frag} {tg:Expr} {it:Addr} {x:Str} {n:String} {St:Nat→Heap→Prop} (hn:["enumerate", "zip", "dict_itemiterator", "dict_reverseitemiterator", "odict_iterator", "itertools.zip_longest", "itertools.pairwise"].contains n = false)
  (hst:∀ i h,St i h→∃ o vs,h.get? it = some o∧o.cls = .type n∧o.data = .fields vs) (mk:∀ A:Around,A.handled = none→Walks P w A it [it] [it] x.cps.size (SignAt x) St)
  (hself:∀ (A:Around) (i:Nat) (s:Shared) (Q:Value→Shared→Prop) (E:Value→Shared→Prop),St i s.heap→Q (.ref it) s→wpAny (model P w) A (pyIter (.ref it)) Q E s):Turn P w K tg (Its x) [it] it St where
 mem:=by simp
 obj:=fun i h st b hb => by
  obtain rfl:b = it:=by simpa using hb
  obtain ⟨o,vs,e,_,d⟩:=hst i h st
  exact ⟨o,e,fun v z => by rw [d] at z; cases z⟩
 keep:=fun i h h' st k => (mk {} rfl).frame i h h' st fun b hb o e => k b hb o e
 item:=by
  intro X hP hw hK hc i pins s σ H E I hf st hg
  subst hP hw hK
  obtain ⟨f0,f1,f2,f3,f4,f5⟩:=hf it (by simp)
  refine (mk X.A (I.ok.hd hc)).item i s _ _ hg st fun v h' tk hv st' kk => ?_
  obtain ⟨c,u,hc',rfl⟩:=hv
  have I1:Inv X pins σ H { s with heap:=h',toks:=tk }:=I.turned (fun b o hb e => kk b o (by simpa using hb) e) f0 f1 f3 f4 f5
  obtain ⟨o,vs,e1,e2,e3⟩:=hst _ _ st'
  exact ⟨_,rfl,go_of (s:={ s with heap:=h',toks:=tk }) e1 e2 e3 hn ⟨.str ⟨#[c]⟩,H,I1,⟨u,rfl⟩,⟨rfl,c,hc',rfl⟩,st',fun b hb => (hf b hb).1⟩⟩
 done:=by
  intro X hP hw hK hc i pins s σ H E I hf st hg
  subst hP hw hK
  obtain ⟨f0,f1,f2,f3,f4,f5⟩:=hf it (by simp)
  have hg':i = x.cps.size:=hg
  subst hg'
  exact (mk X.A (I.ok.hd hc)).done s _ _ st fun h' tk kk => ⟨rfl,I.turned (fun b o hb e => kk b o (by simpa using hb) e) f0 f1 f3 f4 f5⟩
 self:=hself
section
variable {X:Cx} {tg:Expr}
def iStr (tl:TE):TI:=fun σ H R => tl σ H fun x H1 => ∃ z,x = .str z∧R (Its z) H1
theorem Ji5 {l:Expr} {tl:TE} (hl:PE X l tl):PI X tg l (iStr tl):=fun pins s σ H R I h => by
 refine thn (hl pins s σ H _ I h) fun v s1 ⟨x,H1,I1,r1,z,ex,q⟩ => ?_
 subst ex
 obtain ⟨t,rfl⟩:=r1
 have key:∀ (n:String),(n = "str_ascii_iterator" ∨ n = "str_iterator")→PIE X pins σ tg R (.ref s1.heap.objs.size) { s1 with heap:=s1.heap.push { cls:=.type n,data:=.fields #[.str z t, .int 0 0] } }:=fun n hn => by
  have hT:Turn X.prog X.w X.K tg (Its z) [s1.heap.objs.size] s1.heap.objs.size (fun i h => h.IsStrIter s1.heap.objs.size n z t i):=by
   rcases hn with rfl | rfl
   ·exact Jem (n:="str_ascii_iterator") (by decide) (fun i h st => let ⟨o,a,b,c⟩:=st; ⟨o,_,a,b,c⟩) (fun A hA => Walks.strAscii hA _ z t) fun A i s Q E st q => wpAny_pyIter_striter_ascii st q
   ·exact Jem (n:="str_iterator") (by decide) (fun i h st => let ⟨o,a,b,c⟩:=st; ⟨o,_,a,b,c⟩) (fun A hA => Walks.strWide hA _ z t) fun A i s Q E st q => wpAny_pyIter_striter_wide st q
  refine ⟨s1.heap.objs.size,[s1.heap.objs.size],_,_,H1,rfl,I1.kept (t':=s1.toks) fun b o e => Heap.get?_push_of_some _ e,hT,⟨_,Heap.get?_push_size _ rfl,rfl,rfl⟩,fun b hb => ?_,q⟩
  obtain rfl:b = s1.heap.objs.size:=by simpa using hb
  exact I1.fpOk (Nat.le_refl _) (I1.hok.fresh (Nat.le_refl _))
 cases ha:z.cps.all (· < 128)
 ·exact wpAny_pyIter_wide ha (key _ (.inr rfl))
 ·exact wpAny_pyIter_ascii ha (key _ (.inl rfl))
end
abbrev Cx.inc (X:Cx) (N':List Str) (scope:Scope) (cl:List (Str × Addr)) (fp:List Addr) (s2:Shared) (H2:Hp) (C:Addr):Cx :=
 { X with N:=N',s₀:=s2,H₀:=H2,env:=compEnvC scope cl C X.env,outer:=X.stack,ex:=fp,fn:=fun _ => false,pn:=[],xe:=fun _ _ => False }
section
variable {X:Cx} {pins:List (Addr × Obj)} {σ : St} {H2:Hp} {s2:Shared} {N':List Str} {scope:Scope} {cl:List (Str × Addr)} {fp:List Addr} {C:Addr}
theorem Inv.incOk (I:Inv X pins σ H2 s2) (hf:∀ b ∈ fp,FpOk X pins H2 b) (hfp:∀ b ∈ fp,b < s2.heap.objs.size) (hk:scope.kind = .function) (hC:s2.heap.objs.size ≤ C) (hcl:∀ x c,cl.lookup x = some c→X.env.cells.lookup x = some c)
  (hhas:∀ y,((relabel scope X.env).names.lookup y = some .cell ∨ (relabel scope X.env).names.lookup y = some .free)→∃ c,cl.lookup y = some c):(X.inc N' scope cl fp s2 H2 C).Ok where
 mod:=I.ok.mod
 kind:=hk
 glob:=I.ok.glob
 blt:=I.ok.blt
 above:=hC
 inj:=fun x y c h1 h2 => I.ok.inj x y c (hcl x c h1) (hcl y c h2)
 has:=fun y hy => hhas y hy
 cab:=fun x c h => by cases h
 hd:=I.ok.hd
 frames:=I.ok.frames
 stk:=.inl rfl
 exf:=fun b hb => ⟨Nat.ne_of_lt (Nat.lt_of_lt_of_le (hfp b hb) hC),fun x c e => (hf b hb).2.2.2.2.1 x c (hcl x c e)⟩
 bs:=I.bs
 bsz:=Nat.le_trans I.ok.bsz I.sz
 noex:=fun b o e hb => by
  rcases (hf b hb).2.2.2.1 with z | z
  ·exact I.ok.noex b o e z
  ·exact absurd (Nat.lt_of_lt_of_le (Nat.lt_of_lt_of_le (Heap.lt_size e) I.ok.bsz) z) (Nat.lt_irrefl _)
 exfs:=fun b hb hm => by
  rcases List.mem_cons.mp (I.stkSub b hm) with z | z
  ·exact (hf b hb).2.1 z
  ·exact (hf b hb).2.2.1 z
 funs:=I.stack
 frf:=I.stkFree
def Jau (cs:List (Nat × Str)) (σ : St):St:=cs.map fun p => (σ[p.1]?).join
theorem Inv.capsLoc {s4:Shared} {m:Str→Option Value} {own:List Str} {cs:List (Nat × Str)} (I:Inv X pins σ H2 s2) (ok:(X.inc (own ++ cs.map (·.2)) scope cl fp s2 H2 C).Ok) (kept:∀ c v,(∃ x,cl.lookup x = some c)→s2.heap.IsCell c v→s4.heap.IsCell c v)
  (hcl:∀ x c,cl.lookup x = some c→X.env.cells.lookup x = some c) (hcs:∀ p ∈ cs,X.N[p.1]? = some p.2∧X.env.scope.names.lookup p.2 = some .cell∧(relabel scope X.env).names.lookup p.2 = some .cell) :
  ∀ (i:Nat) (x:Str) (v:V),(own ++ cs.map (·.2))[i]? = some x→(List.replicate own.length none ++ Jau cs σ)[i]? = some (some v)→∃ u,RelV v u∧Look (compEnvC scope cl C X.env) s4.heap m x u:=fun i x v h1 h2 => by
  by_cases hi:i < own.length
  ·rw [List.getElem?_append_left (by simpa using hi),List.getElem?_replicate,if_pos hi] at h2
   cases h2
  ·have h2':(Jau cs σ)[i - own.length]? = some (some v):=by rw [List.getElem?_append_right (by simp; omega)] at h2; simpa using h2
   have h1':(cs.map (·.2))[i - own.length]? = some x:=by
    rwa [List.getElem?_append_right (by omega)] at h1
   unfold Jau at h2'
   rw [List.getElem?_map] at h1' h2'
   cases q:cs[i - own.length]? with
   | none => rw [q] at h1'; cases h1'
   | some p =>
    rw [q] at h1' h2'
    obtain rfl:p.2 = x:=by simpa using h1'
    have e2:(σ[p.1]?).join = some v:=by simpa using h2'
    have e2' : σ[p.1]? = some (some v):=by
     cases z : σ[p.1]? with
     | none => rw [z] at e2; cases e2
     | some o => rw [z] at e2; exact congrArg some e2
    obtain ⟨c1,c2,c3⟩:=hcs p (List.mem_of_getElem? q)
    obtain ⟨m0,_,hl⟩:=I.loc
    obtain ⟨u,ru,lk⟩:=hl p.1 p.2 v c1 e2' (.inr (.inl c2))
    refine ⟨u,ru, .inr ⟨.inl c3, ?_⟩⟩
    obtain ⟨c,hc⟩:=ok.has p.2 (.inl c3)
    refine ⟨c,hc, ?_⟩
    rcases lk with ⟨k,_⟩ | ⟨_,c',e',hcell⟩
    ·have k:X.env.scope.names.lookup p.2 = some .local:=k
     rw [c2] at k; cases k
    ·rw [hcl _ _ hc] at e'
     cases e'
     exact kept _ _ ⟨_,hc⟩ hcell
theorem Inv.incStart {s4:Shared} {m:Str→Option Value} {own:List Str} {cs:List (Nat × Str)} (I:Inv X pins σ H2 s2) (ok:(X.inc (own ++ cs.map (·.2)) scope cl fp s2 H2 C).Ok) (kept:∀ b o,s2.heap.get? b = some o→s4.heap.get? b = some o) (hos:s4.os = s2.os) (hg:s4.gens = s2.gens) (hm:s4.heap.Ns C m)
  (hC:s2.heap.objs.size ≤ C) (hcl:∀ x c,cl.lookup x = some c→X.env.cells.lookup x = some c)
  (hcs:∀ p ∈ cs,X.N[p.1]? = some p.2∧X.env.scope.names.lookup p.2 = some .cell∧(relabel scope X.env).names.lookup p.2 = some .cell) :
  Inv (X.inc (own ++ cs.map (·.2)) scope cl fp s2 H2 C) [] (List.replicate own.length none ++ Jau cs σ) H2 s4 where
 ok:=ok
 os:=hos
 bare:=by rw [hg]; exact I.bare
 base:=Un.kept kept
 loc:=⟨m,hm,fun i x v h1 h2 _ => I.capsLoc (m:=m) ok (fun c v _ ⟨o,ho,hd⟩ => ⟨o,kept _ _ ho,hd⟩) hcl hcs i x v h1 h2⟩
 cell:=fun x c e => by
  obtain ⟨v,o,ho,hd⟩:=I.cell x c (hcl x c e)
  exact ⟨v,o,kept _ _ ho,hd⟩
 free:=I.hok.fresh hC
 freeC:=fun x c e => I.freeC x c (hcl x c e)
 pin:=fun p hp => by simp at hp
 hok:=I.hok.kept kept
 len:=by simp [Jau]
theorem Inv.incAgain {s':Shared} {H':Hp} {σ':St} {pl:List (Addr × Obj)} {own:List Str} {cs:List (Nat × Str)} (I:Inv X pins σ H2 s2) (J:Inv (X.inc (own ++ cs.map (·.2)) scope cl fp s2 H2 C) pl σ' H' s')
  (hf:∀ b ∈ fp,FpOk X pins H2 b) (hcl:∀ x c,cl.lookup x = some c→X.env.cells.lookup x = some c) (hcs:∀ p ∈ cs,X.N[p.1]? = some p.2∧X.env.scope.names.lookup p.2 = some .cell∧(relabel scope X.env).names.lookup p.2 = some .cell) :
  Inv (X.inc (own ++ cs.map (·.2)) scope cl fp s2 H2 C) [] (List.replicate own.length none ++ Jau cs σ) H' s' where
 ok:=J.ok
 os:=J.os
 bare:=J.bare
 base:=J.base
 loc:=by
  obtain ⟨m,hm,_⟩:=J.loc
  refine ⟨m,hm,fun i x v h1 h2 _ => I.capsLoc (m:=m) J.ok (fun c v ⟨x,hx⟩ ⟨o,ho,hd⟩ => ?_) hcl hcs i x v h1 h2⟩
  have nf:c ∉ fp:=fun z => (hf c z).2.2.2.2.1 x c (hcl x c hx) rfl
  by_cases hm:c ∈ frs X.stack
  ·obtain ⟨sl,z⟩:=J.base.slot c o ho (I.freeC x c (hcl x c hx)) hm nf
   exact ⟨_,z,hd⟩
  ·exact ⟨o,J.base.keep c o ho (I.freeC x c (hcl x c hx)) hm nf,hd⟩
 cell:=J.cell
 free:=J.free
 freeC:=J.freeC
 pin:=fun p hp => by simp at hp
 hok:=J.hok
 len:=by simp [Jau]
end
section
variable {prog:Program} {w:World} {A:Around} {E:Value→Shared→Prop} {R:Result→Shared→Prop} {s:Shared}
theorem Jc7 {elt target iter:Expr} {scope:Scope} {pos:Pos} {it acc:Value} {env:Env} (J:Nat→Shared→Prop)
  (turn:∀ n s,J n s→wpAny (model prog w) A (pyNext it) (fun r s1 => match r with
   | none => R (.ok .next) s1
   | some v => wpAny (model prog w) A (letOwnedTupleGo target it v) (fun _ s2 => wpAny (model prog w) A (assign target env v) (fun _ s3 => wpAny (model prog w) A (eval elt env) (fun x s4 =>
     wpAny (model prog w) A (call (.builtin "list.append") [acc,x]) (fun _ s5 => ∃ m,m < n∧J m s5) (fun _ _ => False) s4) (fun _ _ => False) s3) (fun _ _ => False) s2) (fun _ _ => False) s1) (fun _ _ => False) s) (n:Nat) (h:J n s) :
  codeAny (model prog w) A (.compLoop (.ListComp elt [⟨target,iter,[],0⟩] scope pos) 0 it acc env) R s:=by
 refine codeAny_loop rfl J (fun n s hJ => ?_) n h
 show wpAny _ A ((compTurn (.ListComp elt [⟨target,iter,[],0⟩] scope pos) 0 it acc env).onRaise (fun y => do noteFrame y env; theTreesLotGoes y)) _ _ s
 (refine wpAny_noted ?_; rw [compTurn_list])
 refine wpAny_bind (wpAny_standAt (wpAny_bind (wpAny_mono (turn n s hJ) (fun r s1 q1 => ?_) fun _ _ z => z.elim)))
 cases r with
 | none => exact wpAny_pure q1
 | some v =>
  refine wpAny_bind (wpAny_mono q1 (fun _ s2 q2 => wpAny_bind (wpAny_mono q2 (fun _ s3 q3 => ?_) fun _ _ z => z.elim)) fun _ _ z => z.elim)
  refine wpAny_bind (wpAny_tests_nil ?_)
  exact wpAny_bind (wpAny_bind (wpAny_mono q3 (fun x s4 q4 => (wpAny_bind (wpAny_mono q4 (fun _ s5 q5 => (wpAny_pure (wpAny_pure ⟨rfl,q5⟩))) fun _ _ z => z.elim))) fun _ _ z => z.elim))
end
def tComp (k:Nat) (cs:List (Nat × Str)) (wi:TI) (g:TG) (te:TE):TE:=fun σ H Q => wi σ H fun J H1 => ∃ W:Nat→Nat→List V→Hp→Prop,(∃ m,W 0 m [] H1)∧∀ i m ys H2,W i m ys H2→ys.length ≤ sizeLine ∧
  ((J.stop i H2∧∀ p,H2 p = none→Q (.ref p) (upd H2 p (.lst ys))) ∨
   (J.go i H2∧∀ x H3,J.yld i H2 x H3→g x (List.replicate k none ++ Jau cs σ) H3 fun σ4 H4 => te σ4 H4 fun y H5 => ∃ m',m' < m∧W (i + 1) m' (ys ++ [y]) H5))
theorem lstP {us:List Value} {v:Value}:(us.toArray.push v) = (us ++ [v]).toArray:=by simp
section
variable {X:Cx} {tg:Expr}
theorem Jch {iter elt:Expr} {scope:Scope} {pos:Pos} {own:List Str} {cl:List (Str × Addr)} {cs:List (Nat × Str)} {wi:TI} {g:TG} {te:TE} (hc:X.calm = true) (hi:PI X tg iter wi)
  (hg:∀ fp s2 H2 C,PG (X.inc (own ++ cs.map (·.2)) scope cl fp s2 H2 C) tg g) (he:∀ fp s2 H2 C,PE (X.inc (own ++ cs.map (·.2)) scope cl fp s2 H2 C) elt te)
  (hclos:closureFor scope X.env = pure cl) (hcell:∀ y ∈ scope.names,y.2 ≠ .cell) (hkind:scope.kind = .function) (hnames:∀ y ∈ scope.names,y.2 = .local→scope.names.lookup y.1 = some .local)
  (hcl:∀ x c,cl.lookup x = some c→X.env.cells.lookup x = some c) (hhas:∀ y,((relabel scope X.env).names.lookup y = some .cell ∨ (relabel scope X.env).names.lookup y = some .free)→∃ c,cl.lookup y = some c)
  (hcs:∀ p ∈ cs,X.N[p.1]? = some p.2∧X.env.scope.names.lookup p.2 = some .cell∧(relabel scope X.env).names.lookup p.2 = some .cell)
  (hs:∀ x,foldedSetIterable iter X.env x = pure x:=by intro _; rfl):PE X (.ListComp elt [⟨tg,iter,[],0⟩] scope pos) (tComp own.length cs wi g te):=by
 intro pins s σ H Q I h
 rw [eval_ListComp]
 refine wpAny_comprehension_free (use:=none) rfl hs hclos hkind hnames (thn (hi pins s σ H _ I h) fun v s1 h1 => thn h1 fun itv s2 h2 => ?_)
 obtain ⟨it,fp,tn,J,H2,rfl,I2,T,st2,f2,W,⟨m0,w0⟩,turn⟩:=h2
 have hfp:∀ b ∈ fp,b < s2.heap.objs.size:=fun b hb => by
  obtain ⟨o,e,_⟩:=T.obj _ _ st2 b hb
  exact Heap.lt_size e
 refine wpAny_newObj_type (wpAny_newFunctionEnv hcell (by intro y hy; simp at hy) (fun h4 hns4 hsb4 => ?_) hkind)
 dsimp only at hns4 hsb4 ⊢
 generalize hH3:s2.heap.push { cls:=.type "list",dict:=none,data:=.seq ([]:List Value).toArray } = H3 at hns4 hsb4 ⊢
 have hCs:H3.objs.size = s2.heap.objs.size + 1:=by rw [← hH3,Heap.size_push]
 have hC:s2.heap.objs.size ≤ H3.objs.size:=by omega
 have hDC:s2.heap.objs.size ≠ H3.objs.size:=by omega
 have old:∀ b o,s2.heap.get? b = some o→h4.get? b = some o:=fun b o e => hsb4.extBut b o (by have:=Heap.lt_size e; exact Nat.ne_of_lt (Nat.lt_of_lt_of_le this hC)) (Heap.get?_push_of_some _ (hH3 ▸ Heap.get?_push_of_some _ e))
 have hD4:h4.get? s2.heap.objs.size = some { cls:=.type "list",data:=.seq ([]:List Value).toArray }:=hsb4.extBut _ _ hDC (Heap.get?_push_of_some _ (hH3 ▸ Heap.get?_push_size _ rfl))
 obtain ⟨D,hDe⟩:∃ D,D = s2.heap.objs.size:=⟨_,rfl⟩
 obtain ⟨C,hCe⟩:∃ C,C = H3.objs.size:=⟨_,rfl⟩
 rw [← hCe] at hCs hns4 hsb4 hC hDC ⊢
 rw [← hDe] at hfp hCs hC hDC hD4 ⊢
 have ok':=I2.incOk (N':=own ++ cs.map (·.2)) (C:=C) f2 (fun b hb => by rw [← hDe]; exact hfp b hb) hkind (by rw [← hDe]; exact hC) hcl hhas
 have I4:Inv (X.inc (own ++ cs.map (·.2)) scope cl fp s2 H2 C) [] (List.replicate own.length none ++ Jau cs σ) H2 { s2 with heap:=h4,toks:=s2.toks + ([]:List (Str × Value)).length } :=
  I2.incStart (s4:={ s2 with heap:=h4,toks:=s2.toks + ([]:List (Str × Value)).length }) ok' old rfl rfl hns4 (by rw [← hDe]; exact hC) hcl hcs
 have Dfree:H2 D = none:=I2.hok.fresh (Nat.le_of_eq hDe.symm)
 have ltD:∀ b o,s2.heap.get? b = some o→b ≠ D:=fun b o e => by
  rw [hDe]
  exact Nat.ne_of_lt (Heap.lt_size e)
 have ltC:∀ b o,s2.heap.get? b = some o→b ≠ C:=fun b o e => Nat.ne_of_lt (Nat.lt_of_lt_of_le (by rw [hDe]; exact Heap.lt_size e) hC)
 have Dfs:D ∉ frs X.stack:=fun hm => by
  obtain ⟨_,o,e,_⟩:=I2.stack.mem hm
  exact ltD _ _ e rfl
 have pinD:∀ {σ':St} {H':Hp} {s':Shared} {us:List Value} {n:Nat} {pl:List (Addr × Obj)},Inv (X.inc (own ++ cs.map (·.2)) scope cl fp s2 H2 C) pl σ' H' s'→s'.heap.get? D = some { cls:=.type "list",data:=.seq us.toArray n }→H' D = none →
   Inv (X.inc (own ++ cs.map (·.2)) scope cl fp s2 H2 C) [(D,{ cls:=.type "list",data:=.seq us.toArray n })] σ' H' s':=fun {σ' H' s' us n pl} J' e n' => J'.pins_of fun p hp => by
  rcases List.mem_singleton.mp hp with rfl
  exact ⟨e,n',hDC,Dfs,fun v z => by cases z⟩
 have fpok:∀ {H':Hp} {o:Obj},(∀ b ∈ fp,H' b = none)→∀ b ∈ fp,FpOk (X.inc (own ++ cs.map (·.2)) scope cl fp s2 H2 C) [(D,o)] H' b:=fun {H' o} hn b hb => by
  refine ⟨hn b hb,(ok'.exf b hb).1,ok'.exfs b hb, .inl hb,(ok'.exf b hb).2,fun p hp => ?_⟩
  rcases List.mem_singleton.mp hp with rfl
  exact Nat.ne_of_gt (hfp b hb)
 have loop:∀ s3:Shared,s3 = { s2 with heap:=h4,toks:=s2.toks + ([]:List (Str × Value)).length } →
   codeAny (model X.prog X.w) X.A (.compLoop (.ListComp elt [⟨tg,iter,[],0⟩] scope pos) 0 (.ref it) (.ref D) (compEnvC scope cl C X.env)) (compPost (model X.prog X.w) X.A X.xe none (EP X pins σ Q) (.ref D) C) s3:=by
  rintro s3 rfl
  refine Jc7 (fun n s' => ∃ i ys us nn H',Inv (X.inc (own ++ cs.map (·.2)) scope cl fp s2 H2 C) [(D,{ cls:=.type "list",data:=.seq us.toArray nn })] (List.replicate own.length none ++ Jau cs σ) H' s'∧tn i s'.heap∧(∀ b ∈ fp,H' b = none)∧Vals ys us∧W i n ys H') ?_ m0
   ⟨0,[],[],0,H2,pinD (us:=[]) (n:=0) I4 hD4 Dfree,T.keep _ _ _ st2 fun b hb o e => old b o e,fun b hb => (f2 b hb).1, .nil,w0⟩
  rintro n s5 ⟨i,ys,us,nn,H5,I5,st5,fr5,vy,w5⟩
  obtain ⟨hz,⟨stop,qn⟩ | ⟨go,step⟩⟩:=turn i n ys H5 w5
  ·refine wpAny_mono (T.done (X.inc (own ++ cs.map (·.2)) scope cl fp s2 H2 C) rfl rfl rfl hc i _ s5 _ H5 (fun _ _ => False) I5 (fpok fr5) st5 stop) (fun r s6 z => ?_) fun _ _ z => z
   obtain ⟨rfl,I6⟩:=z
   obtain ⟨m6,hn6,_⟩:=id I6.loc
   refine ⟨m6,hn6,fun h7 hs7 => ?_⟩
   obtain ⟨pD,pN,_,_,_⟩:=I6.pin (D,{ cls:=.type "list",data:=.seq us.toArray nn }) (by simp)
   have same:∀ b,b ≠ C→h7.get? b = s6.heap.get? b:=fun b hb => hs7.2 b hb
   have lt2:=ltC
   have u7:Un (frs X.stack) fp H2 H5 s2.heap h7:=⟨fun b o e n1 n2 n3 => (same b (lt2 b o e)).trans (I6.base.keep b o e n1 n2 n3),fun b o e n1 n2 n3 => by
     obtain ⟨sl,z⟩:=I6.base.slot b o e n1 n2 n3
     exact ⟨sl,(same b (lt2 b o e)).trans z⟩,I6.base.free,fun b o e n1 => by
     obtain ⟨o',z⟩:=I6.base.there b o e n1
     exact ⟨o',(same b (lt2 b o e)).trans z⟩,I6.base.tups,I6.base.frzs,I6.base.tbls⟩
   have Cfree:H5 C = none:=I6.free
   have hok7:HOk X.prog X.w H5 h7:=fun a o e => by
    refine (I6.hok a o e).stay (fun c v hcc q => (same c ?_).trans q) (fun _ q => q) fun _ _ q => q
    rintro rfl
    rcases hcc with z | z
    ·rw [← z] at e; rw [Cfree] at e; cases e
    ·rw [Cfree] at z; cases z
   have I7:Inv X pins σ H5 { s6 with heap:=h7 }:=I2.call' (s':={ s6 with heap:=h7 }) I6.os u7 hok7 I6.bare fun b hb => ⟨(f2 b hb).2.2.2.1,(f2 b hb).2.1,(f2 b hb).2.2.2.2.1,(f2 b hb).2.2.2.2.2⟩
   have I8:=I7.track (a:=D) (o:=.lst ys) pN (Heap.get?_none_of_le (by rw [hDe]; exact I2.sz)) (by rw [hDe]; exact Nat.ne_of_gt I2.lt) (fun x c e z => by
     obtain ⟨v,o,ho,_⟩:=I2.cell x c e
     exact ltD _ _ ho z) (fun p hp z => ltD _ _ (I2.pin p hp).1 z) ⟨hz,us,nn,vy,(same D hDC).trans pD⟩
   exact ⟨.ref D,_,I8,rfl,qn D pN⟩
  ·refine wpAny_mono (T.item (X.inc (own ++ cs.map (·.2)) scope cl fp s2 H2 C) rfl rfl rfl hc i _ s5 _ H5 (fun _ _ => False) I5 (fpok fr5) st5 go) (fun r s6 z => ?_) fun _ _ z => z
   obtain ⟨u,rfl,z⟩:=z
   refine wpAny_mono z (fun _ s7 ⟨x,H7,I7,r7,y7,st7,fr7⟩ => ?_) fun _ _ z => z
   have I7':=I7.pinned (fpok fr7) (T.obj _ _ st7)
   refine wpAny_mono (hg fp s2 H2 C _ s7 _ H7 x u _ I7' r7 (step x H7 y7)) (fun _ s8 ⟨σ8,H8,I8,q8⟩ => ?_) fun _ _ z => z
   refine wpAny_mono (he fp s2 H2 C _ s8 σ8 H8 _ I8 q8) (fun uy s9 ⟨y,H9,I9,r9,m',hm',w9⟩ => ?_) fun _ _ z => z
   obtain ⟨pD,pN,_,_,_⟩:=I9.pin (D,{ cls:=.type "list",data:=.seq us.toArray nn }) (by simp)
   refine append_at (its:=us.toArray) (n:=nn) pD (fun h10 hs10 hD10 => ?_) (by rw [List.size_toArray, ← vy.length]; exact hz)
   have keepfp:∀ b ∈ fp, ∀ o,s7.heap.get? b = some o→s9.heap.get? b = some o∧H9 b = none:=fun b hb o e => by
    have z:=I9.pin (b,o) (List.mem_append_right _ (List.mem_append_right _ (Jbb hb e)))
    exact ⟨z.1,z.2.1⟩
   have I9':Inv (X.inc (own ++ cs.map (·.2)) scope cl fp s2 H2 C) [] (List.replicate own.length none ++ Jau cs σ) H9 s9:=I2.incAgain I9 f2 hcl hcs
   have I10:Inv (X.inc (own ++ cs.map (·.2)) scope cl fp s2 H2 C) [] (List.replicate own.length none ++ Jau cs σ) H9 { s9 with heap:=h10 }:=I9'.turned (it:=D) (t':=s9.toks) (fun b o hb e => (hs10.2 b hb).trans e) pN hDC (.inr (Nat.le_of_eq hDe.symm)) (fun x c e z => by
     obtain ⟨v,o,ho,_⟩:=I2.cell x c (hcl x c e)
     exact ltD _ _ ho z) fun p hp => by simp at hp
   rw [lstP] at hD10
   refine ⟨m',hm',i + 1,ys ++ [y],us ++ [uy],nn + 1,H9,pinD I10 hD10 pN,T.keep _ _ _ st7 fun b hb o e => ?_,fun b hb => ?_,vy.append (.cons r9 .nil),w9⟩
   ·exact (hs10.2 b (Nat.ne_of_lt (hfp b hb))).trans (keepfp b hb o e).1
   ·obtain ⟨o,e,_⟩:=T.obj _ _ st7 b hb
    exact (keepfp b hb o e).2
 exact codeAny_compStart_list (loop _ rfl) (T.self _ 0 _ _ _ (T.keep _ _ _ st2 fun b hb o e => old b o e) (loop _ rfl))
end
end L2
namespace L2
open PySem PySem.Spec PyProof.Rows
section
variable {X:Cx}
def rInU (K:PySem.W.Frag):R2:=fun x y H Q => match x,y with
 | .str i, .str j => Q (.bl (!(Builtin.Str.occurrences j i 0 j.length 1).isEmpty)) H
 | x,y => rIn K false x y H Q
theorem JhE:OpR X (compareOp .In) (rInU X.K):=fun pins s σ H x y v u Q I rx ry q => by
 unfold rInU at q
 split at q
 ·exact Jgt pins s σ H _ _ v u Q I rx ry ⟨_,_,rfl,rfl,q⟩
 ·exact Jgs pins s σ H _ _ v u Q I rx ry q
theorem Ji1 {K:PySem.W.Frag} (hK:X.K = K):OpR X (compareOp .In) (rInU K):=hK ▸ JhE
theorem ix_UK {K:PySem.W.Frag} (hK:X.K = K):IxR X (rIxU K):=hK ▸ ix_U
theorem JiZ {K:PySem.W.Frag} (hK:X.K = K) (hu:X.A.units + 64 < cLine):OpR X (compareOp .Eq) (rEqU K):=hK ▸ JbX hu
theorem y5fy {K:PySem.W.Frag} {i j:Str} {H:Hp} {Q:VK}:rInU K (.str i) (.str j) H Q = Q (.bl (!(Builtin.Str.occurrences j i 0 j.length 1).isEmpty)) H:=rfl
theorem all_range:∀ bs:List Bool,(List.range bs.length).all (fun i => bs.getD i false) = bs.all id:=fun bs => by
 rw [Bool.eq_iff_iff]
 simp only [List.all_eq_true,List.mem_range,id]
 constructor
 ·intro h x hx
  obtain ⟨i,hi,rfl⟩:=List.mem_iff_getElem.mp hx
  have:=h i hi
  simpa [List.getD_eq_getElem?_getD,hi] using this
 ·intro h i hi
  have:=h bs[i] (List.getElem_mem hi)
  simpa [List.getD_eq_getElem?_getD,hi] using this
def rAll (K:PySem.W.Frag):List V→Hp→VK→Prop:=fun xs H Q => ∃ (p:Addr) (bs:List Bool),xs = [.ref p]∧SqL K H p (bs.map V.bl)∧Q (.bl (bs.all id)) H
theorem JfL (hc:X.calm = true):CallR X (.builtin "all") (rAll X.K):=fun pins s σ H xs us Q I r q => by
 obtain ⟨p,bs,rfl,hL,q⟩:=q
 obtain ⟨its,rv,pl,hz⟩:=I.list hL
 obtain ⟨u,rfl,ru⟩:=vals1 r
 cases (show u = Value.ref p from ru)
 refine call_all_walk (wpAny_pyIter_list pl.isList ?_)
 have hlt:p < s.heap.objs.size:=by
  obtain ⟨_,e,_⟩:=pl.isList
  exact Heap.lt_size e
 refine ⟨s.heap.objs.size,_,_,its.toArray.size,_,_,fun i => bs.getD i false,rfl,Walks.list (by show X.A.handled = none; exact I.ok.hd hc) s.heap.objs.size p (Nat.ne_of_lt hlt) its.toArray,⟨⟨_,Heap.get?_push_size _ rfl,rfl,rfl⟩,pl.isList.push _⟩, ?_, ?_⟩
 ·intro i v s' Q' E' hv hQ
  have hv':its[i]? = some v:=by simpa using hv
  have hi:i < bs.length:=by
   obtain ⟨hl,_⟩:=List.getElem?_eq_some_iff.mp hv'
   have l:=rv.length
   rw [List.length_map] at l
   omega
  obtain ⟨v',e1,e2⟩:=rv.get (i:=i) (x:=.bl bs[i]) (by simp [hi])
  rw [hv'] at e1
  cases e1
  cases (show v = Value.bool bs[i] from e2)
  refine wpAny_truthy_bool ?_
  simpa [List.getD_eq_getElem?_getD,hi] using hQ
 ·intro h' tk k
  have l:=rv.length
  rw [List.length_map] at l
  have ea:(List.range its.toArray.size).all (fun i => bs.getD i false) = bs.all id:=by rw [List.size_toArray, ← l]; exact all_range bs
  rw [ea]
  exact ⟨.bl _,H,I.kept (t':=tk) fun b ob e => k b ob (by have:=Heap.lt_size e; simp; exact Nat.ne_of_lt this) (Heap.get?_push_of_some _ e),rfl,q⟩
end
theorem hcl0 {X:Cx}:∀ (x:Str) (c:Addr),([]:List (Str × Addr)).lookup x = some c→X.env.cells.lookup x = some c:=fun _ _ h => by simp at h
theorem hcs0 {X:Cx} {scope:Scope}:∀ p ∈ ([]:List (Nat × Str)),X.N[p.1]? = some p.2∧X.env.scope.names.lookup p.2 = some .cell∧(relabel scope X.env).names.lookup p.2 = some .cell:=fun _ h => by simp at h
theorem hhas0 {X:Cx} {scope:Scope} (h:scope.names.all (fun p => p.2 != .free && p.2 != .cell) = true):∀ y,((relabel scope X.env).names.lookup y = some .cell ∨ (relabel scope X.env).names.lookup y = some .free)→∃ c,([]:List (Str × Addr)).lookup y = some c:=fun y hy => by
 exfalso
 have h':=List.all_eq_true.mp h
 have go:∀ k,(relabel scope X.env).names.lookup y = some k→k ≠ .cell∧k ≠ .free:=fun k e => by
  have m:=PySem.mem_of_lookup e
  obtain ⟨⟨n,k'⟩,hm,e'⟩:=List.mem_map.mp (show (y,k) ∈ scope.names.map _ from m)
  have z:=h' _ hm
  simp only [bne_iff_ne,ne_eq,Bool.and_eq_true] at z
  have e2:(if (k' == NameKind.free && X.env.scope.kind == .function && X.env.kindOf n == some .cell) = true then (n,NameKind.cell) else (n,k')) = (y,k):=e'
  split at e2
  ·rename_i c
   rw [Bool.and_eq_true,Bool.and_eq_true] at c
   exact absurd (beq_iff_eq.mp c.1.1) z.1
  ·cases e2
   exact ⟨z.2,z.1⟩
 rcases hy with hy | hy
 ·exact (go _ hy).1 rfl
 ·exact (go _ hy).2 rfl
def tyD:D→String
 | .non => "NoneType"
 | .bl _ => "bool"
 | .int _ => "int"
 | .str _ => "str"
 | .tup _ => "tuple"
 | .lst _ => "list"
theorem Rep.tyN {K:PySem.W.Frag} {H:Hp} {d:D} {x:V} (h:Rep K H d x):L2.tyN K H x (tyD d):=by
 cases d <;> simp only [Rep] at h
 ·subst h; rfl
 ·subst h; rfl
 ·subst h; rfl
 ·subst h; rfl
 ·obtain ⟨a,xs,rfl,q,_⟩:=h; exact .inr ⟨rfl,xs,q⟩
 ·obtain ⟨a,xs,rfl,q,_⟩:=h; exact .inl ⟨rfl,xs,q⟩
mutual
def szD:D→Prop
 | .int i => Mth.Sz 4000 i
 | .str s => s.length ≤ 1000
 | .tup xs => szL xs
 | .lst xs => szL xs
 | _ => True
def szL:List D→Prop
 | [] => True
 | x :: xs => szD x∧szL xs
end
def lowB (c:Nat):Bool:=decide (97 ≤ c∧c ≤ 122)
def nameS (s:Str):Bool:=(decide (1 ≤ s.length) && decide (s.length ≤ 8)) && s.cps.toList.all lowB
def nameB:D→Bool
 | .str s => nameS s
 | _ => false
def Jco:D→Bool
 | .int _ => true
 | _ => false
def fracB:D→Bool
 | .tup [.int a, .int b] => decide (1 ≤ b) && decide (Mth.g a b = 1)
 | _ => false
def JbD:D→Bool
 | .non => true
 | d => fracB d
def Jdd (d e:D):Bool:=nameB d && nameB e && !eqD d e
def lessD:D→D→Bool
 | .tup [.int a, .int b], .tup [.int c, .int d] => decide (a * d < c * b)
 | _,_ => false
def JcB (l g:D):Bool:=JbD l && JbD g && !lessD g l
def tieB:D→Bool
 | .tup [n,s,e,l,g] => nameB n && Jdd s e && JcB l g
 | _ => false
theorem Jfw:(Str.ofString "abcdefghijklmnopqrstuvwxyz").cps.toList = List.range' 97 26:=by decide
theorem Jfs (c:Nat):(!(Builtin.Str.occurrences (Str.ofString "abcdefghijklmnopqrstuvwxyz") ⟨#[c]⟩ 0 (Str.ofString "abcdefghijklmnopqrstuvwxyz").length 1).isEmpty) = lowB c:=by
 rw [StrLaws.found_one,Jfw]
 unfold lowB
 congr 1
 rw [List.mem_range']
 refine propext ⟨fun ⟨i,hi,e⟩ => by omega,fun h => ⟨c - 97,by omega,by omega⟩⟩
end L2
namespace L2
open PySem PySem.Spec PyProof.Rows
structure KCal (P:Program) (w:World) (K:PySem.W.Frag) (mg:Str→Option Value) (base:Heap) (k:Nat) (x:Str) (C:Addr) (ps:List Str) (sp:Sp):Prop where
 ex:∃ (f:Addr) (fd:FuncData),FnOk P w K mg base (CX1 P w) k f fd ps sp∧mg x = some (.ref C)∧Mk K C f∧Binds K fd ps []
structure MCal (P:Program) (w:World) (K:PySem.W.Frag) (mg:Str→Option Value) (base:Heap) (k:Nat) (m:Str) (Cs:Addr→Prop) (ps:List Str) (sp:Sp):Prop where
 ex:∃ (f:Addr) (fd:FuncData),FnOk P w K mg base (CX1 P w) k f fd ps sp∧(∀ C,Cs C→Cls K C∧Meth K C m f)∧PySem.W.keepIn K (.ref f) = true∧Binds K fd ps []
def JgK (Cs:Addr→Prop) (m:Str) (sp:Sp) (E:XK) (ta:TE) (t:TA):TE:=fun σ H Q => ta σ H fun x H1 => ∃ a C dx fs,x = .ref a∧H1 a = some (.ins C dx fs)∧Cs C∧fs.lookup m = none∧t σ H1 fun vs H2 => sp (x :: vs) H2 Q E
section
variable {X:Cx} {k k':Nat} {x mn:Str} {C:Addr} {Cs:Addr→Prop} {ps:List Str} {sp:Sp} {E:XK} {p pos apos:Pos} {e o:Expr} {es:List Expr} {t:TA} {ta:TE}
theorem KCal.ev (G:KCal X.prog X.w X.K X.mg X.base k x C ps sp) (hr:Room k' X.A) (hk:k + 1 ≤ k') (hg:Gl X x) (hx:JbW (CX1 X.prog X.w) X E) (ha:PA X (e :: es) t)
  (hdb:(x == ("__debug__" : Str)) = false:=by decide) (he:starEach (e :: es) X.env = (false,eval e X.env) :: starEach es X.env:=by rfl) (hpl:(backTo pos (starEach es X.env)).any (·.1) = false:=by rfl) :
  PE X (.Call (.Name x p) (e :: es) [] pos) (tMake C sp [] E t):=by
 obtain ⟨f,fd,F,hm,M,hb⟩:=G.ex
 exact Jim M F (hr.mono hk) hg hm hb .nil hx ha hdb he hpl
theorem MCal.m {pl:Sem Bool} (G:MCal X.prog X.w X.K X.mg X.base k mn Cs ps sp) (hr:Room k' X.A) (hk:k ≤ k') (hx:JbW (CX1 X.prog X.w) X E) (ho:PE X o ta) (ha:PA X (e :: es) t)
  (hst:starEach (e :: es) X.env = (false,eval e X.env) :: starEach es X.env:=by rfl) (hpl:(backTo pos (starEach es X.env)).any (·.1) = false:=by rfl)
  (ht:eval (.Call (.Attribute o mn apos) (e :: es) [] pos) X.env = (do
   let ov ← eval o X.env
   standAt apos.atName
   let (f,first) ← holding [ov] (getMethod ov mn pl)
   callWith pos f first (backTo pos (starEach (e :: es) X.env)) (backToKw pos (keywordEach [] X.env))):=by rfl) :
  PE X (.Call (.Attribute o mn apos) (e :: es) [] pos) (JgK Cs mn sp E ta t):=by
 obtain ⟨f,fd,F,hm,kp,hb⟩:=G.ex
 intro pins s σ H Q I h
 refine PySem.W.methodCall_KW (pl:=pl) (thn (ho pins s σ H _ I h) fun u s1 ⟨x,H1,I1,rx,a,C,dx,fs,ex,ea,hC,l,q⟩ => ?_) ht
 subst ex
 obtain rfl:u = Value.ref a:=rx
 refine Jde I1 ea (hm C hC).1 (hm C hC).2 l ?_
 refine PySem.W.callWith_K (first:=[.ref a]) (h₀:=X.base) I.ok.mod.kin kp (thn (ha pos pins s1 σ H1 _ I1 q) fun us s2 ⟨vs,H2,I2,r,q2⟩ => ⟨I2.kIn, ?_⟩) hst hpl
 exact JgD (us:=.ref a :: us) (vs:=.ref a :: vs) F (hr.mono hk) hb .nil hx I2 (.cons rfl r) (by simpa using q2)
theorem MCal.m0 {pl:Sem Bool} (G:MCal X.prog X.w X.K X.mg X.base k mn Cs ps sp) (hr:Room k' X.A) (hk:k ≤ k') (hx:JbW (CX1 X.prog X.w) X E) (ho:PE X o ta)
  (ht:eval (.Call (.Attribute o mn apos) [] [] pos) X.env = (do
   let ov ← eval o X.env
   standAt apos.atName
   let (f,first) ← holding [ov] (getMethod ov mn pl)
   callWith pos f first (backTo pos (starEach [] X.env)) (backToKw pos (keywordEach [] X.env))):=by rfl) :
  PE X (.Call (.Attribute o mn apos) [] [] pos) (JgK Cs mn sp E ta tNil):=by
 obtain ⟨f,fd,F,hm,kp,hb⟩:=G.ex
 intro pins s σ H Q I h
 refine PySem.W.methodCall_KW (pl:=pl) (thn (ho pins s σ H _ I h) fun u s1 ⟨x,H1,I1,rx,a,C,dx,fs,ex,ea,hC,l,q⟩ => ?_) ht
 subst ex
 obtain rfl:u = Value.ref a:=rx
 refine Jde I1 ea (hm C hC).1 (hm C hC).2 l ?_
 exact PySem.W.callWith_K0 (first:=[.ref a]) I1.kIn kp (JgD (us:=[.ref a]) (vs:=[.ref a]) F (hr.mono hk) hb .nil hx I1 (.cons rfl .nil) (show sp ([.ref a] ++ []) H1 Q E from q))
def rMulS:R2:=fun x y H Q => match x,y with
 | .str z, .int n => 0 < n∧n < 1000∧z.length ≤ 1000∧∀ z':Str,z'.cps.toList = (List.replicate n.toNat z.cps.toList).flatten→Q (.str z') H
 | x,y => rMulU x y H Q
theorem Jdr:∀ (l:List (Array Nat)) (acc:Array Nat),(l.foldl (· ++ ·) acc).toList = acc.toList ++ (l.map (·.toList)).flatten
 | [],acc => by simp
 | x :: l,acc => by
  rw [List.foldl_cons,Jdr l]
  simp
theorem Jgu:OpR X (binaryOp .Mult) rMulS:=fun pins s σ H x y v u Q I rx ry q => by
 unfold rMulS at q
 split at q
 ·rename_i z n
  obtain ⟨h0,h1,h2,q⟩:=q
  obtain ⟨t,rfl⟩:=rx
  obtain ⟨t',rfl⟩:=ry
  have hz:z.cps.size = z.length:=rfl
  have big:z.length * n.toNat ≤ 1000 * 1000:=Nat.mul_le_mul h2 (by omega)
  refine PySem.P.mul_str (by simp; omega) (fun _ _ => ?_) (fun _ _ => ?_) ?_
  ·have : (1000:Int) ≤ (2 ^ 63 - 1) / n:=by
    rw [Int.le_ediv_iff_mul_le h0]
    omega
   omega
  ·unfold Builtin.Str.tooLong
   simp
   have : (1000 * 1000:Nat) ≤ sizeLine:=by decide
   omega
  ·rw [if_neg (by omega)]
   split
   ·rename_i c
    refine ⟨.str z,H,I,⟨_,rfl⟩,q z ?_⟩
    rcases Bool.or_eq_true _ _ |>.mp c with c | c
    ·obtain rfl:n = 1:=by simpa using c
     simp
    ·have e:z.cps.toList = []:=by
      have : z.length = 0:=by simpa using c
      exact List.eq_nil_of_length_eq_zero (by rw [Array.length_toList]; exact this)
     rw [e]
     simp
   ·refine ⟨?_, .str _,H,I.tok _,⟨_,rfl⟩,q _ ?_⟩
    ·show (Array.size _) ≤ sizeLine
     rw [← Array.length_toList,Jdr]
     simp
     have : (1000 * 1000:Nat) ≤ sizeLine:=by decide
     rw [Nat.mul_comm,hz]
     omega
    ·rw [Jdr]
     simp
 ·exact Jig pins s σ H _ _ v u Q I rx ry q
def rIsN:R2:=fun x y H Q => y = .non∧Q (.bl (decide (x = .non))) H
def rNotN:R2:=fun x y H Q => y = .non∧Q (.bl (!decide (x = .non))) H
theorem JbF:OpR X (compareOp .Is) rIsN:=Ji2
theorem Jcv:OpR X (compareOp .IsNot) rNotN:=Jii
def JhI (K:PySem.W.Frag):List V→Hp→VK→Prop:=fun xs H Q => ∃ p ys,xs = [.ref p]∧(SqL K H p ys ∨ SqT K H p ys)∧∀ l,H l = none→Q (.ref l) (upd H l (.lst ys))
theorem Jcc:CallR X (.type "list") (JhI X.K):=JdY
end
section
variable {K:PySem.W.Frag} {H:Hp} {Q:VK}
theorem y62y {x:V}:rIsN x .non H Q = Q (.bl (decide (x = .non))) H:=by simp [rIsN]
theorem y78y {x:V}:rNotN x .non H Q = Q (.bl (!decide (x = .non))) H:=by simp [rNotN]
theorem y68y {C:Addr} {sp:Sp} {dvs:List V} {E:XK} {t:TA} {σ : St}:tMake C sp dvs E t σ H Q = t σ H fun vs H1 => ∀ x dx,H1 x = none→H1 dx = none→dx ≠ x→sp (.ref x :: (vs ++ dvs)) (upd (upd H1 dx (.own x)) x (.ins C dx [])) (fun v H2 => v = .non∧Q (.ref x) H2) E:=rfl
theorem y69y {Cs:Addr→Prop} {mn:Str} {sp:Sp} {E:XK} {ta:TE} {t:TA} {σ : St}:JgK Cs mn sp E ta t σ H Q = ta σ H fun x H1 => ∃ a C dx fs,x = .ref a∧H1 a = some (.ins C dx fs)∧Cs C∧fs.lookup mn = none∧t σ H1 fun vs H2 => sp (x :: vs) H2 Q E:=rfl
theorem y4dy {ta:TE} {f:Str} {σ : St}:tFld K ta f σ H Q = ta σ H fun x H1 => ∃ a C dx fs v,x = .ref a∧H1 a = some (.ins C dx fs)∧Cls K C∧JaW K C f∧fs.lookup f = some v∧Q v H1:=rfl
theorem y86y {ta tv:TE} {f:Str} {σ : St} {En:Ends}:sFld K ta tv f En σ H = tv σ H fun y H1 => ta σ H1 fun x H2 => ∃ a C dx fs,x = .ref a∧H2 a = some (.ins C dx fs)∧Cls K C∧JaW K C f∧fs.length < 1000∧En.nx σ (upd H2 a (.ins C dx (putF f y fs))):=rfl
theorem y2cy {T:String} {r:V→List V→Hp→VK→Prop} {to:TE} {t:TA} {σ : St}:tBM K T r to t σ H Q = to σ H fun x H1 => tyV K T x H1∧t σ H1 fun vs H2 => r x vs H2 Q:=rfl
theorem y59y {g:TG} {gs:TGs} {v:V} {r:List V} {σ : St} {R:St→Hp→Prop}:gCons g gs (v :: r) σ H R = g v σ H fun σ' H' => gs r σ' H' R:=by
 unfold gCons
 refine propext ⟨fun ⟨v',r',e,h⟩ => ?_,fun h => ⟨v,r,rfl,h⟩⟩
 cases e
 exact h
theorem y5by {σ : St} {R:St→Hp→Prop}:gNil [] σ H R = R σ H:=by unfold gNil; simp
theorem FrV.of_rep {x:V} {a b:Int} (h:Rep K H (.tup [.int a, .int b]) x):FrV K H x a b:=by
 simp only [Rep,RepL] at h
 obtain ⟨p,xs,rfl,q,v,r,rfl,rfl,v',r',rfl,rfl,rfl⟩:=h
 exact ⟨p,rfl,q⟩
theorem Jbn {d:D} (h:fracB d = true):∃ a b,d = .tup [.int a, .int b]∧1 ≤ b∧Mth.g a b = 1:=by
 unfold fracB at h
 split at h
 ·rw [Bool.and_eq_true] at h
  exact ⟨_,_,rfl,by simpa using h.1,by simpa using h.2⟩
 ·cases h
theorem Jdi {d:D} (h:nameB d = true):∃ z,d = .str z∧nameS z = true:=by
 cases d <;> first | exact ⟨_,rfl,h⟩ | (simp [nameB] at h)
theorem Rep.str {d:Str} {x:V} (h:Rep K H (.str d) x):x = .str d:=by simpa only [Rep] using h
def nonD:D→Bool
 | .non => true
 | _ => false
theorem Jgn {d:D} (h:d ≠ .non):nonD d = false:=by cases d <;> first | rfl | exact absurd rfl h
theorem Rep.nonV {d:D} {x:V} (hx:Rep K H d x):decide (x = .non) = nonD d:=by
 cases d <;> simp only [Rep] at hx
 ·subst hx; rfl
 ·subst hx; rfl
 ·subst hx; rfl
 ·subst hx; rfl
 ·obtain ⟨a,xs,rfl,_⟩:=hx; rfl
 ·obtain ⟨a,xs,rfl,_⟩:=hx; rfl
theorem putE {H':Hp} {l:Addr} {o:HO} (e:upd H l o = H'):H' l = some o:=by rw [← e,Jap]
theorem putN {H':Hp} {l b:Addr} {o o' u:HO} (e:upd H l o = H') (hl:H l = some o') (hb:H b = some u) (ne:u ≠ o'):H' b = some u:=by
 rw [← e,Jag (ne_of hb hl ne)]
 exact hb
end
def tieF (n s e l g:V):List (Str × V):=[("name",n),("start",s),("end",e),("least",l),("greatest",g)]
end L2
namespace L2
open PySem PySem.Spec PyProof.Rows
section
variable {En:Ends} {σ : St} {H:Hp} {Q:VK} {ta tb te tc td:TE} {K:PySem.W.Frag}
end
end L2
namespace L2
open PySem PySem.Spec PyProof.Rows
def Ja5 (cells:List (Str × Addr)):List (Str × NameKind)→List (Str × Addr)→List (Str × Addr)
 | [],acc => acc
 | (n,k) :: r,acc => Ja5 cells r (if k == .free then (n,(cells.lookup n).getD 0) :: acc else acc)
theorem Jev {env:Env}:∀ (names:List (Str × NameKind)) (acc:List (Str × Addr)),(∀ p ∈ names,p.2 = .free→∃ c,env.cells.lookup p.1 = some c) →
  (forIn names acc fun (p:Str × NameKind) cs => (if p.2 == .free then do let c ← cellOf env p.1; pure (ForInStep.yield ((p.1,c) :: cs)) else pure (ForInStep.yield cs):Sem (ForInStep (List (Str × Addr))))) = (pure (Ja5 env.cells names acc):Sem (List (Str × Addr)))
 | [],acc,_ => by simp [Ja5]
 | (n,k) :: r,acc,h => by
  rw [List.forIn_cons]
  by_cases c:(k == .free) = true
  ·obtain ⟨a,ha⟩:=h (n,k) List.mem_cons_self (beq_iff_eq.mp c)
   have e:cellOf env n = pure a:=by unfold cellOf; rw [ha]
   simp only [c,if_true,e,pure_bind]
   have:=Jev (env:=env) r ((n,a) :: acc) fun p hp => h p (List.mem_cons_of_mem _ hp)
   simp only [Ja5,c,if_true,ha,Option.getD_some]
   exact this
  ·have c':(k == .free) = false:=by simpa using c
   simp only [c',Bool.false_eq_true,if_false,pure_bind]
   have:=Jev (env:=env) r acc fun p hp => h p (List.mem_cons_of_mem _ hp)
   simp only [Ja5,c',Bool.false_eq_true,if_false]
   exact this
theorem Jeu {scope:Scope} {env:Env} (h:∀ p ∈ scope.names,p.2 = .free→∃ c,env.cells.lookup p.1 = some c):closureFor scope env = pure (Ja5 env.cells scope.names []):=by
 have:=Jev (env:=env) scope.names [] h
 unfold closureFor
 simp only [pure_bind]
 refine Eq.trans ?_ (congrArg (fun m:Sem (List (Str × Addr)) => m >>= pure) this |>.trans (by simp))
 first | rfl | (congr 1)
theorem JbQ {cells:List (Str × Addr)}:∀ (names:List (Str × NameKind)) (acc:List (Str × Addr)),(∀ x c,acc.lookup x = some c→cells.lookup x = some c)→(∀ p ∈ names,p.2 = .free→∃ c,cells.lookup p.1 = some c) →
  ∀ x c,(Ja5 cells names acc).lookup x = some c→cells.lookup x = some c
 | [],acc,ha,_,x,c,h => ha x c h
 | (n,k) :: r,acc,ha,hf,x,c,h => by
  simp only [Ja5] at h
  refine JbQ r _ ?_ (fun p hp => hf p (List.mem_cons_of_mem _ hp)) x c h
  intro y d hy
  by_cases f:(k == .free) = true
  ·rw [if_pos f] at hy
   obtain ⟨a,e⟩:=hf (n,k) List.mem_cons_self (beq_iff_eq.mp f)
   rw [List.lookup_cons] at hy
   by_cases q:(y == n) = true
   ·rw [q] at hy
    have q':y = n:=beq_iff_eq.mp q
    subst q'
    have e':cells.lookup y = some a:=e
    rw [e'] at hy ⊢
    simpa using hy
   ·have q':(y == n) = false:=by simpa using q
    rw [q'] at hy
    exact ha y d hy
  ·rw [if_neg f] at hy
   exact ha y d hy
theorem JbP {cells:List (Str × Addr)}:∀ (names:List (Str × NameKind)) (acc:List (Str × Addr)) (y:Str),((∃ c,acc.lookup y = some c) ∨ (y,NameKind.free) ∈ names)→∃ c,(Ja5 cells names acc).lookup y = some c
 | [],acc,y,h => by
  rcases h with h | h
  ·exact h
  ·simp at h
 | (n,k) :: r,acc,y,h => by
  simp only [Ja5]
  refine JbP r _ y ?_
  rcases h with ⟨c,h⟩ | h
  ·refine .inl ?_
   split
   ·rw [List.lookup_cons]
    cases (y == n)
    ·exact ⟨c,h⟩
    ·exact ⟨_,rfl⟩
   ·exact ⟨c,h⟩
  ·rcases List.mem_cons.mp h with e | h
   ·cases e
    refine .inl ?_
    rw [if_pos (by decide),List.lookup_cons]
    simp
   ·exact .inr h
section
variable {X:Cx} {tg:Expr}
theorem JdG {iter elt:Expr} {scope:Scope} {pos:Pos} {own:List Str} {cs:List (Nat × Str)} {wi:TI} {g:TG} {te:TE} (hc:X.calm = true) (hi:PI X tg iter wi)
  (hg:∀ fp s2 H2 C,PG (X.inc (own ++ cs.map (·.2)) scope (Ja5 X.env.cells scope.names []) fp s2 H2 C) tg g) (he:∀ fp s2 H2 C,PE (X.inc (own ++ cs.map (·.2)) scope (Ja5 X.env.cells scope.names []) fp s2 H2 C) elt te)
  (hfree:∀ p ∈ scope.names,p.2 = .free→X.env.scope.names.lookup p.1 = some .cell) (hcell:∀ y ∈ scope.names,y.2 ≠ .cell) (hkind:scope.kind = .function) (hnames:∀ y ∈ scope.names,y.2 = .local→scope.names.lookup y.1 = some .local)
  (hcs:∀ p ∈ cs,X.N[p.1]? = some p.2∧X.env.scope.names.lookup p.2 = some .cell∧(relabel scope X.env).names.lookup p.2 = some .cell)
  (hs:∀ x,foldedSetIterable iter X.env x = pure x:=by intro _; rfl):PE X (.ListComp elt [⟨tg,iter,[],0⟩] scope pos) (tComp own.length cs wi g te):=by
 intro pins s σ H Q I h
 have hf:∀ p ∈ scope.names,p.2 = .free→∃ c,X.env.cells.lookup p.1 = some c:=fun p hp hk => I.ok.has p.1 (.inl (hfree p hp hk))
 refine Jch hc hi hg he (Jeu hf) hcell hkind hnames (JbQ scope.names [] (fun _ _ z => by simp at z) hf) (fun y hy => JbP scope.names [] y (.inr ?_)) hcs hs pins s σ H Q I h
 have go:∀ k,(k = .cell ∨ k = .free)→(relabel scope X.env).names.lookup y = some k→(y,NameKind.free) ∈ scope.names:=fun k hk e => by
  have m:=PySem.mem_of_lookup e
  obtain ⟨⟨n,k'⟩,hm,e'⟩:=List.mem_map.mp (show (y,k) ∈ scope.names.map _ from m)
  have e2:(if (k' == NameKind.free && X.env.scope.kind == .function && X.env.kindOf n == some .cell) = true then (n,NameKind.cell) else (n,k')) = (y,k):=e'
  split at e2
  ·rename_i c
   rw [Bool.and_eq_true,Bool.and_eq_true] at c
   have:=beq_iff_eq.mp c.1.1
   subst this
   cases e2
   exact hm
  ·cases e2
   rcases hk with rfl | rfl
   ·exact absurd rfl (hcell _ hm)
   ·exact hm
 rcases hy with hy | hy
 ·exact go _ (.inl rfl) hy
 ·exact go _ (.inr rfl) hy
theorem Jdf {scope sc:Scope} (h:scope.names.all (fun p => p.2 != .free || (sc.names.lookup p.1 == some .cell)) = true):∀ p ∈ scope.names,p.2 = .free→sc.names.lookup p.1 = some .cell:=fun p hp hk => by
 have z:=List.all_eq_true.mp h p hp
 rw [hk] at z
 simpa using z
end
theorem hcs1 {X:Cx} {scope:Scope} {i:Nat} {x:Str} (a:X.N[i]? = some x) (b:X.env.scope.names.lookup x = some .cell) (c:(relabel scope X.env).names.lookup x = some .cell) :
  ∀ p ∈ [(i,x)],X.N[p.1]? = some p.2∧X.env.scope.names.lookup p.2 = some .cell∧(relabel scope X.env).names.lookup p.2 = some .cell:=fun p hp => by
 rcases List.mem_singleton.mp hp with rfl
 exact ⟨a,b,c⟩
theorem JdA {a b:Int} (hb:1 ≤ b) (h:Mth.g a b = 1):Mth.top (0 * b - a * 1) (1 * b) = -a∧Mth.bot (0 * b - a * 1) (1 * b) = b:=by
 have e1:(0 * b - a * 1:Int) = -a:=by simp
 have e2:(1 * b:Int) = b:=by simp
 rw [e1,e2]
 have b0:b ≠ 0:=by omega
 have u:=Mth.Jdh (Mth.Jbg (t:=-a) b0) hb (Mth.g_low (t:=-a) b0) (by rw [Mth.g_neg]; exact h) (Mth.cross (t:=-a) b0)
 exact u
end L2
namespace L2
open PySem PySem.Spec PyProof.Rows
section
variable {X:Cx} {tg:Expr}
theorem Jfq {iter elt:Expr} {scope:Scope} {pos:Pos} {own:List Str} {cl:List (Str × Addr)} {cs:List (Nat × Str)} {g:TG} {te:TE} {pins:List (Addr × Obj)} {s2:Shared} {σ : St} {H2:Hp} {it:Addr} {fp:List Addr} {tn:Nat→Heap→Prop} {J:It}
  {W:Nat→Nat→List V→Hp→Prop} {m0:Nat} {QN:List V→Hp→Prop} {RR:Value→Addr→Result→Shared→Prop} {E:Value→Shared→Prop} (hc:X.calm = true)
  (hg:∀ fp s2 H2 C,PG (X.inc (own ++ cs.map (·.2)) scope cl fp s2 H2 C) tg g) (he:∀ fp s2 H2 C,PE (X.inc (own ++ cs.map (·.2)) scope cl fp s2 H2 C) elt te)
  (hcell:∀ y ∈ scope.names,y.2 ≠ .cell) (hkind:scope.kind = .function)
  (hcl:∀ x c,cl.lookup x = some c→X.env.cells.lookup x = some c) (hhas:∀ y,((relabel scope X.env).names.lookup y = some .cell ∨ (relabel scope X.env).names.lookup y = some .free)→∃ c,cl.lookup y = some c)
  (hcs:∀ p ∈ cs,X.N[p.1]? = some p.2∧X.env.scope.names.lookup p.2 = some .cell∧(relabel scope X.env).names.lookup p.2 = some .cell)
  (I2:Inv X pins σ H2 s2) (T:Turn X.prog X.w X.K tg J fp it tn) (st2:tn 0 s2.heap) (f2:∀ b ∈ fp,FpOk X pins H2 b) (w0:W 0 m0 [] H2)
  (turn:∀ i m ys H2,W i m ys H2→ys.length ≤ sizeLine∧((J.stop i H2∧QN ys H2) ∨ (J.go i H2∧∀ x H3,J.yld i H2 x H3→g x (List.replicate own.length none ++ Jau cs σ) H3 fun σ4 H4 => te σ4 H4 fun y H5 => ∃ m',m' < m∧W (i + 1) m' (ys ++ [y]) H5)))
  (hRR:∀ (D C:Addr) (s6:Shared) (H5:Hp) (ys:List V),(∀ h7,Heap.SameBut C s6.heap h7→Inv X pins σ (upd H5 D (.lst ys)) { s6 with heap:=h7 })→H5 D = none→H5 C = none→D ≠ C→(∃ m,s6.heap.Ns C m)→s2.heap.objs.size ≤ C→QN ys H5→RR (.ref D) C (.ok .next) s6) :
  wpAny (model X.prog X.w) X.A (newList []) (fun acc s₃ => wpAny (model X.prog X.w) X.A (newFunctionEnv scope X.env.globals cl [] X.env.qual none .none (some X.env)) (fun cenv s₄ =>
   codeAny (model X.prog X.w) X.A (.compStart (.ListComp elt [⟨tg,iter,[],0⟩] scope pos) 0 (.ref it) acc { cenv with scope:=relabel scope X.env }) (RR acc cenv.locals) s₄) E s₃) E s2:=by
 have hfp:∀ b ∈ fp,b < s2.heap.objs.size:=fun b hb => by
  obtain ⟨o,e,_⟩:=T.obj _ _ st2 b hb
  exact Heap.lt_size e
 refine wpAny_newObj_type (wpAny_newFunctionEnv hcell (by intro y hy; simp at hy) (fun h4 hns4 hsb4 => ?_) hkind)
 dsimp only at hns4 hsb4 ⊢
 generalize hH3:s2.heap.push { cls:=.type "list",dict:=none,data:=.seq ([]:List Value).toArray } = H3 at hns4 hsb4 ⊢
 have hCs:H3.objs.size = s2.heap.objs.size + 1:=by rw [← hH3,Heap.size_push]
 have hC:s2.heap.objs.size ≤ H3.objs.size:=by omega
 have hDC:s2.heap.objs.size ≠ H3.objs.size:=by omega
 have old:∀ b o,s2.heap.get? b = some o→h4.get? b = some o:=fun b o e => hsb4.extBut b o (by have:=Heap.lt_size e; exact Nat.ne_of_lt (Nat.lt_of_lt_of_le this hC)) (Heap.get?_push_of_some _ (hH3 ▸ Heap.get?_push_of_some _ e))
 have hD4:h4.get? s2.heap.objs.size = some { cls:=.type "list",data:=.seq ([]:List Value).toArray }:=hsb4.extBut _ _ hDC (Heap.get?_push_of_some _ (hH3 ▸ Heap.get?_push_size _ rfl))
 obtain ⟨D,hDe⟩:∃ D,D = s2.heap.objs.size:=⟨_,rfl⟩
 obtain ⟨C,hCe⟩:∃ C,C = H3.objs.size:=⟨_,rfl⟩
 rw [← hCe] at hCs hns4 hsb4 hC hDC ⊢
 rw [← hDe] at hfp hCs hC hDC hD4 ⊢
 have ok':=I2.incOk (N':=own ++ cs.map (·.2)) (C:=C) f2 (fun b hb => by rw [← hDe]; exact hfp b hb) hkind (by rw [← hDe]; exact hC) hcl hhas
 have I4:Inv (X.inc (own ++ cs.map (·.2)) scope cl fp s2 H2 C) [] (List.replicate own.length none ++ Jau cs σ) H2 { s2 with heap:=h4,toks:=s2.toks + ([]:List (Str × Value)).length } :=
  I2.incStart (s4:={ s2 with heap:=h4,toks:=s2.toks + ([]:List (Str × Value)).length }) ok' old rfl rfl hns4 (by rw [← hDe]; exact hC) hcl hcs
 have Dfree:H2 D = none:=I2.hok.fresh (Nat.le_of_eq hDe.symm)
 have ltD:∀ b o,s2.heap.get? b = some o→b ≠ D:=fun b o e => by
  rw [hDe]
  exact Nat.ne_of_lt (Heap.lt_size e)
 have ltC:∀ b o,s2.heap.get? b = some o→b ≠ C:=fun b o e => Nat.ne_of_lt (Nat.lt_of_lt_of_le (by rw [hDe]; exact Heap.lt_size e) hC)
 have Dfs:D ∉ frs X.stack:=fun hm => by
  obtain ⟨_,o,e,_⟩:=I2.stack.mem hm
  exact ltD _ _ e rfl
 have pinD:∀ {σ':St} {H':Hp} {s':Shared} {us:List Value} {n:Nat} {pl:List (Addr × Obj)},Inv (X.inc (own ++ cs.map (·.2)) scope cl fp s2 H2 C) pl σ' H' s'→s'.heap.get? D = some { cls:=.type "list",data:=.seq us.toArray n }→H' D = none →
   Inv (X.inc (own ++ cs.map (·.2)) scope cl fp s2 H2 C) [(D,{ cls:=.type "list",data:=.seq us.toArray n })] σ' H' s':=fun {σ' H' s' us n pl} J' e n' => J'.pins_of fun p hp => by
  rcases List.mem_singleton.mp hp with rfl
  exact ⟨e,n',hDC,Dfs,fun v z => by cases z⟩
 have fpok:∀ {H':Hp} {o:Obj},(∀ b ∈ fp,H' b = none)→∀ b ∈ fp,FpOk (X.inc (own ++ cs.map (·.2)) scope cl fp s2 H2 C) [(D,o)] H' b:=fun {H' o} hn b hb => by
  refine ⟨hn b hb,(ok'.exf b hb).1,ok'.exfs b hb, .inl hb,(ok'.exf b hb).2,fun p hp => ?_⟩
  rcases List.mem_singleton.mp hp with rfl
  exact Nat.ne_of_gt (hfp b hb)
 have loop:∀ s3:Shared,s3 = { s2 with heap:=h4,toks:=s2.toks + ([]:List (Str × Value)).length } →
   codeAny (model X.prog X.w) X.A (.compLoop (.ListComp elt [⟨tg,iter,[],0⟩] scope pos) 0 (.ref it) (.ref D) (compEnvC scope cl C X.env)) (RR (.ref D) C) s3:=by
  rintro s3 rfl
  refine Jc7 (fun n s' => ∃ i ys us nn H',Inv (X.inc (own ++ cs.map (·.2)) scope cl fp s2 H2 C) [(D,{ cls:=.type "list",data:=.seq us.toArray nn })] (List.replicate own.length none ++ Jau cs σ) H' s'∧tn i s'.heap∧(∀ b ∈ fp,H' b = none)∧Vals ys us∧W i n ys H') ?_ m0
   ⟨0,[],[],0,H2,pinD (us:=[]) (n:=0) I4 hD4 Dfree,T.keep _ _ _ st2 fun b hb o e => old b o e,fun b hb => (f2 b hb).1, .nil,w0⟩
  rintro n s5 ⟨i,ys,us,nn,H5,I5,st5,fr5,vy,w5⟩
  obtain ⟨hz,⟨stop,qn⟩ | ⟨go,step⟩⟩:=turn i n ys H5 w5
  ·refine wpAny_mono (T.done (X.inc (own ++ cs.map (·.2)) scope cl fp s2 H2 C) rfl rfl rfl hc i _ s5 _ H5 (fun _ _ => False) I5 (fpok fr5) st5 stop) (fun r s6 z => ?_) fun _ _ z => z
   obtain ⟨rfl,I6⟩:=z
   obtain ⟨m6,hn6,_⟩:=id I6.loc
   obtain ⟨pD,pN,_,_,_⟩:=I6.pin (D,{ cls:=.type "list",data:=.seq us.toArray nn }) (by simp)
   have Cfree:H5 C = none:=I6.free
   refine hRR D C s6 H5 ys (fun h7 hs7 => ?_) pN Cfree hDC ⟨m6,hn6⟩ (by rw [← hDe]; exact hC) qn
   have same:∀ b,b ≠ C→h7.get? b = s6.heap.get? b:=fun b hb => hs7.2 b hb
   have lt2:=ltC
   have u7:Un (frs X.stack) fp H2 H5 s2.heap h7:=⟨fun b o e n1 n2 n3 => (same b (lt2 b o e)).trans (I6.base.keep b o e n1 n2 n3),fun b o e n1 n2 n3 => by
     obtain ⟨sl,z⟩:=I6.base.slot b o e n1 n2 n3
     exact ⟨sl,(same b (lt2 b o e)).trans z⟩,I6.base.free,fun b o e n1 => by
     obtain ⟨o',z⟩:=I6.base.there b o e n1
     exact ⟨o',(same b (lt2 b o e)).trans z⟩,I6.base.tups,I6.base.frzs,I6.base.tbls⟩
   have hok7:HOk X.prog X.w H5 h7:=fun a o e => by
    refine (I6.hok a o e).stay (fun c v hcc q => (same c ?_).trans q) (fun _ q => q) fun _ _ q => q
    rintro rfl
    rcases hcc with z | z
    ·rw [← z] at e; rw [Cfree] at e; cases e
    ·rw [Cfree] at z; cases z
   have I7:Inv X pins σ H5 { s6 with heap:=h7 }:=I2.call' (s':={ s6 with heap:=h7 }) I6.os u7 hok7 I6.bare fun b hb => ⟨(f2 b hb).2.2.2.1,(f2 b hb).2.1,(f2 b hb).2.2.2.2.1,(f2 b hb).2.2.2.2.2⟩
   exact I7.track (a:=D) (o:=.lst ys) pN (Heap.get?_none_of_le (by rw [hDe]; exact I2.sz)) (by rw [hDe]; exact Nat.ne_of_gt I2.lt) (fun x c e z => by
     obtain ⟨v,o,ho,_⟩:=I2.cell x c e
     exact ltD _ _ ho z) (fun p hp z => ltD _ _ (I2.pin p hp).1 z) ⟨hz,us,nn,vy,(same D hDC).trans pD⟩
  ·refine wpAny_mono (T.item (X.inc (own ++ cs.map (·.2)) scope cl fp s2 H2 C) rfl rfl rfl hc i _ s5 _ H5 (fun _ _ => False) I5 (fpok fr5) st5 go) (fun r s6 z => ?_) fun _ _ z => z
   obtain ⟨u,rfl,z⟩:=z
   refine wpAny_mono z (fun _ s7 ⟨x,H7,I7,r7,y7,st7,fr7⟩ => ?_) fun _ _ z => z
   have I7':=I7.pinned (fpok fr7) (T.obj _ _ st7)
   refine wpAny_mono (hg fp s2 H2 C _ s7 _ H7 x u _ I7' r7 (step x H7 y7)) (fun _ s8 ⟨σ8,H8,I8,q8⟩ => ?_) fun _ _ z => z
   refine wpAny_mono (he fp s2 H2 C _ s8 σ8 H8 _ I8 q8) (fun uy s9 ⟨y,H9,I9,r9,m',hm',w9⟩ => ?_) fun _ _ z => z
   obtain ⟨pD,pN,_,_,_⟩:=I9.pin (D,{ cls:=.type "list",data:=.seq us.toArray nn }) (by simp)
   refine append_at (its:=us.toArray) (n:=nn) pD (fun h10 hs10 hD10 => ?_) (by rw [List.size_toArray, ← vy.length]; exact hz)
   have keepfp:∀ b ∈ fp, ∀ o,s7.heap.get? b = some o→s9.heap.get? b = some o∧H9 b = none:=fun b hb o e => by
    have z:=I9.pin (b,o) (List.mem_append_right _ (List.mem_append_right _ (Jbb hb e)))
    exact ⟨z.1,z.2.1⟩
   have I9':Inv (X.inc (own ++ cs.map (·.2)) scope cl fp s2 H2 C) [] (List.replicate own.length none ++ Jau cs σ) H9 s9:=I2.incAgain I9 f2 hcl hcs
   have I10:Inv (X.inc (own ++ cs.map (·.2)) scope cl fp s2 H2 C) [] (List.replicate own.length none ++ Jau cs σ) H9 { s9 with heap:=h10 }:=I9'.turned (it:=D) (t':=s9.toks) (fun b o hb e => (hs10.2 b hb).trans e) pN hDC (.inr (Nat.le_of_eq hDe.symm)) (fun x c e z => by
     obtain ⟨v,o,ho,_⟩:=I2.cell x c (hcl x c e)
     exact ltD _ _ ho z) fun p hp => by simp at hp
   rw [lstP] at hD10
   refine ⟨m',hm',i + 1,ys ++ [y],us ++ [uy],nn + 1,H9,pinD I10 hD10 pN,T.keep _ _ _ st7 fun b hb o e => ?_,fun b hb => ?_,vy.append (.cons r9 .nil),w9⟩
   ·exact (hs10.2 b (Nat.ne_of_lt (hfp b hb))).trans (keepfp b hb o e).1
   ·obtain ⟨o,e,_⟩:=T.obj _ _ st7 b hb
    exact (keepfp b hb o e).2
 exact codeAny_compStart_list (loop _ rfl) (T.self _ 0 _ _ _ (T.keep _ _ _ st2 fun b hb o e => old b o e) (loop _ rfl))
theorem Jf3 {X:Cx} {scope:Scope} (hcell:∀ y ∈ scope.names,y.2 ≠ .cell) {y:Str} (hy:(relabel scope X.env).names.lookup y = some .cell ∨ (relabel scope X.env).names.lookup y = some .free):(y,NameKind.free) ∈ scope.names:=by
 have go:∀ k,(k = .cell ∨ k = .free)→(relabel scope X.env).names.lookup y = some k→(y,NameKind.free) ∈ scope.names:=fun k hk e => by
  have m:=PySem.mem_of_lookup e
  obtain ⟨⟨n,k'⟩,hm,e'⟩:=List.mem_map.mp (show (y,k) ∈ scope.names.map _ from m)
  have e2:(if (k' == NameKind.free && X.env.scope.kind == .function && X.env.kindOf n == some .cell) = true then (n,NameKind.cell) else (n,k')) = (y,k):=e'
  split at e2
  ·rename_i c
   rw [Bool.and_eq_true,Bool.and_eq_true] at c
   have:=beq_iff_eq.mp c.1.1
   subst this
   cases e2
   exact hm
  ·cases e2
   rcases hk with rfl | rfl
   ·exact absurd rfl (hcell _ hm)
   ·exact hm
 rcases hy with hy | hy
 ·exact go _ (.inl rfl) hy
 ·exact go _ (.inr rfl) hy
theorem Jdl {iter elt:Expr} {scope:Scope} {pos spos py:Pos} {y:Str} {j:Nat} {own:List Str} {cs:List (Nat × Str)} {wi:TI} {g:TG} {te:TE} (hN:X.N.Nodup) (hj:X.N[j]? = some y) (hy:Loc X.env.scope y) (hc:X.calm = true) (hi:PI X tg iter wi)
  (hg:∀ fp s2 H2 C,PG (X.inc (own ++ cs.map (·.2)) scope (Ja5 X.env.cells scope.names []) fp s2 H2 C) tg g) (he:∀ fp s2 H2 C,PE (X.inc (own ++ cs.map (·.2)) scope (Ja5 X.env.cells scope.names []) fp s2 H2 C) elt te)
  (hfree:∀ p ∈ scope.names,p.2 = .free→X.env.scope.names.lookup p.1 = some .cell) (hcell:∀ y ∈ scope.names,y.2 ≠ .cell) (hkind:scope.kind = .function) (hnames:∀ y ∈ scope.names,y.2 = .local→scope.names.lookup y.1 = some .local)
  (hcs:∀ p ∈ cs,X.N[p.1]? = some p.2∧X.env.scope.names.lookup p.2 = some .cell∧(relabel scope X.env).names.lookup p.2 = some .cell)
  (hsw:swapsWith (.ListComp elt [⟨tg,iter,[],0⟩] scope pos) (some (.Name y py)) spos.line X.env = pure true:=by rfl)
  (hs:∀ x,foldedSetIterable iter X.env x = pure x:=by intro _; rfl) (hf:X.fn y = true ∨ X.env.scope.names.lookup y = some .local:=by first | exact .inl rfl | exact .inr rfl) :
  PS X (.Assign [.Name y py] (.ListComp elt [⟨tg,iter,[],0⟩] scope pos) spos) (tAsg (tComp own.length cs wi g te) (gName j)):=by
 intro pins s σ H D I h
 have hfr:∀ p ∈ scope.names,p.2 = .free→∃ c,X.env.cells.lookup p.1 = some c:=fun p hp hk => I.ok.has p.1 (.inl (hfree p hp hk))
 have hcl:=JbQ (cells:=X.env.cells) scope.names [] (fun _ _ z => by simp at z) hfr
 rw [exec_Assign_Name_used _ _ _ _ hsw]
 refine wpAny_bind (wpAny_standAt (wpAny_bind ?_))
 show wpAny _ X.A (do let _ ← comprehension (.ListComp elt [⟨tg,iter,[],0⟩] scope pos) scope X.env _ (newList []) false (eval iter X.env) (some (assign (.Name y py) X.env))) _ _ s
 refine wpAny_bind (wpAny_mono (wpAny_comprehension_free (use:=some (assign (.Name y py) X.env)) (Q:=fun _ s' => SP X pins D .next s') rfl hs (Jeu hfr) hkind hnames
  (thn (hi pins s σ H _ I h) fun v s1 h1 => thn h1 fun itv s2 h2 => ?_)) (fun _ s' hq => wpAny_pure (wpAny_pure hq)) fun _ _ e => e)
 obtain ⟨it,fp,tn,J,H2,rfl,I2,T,st2,f2,W,⟨m0,w0⟩,turn⟩:=h2
 refine Jfq (QN:=fun ys H5 => ∀ p,H5 p = none→D.nx (σ.set j (some (.ref p))) (upd H5 p (.lst ys))) hc hg he hcell hkind hcl (fun z hz => JbP scope.names [] z (.inr (Jf3 hcell hz))) hcs I2 T st2 f2 w0 turn ?_
 intro D' C s6 H5 ys inv dN cN dc hm hC q
 obtain ⟨m6,hn6⟩:=hm
 have I8:Inv X pins σ (upd H5 D' (.lst ys)) s6:=inv s6.heap (Heap.SameBut.refl _ _)
 show wpAny _ X.A (assign (.Name y py) X.env (.ref D')) _ _ s6
 refine wpAny_assign_Name (JcX (v:=.ref D') I8 hN hj hy rfl (fun s7 I7 hsb => ?_) hf)
 obtain ⟨a,sb,ha⟩:=hsb
 have nC:C ≠ a:=by
  rcases ha with rfl | ha
  ·exact Nat.ne_of_gt (Nat.lt_of_lt_of_le I2.lt hC)
  ·obtain ⟨v,o,ho,_⟩:=I2.cell y a ha
   exact Nat.ne_of_gt (Nat.lt_of_lt_of_le (Heap.lt_size ho) hC)
 refine ⟨m6,hn6.sameBut sb nC,fun h8 hs8 => ⟨_,_, ?_,q D' dN⟩⟩
 exact I7.turned (it:=C) (t':=s7.toks) (fun b o hb e => (hs8.2 b hb).trans e) (by rw [Jag (Ne.symm dc)]; exact cN) (Nat.ne_of_gt (Nat.lt_of_lt_of_le I2.lt hC)) (.inr (Nat.le_trans I2.sz hC)) (fun x c e z => by
  obtain ⟨v,o,ho,_⟩:=I2.cell x c e
  exact absurd (Nat.lt_of_lt_of_le (Heap.lt_size ho) hC) (by rw [z]; exact Nat.lt_irrefl _)) (fun p hp z => absurd (Nat.lt_of_lt_of_le (Heap.lt_size (I2.pin p hp).1) hC) (by rw [z]; exact Nat.lt_irrefl _))
end
end L2
namespace L2
open PySem PySem.Spec PyProof.Rows
section
variable {prog:Program} {w:World} {A:Around} {E:Value→Shared→Prop} {R:Result→Shared→Prop} {s:Shared}
theorem Jex {elt target iter tst:Expr} {scope:Scope} {pos:Pos} {it acc:Value} {env:Env} (J:Nat→Shared→Prop)
  (turn:∀ n s,J n s→wpAny (model prog w) A (pyNext it) (fun r s1 => match r with
   | none => R (.ok .next) s1
   | some v => wpAny (model prog w) A (letOwnedTupleGo target it v) (fun _ s2 => wpAny (model prog w) A (assign target env v) (fun _ s3 => wpAny (model prog w) A (isTrue tst env (eval tst env)) (fun b s3' => if b = true then wpAny (model prog w) A (eval elt env) (fun x s4 =>
     wpAny (model prog w) A (call (.builtin "list.append") [acc,x]) (fun _ s5 => ∃ m,m < n∧J m s5) (fun _ _ => False) s4) (fun _ _ => False) s3' else ∃ m,m < n∧J m s3') (fun _ _ => False) s3) (fun _ _ => False) s2) (fun _ _ => False) s1) (fun _ _ => False) s) (n:Nat) (h:J n s) :
  codeAny (model prog w) A (.compLoop (.ListComp elt [⟨target,iter,[tst],0⟩] scope pos) 0 it acc env) R s:=by
 refine codeAny_loop rfl J (fun n s hJ => ?_) n h
 show wpAny _ A ((compTurn (.ListComp elt [⟨target,iter,[tst],0⟩] scope pos) 0 it acc env).onRaise (fun y => do noteFrame y env; theTreesLotGoes y)) _ _ s
 (refine wpAny_noted ?_; rw [compTurn_list])
 refine wpAny_bind (wpAny_standAt (wpAny_bind (wpAny_mono (turn n s hJ) (fun r s1 q1 => ?_) fun _ _ z => z.elim)))
 cases r with
 | none => exact wpAny_pure q1
 | some v =>
  refine wpAny_bind (wpAny_mono q1 (fun _ s2 q2 => wpAny_bind (wpAny_mono q2 (fun _ s3 q3 => ?_) fun _ _ z => z.elim)) fun _ _ z => z.elim)
  refine wpAny_bind (wpAny_tests_one (wpAny_mono q3 (fun b s3' q3' => ?_) fun _ _ z => z.elim))
  cases b with
  | true => exact wpAny_bind (wpAny_bind (wpAny_mono q3' (fun x s4 q4 => (wpAny_bind (wpAny_mono q4 (fun _ s5 q5 => (wpAny_pure (wpAny_pure ⟨rfl,q5⟩))) fun _ _ z => z.elim))) fun _ _ z => z.elim))
  | false => exact wpAny_bind (wpAny_pure (wpAny_pure ⟨rfl,q3'⟩))
end
def Jfl (k:Nat) (cs:List (Nat × Str)) (wi:TI) (g:TG) (tt:TT) (te:TE):TE:=fun σ H Q => wi σ H fun J H1 => ∃ W:Nat→Nat→List V→Hp→Prop,(∃ m,W 0 m [] H1)∧∀ i m ys H2,W i m ys H2→ys.length ≤ sizeLine ∧
  ((J.stop i H2∧∀ p,H2 p = none→Q (.ref p) (upd H2 p (.lst ys))) ∨
   (J.go i H2∧∀ x H3,J.yld i H2 x H3→g x (List.replicate k none ++ Jau cs σ) H3 fun σ4 H4 => tt σ4 H4 fun b H5 => if b = true then te σ4 H5 fun y H6 => ∃ m',m' < m∧W (i + 1) m' (ys ++ [y]) H6 else ∃ m',m' < m∧W (i + 1) m' ys H5))
section
variable {X:Cx} {tg:Expr}
theorem Jew {iter elt tst:Expr} {scope:Scope} {pos:Pos} {own:List Str} {cl:List (Str × Addr)} {cs:List (Nat × Str)} {g:TG} {te:TE} {tt:TT} {pins:List (Addr × Obj)} {s2:Shared} {σ : St} {H2:Hp} {it:Addr} {fp:List Addr} {tn:Nat→Heap→Prop} {J:It}
  {W:Nat→Nat→List V→Hp→Prop} {m0:Nat} {QN:List V→Hp→Prop} {RR:Value→Addr→Result→Shared→Prop} {E:Value→Shared→Prop} (hc:X.calm = true)
  (hg:∀ fp s2 H2 C,PG (X.inc (own ++ cs.map (·.2)) scope cl fp s2 H2 C) tg g) (ht:∀ fp s2 H2 C,PT (X.inc (own ++ cs.map (·.2)) scope cl fp s2 H2 C) tst tt) (he:∀ fp s2 H2 C,PE (X.inc (own ++ cs.map (·.2)) scope cl fp s2 H2 C) elt te)
  (hcell:∀ y ∈ scope.names,y.2 ≠ .cell) (hkind:scope.kind = .function)
  (hcl:∀ x c,cl.lookup x = some c→X.env.cells.lookup x = some c) (hhas:∀ y,((relabel scope X.env).names.lookup y = some .cell ∨ (relabel scope X.env).names.lookup y = some .free)→∃ c,cl.lookup y = some c)
  (hcs:∀ p ∈ cs,X.N[p.1]? = some p.2∧X.env.scope.names.lookup p.2 = some .cell∧(relabel scope X.env).names.lookup p.2 = some .cell)
  (I2:Inv X pins σ H2 s2) (T:Turn X.prog X.w X.K tg J fp it tn) (st2:tn 0 s2.heap) (f2:∀ b ∈ fp,FpOk X pins H2 b) (w0:W 0 m0 [] H2)
  (turn:∀ i m ys H2,W i m ys H2→ys.length ≤ sizeLine∧((J.stop i H2∧QN ys H2) ∨ (J.go i H2∧∀ x H3,J.yld i H2 x H3→g x (List.replicate own.length none ++ Jau cs σ) H3 fun σ4 H4 => tt σ4 H4 fun b H5 => if b = true then te σ4 H5 fun y H6 => ∃ m',m' < m∧W (i + 1) m' (ys ++ [y]) H6 else ∃ m',m' < m∧W (i + 1) m' ys H5)))
  (hRR:∀ (D C:Addr) (s6:Shared) (H5:Hp) (ys:List V),(∀ h7,Heap.SameBut C s6.heap h7→Inv X pins σ (upd H5 D (.lst ys)) { s6 with heap:=h7 })→H5 D = none→H5 C = none→D ≠ C→(∃ m,s6.heap.Ns C m)→s2.heap.objs.size ≤ C→QN ys H5→RR (.ref D) C (.ok .next) s6) :
  wpAny (model X.prog X.w) X.A (newList []) (fun acc s₃ => wpAny (model X.prog X.w) X.A (newFunctionEnv scope X.env.globals cl [] X.env.qual none .none (some X.env)) (fun cenv s₄ =>
   codeAny (model X.prog X.w) X.A (.compStart (.ListComp elt [⟨tg,iter,[tst],0⟩] scope pos) 0 (.ref it) acc { cenv with scope:=relabel scope X.env }) (RR acc cenv.locals) s₄) E s₃) E s2:=by
 have hfp:∀ b ∈ fp,b < s2.heap.objs.size:=fun b hb => by
  obtain ⟨o,e,_⟩:=T.obj _ _ st2 b hb
  exact Heap.lt_size e
 refine wpAny_newObj_type (wpAny_newFunctionEnv hcell (by intro y hy; simp at hy) (fun h4 hns4 hsb4 => ?_) hkind)
 dsimp only at hns4 hsb4 ⊢
 generalize hH3:s2.heap.push { cls:=.type "list",dict:=none,data:=.seq ([]:List Value).toArray } = H3 at hns4 hsb4 ⊢
 have hCs:H3.objs.size = s2.heap.objs.size + 1:=by rw [← hH3,Heap.size_push]
 have hC:s2.heap.objs.size ≤ H3.objs.size:=by omega
 have hDC:s2.heap.objs.size ≠ H3.objs.size:=by omega
 have old:∀ b o,s2.heap.get? b = some o→h4.get? b = some o:=fun b o e => hsb4.extBut b o (by have:=Heap.lt_size e; exact Nat.ne_of_lt (Nat.lt_of_lt_of_le this hC)) (Heap.get?_push_of_some _ (hH3 ▸ Heap.get?_push_of_some _ e))
 have hD4:h4.get? s2.heap.objs.size = some { cls:=.type "list",data:=.seq ([]:List Value).toArray }:=hsb4.extBut _ _ hDC (Heap.get?_push_of_some _ (hH3 ▸ Heap.get?_push_size _ rfl))
 obtain ⟨D,hDe⟩:∃ D,D = s2.heap.objs.size:=⟨_,rfl⟩
 obtain ⟨C,hCe⟩:∃ C,C = H3.objs.size:=⟨_,rfl⟩
 rw [← hCe] at hCs hns4 hsb4 hC hDC ⊢
 rw [← hDe] at hfp hCs hC hDC hD4 ⊢
 have ok':=I2.incOk (N':=own ++ cs.map (·.2)) (C:=C) f2 (fun b hb => by rw [← hDe]; exact hfp b hb) hkind (by rw [← hDe]; exact hC) hcl hhas
 have I4:Inv (X.inc (own ++ cs.map (·.2)) scope cl fp s2 H2 C) [] (List.replicate own.length none ++ Jau cs σ) H2 { s2 with heap:=h4,toks:=s2.toks + ([]:List (Str × Value)).length } :=
  I2.incStart (s4:={ s2 with heap:=h4,toks:=s2.toks + ([]:List (Str × Value)).length }) ok' old rfl rfl hns4 (by rw [← hDe]; exact hC) hcl hcs
 have Dfree:H2 D = none:=I2.hok.fresh (Nat.le_of_eq hDe.symm)
 have ltD:∀ b o,s2.heap.get? b = some o→b ≠ D:=fun b o e => by
  rw [hDe]
  exact Nat.ne_of_lt (Heap.lt_size e)
 have ltC:∀ b o,s2.heap.get? b = some o→b ≠ C:=fun b o e => Nat.ne_of_lt (Nat.lt_of_lt_of_le (by rw [hDe]; exact Heap.lt_size e) hC)
 have Dfs:D ∉ frs X.stack:=fun hm => by
  obtain ⟨_,o,e,_⟩:=I2.stack.mem hm
  exact ltD _ _ e rfl
 have pinD:∀ {σ':St} {H':Hp} {s':Shared} {us:List Value} {n:Nat} {pl:List (Addr × Obj)},Inv (X.inc (own ++ cs.map (·.2)) scope cl fp s2 H2 C) pl σ' H' s'→s'.heap.get? D = some { cls:=.type "list",data:=.seq us.toArray n }→H' D = none →
   Inv (X.inc (own ++ cs.map (·.2)) scope cl fp s2 H2 C) [(D,{ cls:=.type "list",data:=.seq us.toArray n })] σ' H' s':=fun {σ' H' s' us n pl} J' e n' => J'.pins_of fun p hp => by
  rcases List.mem_singleton.mp hp with rfl
  exact ⟨e,n',hDC,Dfs,fun v z => by cases z⟩
 have fpok:∀ {H':Hp} {o:Obj},(∀ b ∈ fp,H' b = none)→∀ b ∈ fp,FpOk (X.inc (own ++ cs.map (·.2)) scope cl fp s2 H2 C) [(D,o)] H' b:=fun {H' o} hn b hb => by
  refine ⟨hn b hb,(ok'.exf b hb).1,ok'.exfs b hb, .inl hb,(ok'.exf b hb).2,fun p hp => ?_⟩
  rcases List.mem_singleton.mp hp with rfl
  exact Nat.ne_of_gt (hfp b hb)
 have loop:∀ s3:Shared,s3 = { s2 with heap:=h4,toks:=s2.toks + ([]:List (Str × Value)).length } →
   codeAny (model X.prog X.w) X.A (.compLoop (.ListComp elt [⟨tg,iter,[tst],0⟩] scope pos) 0 (.ref it) (.ref D) (compEnvC scope cl C X.env)) (RR (.ref D) C) s3:=by
  rintro s3 rfl
  refine Jex (fun n s' => ∃ i ys us nn H',Inv (X.inc (own ++ cs.map (·.2)) scope cl fp s2 H2 C) [(D,{ cls:=.type "list",data:=.seq us.toArray nn })] (List.replicate own.length none ++ Jau cs σ) H' s'∧tn i s'.heap∧(∀ b ∈ fp,H' b = none)∧Vals ys us∧W i n ys H') ?_ m0
   ⟨0,[],[],0,H2,pinD (us:=[]) (n:=0) I4 hD4 Dfree,T.keep _ _ _ st2 fun b hb o e => old b o e,fun b hb => (f2 b hb).1, .nil,w0⟩
  rintro n s5 ⟨i,ys,us,nn,H5,I5,st5,fr5,vy,w5⟩
  obtain ⟨hz,⟨stop,qn⟩ | ⟨go,step⟩⟩:=turn i n ys H5 w5
  ·refine wpAny_mono (T.done (X.inc (own ++ cs.map (·.2)) scope cl fp s2 H2 C) rfl rfl rfl hc i _ s5 _ H5 (fun _ _ => False) I5 (fpok fr5) st5 stop) (fun r s6 z => ?_) fun _ _ z => z
   obtain ⟨rfl,I6⟩:=z
   obtain ⟨m6,hn6,_⟩:=id I6.loc
   obtain ⟨pD,pN,_,_,_⟩:=I6.pin (D,{ cls:=.type "list",data:=.seq us.toArray nn }) (by simp)
   have Cfree:H5 C = none:=I6.free
   refine hRR D C s6 H5 ys (fun h7 hs7 => ?_) pN Cfree hDC ⟨m6,hn6⟩ (by rw [← hDe]; exact hC) qn
   have same:∀ b,b ≠ C→h7.get? b = s6.heap.get? b:=fun b hb => hs7.2 b hb
   have lt2:=ltC
   have u7:Un (frs X.stack) fp H2 H5 s2.heap h7:=⟨fun b o e n1 n2 n3 => (same b (lt2 b o e)).trans (I6.base.keep b o e n1 n2 n3),fun b o e n1 n2 n3 => by
     obtain ⟨sl,z⟩:=I6.base.slot b o e n1 n2 n3
     exact ⟨sl,(same b (lt2 b o e)).trans z⟩,I6.base.free,fun b o e n1 => by
     obtain ⟨o',z⟩:=I6.base.there b o e n1
     exact ⟨o',(same b (lt2 b o e)).trans z⟩,I6.base.tups,I6.base.frzs,I6.base.tbls⟩
   have hok7:HOk X.prog X.w H5 h7:=fun a o e => by
    refine (I6.hok a o e).stay (fun c v hcc q => (same c ?_).trans q) (fun _ q => q) fun _ _ q => q
    rintro rfl
    rcases hcc with z | z
    ·rw [← z] at e; rw [Cfree] at e; cases e
    ·rw [Cfree] at z; cases z
   have I7:Inv X pins σ H5 { s6 with heap:=h7 }:=I2.call' (s':={ s6 with heap:=h7 }) I6.os u7 hok7 I6.bare fun b hb => ⟨(f2 b hb).2.2.2.1,(f2 b hb).2.1,(f2 b hb).2.2.2.2.1,(f2 b hb).2.2.2.2.2⟩
   exact I7.track (a:=D) (o:=.lst ys) pN (Heap.get?_none_of_le (by rw [hDe]; exact I2.sz)) (by rw [hDe]; exact Nat.ne_of_gt I2.lt) (fun x c e z => by
     obtain ⟨v,o,ho,_⟩:=I2.cell x c e
     exact ltD _ _ ho z) (fun p hp z => ltD _ _ (I2.pin p hp).1 z) ⟨hz,us,nn,vy,(same D hDC).trans pD⟩
  ·refine wpAny_mono (T.item (X.inc (own ++ cs.map (·.2)) scope cl fp s2 H2 C) rfl rfl rfl hc i _ s5 _ H5 (fun _ _ => False) I5 (fpok fr5) st5 go) (fun r s6 z => ?_) fun _ _ z => z
   obtain ⟨u,rfl,z⟩:=z
   refine wpAny_mono z (fun _ s7 ⟨x,H7,I7,r7,y7,st7,fr7⟩ => ?_) fun _ _ z => z
   have I7':=I7.pinned (fpok fr7) (T.obj _ _ st7)
   refine wpAny_mono (hg fp s2 H2 C _ s7 _ H7 x u _ I7' r7 (step x H7 y7)) (fun _ s8 ⟨σ8,H8,I8,q8⟩ => ?_) fun _ _ z => z
   refine wpAny_mono (ht fp s2 H2 C _ s8 σ8 H8 _ I8 q8) (fun bb s8' ⟨H8',I8',q8'⟩ => ?_) fun _ _ z => z
   cases bb with
   | true =>
    refine wpAny_mono (he fp s2 H2 C _ s8' σ8 H8' _ I8' q8') (fun uy s9 ⟨y,H9,I9,r9,m',hm',w9⟩ => ?_) fun _ _ z => z
    obtain ⟨pD,pN,_,_,_⟩:=I9.pin (D,{ cls:=.type "list",data:=.seq us.toArray nn }) (by simp)
    refine append_at (its:=us.toArray) (n:=nn) pD (fun h10 hs10 hD10 => ?_) (by rw [List.size_toArray, ← vy.length]; exact hz)
    have keepfp:∀ b ∈ fp, ∀ o,s7.heap.get? b = some o→s9.heap.get? b = some o∧H9 b = none:=fun b hb o e => by
     have z:=I9.pin (b,o) (List.mem_append_right _ (List.mem_append_right _ (Jbb hb e)))
     exact ⟨z.1,z.2.1⟩
    have I9':Inv (X.inc (own ++ cs.map (·.2)) scope cl fp s2 H2 C) [] (List.replicate own.length none ++ Jau cs σ) H9 s9:=I2.incAgain I9 f2 hcl hcs
    have I10:Inv (X.inc (own ++ cs.map (·.2)) scope cl fp s2 H2 C) [] (List.replicate own.length none ++ Jau cs σ) H9 { s9 with heap:=h10 }:=I9'.turned (it:=D) (t':=s9.toks) (fun b o hb e => (hs10.2 b hb).trans e) pN hDC (.inr (Nat.le_of_eq hDe.symm)) (fun x c e z => by
      obtain ⟨v,o,ho,_⟩:=I2.cell x c (hcl x c e)
      exact ltD _ _ ho z) fun p hp => by simp at hp
    rw [lstP] at hD10
    refine ⟨m',hm',i + 1,ys ++ [y],us ++ [uy],nn + 1,H9,pinD I10 hD10 pN,T.keep _ _ _ st7 fun b hb o e => ?_,fun b hb => ?_,vy.append (.cons r9 .nil),w9⟩
    ·exact (hs10.2 b (Nat.ne_of_lt (hfp b hb))).trans (keepfp b hb o e).1
    ·obtain ⟨o,e,_⟩:=T.obj _ _ st7 b hb
     exact (keepfp b hb o e).2
   | false =>
    obtain ⟨m',hm',w9⟩:=q8'
    obtain ⟨pD,pN,_,_,_⟩:=I8'.pin (D,{ cls:=.type "list",data:=.seq us.toArray nn }) (by simp)
    have keepfp:∀ b ∈ fp, ∀ o,s7.heap.get? b = some o→s8'.heap.get? b = some o∧H8' b = none:=fun b hb o e => by
     have z:=I8'.pin (b,o) (List.mem_append_right _ (List.mem_append_right _ (Jbb hb e)))
     exact ⟨z.1,z.2.1⟩
    have I9':Inv (X.inc (own ++ cs.map (·.2)) scope cl fp s2 H2 C) [] (List.replicate own.length none ++ Jau cs σ) H8' s8':=I2.incAgain I8' f2 hcl hcs
    refine ⟨m',hm',i + 1,ys,us,nn,H8',pinD I9' pD pN,T.keep _ _ _ st7 fun b hb o e => (keepfp b hb o e).1,fun b hb => ?_,vy,w9⟩
    obtain ⟨o,e,_⟩:=T.obj _ _ st7 b hb
    exact (keepfp b hb o e).2
 exact codeAny_compStart_list (loop _ rfl) (T.self _ 0 _ _ _ (T.keep _ _ _ st2 fun b hb o e => old b o e) (loop _ rfl))
theorem JeO {iter elt tst:Expr} {scope:Scope} {pos spos py:Pos} {y:Str} {j:Nat} {own:List Str} {cs:List (Nat × Str)} {wi:TI} {g:TG} {te:TE} {tt:TT} (hN:X.N.Nodup) (hj:X.N[j]? = some y) (hy:Loc X.env.scope y) (hc:X.calm = true) (hi:PI X tg iter wi)
  (hg:∀ fp s2 H2 C,PG (X.inc (own ++ cs.map (·.2)) scope (Ja5 X.env.cells scope.names []) fp s2 H2 C) tg g) (ht:∀ fp s2 H2 C,PT (X.inc (own ++ cs.map (·.2)) scope (Ja5 X.env.cells scope.names []) fp s2 H2 C) tst tt) (he:∀ fp s2 H2 C,PE (X.inc (own ++ cs.map (·.2)) scope (Ja5 X.env.cells scope.names []) fp s2 H2 C) elt te)
  (hfree:∀ p ∈ scope.names,p.2 = .free→X.env.scope.names.lookup p.1 = some .cell) (hcell:∀ y ∈ scope.names,y.2 ≠ .cell) (hkind:scope.kind = .function) (hnames:∀ y ∈ scope.names,y.2 = .local→scope.names.lookup y.1 = some .local)
  (hcs:∀ p ∈ cs,X.N[p.1]? = some p.2∧X.env.scope.names.lookup p.2 = some .cell∧(relabel scope X.env).names.lookup p.2 = some .cell)
  (hsw:swapsWith (.ListComp elt [⟨tg,iter,[tst],0⟩] scope pos) (some (.Name y py)) spos.line X.env = pure true:=by rfl)
  (hs:∀ x,foldedSetIterable iter X.env x = pure x:=by intro _; rfl) (hf:X.fn y = true ∨ X.env.scope.names.lookup y = some .local:=by first | exact .inl rfl | exact .inr rfl) :
  PS X (.Assign [.Name y py] (.ListComp elt [⟨tg,iter,[tst],0⟩] scope pos) spos) (tAsg (Jfl own.length cs wi g tt te) (gName j)):=by
 intro pins s σ H D I h
 have hfr:∀ p ∈ scope.names,p.2 = .free→∃ c,X.env.cells.lookup p.1 = some c:=fun p hp hk => I.ok.has p.1 (.inl (hfree p hp hk))
 have hcl:=JbQ (cells:=X.env.cells) scope.names [] (fun _ _ z => by simp at z) hfr
 rw [exec_Assign_Name_used _ _ _ _ hsw]
 refine wpAny_bind (wpAny_standAt (wpAny_bind ?_))
 show wpAny _ X.A (do let _ ← comprehension (.ListComp elt [⟨tg,iter,[tst],0⟩] scope pos) scope X.env _ (newList []) false (eval iter X.env) (some (assign (.Name y py) X.env))) _ _ s
 refine wpAny_bind (wpAny_mono (wpAny_comprehension_free (use:=some (assign (.Name y py) X.env)) (Q:=fun _ s' => SP X pins D .next s') rfl hs (Jeu hfr) hkind hnames
  (thn (hi pins s σ H _ I h) fun v s1 h1 => thn h1 fun itv s2 h2 => ?_)) (fun _ s' hq => wpAny_pure (wpAny_pure hq)) fun _ _ e => e)
 obtain ⟨it,fp,tn,J,H2,rfl,I2,T,st2,f2,W,⟨m0,w0⟩,turn⟩:=h2
 refine Jew (QN:=fun ys H5 => ∀ p,H5 p = none→D.nx (σ.set j (some (.ref p))) (upd H5 p (.lst ys))) hc hg ht he hcell hkind hcl (fun z hz => JbP scope.names [] z (.inr (Jf3 hcell hz))) hcs I2 T st2 f2 w0 turn ?_
 intro D' C s6 H5 ys inv dN cN dc hm hC q
 obtain ⟨m6,hn6⟩:=hm
 have I8:Inv X pins σ (upd H5 D' (.lst ys)) s6:=inv s6.heap (Heap.SameBut.refl _ _)
 show wpAny _ X.A (assign (.Name y py) X.env (.ref D')) _ _ s6
 refine wpAny_assign_Name (JcX (v:=.ref D') I8 hN hj hy rfl (fun s7 I7 hsb => ?_) hf)
 obtain ⟨a,sb,ha⟩:=hsb
 have nC:C ≠ a:=by
  rcases ha with rfl | ha
  ·exact Nat.ne_of_gt (Nat.lt_of_lt_of_le I2.lt hC)
  ·obtain ⟨v,o,ho,_⟩:=I2.cell y a ha
   exact Nat.ne_of_gt (Nat.lt_of_lt_of_le (Heap.lt_size ho) hC)
 refine ⟨m6,hn6.sameBut sb nC,fun h8 hs8 => ⟨_,_, ?_,q D' dN⟩⟩
 exact I7.turned (it:=C) (t':=s7.toks) (fun b o hb e => (hs8.2 b hb).trans e) (by rw [Jag (Ne.symm dc)]; exact cN) (Nat.ne_of_gt (Nat.lt_of_lt_of_le I2.lt hC)) (.inr (Nat.le_trans I2.sz hC)) (fun x c e z => by
  obtain ⟨v,o,ho,_⟩:=I2.cell x c e
  exact absurd (Nat.lt_of_lt_of_le (Heap.lt_size ho) hC) (by rw [z]; exact Nat.lt_irrefl _)) (fun p hp z => absurd (Nat.lt_of_lt_of_le (Heap.lt_size (I2.pin p hp).1) hC) (by rw [z]; exact Nat.lt_irrefl _))
end
end L2
namespace L2
open PySem PySem.Spec PyProof.Rows
section
variable {X:Cx} {pins:List (Addr × Obj)} {σ : St} {H:Hp} {s:Shared} {h':Heap}
end
def Itz (K:PySem.W.Frag) (a b:Addr):It :=
  ⟨fun i H => ∃ xs ys x y,SqL K H a xs∧SqL K H b ys∧xs[i]? = some x∧ys[i]? = some y,
   fun i H v H' => ∃ p x y,(∀ xs,SqL K H a xs→xs[i]? = some x)∧(∀ ys,SqL K H b ys→ys[i]? = some y)∧H p = none∧v = .ref p∧H' = upd H p (.tup [x,y]),
   fun i H => ∃ xs ys,SqL K H a xs∧SqL K H b ys∧(xs.length ≤ i ∨ ys.length ≤ i)⟩
section
variable {X:Cx} {elts:List Expr} {x1:Nat} {tp:Pos}
def iZip (K:PySem.W.Frag) (ta:TA):TI:=fun σ H R => ta σ H fun vs H1 => ∃ a b,vs = [.ref a, .ref b]∧(∃ xs,SqL K H1 a xs)∧(∃ ys,SqL K H1 b ys)∧R (Itz K a b) H1
end
section
variable {σ : St} {H:Hp} {Q:VK} {td ty tv tx:TE} {K:PySem.W.Frag} {En:Ends}
theorem y3dy:tDGet td ty σ H Q = td σ H fun x H1 => ty σ H1 fun y H2 => ∃ a v,x = .ref a∧DGet H2 a y (some v)∧Q v H2:=rfl
theorem y46y:sDPut td ty tv En σ H = tv σ H fun v H1 => td σ H1 fun x H2 => ty σ H2 fun y H3 => ∃ a H4,x = .ref a∧DPut H3 a y v H4∧En.nx σ H4:=rfl
theorem y43y:Jjh σ H Q = ∀ p,H p = none→Q (.ref p) (upd H p (.dT [])):=rfl
theorem y42y:JhK σ H Q = ∀ p,H p = none→Q (.ref p) (upd H p (.dK [])):=rfl
end
end L2
namespace L2
open PySem PySem.Spec PyProof.Rows
theorem hu1 {a b:Nat} (h:a + 64 < b):a + 1 < b:=by omega
section
variable {X:Cx}
def rMul0:R2:=fun x y H Q => match x,y with
 | .str z, .int n => 0 ≤ n∧n < 1000∧z.length ≤ 1000∧∀ z':Str,z'.cps.toList = (List.replicate n.toNat z.cps.toList).flatten→Q (.str z') H
 | x,y => rMulS x y H Q
theorem JaT:OpR X (binaryOp .Mult) rMul0:=fun pins s σ H x y v u Q I rx ry q => by
 unfold rMul0 at q
 split at q
 ·rename_i z n
  obtain ⟨h0,h1,h2,q⟩:=q
  by_cases hn:n = 0
  ·subst hn
   obtain ⟨t,rfl⟩:=rx
   obtain ⟨t',rfl⟩:=ry
   exact PySem.P.mul_str_none (by decide) (by decide) ⟨.str _,H,I.tok _,⟨_,rfl⟩,q Str.empty rfl⟩
  ·exact Jgu pins s σ H _ _ v u Q I rx ry ⟨by omega,h1,h2,q⟩
 ·exact Jgu pins s σ H _ _ v u Q I rx ry q
end
section
variable {K:PySem.W.Frag} {H:Hp} {Q:VK} {σ : St} {td ty:TE}
theorem y6dy {i j:Int}:rMul0 (.int i) (.int j) H Q = (IntMulOk i j∧Q (.int (i * j)) H):=rfl
theorem y3ey:Jjf td ty σ H Q = td σ H fun x H1 => ∃ a,x = .ref a∧IsD H1 a∧ty σ H1 fun y H2 => ∃ o,DGet H2 a y o∧Q (o.getD .non) H2:=rfl
end
end L2
namespace L2
open PySem PySem.Spec PyProof.Rows
theorem ForA.byL {K:PySem.W.Frag} {a:Addr} {xs:List V} {g:TG} {tb:TS} {D:Ends} {σ : St} {H:Hp} (hA:SqL K H a xs) (Pv:Nat→St→Hp→Prop) (h0:Pv 0 σ H) (hl:∀ i σ H',Pv i σ H'→SqL K H' a xs)
  (hs:∀ i x σ H,xs[i]? = some x→Pv i σ H→g x σ H fun σ2 H2 => tb { D with nx:=Pv (i + 1),ct:=Pv (i + 1),bk:=D.nx } σ2 H2) (hd:∀ σ H,Pv xs.length σ H→D.nx σ H):ForA K a g tb D σ H:=by
 refine .inl ⟨⟨xs,hA⟩,fun i m σ H => Pv i σ H∧i ≤ xs.length∧m = xs.length - i,⟨_,h0,Nat.zero_le _,rfl⟩, ?_⟩
 rintro i m σ H ⟨hp,hi,rfl⟩
 have hq:=hl i σ H hp
 by_cases lt:i < xs.length
 ·refine .inr ⟨⟨xs,xs[i],hq,List.getElem?_eq_getElem lt⟩,Pv (i + 1),fun σ' H' p => ⟨_,Nat.sub_lt_sub_left lt (Nat.lt_succ_self i),p,lt,rfl⟩, ?_⟩
  rintro x H' ⟨rfl,hx⟩
  exact hs i x σ _ (hx xs hq) hp
 ·have e:i = xs.length:=by omega
  subst e
  exact .inl ⟨⟨xs,hq,Nat.le_refl _⟩,hd σ H hp⟩
def ForJ (J:It) (g:TG) (tb:TS) (D:Ends) (σ : St) (H:Hp):Prop:=∃ W:Nat→Nat→St→Hp→Prop,(∃ m,W 0 m σ H)∧∀ i m σ H,W i m σ H →
 (J.stop i H∧D.nx σ H) ∨ (J.go i H∧∃ N:St→Hp→Prop,(∀ σ' H',N σ' H'→∃ m',m' < m∧W (i + 1) m' σ' H')∧∀ x H',J.yld i H x H'→g x σ H' fun σ2 H2 => tb { D with nx:=N,ct:=N,bk:=D.nx } σ2 H2)
theorem y56y {K:PySem.W.Frag} {ta:TA} {g:TG} {tb:TS} {D:Ends} {σ : St} {H:Hp}:tFor (iZip K ta) g tb D σ H = ta σ H fun vs H1 => ∃ a b,vs = [.ref a, .ref b]∧(∃ xs,SqL K H1 a xs)∧(∃ ys,SqL K H1 b ys)∧ForJ (Itz K a b) g tb D σ H1:=rfl
theorem compL {K:PySem.W.Frag} {cs:List (Nat × Str)} {k:Nat} {g:TG} {te:TE} {σ : St} {a:Addr} {xs:List V} {H1:Hp} {Q:VK} (Pv:Nat→List V→Hp→Prop) (h0:Pv 0 [] H1) (hl:∀ i ys H',i ≤ xs.length→Pv i ys H'→SqL K H' a xs∧ys.length ≤ sizeLine)
  (hs:∀ i x ys H2,xs[i]? = some x→Pv i ys H2→g x (List.replicate k none ++ Jau cs σ) H2 fun σ4 H4 => te σ4 H4 fun y H5 => Pv (i + 1) (ys ++ [y]) H5) (hd:∀ ys H2,Pv xs.length ys H2→∀ p,H2 p = none→Q (.ref p) (upd H2 p (.lst ys))) :
  ∃ W:Nat→Nat→List V→Hp→Prop,(∃ m,W 0 m [] H1)∧∀ i m ys H2,W i m ys H2→ys.length ≤ sizeLine∧(((Itl K a).stop i H2∧∀ p,H2 p = none→Q (.ref p) (upd H2 p (.lst ys))) ∨
   ((Itl K a).go i H2∧∀ x H3,(Itl K a).yld i H2 x H3→g x (List.replicate k none ++ Jau cs σ) H3 fun σ4 H4 => te σ4 H4 fun y H5 => ∃ m',m' < m∧W (i + 1) m' (ys ++ [y]) H5)):=by
 refine ⟨fun i m ys H2 => Pv i ys H2∧i ≤ xs.length∧m = xs.length - i,⟨_,h0,Nat.zero_le _,rfl⟩, ?_⟩
 rintro i m ys H2 ⟨hp,hi,rfl⟩
 obtain ⟨hq,hz⟩:=hl i ys H2 hi hp
 refine ⟨hz, ?_⟩
 by_cases lt:i < xs.length
 ·refine .inr ⟨⟨xs,xs[i],hq,List.getElem?_eq_getElem lt⟩, ?_⟩
  rintro x H3 ⟨rfl,hx⟩
  have e:(fun (σ4:St) (H4:Hp) => te σ4 H4 fun y H5 => Pv (i + 1) (ys ++ [y]) H5) = fun σ4 H4 => te σ4 H4 fun y H5 => ∃ m',m' < xs.length - i∧Pv (i + 1) (ys ++ [y]) H5∧i + 1 ≤ xs.length∧m' = xs.length - (i + 1):=by
   funext σ4 H4
   congr 1
   funext y H5
   exact propext ⟨fun q => ⟨_,Nat.sub_lt_sub_left lt (Nat.lt_succ_self i),q,lt,rfl⟩,fun ⟨_,_,q,_⟩ => q⟩
  rw [← e]
  exact hs i x ys _ (hx xs hq) hp
 ·have e:i = xs.length:=by omega
  subst e
  exact .inl ⟨⟨xs,hq,Nat.le_refl _⟩,hd ys H2 hp⟩
theorem JiF {K:PySem.W.Frag} {cs:List (Nat × Str)} {k:Nat} {g:TG} {tt:TT} {te:TE} {σ : St} {a:Addr} {xs:List V} {H1:Hp} {Q:VK} (Pv:Nat→List V→Hp→Prop) (h0:Pv 0 [] H1) (hl:∀ i ys H',i ≤ xs.length→Pv i ys H'→SqL K H' a xs∧ys.length ≤ sizeLine)
  (hs:∀ i x ys H2,xs[i]? = some x→Pv i ys H2→g x (List.replicate k none ++ Jau cs σ) H2 fun σ4 H4 => tt σ4 H4 fun b H5 => if b = true then te σ4 H5 fun y H6 => Pv (i + 1) (ys ++ [y]) H6 else Pv (i + 1) ys H5) (hd:∀ ys H2,Pv xs.length ys H2→∀ p,H2 p = none→Q (.ref p) (upd H2 p (.lst ys))) :
  ∃ W:Nat→Nat→List V→Hp→Prop,(∃ m,W 0 m [] H1)∧∀ i m ys H2,W i m ys H2→ys.length ≤ sizeLine∧(((Itl K a).stop i H2∧∀ p,H2 p = none→Q (.ref p) (upd H2 p (.lst ys))) ∨
   ((Itl K a).go i H2∧∀ x H3,(Itl K a).yld i H2 x H3→g x (List.replicate k none ++ Jau cs σ) H3 fun σ4 H4 => tt σ4 H4 fun b H5 => if b = true then te σ4 H5 fun y H6 => ∃ m',m' < m∧W (i + 1) m' (ys ++ [y]) H6 else ∃ m',m' < m∧W (i + 1) m' ys H5)):=by
 refine ⟨fun i m ys H2 => Pv i ys H2∧i ≤ xs.length∧m = xs.length - i,⟨_,h0,Nat.zero_le _,rfl⟩, ?_⟩
 rintro i m ys H2 ⟨hp,hi,rfl⟩
 obtain ⟨hq,hz⟩:=hl i ys H2 hi hp
 refine ⟨hz, ?_⟩
 by_cases lt:i < xs.length
 ·refine .inr ⟨⟨xs,xs[i],hq,List.getElem?_eq_getElem lt⟩, ?_⟩
  rintro x H3 ⟨rfl,hx⟩
  have w:∀ (zs:List V) (H5:Hp),Pv (i + 1) zs H5 = ∃ m',m' < xs.length - i∧Pv (i + 1) zs H5∧i + 1 ≤ xs.length∧m' = xs.length - (i + 1):=fun zs H5 =>
   propext ⟨fun q => ⟨_,Nat.sub_lt_sub_left lt (Nat.lt_succ_self i),q,lt,rfl⟩,fun ⟨_,_,q,_⟩ => q⟩
  have w1:(fun (y:V) (H6:Hp) => Pv (i + 1) (ys ++ [y]) H6) = fun y H6 => ∃ m',m' < xs.length - i∧Pv (i + 1) (ys ++ [y]) H6∧i + 1 ≤ xs.length∧m' = xs.length - (i + 1):=by
   funext y H6
   exact w _ _
  have e:(fun (σ4:St) (H4:Hp) => tt σ4 H4 fun b H5 => if b = true then te σ4 H5 fun y H6 => Pv (i + 1) (ys ++ [y]) H6 else Pv (i + 1) ys H5) = fun σ4 H4 => tt σ4 H4 fun b H5 => if b = true then te σ4 H5 fun y H6 => ∃ m',m' < xs.length - i∧Pv (i + 1) (ys ++ [y]) H6∧i + 1 ≤ xs.length∧m' = xs.length - (i + 1) else ∃ m',m' < xs.length - i∧Pv (i + 1) ys H5∧i + 1 ≤ xs.length∧m' = xs.length - (i + 1):=by
   funext σ4 H4
   congr 1
   funext b H5
   by_cases hb:b = true
   ·rw [if_pos hb,if_pos hb, ← w1]
   ·rw [if_neg hb,if_neg hb]
    exact w ys H5
  have:=hs i x ys _ (hx xs hq) hp
  rw [e] at this
  exact this
 ·have e:i = xs.length:=by omega
  subst e
  exact .inl ⟨⟨xs,hq,Nat.le_refl _⟩,hd ys H2 hp⟩
end L2
namespace Ch
open PySem
structure TD where
 nm:Str
 st:Str
 en:Str
 lo:Option (Int × Int)
 hi:Option (Int × Int)
structure SD where
 src:Str
 dst:Str
 c:Int × Int
 nm:Str
 fw:Bool
def fwd (t:TD):List SD:=match t.hi with
 | some h => [⟨t.st,t.en,h,t.nm,true⟩]
 | none => []
def bwd (t:TD):List SD:=match t.lo with
 | some l => [⟨t.en,t.st,(-l.1,l.2),t.nm,false⟩]
 | none => []
def steps (t:TD):List SD:=fwd t ++ bwd t
def all (ts:List TD):List SD:=ts.flatMap steps
abbrev Pr:=Str × Bool
def key (s:SD):Pr:=(s.nm,s.fw)
def lastA (acc:Option SD) (ss:List SD) (k:Pr):Option SD:=ss.foldl (fun a s => if key s = k then some s else a) acc
def last (ss:List SD) (k:Pr):Option SD:=lastA none ss k
theorem JdB {t:TD} {s:SD} (h:s ∈ steps t):s.nm = t.nm:=by
 unfold steps fwd bwd at h
 rcases List.mem_append.mp h with h | h
 ·split at h
  ·simp at h; rw [h]
  ·simp at h
 ·split at h
  ·simp at h; rw [h]
  ·simp at h
def addF (a c:Int × Int):Int × Int:=(Mth.top (a.1 * c.2 + c.1 * a.2) (a.2 * c.2),Mth.bot (a.1 * c.2 + c.1 * a.2) (a.2 * c.2))
structure FOk (n:Nat) (a:Int × Int):Prop where
 s1:Mth.Sz n a.1
 s2:Mth.Sz n a.2
 b1:1 ≤ a.2
 g1:Mth.g a.1 a.2 = 1
end Ch
namespace L2
open PySem PySem.Spec PyProof.Rows Ch
def isTF:HO→Bool
 | .tup _ => true
 | .frz _ _ => true
 | _ => false
def SameT (H H':Hp):Prop:=∀ b u,isTF u = true→H b = some u→H' b = some u
theorem SameT.refl (H:Hp):SameT H H:=fun _ _ _ h => h
theorem SameT.trans {H H1 H2:Hp} (a:SameT H H1) (b:SameT H1 H2):SameT H H2:=fun c o t h => b c o t (a c o t h)
theorem Same.t {H H':Hp} (a:Same H H'):SameT H H':=fun b u _ h => a b u h
theorem SameT.put {H H':Hp} {l:Addr} {o o':HO} (e:upd H l o = H') (hl:H l = some o') (ht:isTF o' = false):SameT H H':=fun b u t h => by
 rw [← e,Jag (ne_of h hl fun q => by rw [q,ht] at t; cases t)]
 exact h
theorem SqT.sameT {K:PySem.W.Frag} {H H':Hp} {a:Addr} {xs:List V} (e:SameT H H') (h:SqT K H a xs):SqT K H' a xs:=by
 rcases h with (h | ⟨o,h⟩) | h
 ·exact .inl (.inl (e _ _ rfl h))
 ·exact .inl (.inr ⟨o,e _ _ rfl h⟩)
 ·exact .inr h
theorem FrV.sameT {K:PySem.W.Frag} {H H':Hp} {v:V} {a b:Int} (S:SameT H H') (h:FrV K H v a b):FrV K H' v a b:=by
 obtain ⟨p,e,q⟩:=h
 exact ⟨p,e,q.sameT S⟩
def frD (a:Int × Int):D:=.tup [.int a.1, .int a.2]
def bD:Option (Int × Int)→D
 | none => .non
 | some a => frD a
def tdD (t:TD):D:=.tup [.str t.nm, .str t.st, .str t.en,bD t.lo,bD t.hi]
def pD (s:SD):D:=.tup [.str s.src, .str s.dst,frD s.c, .bl s.fw]
def prD (c:Pr):D:=.tup [.str c.1, .bl c.2]
def BV (K:PySem.W.Frag) (H:Hp):Option (Int × Int)→V→Prop
 | none,v => v = .non
 | some a,v => FrV K H v a.1 a.2
theorem BV.rep {K:PySem.W.Frag} {H:Hp} {o:Option (Int × Int)} {v:V} (h:BV K H o v):Rep K H (bD o) v:=by
 cases o with
 | none => simp only [bD,Rep]; exact h
 | some a => exact FrV.rep h
theorem BV.sameT {K:PySem.W.Frag} {H H':Hp} {o:Option (Int × Int)} {v:V} (S:SameT H H') (h:BV K H o v):BV K H' o v:=by
 cases o with
 | none => exact h
 | some a => exact FrV.sameT S h
def TV (K:PySem.W.Frag) (H:Hp) (t:TD) (x:V):Prop:=∃ b vl vg,x = .ref b∧SqT K H b [.str t.nm, .str t.st, .str t.en,vl,vg]∧BV K H t.lo vl∧BV K H t.hi vg
def PV (K:PySem.W.Frag) (H:Hp) (s:SD) (x:V):Prop:=∃ b v,x = .ref b∧SqT K H b [.str s.src, .str s.dst,v, .bl s.fw]∧FrV K H v s.c.1 s.c.2
def CV (H:Hp) (c:Pr) (x:V):Prop:=∃ b,x = .ref b∧H b = some (.tup [.str c.1, .bl c.2])
def LV (K:PySem.W.Frag) (H:Hp) (s:SD) (x:V):Prop:=∃ b v w,x = .ref b∧SqT K H b [.str s.src, .str s.dst,v,w]∧FrV K H v s.c.1 s.c.2∧CV H (key s) w
section
variable {K:PySem.W.Frag} {H H':Hp}
theorem TV.sameT {t:TD} {x:V} (S:SameT H H'):TV K H t x→TV K H' t x:=fun ⟨b,vl,vg,e,q,h1,h2⟩ => ⟨b,vl,vg,e,q.sameT S,h1.sameT S,h2.sameT S⟩
theorem PV.sameT {s:SD} {x:V} (S:SameT H H'):PV K H s x→PV K H' s x:=fun ⟨b,v,e,q,h⟩ => ⟨b,v,e,q.sameT S,h.sameT S⟩
theorem CV.sameT {c:Pr} {x:V} (S:SameT H H'):CV H c x→CV H' c x:=fun ⟨b,e,q⟩ => ⟨b,e,S _ _ rfl q⟩
theorem LV.sameT {s:SD} {x:V} (S:SameT H H'):LV K H s x→LV K H' s x:=fun ⟨b,v,w,e,q,h1,h2⟩ => ⟨b,v,w,e,q.sameT S,h1.sameT S,h2.sameT S⟩
theorem TV.rep {t:TD} {x:V}:TV K H t x→Rep K H (tdD t) x:=fun ⟨b,vl,vg,e,q,h1,h2⟩ => by
 simp only [tdD,Rep,RepL]
 exact ⟨b,_,e,q,_,_,rfl,rfl,_,_,rfl,rfl,_,_,rfl,rfl,_,_,rfl,h1.rep,_,_,rfl,h2.rep,rfl⟩
theorem PV.of {s:SD} {x:V} (h:Rep K H (pD s) x):PV K H s x:=by
 simp only [pD,frD,Rep,RepL] at h
 obtain ⟨b,ys,rfl,q,v1,r1,rfl,rfl,v2,r2,rfl,rfl,v3,r3,rfl,⟨p,zs,rfl,q2,w1,t1,rfl,rfl,w2,t2,rfl,rfl,rfl⟩,v4,r4,rfl,rfl,rfl⟩:=h
 exact ⟨b, .ref p,rfl,q,p,rfl,q2⟩
theorem CV.rep {c:Pr} {x:V}:CV H c x→Rep K H (prD c) x:=fun ⟨b,e,q⟩ => by
 simp only [prD,Rep,RepL]
 exact ⟨b,_,e,SqT.of q,_,_,rfl,rfl,_,_,rfl,rfl,rfl⟩
end
def All2 {α : Type} (P : α→V→Prop):List α→List V→Prop
 | [],xs => xs = []
 | a :: as,xs => ∃ x r,xs = x :: r∧P a x∧All2 P as r
section
variable {α : Type} {P P' : α→V→Prop}
theorem All2.mono:∀ {as:List α} {xs:List V},(∀ a x,P a x→P' a x)→All2 P as xs→All2 P' as xs
 | [],_,_,h => h
 | a :: as,xs,f,h => by
  obtain ⟨x,r,e,h1,h2⟩:=h
  exact ⟨x,r,e,f _ _ h1,All2.mono f h2⟩
theorem All2.length:∀ {as:List α} {xs:List V},All2 P as xs→xs.length = as.length
 | [],_,h => by rw [show _ = _ from h]; rfl
 | a :: as,xs,h => by
  obtain ⟨x,r,e,h1,h2⟩:=h
  rw [e,List.length_cons,List.length_cons,h2.length]
theorem All2.at_:∀ {as:List α} {xs:List V} {i:Nat} {x:V},All2 P as xs→xs[i]? = some x→∃ a,as[i]? = some a∧P a x
 | [],_,_,_,h,hx => by rw [show _ = _ from h] at hx; simp at hx
 | a :: as,xs,i,y,h,hx => by
  obtain ⟨x,r,e,h1,h2⟩:=h
  subst e
  cases i with
  | zero => simp at hx; subst hx; exact ⟨a,rfl,h1⟩
  | succ i => simpa using All2.at_ h2 (by simpa using hx)
theorem All2.append:∀ {as bs:List α} {xs ys:List V},All2 P as xs→All2 P bs ys→All2 P (as ++ bs) (xs ++ ys)
 | [],bs,xs,ys,h,g => by rw [show xs = [] from h]; exact g
 | a :: as,bs,xs,ys,h,g => by
  obtain ⟨x,r,e,h1,h2⟩:=h
  subst e
  exact ⟨x,r ++ ys,rfl,h1,All2.append h2 g⟩
theorem All2.one {a : α} {x:V} (h:P a x):All2 P [a] [x]:=⟨x,[],rfl,h,rfl⟩
theorem All2.repL {K:PySem.W.Frag} {H:Hp} {f : α→D} (g:∀ a x,P a x→Rep K H (f a) x):∀ {as:List α} {xs:List V},All2 P as xs→RepL K H (as.map f) xs
 | [],xs,h => by simp only [List.map_nil,RepL]; exact h
 | a :: as,xs,h => by
  obtain ⟨x,r,e,h1,h2⟩:=h
  simp only [List.map_cons,RepL]
  exact ⟨x,r,e,g _ _ h1,All2.repL g h2⟩
theorem All2.ofRepL {K:PySem.W.Frag} {H:Hp} {f : α→D} (g:∀ a x,Rep K H (f a) x→P a x):∀ {as:List α} {xs:List V},RepL K H (as.map f) xs→All2 P as xs
 | [],xs,h => by simp only [List.map_nil,RepL] at h; exact h
 | a :: as,xs,h => by
  simp only [List.map_cons,RepL] at h
  obtain ⟨x,r,e,h1,h2⟩:=h
  exact ⟨x,r,e,g _ _ h1,All2.ofRepL g h2⟩
end
structure TOk (t:TD):Prop where
 n1:nameS t.nm = true
 n2:nameS t.st = true
 n3:nameS t.en = true
 ne:t.st ≠ t.en
 lo:∀ a,t.lo = some a→FOk 600 a
 hi:∀ a,t.hi = some a→FOk 600 a
 le:lessD (bD t.hi) (bD t.lo) = false
theorem len8 {z:Str} (h:nameS z = true):z.length ≤ 8:=by
 unfold nameS at h
 simp only [Bool.and_eq_true,decide_eq_true_eq] at h
 exact h.1.2
theorem bD_ok {o:Option (Int × Int)} (h:∀ a,o = some a→FOk 600 a):JbD (bD o) = true∧szD (bD o):=by
 cases o with
 | none => exact ⟨rfl,by simp only [bD,szD]⟩
 | some a =>
  have k:=h a rfl
  refine ⟨by simp [bD,frD,JbD,fracB,k.b1,k.g1], ?_⟩
  simp only [bD,frD,szD,szL]
  exact ⟨k.s1.mono (by decide),k.s2.mono (by decide),trivial⟩
theorem TOk.tie {t:TD} (h:TOk t):tieB (tdD t) = true:=by
 have e:eqD (.str t.st) (.str t.en) = false:=by simp only [eqD,beq_eq_false_iff_ne]; exact h.ne
 simp [tdD,tieB,nameB,Jdd,h.n1,h.n2,h.n3,e,JcB,(bD_ok h.lo).1,(bD_ok h.hi).1,h.le]
theorem TOk.sz {t:TD} (h:TOk t):szD (tdD t):=by
 simp only [tdD,szD,szL]
 have:=len8 h.n1
 have:=len8 h.n2
 have:=len8 h.n3
 exact ⟨by omega,by omega,by omega,(bD_ok h.lo).2,(bD_ok h.hi).2,trivial⟩
end L2
namespace L2
open PySem PySem.Spec PyProof.Rows Ch
section
variable {K:PySem.W.Frag} {H:Hp} {kvs:List (List Key × V)} {ss:List SD}
end
def CompJ (J:It) (k:Nat) (cs:List (Nat × Str)) (g:TG) (te:TE) (σ : St) (Q:VK) (H1:Hp):Prop:=∃ W:Nat→Nat→List V→Hp→Prop,(∃ m,W 0 m [] H1)∧∀ i m ys H2,W i m ys H2→ys.length ≤ sizeLine ∧
  ((J.stop i H2∧∀ p,H2 p = none→Q (.ref p) (upd H2 p (.lst ys))) ∨
   (J.go i H2∧∀ x H3,J.yld i H2 x H3→g x (List.replicate k none ++ Jau cs σ) H3 fun σ4 H4 => te σ4 H4 fun y H5 => ∃ m',m' < m∧W (i + 1) m' (ys ++ [y]) H5))
def Jcz (J:It) (k:Nat) (cs:List (Nat × Str)) (g:TG) (tt:TT) (te:TE) (σ : St) (Q:VK) (H1:Hp):Prop:=∃ W:Nat→Nat→List V→Hp→Prop,(∃ m,W 0 m [] H1)∧∀ i m ys H2,W i m ys H2→ys.length ≤ sizeLine ∧
  ((J.stop i H2∧∀ p,H2 p = none→Q (.ref p) (upd H2 p (.lst ys))) ∨
   (J.go i H2∧∀ x H3,J.yld i H2 x H3→g x (List.replicate k none ++ Jau cs σ) H3 fun σ4 H4 => tt σ4 H4 fun b H5 => if b = true then te σ4 H5 fun y H6 => ∃ m',m' < m∧W (i + 1) m' (ys ++ [y]) H6 else ∃ m',m' < m∧W (i + 1) m' ys H5))
section
variable {K:PySem.W.Frag} {k:Nat} {cs:List (Nat × Str)} {g:TG} {tt:TT} {te tl:TE} {σ : St} {H H1:Hp} {Q:VK} {a:Addr} {xs:List V}
theorem y34y:tComp k cs (iAny K tl) g te σ H Q = tl σ H fun x H1 => ∃ a,x = .ref a∧(((∃ xs,SqL K H1 a xs)∧CompJ (Itl K a) k cs g te σ Q H1) ∨ ((∃ xs,SqT K H1 a xs)∧CompJ (Itt K a) k cs g te σ Q H1)):=rfl
theorem y36y:Jfl k cs (iAny K tl) g tt te σ H Q = tl σ H fun x H1 => ∃ a,x = .ref a∧(((∃ xs,SqL K H1 a xs)∧Jcz (Itl K a) k cs g tt te σ Q H1) ∨ ((∃ xs,SqT K H1 a xs)∧Jcz (Itt K a) k cs g tt te σ Q H1)):=rfl
theorem CompJ.list (Pv:Nat→List V→Hp→Prop) (h0:Pv 0 [] H1) (hl:∀ i ys H',i ≤ xs.length→Pv i ys H'→SqL K H' a xs∧ys.length ≤ sizeLine)
  (hs:∀ i x ys H2,xs[i]? = some x→Pv i ys H2→g x (List.replicate k none ++ Jau cs σ) H2 fun σ4 H4 => te σ4 H4 fun y H5 => Pv (i + 1) (ys ++ [y]) H5) (hd:∀ ys H2,Pv xs.length ys H2→∀ p,H2 p = none→Q (.ref p) (upd H2 p (.lst ys))) :
  CompJ (Itl K a) k cs g te σ Q H1:=compL Pv h0 hl hs hd
theorem Jcz.list (Pv:Nat→List V→Hp→Prop) (h0:Pv 0 [] H1) (hl:∀ i ys H',i ≤ xs.length→Pv i ys H'→SqL K H' a xs∧ys.length ≤ sizeLine)
  (hs:∀ i x ys H2,xs[i]? = some x→Pv i ys H2→g x (List.replicate k none ++ Jau cs σ) H2 fun σ4 H4 => tt σ4 H4 fun b H5 => if b = true then te σ4 H5 fun y H6 => Pv (i + 1) (ys ++ [y]) H6 else Pv (i + 1) ys H5) (hd:∀ ys H2,Pv xs.length ys H2→∀ p,H2 p = none→Q (.ref p) (upd H2 p (.lst ys))) :
  Jcz (Itl K a) k cs g tt te σ Q H1:=JiF Pv h0 hl hs hd
end
def faceL:List Str:=[Str.ofString "p",Str.ofString "pa",Str.ofString "pab",Str.ofString "qab",Str.ofString "qa",Str.ofString "apab"]
theorem JgW:∀ z ∈ faceL,nameS z = true:=by decide
theorem JfZ {k:Nat} {z:Str} (h:faceL[k]? = some z):nameS z = true:=JgW z (List.mem_of_getElem? h)
theorem JgY:∀ j,j < 6→∀ k,k < 6→faceL[j]? = faceL[k]?→j = k:=by decide
theorem JgX {j k:Nat} {z:Str} (h:faceL[j]? = some z) (g:faceL[k]? = some z):j = k :=
 JgY j (List.getElem?_eq_some_iff.mp h).1 k (List.getElem?_eq_some_iff.mp g).1 (h.trans g.symm)
theorem JgZ {x f:Int} (h0:0 ≤ x) (h1:x < 2 * f):x.fmod f = x ∨ x.fmod f = x - f:=by
 rw [Int.fmod_eq_emod_of_nonneg _ (by omega)]
 by_cases c:x < f
 ·exact .inl (Int.emod_eq_of_lt h0 c)
 ·refine .inr ?_
  have e:(x - f + f) % f = (x - f) % f:=by simp
  rw [Int.sub_add_cancel] at e
  rw [e,Int.emod_eq_of_lt (by omega) (by omega)]
theorem Jgd (t:TD):(Ch.steps t).length ≤ 2:=by unfold Ch.steps fwd bwd; cases t.hi <;> cases t.lo <;> simp
theorem Jgc (t:TD):(fwd t).length ≤ 1:=by unfold fwd; cases t.hi <;> simp
theorem JeC (ts:List TD) (i:Nat):(Ch.all (ts.take i)).length ≤ 2 * i:=by
 induction i with
 | zero => simp [Ch.all]
 | succ i ih =>
  rw [List.take_succ]
  cases ts[i]? with
  | none => simp; omega
  | some t =>
   have:=Jgd t
   simp only [Ch.all,List.flatMap_append,Option.toList_some,List.flatMap_cons,List.flatMap_nil,List.append_nil,List.length_append] at ih ⊢
   omega
theorem JiI (a b:Pr):eqD (prD a) (prD b) = decide (a = b):=by
 simp only [prD,eqD,eqL,Bool.and_true]
 rw [Bool.eq_iff_iff]
 simp [Prod.ext_iff]
end L2
namespace L2
open PySem PySem.Spec PyProof.Rows Ch
section
variable {ss:List SD} {c:Pr} {cs:List Pr} {s:SD} {tot:Int × Int} {f l:Str}
end
end L2
namespace L2
open PySem PySem.Spec PyProof.Rows Ch
section
variable {K:PySem.W.Frag} {H:Hp} {Q:VK}
end
end L2
namespace L2
open PySem PySem.Spec PyProof.Rows
theorem JeQ (t:SetTable) (es:Array (Int × Value)) (n:Nat) (hp:t.plain = false):(relayAll t es n).2.1.plain = false:=by
 unfold relayAll
 split
 ·rename_i t' order e
  have e1:t'.plain = false:=by
   unfold SetTable.relaid at e
   unfold SetTable.laid at e
   cases hl:SetTable.layClean (SetTable.sizeAbove n - 1) (es.map (·.1)) with
   | none => rw [hl] at e; cases e
   | some ow =>
    rw [hl] at e
    simp only [Option.bind_eq_bind,Option.bind_some,Option.pure_def,Option.some.injEq,Prod.mk.injEq] at e
    rw [← e.1]
    exact hp
  dsimp only
  split
  ·exact e1
  ·rfl
 ·rfl
theorem JeZ (t:SetTable) (n:Nat):(t.orStandIn n).led = t.led:=by
 unfold SetTable.orStandIn
 split <;> rfl
theorem Jfu (t:SetTable) (es:Array (Int × Value)) (h:Int) (x:Value):(layNew t es h x).2.1.led = t.led:=by
 unfold layNew
 split
 ·exact JeZ _ _
 ·rfl
theorem JgC (t:SetTable) (es:Array (Int × Value)) (n:Nat):(relayAll t es n).2.1.led = t.led:=by
 unfold relayAll
 split
 ·rename_i t' order e
  have e1:t'.led = t.led:=by
   unfold SetTable.relaid at e
   unfold SetTable.laid at e
   cases hl:SetTable.layClean (SetTable.sizeAbove n - 1) (es.map (·.1)) with
   | none => rw [hl] at e; cases e
   | some ow =>
    rw [hl] at e
    simp only [Option.bind_eq_bind,Option.bind_some,Option.pure_def,Option.some.injEq,Prod.mk.injEq] at e
    rw [← e.1]
  dsimp only
  split
  ·exact e1
  ·rfl
 ·rfl
section
variable {prog:Program} {w:World} {A:Around} {E:Value→Shared→Prop} {s:Shared}
def SetS (prog:Program) (w:World) (h:Heap) (a:Addr) (ks:List Str):Prop :=
 ∃ es ep t,h.get? a = some { cls:=.type "set",dict:=none,data:=.set es ep t,slots:=#[] }∧ElemsOf (strKind prog w) es.toList ∧
  (es.toList.map fun e => strOf e.2).Perm ks∧ks.length < scanBound∧t.fits es.size = true∧(ks ≠ []→t.plain = false)∧(w.params.followText "set-order" = false→t.led = true)
theorem Jek {k:Str} {v:Value} (h:(strKind prog w).is k v = true):strOf v = k:=by
 obtain ⟨t,rfl⟩:=Value.isStrOf_shape h
 rfl
theorem stored {h:Heap} {a:Addr} {es es':Array (Int × Value)} {ep:Nat} {t t':SetTable} (ho:h.get? a = some { cls:=.type "set",dict:=none,data:=.set es ep t,slots:=#[] }) :
  (h.update a (Obj.putSet es' t')).get? a = some { cls:=.type "set",dict:=none,data:=.set es' (ep + 1) t',slots:=#[] }:=by
 have e:=Heap.get?_update_self (Obj.putSet es' t') ho (by rw [putSet_of es' t' rfl]; rfl)
 rw [e,putSet_of es' t' rfl]
theorem Jiu {a:Addr} {ks:List Str} {z:Str} {tk:Tok} {Q:Bool→Shared→Prop} (hS:SetS prog w s.heap a ks) (hr:ks.length + 1 < scanBound)
  (q:∀ h' b,Heap.SameBut a s.heap h'→SetS prog w h' a (if z ∈ ks then ks else ks ++ [z])→Q b { s with heap:=h' }) :
  wpAny (model prog w) A (setAddHashed a (.str z tk) ((strKind prog w).hash z)) Q E s:=by
 obtain ⟨es,ep,t,ho,hel,hp,hb,hf,hpl,hld⟩:=hS
 have hk:(strKind prog w).is z (.str z tk) = true:=by show Value.isStrOf z (.str z tk) = true; simp [Value.isStrOf]
 have sz:es.size = ks.length:=by rw [← hp.length_eq,List.length_map,Array.length_toList]
 unfold setAddHashed; unfold setAddHashedIn
 refine wpAny_holding (wpAny_bind (wpAny_setState_of ho rfl hf ?_))
 dsimp only
 rw [byScan_of (knd:=strKind prog w) (x:=.str z tk) rfl (by omega) hel]
 rw [if_pos rfl]
 unfold setAddByScan
 refine wpAny_bind (wpAny_bind (wpAny_rule (wpAny_bind (wpAny_setScan_of (knd:=strKind prog w) hk ho rfl hf hel ?_))))
 have iff:∀ e ∈ es.toList,((strKind prog w).is z e.2 = true ↔ strOf e.2 = z):=fun e he => by
  obtain ⟨⟨k,h1,_⟩,_⟩:=hel e he
  constructor
  ·exact Jek
  ·intro h2
   rw [Jek h1] at h2
   rw [← h2]
   exact h1
 cases fi:es.toList.findIdx? (fun e => (strKind prog w).is z e.2) with
 | some j =>
  dsimp only
  obtain ⟨hj,pj,_⟩:=List.findIdx?_eq_some_iff_getElem.mp fi
  have hz:z ∈ ks:=hp.mem_iff.mp (List.mem_map.mpr ⟨_,List.getElem_mem hj,(iff _ (List.getElem_mem hj)).mp pj⟩)
  refine wpAny_pure (wpAny_pure ?_)
  have:=q s.heap false (Heap.SameBut.refl a s.heap) (by rw [if_pos hz]; exact ⟨es,ep,t,ho,hel,hp,hb,hf,hpl,hld⟩)
  cases s
  exact this
 | none =>
  dsimp only
  have hz:¬ z ∈ ks:=fun hz => by
   obtain ⟨e,he,ez⟩:=List.mem_map.mp (hp.mem_iff.mpr hz)
   have h1:=List.findIdx?_eq_none_iff.mp fi e he
   rw [(iff e he).mpr ez] at h1
   cases h1
  have lp:=layNew_perm t es ((strKind prog w).hash z) (.str z tk)
  have ll:=Jfu t es ((strKind prog w).hash z) (.str z tk)
  have lf:=layNew_fits t es ((strKind prog w).hash z) (.str z tk)
  generalize layNew t es ((strKind prog w).hash z) (.str z tk) = LL at lp lf ll ⊢
  obtain ⟨es1,t1,wd,gv⟩:=LL
  dsimp only at lp lf ll ⊢
  rw [Array.toList_push] at lp
  have hel1:ElemsOf (strKind prog w) es1.toList:=(hel.push hk rfl).perm lp
  have hp1:(es1.toList.map fun e => strOf e.2).Perm (ks ++ [z]):=by
   refine (lp.map _).trans ?_
   rw [List.map_append]
   exact hp.append (.refl _)
  have sz1:es1.size = ks.length + 1:=by
   rw [← Array.length_toList, ← List.length_map (f:=fun e:Int × Value => strOf e.2),hp1.length_eq]
   simp
  have fin:∀ (t2:SetTable),t2.plain = false→t2.led = t.led→t2.fits es1.size = true→wpAny (model prog w) A (do
    storeSet a es1 t2
    if (!wd && t2.tooFull) = true then do
      (match (relayAll t2 es1 (SetTable.grown es1.size)).2.2 with | true => rule "set.scan.the-table-gave-way" | false => pure ())
      storeSet a (relayAll t2 es1 (SetTable.grown es1.size)).1 (relayAll t2 es1 (SetTable.grown es1.size)).2.1
      pure (some true)
     else pure (some true)) (fun r s' => ∃ h',Heap.SameBut a s.heap h'∧SetS prog w h' a (ks ++ [z])∧r = some true∧s' = { s with heap:=h' }) E s:=fun t2 p2 l2 f2 => by
   refine wpAny_bind (wpAny_storeSet_of ho rfl ?_ (fits_of_scanBound (by omega)))
   have ho1:=stored (es':=es1) (t':=t2) ho
   have sb1:=Heap.SameBut.update s.heap a (Obj.putSet es1 t2)
   split
   ·have rp:=relayAll_perm t2 es1 (SetTable.grown es1.size)
    have rf:=relayAll_fits t2 es1 (SetTable.grown es1.size)
    have rl:=JeQ t2 es1 (SetTable.grown es1.size) p2
    have re:=JgC t2 es1 (SetTable.grown es1.size)
    generalize relayAll t2 es1 (SetTable.grown es1.size) = RR at rp rf rl re ⊢
    obtain ⟨es2,t3,gv2⟩:=RR
    dsimp only at rp rf rl re ⊢
    have sz2:es2.size = es1.size:=by rw [← Array.length_toList,rp.length_eq,Array.length_toList]
    refine wpAny_bind ?_
    have nxt:wpAny (model prog w) A (do storeSet a es2 t3; pure (some true)) (fun r s' => ∃ h',Heap.SameBut a s.heap h'∧SetS prog w h' a (ks ++ [z])∧r = some true∧s' = { s with heap:=h' }) E { s with heap:=s.heap.update a (Obj.putSet es1 t2) }:=by
     refine wpAny_bind (wpAny_storeSet_of ho1 rfl (wpAny_pure ⟨_,sb1.trans (Heap.SameBut.update _ a _),⟨es2,_,t3,stored ho1,hel1.perm rp,(rp.map _).trans hp1,by simpa using hr,rf,fun _ => rl,fun z => (re.trans l2).trans (hld z)⟩,rfl,rfl⟩) (fits_of_scanBound (by omega)))
    cases gv2
    ·exact wpAny_pure nxt
    ·exact wpAny_rule nxt
   ·exact wpAny_pure ⟨_,sb1,⟨es1,_,t2,ho1,hel1,hp1,by simpa using hr,f2,fun _ => p2,fun z => l2.trans (hld z)⟩,rfl,rfl⟩
  have out:∀ r s',(∃ h',Heap.SameBut a s.heap h'∧SetS prog w h' a (ks ++ [z])∧r = some true∧s' = { s with heap:=h' })→wpAny (model prog w) A (match r with | some b => pure b | none => setAddHashedIn a (.str z tk) ((strKind prog w).hash z) 99999) Q E s':=by
   rintro r s' ⟨h',sb,hS',rfl,rfl⟩
   exact wpAny_pure (q h' true sb (by rw [if_neg hz]; exact hS'))
  refine wpAny_bind ?_
  have gw:∀ (b:Bool) {Q':Unit→Shared→Prop},Q' () s→wpAny (model prog w) A (match b with | true => rule "set.scan.the-table-gave-way" | false => pure ()) Q' E s:=fun b Q' h => by
   cases b
   ·exact wpAny_pure h
   ·exact wpAny_rule h
  refine gw gv ?_
  split
  ·refine wpAny_bind ?_
   rw [hashByValue_scannable 8 (x:=.str z tk) rfl]
   refine wpAny_pure ?_
   exact wpAny_mono (fin { t1 with plain:=false } rfl ll (SetTable.fits_plain_off lf)) out fun _ _ e => e
  ·rename_i np
   refine wpAny_bind (wpAny_pure ?_)
   exact wpAny_mono (fin t1 (by simpa using np) ll lf) out fun _ _ e => e
end
end L2
namespace L2
open PySem PySem.Spec PyProof.Rows
def addS (l:List Str) (z:Str):List Str:=if z ∈ l then l else l ++ [z]
def met (val:Nat→Str) (i:Nat):List Str:=((List.range i).map val).foldl addS []
theorem Jcu (val:Nat→Str) (i:Nat):met val (i + 1) = addS (met val i) (val i):=by
 unfold met
 rw [List.range_succ,List.map_append,List.foldl_append]
 rfl
theorem JeD (val:Nat→Str):∀ i,(met val i).length ≤ i
 | 0 => Nat.le_refl _
 | i + 1 => by
  have:=JeD val i
  rw [Jcu]
  unfold addS
  split <;> simp <;> omega
theorem Jgj (val:Nat→Str):∀ i,(met val i).Nodup
 | 0 => List.nodup_nil
 | i + 1 => by
  have:=Jgj val i
  rw [Jcu]
  unfold addS
  split
  ·exact this
  ·rename_i h
   rw [List.nodup_append]
   refine ⟨this,by simp,fun a ha b hb => ?_⟩
   rw [List.mem_singleton.mp hb]
   exact fun e => h (e ▸ ha)
theorem Jgi (val:Nat→Str) (z:Str):∀ i,z ∈ met val i ↔ ∃ j,j < i∧val j = z
 | 0 => by simp [met]
 | i + 1 => by
  have ih:=Jgi val z i
  rw [Jcu]
  have e:z ∈ addS (met val i) (val i) ↔ z ∈ met val i ∨ z = val i:=by
   unfold addS
   split
   ·rename_i h
    constructor
    ·exact .inl
    ·rintro (h' | rfl)
     ·exact h'
     ·exact h
   ·simp
  rw [e,ih]
  constructor
  ·rintro (⟨j,hj,h⟩ | rfl)
   ·exact ⟨j,by omega,h⟩
   ·exact ⟨i,by omega,rfl⟩
  ·rintro ⟨j,hj,rfl⟩
   by_cases c:j < i
   ·exact .inl ⟨j,c,rfl⟩
   ·have : j = i:=by omega
    subst this
    exact .inr rfl
section
variable {prog:Program} {w:World} {A:Around} {E:Value→Shared→Prop} {s:Shared}
theorem JiK {z:Str} {t:Tok}:(PySem.strKind prog w).is z (.str z t) = true:=by
 show Value.isStrOf z (.str z t) = true
 simp [Value.isStrOf]
theorem SetS.at_ {h h':Heap} {a:Addr} {ks:List Str} (x:SetS prog w h a ks) (k:∀ o,h.get? a = some o→h'.get? a = some o):SetS prog w h' a ks:=by
 obtain ⟨es,ep,t,ho,r⟩:=x
 exact ⟨es,ep,t,k _ ho,r⟩
theorem Jho {R:Result→Shared→Prop} {I:Addr} {fp wr:List Addr} {G:Array GenState→Array GenState→Prop} {n:Nat} {P:Nat→Value→Prop} {St:Nat→Shared→Prop}
  (W:WalksS prog w A.in1 I fp wr G n P St) (S:Addr) (hSf:S ∉ fp) (val:Nat→Str) (hval:∀ i v,P i v→∃ t,v = .str (val i) t) (hb:n + 1 < scanBound) :
  ∀ (k i:Nat) (s:Shared),n - i = k→i ≤ n→St i s→SetS prog w s.heap S (met val i)→(∀ s',Moved (S :: wr) G s s'→SetS prog w s'.heap S (met val n)→R (.ok (.ret .none)) s') →
   codeAny (model prog w) A (.builtin "set.update.loop" ⟨[.ref S, .ref I],[]⟩) R s:=by
 have nw:S ∉ wr:=fun h => hSf (W.sub _ h)
 have up:∀ b ∈ wr,b ∈ S :: wr:=fun b h => List.mem_cons_of_mem _ h
 intro k
 induction k with
 | zero =>
  intro i s hk hi st hS q
  have : i = n:=by omega
  subst this
  refine codeAny_builtin (PyProof.Rows.F.entry_set_update_loop) ?_
  rw [Around.under_plainId (PyProof.Rows.F.plain_set_update_loop) _]
  refine wpAny_bind (m:=pyNext (.ref I)) (W.done s _ _ st fun s' hm => ?_)
  exact wpAny_pure (q s' (hm.mono up) (hS.at_ fun o e => hm.heap S o nw e))
 | succ k ih =>
  intro i s hk hi st hS q
  have hlt:i < n:=by omega
  refine codeAny_builtin (PyProof.Rows.F.entry_set_update_loop) ?_
  rw [Around.under_plainId (PyProof.Rows.F.plain_set_update_loop) _]
  refine wpAny_bind (m:=pyNext (.ref I)) (W.item i s _ _ hlt st fun v s' hP st' hm => ?_)
  obtain ⟨t,rfl⟩:=hval i v hP
  have hS':SetS prog w s'.heap S (met val i):=hS.at_ fun o e => hm.heap S o nw e
  have ml:=JeD val i
  refine wpAny_bind (m:=holding [Value.str (val i) t] (setAdd S (.str (val i) t))) (wpAny_holding ?_)
  unfold setAdd
  refine wpAny_holding (wpAny_bind ((strKind prog w).pyHash (k:=val i) JiK ?_))
  refine Jiu (s:={ s' with toks:=s'.toks + 1 }) hS' (by omega) fun h' b sb hS2 => ?_
  have hS3:SetS prog w h' S (met val (i + 1)):=by
   rw [Jcu]
   exact hS2
  refine wpAny_pure ⟨plainId_quiet (PyProof.Rows.F.plain_set_update_loop) _,ih (i + 1) _ (by omega) hlt (W.frame _ s' _ _ st' (Nat.le_succ _) fun b hb o e => ?_) hS3 fun s2 m2 hSn => ?_⟩
  ·rw [sb.2 b (fun h:b = S => hSf (h ▸ hb))]
   exact e
  ·refine q s2 (Moved.trans W.gtrans ((hm.mono up).then_heap (Nat.le_succ _) fun b o hb e => ?_) m2) hSn
   rw [sb.2 b (fun h:b = S => hb (by rw [h]; exact List.mem_cons_self))]
   exact e
end
end L2
namespace L2
open PySem PySem.Spec PyProof.Rows
section
variable {prog:Program} {w:World} {A:Around} {E:Value→Shared→Prop} {s:Shared}
theorem JgI:∀ {vs:List Value} {ss:List Str},StrsAre vs ss→∀ (i:Nat) (v:Value),vs[i]? = some v→∃ t,v = .str (ss.getD i ⟨#[]⟩) t
 | _,_, .nil,i,v,h => by simp at h
 | _,_, .cons n t r,0,v,h => by
  simp at h
  exact ⟨t,by rw [← h]; rfl⟩
 | _,_, .cons n t r,i + 1,v,h => by
  rw [List.getElem?_cons_succ] at h
  obtain ⟨t',e⟩:=JgI r i v h
  exact ⟨t',by rw [e]; rfl⟩
theorem JeW (a:Value) {Q₁ : Value→Shared→Prop}
  (h:∀ led:Bool,(w.params.followText "set-order" = false→led = true)→Q₁ (.ref s.heap.objs.size) { s with heap:=s.heap.push { cls:=.type "set",dict:=none,data:=.set #[] 0 (.fresh 0 0 led) } }) :
  codeAny (model prog w) A (.call (.builtin "set.__new__") ⟨[.type "set",a],[]⟩) (wants Q₁ E) s:=by
 refine codeAny_of_tree ?_
 show wpAny _ A.in1 (do checkBuiltinCall "set.__new__" ⟨[.type "set",a],[]⟩; again (.builtin "set.__new__" ⟨[.type "set",a],[]⟩)) _ _ s
 refine wpAny_bind (wpAny_of_eq (F.newCall_set_1 a) (wpAny_pure ⟨plainId_quiet F.plain_set_new _,codeAny_builtin F.entry_set_new ?_⟩))
 rw [Around.under_plainId F.plain_set_new _]
 unfold Builtin.«set.__new__» Builtin.Frozenset.newClass
 have hsub:=sub_set_self
 obtain ⟨hp,g,d,tk,os⟩:=s
 dsimp only
 wp_walk
 refine wpAny_askSetting (wpAny_pure ?_)
 dsimp only
 simp only [newObj]
 refine wpAny_bind (wpAny_alloc (wpAny_pure ?_))
 exact wpAny_pure (h _ (fun z => by simp; exact z))
abbrev set0 (led:Bool):Obj:={ cls:=.type "set",dict:=none,data:=.set #[] 0 (.fresh 0 0 led) }
theorem Jhn {l:Addr} {items:Array Value} {ss:List Str} {led:Bool} {R:Result→Shared→Prop} (hld:w.params.followText "set-order" = false→led = true) (hh:A.handled = none) (hl:s.heap.IsList l items) (hi:StrsAre items.toList ss) (hb:items.size + 1 < scanBound)
  (q:∀ h' tk,SetS prog w h' s.heap.objs.size (met (fun i => ss.getD i ⟨#[]⟩) items.size)→(∀ b o,s.heap.get? b = some o→h'.get? b = some o)→s.toks ≤ tk→R (.ok (.ret .none)) { s with heap:=h',toks:=tk }) :
  wpAny (model prog w) A.in1.in1 (Builtin.«set.__init__» ⟨[.ref s.heap.objs.size, .ref l],[]⟩) (fun fin s' => match fin with | .done f => R (.ok f) s' | .again c' => c'.quiet = true∧codeAny (model prog w) A.in1 c' R s') (fun e s' => R (.error e) s') { s with heap:=s.heap.push (set0 led) }:=by
 have e0:(s.heap.push (set0 led)).get? s.heap.objs.size = some (set0 led):=Heap.get?_push_size _ rfl
 have lt:l < s.heap.objs.size:=by obtain ⟨o,ho,_⟩:=hl; exact Heap.lt_size ho
 have hl1:(s.heap.push (set0 led)).IsList l items:=hl.push _
 have s1:=F.sub_list_set
 have s2:=F.sub_list_frozenset
 obtain ⟨ol,hol,hcl,nl,hdl⟩:=id hl1
 obtain ⟨ocls,odict,odata,oslots⟩:=ol
 simp only at hcl hdl
 subst hcl
 subst hdl
 have ne1:(Value.type "list" == Value.type "dict") = false:=by decide
 unfold Builtin.«set.__init__»; unfold noKeywords; unfold Builtin.Frozenset.updateFrom
 generalize hPI:pyIter = PI
 wp_walk
 subst hPI
 refine wpAny_pyIter_list hl1 ?_
 refine wpAny_bind (wpAny_runValue ?_)
 have h3:A.in1.in1.in1.handled = none:=by simp [hh]
 have z1:(s.heap.push (set0 led)).objs.size = s.heap.objs.size + 1:=Heap.size_push ..
 have nI:l ≠ (s.heap.push (set0 led)).objs.size:=by
  rw [z1]
  exact Nat.ne_of_lt (Nat.lt_succ_of_lt lt)
 have nf:s.heap.objs.size ∉ [(s.heap.push (set0 led)).objs.size,l]:=by
  rw [z1]
  simp only [List.mem_cons,List.not_mem_nil,or_false,not_or]
  exact ⟨Nat.ne_of_lt (Nat.lt_succ_self _),Nat.ne_of_gt lt⟩
 refine Jho ((Walks.list h3 _ l nI items).toS) s.heap.objs.size nf (fun i => ss.getD i ⟨#[]⟩) (fun i v hv => JgI hi i v (by rw [Array.getElem?_toList]; exact hv)) hb (items.size - 0) 0 _ (by omega) (Nat.zero_le _) ⟨⟨_,Heap.get?_push_size _ rfl,rfl,rfl⟩,hl1.push _⟩ ?_ ?_
 ·have g:((s.heap.push (set0 led)).push { cls:=.type "list_iterator",data:=.fields #[.ref l, .int 0 0] }).get? s.heap.objs.size = some (set0 led):=Heap.get?_push_of_some _ e0
  exact ⟨#[],0,_,g,fun e he => by simp at he,by show List.Perm [] _; exact .refl _,(show (0:Nat) < scanBound by decide),by rfl,fun z => absurd rfl z,hld⟩
 ·intro s' hm hS'
  obtain ⟨h',g',d',tk',os'⟩:=s'
  have eg:g' = s.gens:=hm.gens
  have ed:d' = s.drawn:=hm.drawn
  have eo:os' = s.os:=hm.os
  subst eg
  subst ed
  subst eo
  refine wpAny_pure ?_
  refine wpAny_pure ?_
  refine q h' tk' hS' (fun b o e => ?_) hm.toks
  have lb:=Heap.lt_size e
  exact hm.heap b o (by rw [z1]; simp only [List.mem_cons,List.not_mem_nil,or_false,not_or]; exact ⟨Nat.ne_of_lt lb,Nat.ne_of_lt (Nat.lt_succ_of_lt lb)⟩) (Heap.get?_push_of_some _ (Heap.get?_push_of_some _ e))
theorem JcZ {l:Addr} {items:Array Value} {ss:List Str} {Q:Value→Shared→Prop} (hh:A.handled = none) (hl:s.heap.IsList l items) (hi:StrsAre items.toList ss) (hb:items.size + 1 < scanBound)
  (q:∀ h' tk,SetS prog w h' s.heap.objs.size (met (fun i => ss.getD i ⟨#[]⟩) items.size)→(∀ b o,s.heap.get? b = some o→h'.get? b = some o)→s.toks ≤ tk→Q (.ref s.heap.objs.size) { s with heap:=h',toks:=tk }) :
  wpAny (model prog w) A (call (.type "set") [.ref l]) Q E s:=by
 obtain ⟨c0,tl0,m0⟩:=F.called_set.mro
 have m1:=F.called_set.made
 have m2:=F.called_set.sub
 have m3:=F.called_set.notType
 have m4:=F.called_set.canCreate
 have m5:=F.typeCall_set_1 (.ref l)
 refine (wpAny_call (codeAny_of_tree ?_))
 show wpAny (model prog w) _ (callAny (.type "set") _) _ _ _
 refine wpAny_pure ⟨Code.quiet_builtin _ (by decide +kernel),codeAny_builtin (F.entry_type_call) ?_⟩
 rw [Around.under_plain (weight_type_call_type "set" ([.ref l]) []) rfl]
 repeat (any_goals (first | assumption | wp_step))
 refine codeAny_mono (JeW (.ref l) (E:=E) (Q₁:=fun obj s1 => ∃ led:Bool,(w.params.followText "set-order" = false→led = true)∧obj = .ref s.heap.objs.size∧s1 = { s with heap:=s.heap.push (set0 led) }) fun led hld => ⟨led,hld,rfl,rfl⟩) fun r s1 hr => ?_
 cases r with
 | error e => exact hr
 | ok fl =>
  cases fl with
  | ret obj =>
   obtain ⟨led,hld,rfl,rfl⟩:=hr
   have e0:(s.heap.push (set0 led)).get? s.heap.objs.size = some (set0 led):=Heap.get?_push_size _ rfl
   have ty:Shared.TypeIs { s with heap:=s.heap.push (set0 led) } (.ref s.heap.objs.size) "set":=⟨_,e0,rfl⟩
   have m6:=F.called_set.init.lookup
   have m7:=F.called_set.init.bind (.ref s.heap.objs.size)
   repeat (any_goals (first | assumption | wp_step))
   refine codeAny_mono (codeAny_call_builtin (R:=wants (fun r s2 => r = .none∧Q (.ref s.heap.objs.size) s2) E) F.called_set.init.plain F.entry_set_init (check_set_init_1 ty ?_)) fun r2 s2 hr2 => ?_
   ·exact Jhn hld hh hl hi hb fun h' tk a b c => ⟨rfl,q h' tk a b c⟩
   ·cases r2 with
    | error e => exact hr2
    | ok f2 =>
     cases f2 with
     | ret r =>
      obtain ⟨rfl,hq⟩:=hr2
      repeat (any_goals (first | assumption | wp_step))
     | _ => exact hr2.elim
  | _ => exact hr.elim
end
end L2
namespace L2
open PySem PySem.Spec PyProof.Rows
theorem JaN:Slot "set_iterator" "__next__" "set_iterator.__next__":=.of (owner:="set_iterator") (n:="__next__") (by rw [typeLookup_type,builtinLookup_eq_fast]; kernel_rfl) (by decide +kernel) (by decide +kernel) (by decide +kernel) (by first | exact .inl (by decide +kernel) | exact .inr (by decide +kernel)) (by rw [isSubtype_type]; kernel_rfl)
theorem Jbw:entryFor table "set_iterator.__next__" = some Builtin.«set_iterator.__next__»:=entryFor_of_tree (by kernel_rfl)
theorem JbY (a:Value):argsOk "set_iterator.__next__" ⟨[a],[]⟩:=by unfold argsOk; kernel_rfl
theorem JgG:Slot "set_iterator" "__iter__" "set_iterator.__iter__":=.of (owner:="set_iterator") (n:="__iter__") (by rw [typeLookup_type,builtinLookup_eq_fast]; kernel_rfl) (by decide +kernel) (by decide +kernel) (by decide +kernel) (by first | exact .inl (by decide +kernel) | exact .inr (by decide +kernel)) (by rw [isSubtype_type]; kernel_rfl)
theorem JhR (a:Value):argsOk "set_iterator.__iter__" ⟨[a],[]⟩:=by unfold argsOk; kernel_rfl
theorem JcE:entryFor table "set.__iter__" = some Builtin.«frozenset.__iter__»:=entryFor_alias (id':="frozenset.__iter__") (by kernel_rfl) rfl (by decide +kernel) (by kernel_rfl)
end L2
namespace L2
open PySem PySem.Spec PyProof.Rows
theorem Jcd {α : Type}:∀ {l:List α} {i:Nat} (h:i < l.length),(l[i] :: l.eraseIdx i).Perm l
 | x :: l,0,h => .refl _
 | x :: l,i + 1,h => (List.Perm.swap _ _ _).trans ((Jcd (l:=l) (i:=i) (by simpa using h)).cons x)
section
variable {M:Model} {A:Around} {E:Value→Shared→Prop} {s:Shared}
theorem JgR {src:Source} {n:Nat} {Q:Nat→Shared→Prop} (hn:n ≠ 0) (h:∀ i,i < n→Q i { s with drawn:=s.drawn.bump src }):wpAny M A (choose src n) Q E s :=
 fun Γ p _ => ⟨hn,h _ (Nat.mod_lt _ (Nat.pos_of_ne_zero hn))⟩
theorem Jc9 {α : Type}:∀ (n:Nat) (xs:List α) (s:Shared) (Q:List α→Shared→Prop),xs.length = n→(∀ ys d,ys.Perm xs→Q ys { s with drawn:=d })→wpAny M A (drawOrder n xs) Q E s
 | 0,xs,s,Q,hl,q => by
  have : xs = []:=List.eq_nil_of_length_eq_zero hl
  subst this
  exact wpAny_pure (q [] s.drawn (.refl _))
 | n + 1,[],s,Q,hl,q => by simp at hl
 | n + 1,x :: xs,s,Q,hl,q => by
  unfold drawOrder
  refine wpAny_bind (JgR (by simp) fun i hi => ?_)
  rw [List.getElem?_eq_getElem hi]
  refine wpAny_bind (Jc9 n _ _ _ (by rw [List.length_eraseIdx_of_lt hi]; omega) fun ys d hp => ?_)
  exact wpAny_pure (q _ d ((hp.cons _).trans (Jcd hi)))
end
theorem Jgx {α : Type} (next:Nat→Nat):∀ (n k:Nat) (l:List α) (out:Array α),l.length = n→(pickOrder.go next n k l out).toList.Perm (out.toList ++ l)
 | 0,k,l,out,hl => by
  have : l = []:=List.eq_nil_of_length_eq_zero hl
  subst this
  unfold pickOrder.go
  simp
 | n + 1,k,l,out,hl => by
  unfold pickOrder.go
  have hi:next k % l.length < l.length:=Nat.mod_lt _ (by omega)
  rw [List.getElem?_eq_getElem hi]
  dsimp only
  refine (Jgx next n (k + 1) _ _ (by rw [List.length_eraseIdx_of_lt hi]; omega)).trans ?_
  rw [Array.toList_push,List.append_assoc]
  exact (List.Perm.refl _).append (Jcd hi)
theorem JbG {α : Type} (next:Nat→Nat) (xs:Array α):(pickOrder next xs).toList.Perm xs.toList:=by
 have:=Jgx next xs.size 0 xs.toList #[] (by simp)
 simpa [pickOrder] using this
section
variable {prog:Program} {w:World} {A:Around} {E:Value→Shared→Prop} {s:Shared}
def setO (es:Array (Int × Value)) (ep:Nat) (t:SetTable):Obj:={ cls:=.type "set",dict:=none,data:=.set es ep t,slots:=#[] }
def itO (f:Value) (i:Nat) (a:Addr) (n ep:Nat):Obj:={ cls:=.type "set_iterator",data:=.fields #[f, .int i 0, .ref a, .int n 0, .int ep 0] }
theorem Jbu {Q:Bool→Shared→Prop} (h:Q (w.params.followText "set-order") s):wpAny (model prog w) A setsByText Q E s:=by
 unfold setsByText
 exact wpAny_bind (wpAny_askSetting (wpAny_pure h))
theorem Jeo {a:Addr} {es:Array (Int × Value)} {ep:Nat} {t:SetTable} {Q:Array (Int × Value)→Shared→Prop} (ha:s.heap.get? a = some (setO es ep t)) (hf:t.fits es.size = true) (ht:w.params.followText "set-order" = true)
  (q:Q (pickOrder (w.params.setOrder a ep) es) s):wpAny (model prog w) A (setWalk a) Q E s:=by
 unfold setWalk
 refine wpAny_bind (wpAny_setState_of ha rfl hf ?_)
 dsimp only
 refine wpAny_bind (Jbu ?_)
 rw [if_pos ht]
 exact wpAny_bind (wpAny_askSetting (wpAny_pure q))
theorem Jdg {h:Heap} {I a:Addr} {f f':Value} {i j n ep:Nat} {g:Array Value→Array Value} (hI:h.get? I = some (itO f i a n ep)) (hg:g #[f, .int i 0, .ref a, .int n 0, .int ep 0] = #[f', .int j 0, .ref a, .int n 0, .int ep 0]) :
  (h.update I (Obj.mapFields g)).get? I = some (itO f' j a n ep):=by
 have e:=Heap.get?_update_self (Obj.mapFields g) hI (Obj.isFreed_of_fields (Obj.data_mapFields (o:=itO f i a n ep) rfl _))
 rw [e]
 unfold itO
 simp only [Obj.mapFields,hg]
theorem JdQ {P:PySem.Fin→Shared→Prop} {Q:Option Value→Shared→Prop} (hh:A.handled = none) (q:∀ h',(∀ b o,s.heap.get? b = some o→h'.get? b = some o)→Q none { s with heap:=h' }) :
  wpAny (model prog w) A.in1 (do let x ← newExc (.type "StopIteration") []; raiseNew x) P (fun e s' => wpAny (model prog w) A (do let b ← isInstance e (.type "StopIteration"); if b = true then pure none else throw e) Q E s') s:=by
 refine wpAny_bind ?_
 simp only [newExc]; simp only [newTuple]
 refine wpAny_bind (wpAny_newObj_type ?_ (by size_fits))
 refine wpAny_bind (m:=firstArgMember _ _) (wpAny_of_eq (a:=Value.none) (by simp only [firstArgMember]; rfl) ?_)
 refine wpAny_newObj_type ?_ (by size_fits)
 simp only [raiseNew]
 refine wpAny_bind (wpAny_handled ?_)
 rw [show A.in1.handled = none from hh]
 refine wpAny_bind (wpAny_pure (wpAny_throw ?_))
 refine wpAny_bind (wpAny_isInstance (T:="StopIteration") (b:=true) ⟨_,Heap.get?_push_size _ rfl,rfl⟩ isSubtype_stop ?_)
 exact wpAny_pure (q _ fun b o e => Heap.get?_push_of_some _ (Heap.get?_push_of_some _ e))
section
variable {I a:Addr} {es:Array (Int × Value)} {i ep:Nat} {t:SetTable} {Q:Option Value→Shared→Prop}
theorem Jd5 {v:Value} (hI:s.heap.get? I = some (itO (.int 0 0) i a es.size ep)) (ha:s.heap.get? a = some (setO es ep t)) (hf:t.fits es.size = true)
  (ht:w.params.followText "set-order" = true) (hv:((pickOrder (w.params.setOrder a ep) es).toList.map (·.2))[i]? = some v)
  (q:∀ h',h'.get? I = some (itO (.int 0 0) (i + 1) a es.size ep)→Heap.SameBut I s.heap h'→Q (some v) { s with heap:=h' }):wpAny (model prog w) A (pyNext (.ref I)) Q E s:=by
 have ty:s.TypeIs (.ref I) "set_iterator":=⟨_,hI,rfl⟩
 unfold pyNext
 refine wpAny_bind (wpAny_attempt (wpAny_callSpecial?_slot (name:=Str.ofString "__next__") ty JaN (wpAny_call_entry JaN ty Jbw ?_ (JbY _))))
 unfold Builtin.«set_iterator.__next__»
 refine wpAny_bind (m:=slotArgs _ _ _) (wpAny_pure ?_)
 refine wpAny_bind (wpAny_fieldsOf hI rfl ?_)
 show wpAny _ _ (setEntries a >>= _) _ _ _
 refine wpAny_bind (wpAny_setEntries_of ha rfl hf ?_)
 rw [if_neg (by simp)]
 dsimp only
 unfold setNext
 refine wpAny_bind (wpAny_bind (wpAny_setState_of ha rfl hf ?_))
 dsimp only
 refine wpAny_bind (Jbu ?_)
 rw [if_pos ht,if_neg (by simp)]
 refine wpAny_bind (Jeo ha hf ht (wpAny_pure ?_))
 rw [List.getElem?_map,Array.getElem?_toList] at hv
 obtain ⟨x,hx,rfl⟩:=Option.map_eq_some_iff.mp hv
 rw [Int.toNat_natCast,hx]
 dsimp only [Option.map]
 refine wpAny_bind (wpAny_setField hI rfl (by simp) ?_)
 have h1:=Jdg (f':=.int 0 0) (j:=i) (g:=fun vs => vs.setIfInBounds 0 (rawInt ((Int.toNat 0:Nat):Int))) hI rfl
 refine wpAny_bind (wpAny_setField h1 rfl (by simp) ?_)
 have h2:=Jdg (f':=.int 0 0) (j:=i + 1) (g:=fun vs => vs.setIfInBounds 1 (rawInt ((i:Int) + 1))) h1 rfl
 exact wpAny_pure ⟨_,rfl,wpAny_pure (q _ h2 ((Heap.SameBut.update ..).trans (Heap.SameBut.update ..)))⟩
theorem Jdu (hh:A.handled = none) (hI:s.heap.get? I = some (itO (.int 0 0) i a es.size ep)) (ha:s.heap.get? a = some (setO es ep t)) (hf:t.fits es.size = true)
  (ht:w.params.followText "set-order" = true) (hv:(pickOrder (w.params.setOrder a ep) es)[i]? = none)
  (q:∀ h',(∀ b o,b ≠ I→s.heap.get? b = some o→h'.get? b = some o)→Q none { s with heap:=h' }):wpAny (model prog w) A (pyNext (.ref I)) Q E s:=by
 have ty:s.TypeIs (.ref I) "set_iterator":=⟨_,hI,rfl⟩
 unfold pyNext
 refine wpAny_bind (wpAny_attempt (wpAny_callSpecial?_slot (name:=Str.ofString "__next__") ty JaN (wpAny_call_entry JaN ty Jbw ?_ (JbY _))))
 unfold Builtin.«set_iterator.__next__»
 refine wpAny_bind (m:=slotArgs _ _ _) (wpAny_pure ?_)
 refine wpAny_bind (wpAny_fieldsOf hI rfl ?_)
 show wpAny _ _ (setEntries a >>= _) _ _ _
 refine wpAny_bind (wpAny_setEntries_of ha rfl hf ?_)
 rw [if_neg (by simp)]
 dsimp only
 unfold setNext
 refine wpAny_bind (wpAny_bind (wpAny_setState_of ha rfl hf ?_))
 dsimp only
 refine wpAny_bind (Jbu ?_)
 rw [if_pos ht,if_neg (by simp)]
 refine wpAny_bind (Jeo ha hf ht (wpAny_pure ?_))
 rw [Int.toNat_natCast,hv]
 dsimp only [Option.map]
 refine wpAny_bind (wpAny_setField hI rfl (by simp) ?_)
 refine JdQ hh fun h' k => q h' fun b o hb e => k b o ?_
 exact ((Heap.SameBut.update ..).extBut b o hb e)
theorem Jfz {v:Value} {tp:Addr} {ps:List Nat} {j:Nat} {hs:Int} (hI:s.heap.get? I = some (itO (.ref tp) i a es.size ep)) (ha:s.heap.get? a = some (setO es ep t)) (hf:t.fits es.size = true)
  (hp:s.heap.get? tp = some (seqObj "tuple" (ps.map fun (n:Nat) => rawInt n).toArray 0)) (hj:ps[i]? = some j) (hv:es[j]? = some (hs,v))
  (q:∀ h',h'.get? I = some (itO (.ref tp) (i + 1) a es.size ep)→Heap.SameBut I s.heap h'→Q (some v) { s with heap:=h' }):wpAny (model prog w) A (pyNext (.ref I)) Q E s:=by
 have ty:s.TypeIs (.ref I) "set_iterator":=⟨_,hI,rfl⟩
 unfold pyNext
 refine wpAny_bind (wpAny_attempt (wpAny_callSpecial?_slot (name:=Str.ofString "__next__") ty JaN (wpAny_call_entry JaN ty Jbw ?_ (JbY _))))
 unfold Builtin.«set_iterator.__next__»
 refine wpAny_bind (m:=slotArgs _ _ _) (wpAny_pure ?_)
 refine wpAny_bind (wpAny_fieldsOf hI rfl ?_)
 show wpAny _ _ (setEntries a >>= _) _ _ _
 refine wpAny_bind (wpAny_setEntries_of ha rfl hf ?_)
 rw [if_neg (by simp)]
 dsimp only
 unfold seqItems?
 refine wpAny_bind (wpAny_bind (wpAny_load hp (wpAny_pure ?_)))
 dsimp only
 have e:((ps.map fun (n:Nat) => rawInt n).toArray)[((i:Int)).toNat]? = some (rawInt j):=by
  rw [Int.toNat_natCast,List.getElem?_toArray,List.getElem?_map,hj]
  rfl
 rw [e]
 show wpAny _ _ (setNextDrawn a _ _ >>= _) _ _ _
 unfold setNextDrawn
 refine wpAny_bind (wpAny_bind (wpAny_setState_of ha rfl hf ?_))
 dsimp only
 rw [if_neg (by simp),Int.toNat_natCast,hv]
 refine wpAny_pure ?_
 refine wpAny_bind (wpAny_setField hI rfl (by simp) ?_)
 have h2:=Jdg (f':=.ref tp) (j:=i + 1) (g:=fun vs => vs.setIfInBounds 1 (rawInt ((i:Int) + 1))) hI rfl
 exact wpAny_pure ⟨_,rfl,wpAny_pure (q _ h2 (Heap.SameBut.update ..))⟩
theorem JfX {tp:Addr} {ps:List Nat} (hh:A.handled = none) (hI:s.heap.get? I = some (itO (.ref tp) i a es.size ep)) (ha:s.heap.get? a = some (setO es ep t)) (hf:t.fits es.size = true)
  (hp:s.heap.get? tp = some (seqObj "tuple" (ps.map fun (n:Nat) => rawInt n).toArray 0)) (hj:ps[i]? = none)
  (q:∀ h',(∀ b o,b ≠ I→s.heap.get? b = some o→h'.get? b = some o)→Q none { s with heap:=h' }):wpAny (model prog w) A (pyNext (.ref I)) Q E s:=by
 have ty:s.TypeIs (.ref I) "set_iterator":=⟨_,hI,rfl⟩
 unfold pyNext
 refine wpAny_bind (wpAny_attempt (wpAny_callSpecial?_slot (name:=Str.ofString "__next__") ty JaN (wpAny_call_entry JaN ty Jbw ?_ (JbY _))))
 unfold Builtin.«set_iterator.__next__»
 refine wpAny_bind (m:=slotArgs _ _ _) (wpAny_pure ?_)
 refine wpAny_bind (wpAny_fieldsOf hI rfl ?_)
 show wpAny _ _ (setEntries a >>= _) _ _ _
 refine wpAny_bind (wpAny_setEntries_of ha rfl hf ?_)
 rw [if_neg (by simp)]
 dsimp only
 unfold seqItems?
 refine wpAny_bind (wpAny_bind (wpAny_load hp (wpAny_pure ?_)))
 dsimp only
 have e:((ps.map fun (n:Nat) => rawInt n).toArray)[((i:Int)).toNat]? = none:=by
  rw [Int.toNat_natCast,List.getElem?_toArray,List.getElem?_map,hj]
  rfl
 rw [e]
 dsimp only
 refine wpAny_bind (wpAny_setField hI rfl (by simp) ?_)
 have h1:=Jdg (f':=rawInt 0) (j:=i) (g:=fun vs => vs.setIfInBounds 0 (rawInt 0)) hI rfl
 refine wpAny_bind (wpAny_setField h1 rfl (by simp) ?_)
 refine JdQ hh fun h' k => q h' fun b o hb e => k b o ?_
 exact ((Heap.SameBut.update ..).extBut b o hb ((Heap.SameBut.update ..).extBut b o hb e))
end
end
end L2
namespace L2
open PySem PySem.Spec PyProof.Rows
theorem JfY:entryFor table "set_iterator.__iter__" = some Builtin.«dict_keyiterator.__iter__»:=entryFor_alias (id':="dict_keyiterator.__iter__") (by kernel_rfl) rfl (by decide +kernel) (by kernel_rfl)
section
variable {prog:Program} {w:World} {A:Around} {E:Value→Shared→Prop} {s:Shared}
theorem Jdx {I a:Addr} {f:Value} {i n ep:Nat} {Q:Value→Shared→Prop} (hI:s.heap.get? I = some (itO f i a n ep)) (q:Q (.ref I) s):wpAny (model prog w) A (pyIter (.ref I)) Q E s:=by
 have ty:s.TypeIs (.ref I) "set_iterator":=⟨_,hI,rfl⟩
 refine wpAny_pyIter_slot ty JgG (wpAny_call_entry JgG ty JfY ?_ (JhR _))
 exact wpAny_pure ⟨_,rfl, "set_iterator",_,ty,JaN.lookup,q⟩
theorem JgQ (hh:A.handled = none) (I a:Addr) (hne:a ≠ I) {es:Array (Int × Value)} {ep:Nat} {t:SetTable} (hf:t.fits es.size = true) (ht:w.params.followText "set-order" = true) :
  Walks prog w A I [I,a] [I] es.size (fun i v => ((pickOrder (w.params.setOrder a ep) es).toList.map (·.2))[i]? = some v) (fun i h => h.get? I = some (itO (.int 0 0) i a es.size ep)∧h.get? a = some (setO es ep t)) where
 sub:=fun b hb => by simp at hb; simp [hb]
 frame:=fun _ _ _ st k => ⟨k I (by simp) _ st.1,k a (by simp) _ st.2⟩
 item:=fun i s Q E hi st q => by
  have hl:((pickOrder (w.params.setOrder a ep) es).toList.map (·.2)).length = es.size:=by rw [List.length_map,(JbG _ es).length_eq,Array.length_toList]
  have hv:=List.getElem?_eq_getElem (l:=(pickOrder (w.params.setOrder a ep) es).toList.map (·.2)) (by rw [hl]; exact hi)
  exact Jd5 st.1 st.2 hf ht hv fun h' e sb => q _ h' s.toks hv ⟨e,sb.extBut a _ hne st.2⟩ fun b o hb z => sb.extBut b o (fun h => hb (by simp [h])) z
 done:=fun s Q E st q => Jdu hh st.1 st.2 hf ht (by
  rw [← Array.getElem?_toList]
  exact List.getElem?_eq_none (by rw [(JbG _ es).length_eq,Array.length_toList]; exact Nat.le_refl _)) fun h' k => q h' s.toks fun b o hb z => k b o (fun h => hb (by simp [h])) z
 self:=fun _ _ _ _ st q => Jdx st.1 q
theorem JgP (hh:A.handled = none) (I a tp:Addr) (hne:a ≠ I) (hnt:tp ≠ I) {es:Array (Int × Value)} {ep:Nat} {t:SetTable} {ps:List Nat} (hf:t.fits es.size = true) (hp:ps.Perm (List.range es.size)) :
  Walks prog w A I [I,a,tp] [I] es.size (fun i v => (ps.map fun j => (es.getD j (0, .none)).2)[i]? = some v) (fun i h => h.get? I = some (itO (.ref tp) i a es.size ep)∧h.get? a = some (setO es ep t)∧h.get? tp = some (seqObj "tuple" (ps.map fun (n:Nat) => rawInt n).toArray 0)) where
 sub:=fun b hb => by simp at hb; simp [hb]
 frame:=fun _ _ _ st k => ⟨k I (by simp) _ st.1,k a (by simp) _ st.2.1,k tp (by simp) _ st.2.2⟩
 item:=fun i s Q E hi st q => by
  have hl:ps.length = es.size:=by rw [hp.length_eq,List.length_range]
  have li:i < ps.length:=by rw [hl]; exact hi
  have hj:=List.getElem?_eq_getElem li
  have lj:ps[i] < es.size:=List.mem_range.mp (hp.mem_iff.mp (List.getElem_mem li))
  have hv:es[ps[i]]? = some (es[ps[i]].1,es[ps[i]].2):=Array.getElem?_eq_getElem lj
  have hP:(ps.map fun j => (es.getD j (0, .none)).2)[i]? = some es[ps[i]].2:=by
   rw [List.getElem?_map,hj,Option.map_some,Array.getD_eq_getD_getElem?,Array.getElem?_eq_getElem lj]
   rfl
  exact Jfz st.1 st.2.1 hf st.2.2 hj hv fun h' e sb => q _ h' s.toks hP ⟨e,sb.extBut a _ hne st.2.1,sb.extBut tp _ hnt st.2.2⟩ fun b o hb z => sb.extBut b o (fun h => hb (by simp [h])) z
 done:=fun s Q E st q => JfX hh st.1 st.2.1 hf st.2.2 (List.getElem?_eq_none (by rw [hp.length_eq,List.length_range]; exact Nat.le_refl _)) fun h' k => q h' s.toks fun b o hb z => k b o (fun h => hb (by simp [h])) z
 self:=fun _ _ _ _ st q => Jdx st.1 q
theorem Jct {r:Addr} {Q:Bool→Shared→Prop} (ty:s.TypeIs (.ref r) "set") (h:Q false s):wpAny (model prog w) A (Builtin.List.listLengthHint (.ref r)) Q E s:=by
 unfold Builtin.List.listLengthHint
 refine wpAny_bind (wpAny_specialOf ty PySem.F.slot_set_len.lookup ?_)
 generalize eid:("set.__len__" : String) = id0
 wp_delta
 rw [show splitId id0 = some ("set", "__len__") from by subst eid; decide +kernel]
 subst eid
 refine wpAny_bind (wpAny_isInstance (T:="set") (b:=true) ty (by rw [isSubtype_type]; kernel_rfl) ?_)
 refine wpAny_ite_split (fun z => absurd z (by decide)) (fun _ => ?_)
 refine wpAny_ite_split (fun _ => ?_) (fun z => absurd (by decide +kernel) z)
 exact wpAny_bind (wpAny_typeOf ty (wpAny_pure h))
theorem Jg4 {a:Addr} {es:Array (Int × Value)} {ep:Nat} {t:SetTable} {Q:Value→Shared→Prop} (ha:s.heap.get? a = some (setO es ep t)) (hf:t.fits es.size = true) (hp:t.plain = false) (h2:2 ≤ es.size) (hz:es.size ≤ sizeLine)
  (q1:w.params.followText "set-order" = true→Q (.ref s.heap.objs.size) { s with heap:=s.heap.push (itO (.int 0 0) 0 a es.size ep) })
  (q2:∀ (ps:List Nat) d,ps.Perm (List.range es.size)→Q (.ref (s.heap.objs.size + 1)) { s with heap:=(s.heap.push (seqObj "tuple" (ps.map fun (n:Nat) => rawInt n).toArray 0)).push (itO (.ref s.heap.objs.size) 0 a es.size ep),drawn:=d }) :
  wpAny (model prog w) A (pyIter (.ref a)) Q E s:=by
 have ty:s.TypeIs (.ref a) "set":=⟨_,ha,rfl⟩
 refine wpAny_pyIter_slot ty PySem.F.slot_set_iter (wpAny_call_entry PySem.F.slot_set_iter ty JcE ?_ (PySem.F.args_set_iter_1 _))
 unfold Builtin.«frozenset.__iter__»
 refine wpAny_bind (m:=Builtin.Frozenset.slot0 _ _) (wpAny_pure ?_)
 unfold Builtin.Frozenset.sizeOf
 refine wpAny_bind (wpAny_bind (wpAny_setEntries_of ha rfl hf (wpAny_pure ?_)))
 unfold setDrawn
 refine wpAny_bind (wpAny_bind (wpAny_setState_of ha rfl hf ?_))
 dsimp only
 refine wpAny_bind (Jbu ?_)
 refine wpAny_pure ?_
 cases ht:w.params.followText "set-order" with
 | true =>
  rw [if_neg (by simp)]
  refine wpAny_bind (wpAny_pure (wpAny_bind (wpAny_setEpoch_of ha rfl hf ?_)))
  unfold newFields
  refine wpAny_bind (wpAny_newObj_type (wpAny_pure ⟨_,rfl, "set_iterator",_,⟨_,Heap.get?_push_size _ rfl,rfl⟩,JaN.lookup, ?_⟩))
  exact q1 ht
 | false =>
  have g2:decide (es.size > 1) = true:=decide_eq_true (show 1 < es.size from h2)
  show wpAny _ _ (if (!false && (!t.plain && decide (es.size > 1))) = true then _ else _) _ _ _
  rw [if_pos (by rw [hp,g2]; rfl)]
  refine wpAny_bind (Jc9 _ _ _ _ (by simp) fun ps d pp => ?_)
  refine wpAny_bind (wpAny_newTuple ?_ (by rw [List.length_map,pp.length_eq,List.length_range]; exact hz))
  have z1:(s.heap.push (seqObj "tuple" (ps.map fun (n:Nat) => rawInt n).toArray 0)).objs.size = s.heap.objs.size + 1:=Heap.size_push ..
  refine wpAny_bind (wpAny_setEpoch_of (Heap.get?_push_of_some _ ha) rfl hf ?_)
  unfold newFields
  refine wpAny_bind (wpAny_newObj_type (wpAny_pure ⟨_,rfl, "set_iterator",_,⟨_,Heap.get?_push_size _ rfl,rfl⟩,JaN.lookup, ?_⟩))
  have:=q2 ps d pp
  rw [← z1] at this
  exact this
theorem Jh3 {a S:Addr} {es:Array (Int × Value)} {ep c0:Nat} {t:SetTable} {res:Value} {R:Result→Shared→Prop} (hh:A.handled = none) (ha:s.heap.get? a = some (setO es ep t)) (hf:t.fits es.size = true) (hp:t.plain = false) (h2:2 ≤ es.size) (hz:es.size ≤ sizeLine)
  (hSa:S ≠ a) (hS:s.heap.get? S = some { cls:=.type "list",data:=.seq #[] c0 })
  (q:∀ s' acc c',(∀ b o,b ≠ S→s.heap.get? b = some o→s'.heap.get? b = some o)→s'.gens = s.gens→s'.os = s.os→s.toks ≤ s'.toks→s'.heap.get? S = some { cls:=.type "list",dict:=none,data:=.seq acc c',slots:=#[] }→acc.toList.Perm (es.toList.map (·.2))→R (.ok (.ret res)) s') :
  wpAny (model prog w) A.in1 (Builtin.List.listExtendWith (.ref S) (.ref a) res) (fun fin s' => match fin with | .done f => R (.ok f) s' | .again c' => c'.quiet = true∧codeAny (model prog w) A c' R s') (fun e s' => R (.error e) s') s:=by
 have key:∀ (I:Addr) (fp:List Addr) (vs:List Value) (St:Nat→Heap→Prop) (s1:Shared),Walks prog w A.in1 I fp [I] es.size (fun i v => vs[i]? = some v) St→vs.Perm (es.toList.map (·.2))→S ∉ fp→s.heap.get? I = none→St 0 s1.heap →
   (∀ b o,s.heap.get? b = some o→s1.heap.get? b = some o)→s1.gens = s.gens→s1.os = s.os→s.toks ≤ s1.toks→∀ c1, ∀ h,(∀ b o,b ≠ S→s1.heap.get? b = some o→h.get? b = some o)→h.get? S = some { cls:=.type "list",data:=.seq #[] c1 } →
   codeAny (model prog w) A (.builtin "list.extend.loop" ⟨[.ref S, .ref I,res],[]⟩) R { s1 with heap:=h }:=by
  intro I fp vs St s1 W hv nf nI st k1 eg eo et c1 h kh hS1
  have st':=W.frame 0 s1.heap h st fun b hb o e => kh b o (fun z => nf (z ▸ hb)) e
  refine codeAny_extend_loopS W.toS hz S nf res es.size 0 _ #[] c1 rfl (Nat.zero_le _) st' hS1 (ItemsOf.nil _) fun s' acc' c' hm hS' hacc => ?_
  have g1:s'.gens = s1.gens:=hm.gens
  have al:acc'.toList = vs:=by
   have l1:vs.length = es.size:=by rw [hv.length_eq,List.length_map,Array.length_toList]
   have l2:acc'.size = es.size:=hacc.1
   refine List.ext_getElem? fun j => ?_
   by_cases c:j < es.size
   ·have e1:acc'[j]? = some acc'[j]:=Array.getElem?_eq_getElem (by rw [l2]; exact c)
    rw [Array.getElem?_toList,e1,hacc.2 j _ e1]
   ·rw [List.getElem?_eq_none (by rw [Array.length_toList]; omega),List.getElem?_eq_none (by omega)]
  refine q s' acc' c' (fun b o hb e => ?_) (g1.trans eg) (hm.os.trans eo) (Nat.le_trans et hm.toks) hS' (by rw [al]; exact hv)
  refine hm.heap b o (fun hmem => ?_) (kh b o hb (k1 b o e))
  rcases List.mem_cons.mp hmem with z | z
  ·exact hb z
  ·rw [List.mem_singleton.mp z,nI] at e
   cases e
 have go:∀ (I:Addr) (fp:List Addr) (vs:List Value) (St:Nat→Heap→Prop) (s1:Shared),Walks prog w A.in1 I fp [I] es.size (fun i v => vs[i]? = some v) St→vs.Perm (es.toList.map (·.2))→S ∉ fp→s.heap.get? I = none→St 0 s1.heap →
   (∀ b o,s.heap.get? b = some o→s1.heap.get? b = some o)→s1.gens = s.gens→s1.os = s.os→s.toks ≤ s1.toks→∀ (b:Bool),wpAny (model prog w) A.in1 (if b = true then (do rule "list.extend.makes-room"; Builtin.List.listTouch (.ref S); again (.builtin "list.extend.loop" ⟨[.ref S, .ref I,res],[]⟩)) else again (.builtin "list.extend.loop" ⟨[.ref S, .ref I,res],[]⟩)) (fun fin s' => match fin with | .done f => R (.ok f) s' | .again c' => c'.quiet = true∧codeAny (model prog w) A c' R s') (fun e s' => R (.error e) s') s1:=by
  intro I fp vs St s1 W hv nf nI st k1 eg eo et b
  have S1:=k1 _ _ hS
  cases b
  ·exact wpAny_pure ⟨plainId_quiet PySem.F.plain_extend_loop _,key I fp vs St s1 W hv nf nI st k1 eg eo et c0 s1.heap (fun _ _ _ e => e) S1⟩
  ·rw [if_pos rfl]
   refine wpAny_bind (wpAny_rule ?_)
   refine wpAny_bind ?_
   show wpAny _ _ (updateSeq S (·.push .none) >>= fun _ => updateSeq S (fun x => x.pop)) _ _ _
   refine wpAny_bind (wpAny_updateSeq S1 rfl ?_)
   have S2:=Heap.get?_update_self (Obj.mapSeq (·.push Value.none)) S1 rfl
   refine wpAny_updateSeq (hz:=by seq_fits) S2 rfl ?_
   have S3:=Heap.get?_update_self (Obj.mapSeq (fun x => x.pop)) S2 rfl
   refine wpAny_pure ⟨plainId_quiet PySem.F.plain_extend_loop _,key I fp vs St s1 W hv nf nI st k1 eg eo et _ _ (fun b o hb e => ?_) S3⟩
   exact (Heap.get?_update_other _ _ (Ne.symm hb)).trans ((Heap.get?_update_other _ _ (Ne.symm hb)).trans e)
 have h1:A.in1.handled = none:=by simp [hh]
 have la:=Heap.lt_size ha
 have lS:=Heap.lt_size hS
 unfold Builtin.List.listExtendWith
 refine wpAny_bind (wpAny_typeOf (T:="set") ⟨_,ha,rfl⟩ ?_)
 have n1:Builtin.List.listSameRef (.ref S) (.ref a) = false:=by simp [Builtin.List.listSameRef,hSa]
 rw [if_neg (by rw [n1]; decide)]
 have hnone:∀ b,s.heap.objs.size ≤ b→s.heap.get? b = none:=fun b hb => by
  cases e:s.heap.get? b with
  | none => rfl
  | some o => exact absurd (Heap.lt_size e) (Nat.not_lt.mpr hb)
 refine wpAny_bind (Jg4 ha hf hp h2 hz (fun ht => ?_) fun ps d pp => ?_)
 ·have kk:∀ b o,s.heap.get? b = some o→(s.heap.push (itO (.int 0 0) 0 a es.size ep)).get? b = some o:=fun b o e => Heap.get?_push_of_some _ e
  refine wpAny_bind (wpAny_holding (Jct ⟨_,kk _ _ ha,rfl⟩ ?_))
  exact go s.heap.objs.size _ _ _ { s with heap:=s.heap.push (itO (.int 0 0) 0 a es.size ep) } (JgQ h1 _ a (Nat.ne_of_lt la) hf ht) ((JbG _ es).map _) (by simp only [List.mem_cons,List.not_mem_nil,or_false,not_or]; exact ⟨Nat.ne_of_lt lS,hSa⟩) (hnone _ (Nat.le_refl _)) ⟨Heap.get?_push_size _ rfl,kk _ _ ha⟩ kk rfl rfl (Nat.le_refl _) _
 ·generalize hO:seqObj "tuple" (ps.map fun (n:Nat) => rawInt n).toArray 0 = oT
  have kk:∀ b o,s.heap.get? b = some o→((s.heap.push oT).push (itO (.ref s.heap.objs.size) 0 a es.size ep)).get? b = some o:=fun b o e => Heap.get?_push_of_some _ (Heap.get?_push_of_some _ e)
  have z1:(s.heap.push oT).objs.size = s.heap.objs.size + 1:=Heap.size_push ..
  have tI:((s.heap.push oT).push (itO (.ref s.heap.objs.size) 0 a es.size ep)).get? (s.heap.objs.size + 1) = some (itO (.ref s.heap.objs.size) 0 a es.size ep):=by
   rw [← z1]
   exact Heap.get?_push_size _ rfl
  have tT:((s.heap.push oT).push (itO (.ref s.heap.objs.size) 0 a es.size ep)).get? s.heap.objs.size = some oT:=Heap.get?_push_of_some _ (Heap.get?_push_size _ (by rw [← hO]; rfl))
  refine wpAny_bind (wpAny_holding (Jct ⟨_,kk _ _ ha,rfl⟩ ?_))
  have vp:(ps.map fun j => (es.getD j (0, .none)).2).Perm (es.toList.map (·.2)):=by
   have e:es.toList.map (·.2) = (List.range es.size).map fun j => (es.getD j (0,Value.none)).2:=by
    refine List.ext_getElem? fun j => ?_
    rw [List.getElem?_map,List.getElem?_map,Array.getElem?_toList]
    by_cases c:j < es.size
    ·rw [Array.getElem?_eq_getElem c,List.getElem?_range c]
     simp [Array.getD_eq_getD_getElem?,Array.getElem?_eq_getElem c]
    ·rw [Array.getElem?_eq_none (by omega),List.getElem?_eq_none (by rw [List.length_range]; omega)]
     rfl
   rw [e]
   exact pp.map _
  exact go (s.heap.objs.size + 1) _ _ _ { s with heap:=(s.heap.push oT).push (itO (.ref s.heap.objs.size) 0 a es.size ep),drawn:=d } (JgP (tp:=s.heap.objs.size) h1 _ a (Nat.ne_of_lt (Nat.lt_succ_of_lt la)) (Nat.ne_of_lt (Nat.lt_succ_self _)) hf pp) vp (by simp only [List.mem_cons,List.not_mem_nil,or_false,not_or]; exact ⟨Nat.ne_of_lt (Nat.lt_succ_of_lt lS),hSa,Nat.ne_of_lt lS⟩) (hnone _ (Nat.le_succ _)) ⟨tI,kk _ _ ha,by rw [hO]; exact tT⟩ kk rfl rfl (Nat.le_refl _) _
end
end L2
namespace L2
open PySem PySem.Spec PyProof.Rows
section
variable {prog:Program} {w:World} {A:Around} {E:Value→Shared→Prop} {s:Shared}
theorem Jdw {S r:Addr} {R:Result→Shared→Prop} (h:wpAny (model prog w) A.in1 (Builtin.List.listExtendWith (.ref S) (.ref r) (.ref S)) (fun fin s' => match fin with | .done f => R (.ok f) s' | .again c' => c'.quiet = true∧codeAny (model prog w) A c' R s') (fun e s' => R (.error e) s') s) :
  codeAny (model prog w) A (.builtin "list.__iadd__" ⟨[.ref S, .ref r],[]⟩) R s:=by
 refine codeAny_builtin (PySem.F.entry_list_iadd) ?_
 rw [Around.under_plainId (PySem.F.plain_list_iadd) _]
 exact h
theorem JbU {r:Addr} {ss:List Str} {Q:Value→Shared→Prop} (h64:ss.length < 64)
  (hx:∀ (R:Result→Shared→Prop),(∀ s' (vs:List Value) c' ss',(∀ b o,s.heap.get? b = some o→s'.heap.get? b = some o)→s'.gens = s.gens→s'.os = s.os→s.toks ≤ s'.toks →
    s'.heap.get? s.heap.objs.size = some { cls:=.type "list",dict:=none,data:=.seq vs.toArray c',slots:=#[] }→StrsAre vs ss'→ss'.Perm ss→R (.ok (.ret (.ref s.heap.objs.size))) s') →
   codeAny (model prog w) A.in1 (.builtin "list.__iadd__" ⟨[.ref s.heap.objs.size, .ref r],[]⟩) R { s with heap:=s.heap.push { cls:=.type "list",data:=.seq ([]:List Value).toArray } })
  (q:∀ s' l (out:Array Value) ss' e,(∀ b o,s.heap.get? b = some o→s'.heap.get? b = some o)→s'.gens = s.gens→s'.os = s.os→s.toks ≤ s'.toks→s.heap.objs.size ≤ l→s'.heap.get? l = some (seqObj "list" out e)→StrsAre out.toList ss'→ss'.Perm ss→sortedS ss' = true→Q (.ref l) s') :
  wpAny (model prog w) A (call (.builtin "sorted") [.ref r]) Q E s:=by
 refine Calls.call_function_entry kind_sorted plain_sorted entry_sorted (args_sorted1 _) ?_
 unfold Builtin.«sorted»
 refine wpAny_bind (m:=checkCount "sorted" 1 1 _) (wpAny_pure ?_)
 refine wpAny_bind ?_
 unfold collect
 refine wpAny_bind (wpAny_runValue (codeAny_builtin (PySem.F.entry_proto_collect) ?_))
 rw [Around.under_plainId (PySem.F.plain_proto_collect) _]
 show wpAny _ A.in1.in1 (newList [] >>= fun l => again (.builtin "list.__iadd__" ⟨[l, .ref r],[]⟩)) _ _ s
 refine wpAny_bind (wpAny_newObj_type ?_)
 refine wpAny_pure ⟨plainId_quiet (PySem.F.plain_list_iadd) _,hx _ fun s' vs c' ss0 k eg eo et hS hs hp => ?_⟩
 refine wpAny_bind (m:=load s.heap.objs.size) (wpAny_load hS (wpAny_pure ?_))
 have vl:vs.length < 64:=by rw [hs.length,hp.length_eq]; exact h64
 have slb:(64:Nat) ≤ sizeLine:=by decide
 dsimp only
 refine wpAny_bind (wpAny_newList ?_ (by show vs.length ≤ sizeLine; omega))
 have o1:(s'.heap.push (seqObj "list" vs.toArray 0)).get? s'.heap.objs.size = some (seqObj "list" vs.toArray 0):=Heap.get?_push_size _ rfl
 refine wpAny_bind (wpAny_holding (wpAny_call_entry slot_list_sort ⟨_,o1,rfl⟩ entry_list_sort (list_sort_treeK strKind_oneLt o1 hs.keysOf (fun v1 v2 rest e => keyKind_strs (by rw [← e]; exact hs)) vl fun st hp2 hs2 => ⟨_,rfl, ?_⟩) (args_list_sort _)))
 obtain ⟨ss1,r1,r2,r3⟩:=sorted_out_str hs hp2 hs2
 obtain ⟨e1,o2⟩:=sortedHeap_at (out:=(arrOf st).map (·.2)) o1
 refine wpAny_pure ⟨_,rfl,q _ s'.heap.objs.size _ ss1 e1 (fun b o e => ?_) eg eo et ?_ o2 r1 (r2.trans hp) r3⟩
 ·have lb:=Heap.lt_size (k b o e)
  rw [sortedHeap_old (Nat.ne_of_lt lb) (by rw [size_push']; exact Nat.lt_succ_of_lt lb)]
  exact Heap.get?_push_of_some _ (k b o e)
 ·exact Nat.le_of_lt (Heap.lt_size hS)
theorem Je0:∀ (vs:List Value),(∀ v ∈ vs, ∃ x t,v = .str x t)→StrsAre vs (vs.map strOf)
 | [],_ => .nil
 | v :: vs,h => by
  obtain ⟨x,t,rfl⟩:=h v (by simp)
  exact .cons x t (Je0 vs fun u hu => h u (by simp [hu]))
theorem JfH {a:Addr} {ks:List Str} {Q:Value→Shared→Prop} (hh:A.handled = none) (hS:SetS prog w s.heap a ks) (h2:2 ≤ ks.length) (h64:ks.length < 64)
  (q:∀ s' l (out:Array Value) ss' e,(∀ b o,s.heap.get? b = some o→s'.heap.get? b = some o)→s'.gens = s.gens→s'.os = s.os→s.toks ≤ s'.toks→s.heap.objs.size ≤ l→s'.heap.get? l = some (seqObj "list" out e)→StrsAre out.toList ss'→ss'.Perm ks→sortedS ss' = true→Q (.ref l) s') :
  wpAny (model prog w) A (call (.builtin "sorted") [.ref a]) Q E s:=by
 obtain ⟨es,ep,t,ho,hel,hp,hb,hf,hpl,_⟩:=hS
 have sz:es.size = ks.length:=by rw [← hp.length_eq,List.length_map,Array.length_toList]
 have slb:(64:Nat) ≤ sizeLine:=by decide
 have la:=Heap.lt_size ho
 have h1:A.in1.handled = none:=by simp [hh]
 refine JbU (ss:=ks) h64 (fun R k => Jdw (Jh3 h1 (Heap.get?_push_of_some _ ho) hf (hpl (fun z => by rw [z] at h2; simp at h2)) (by omega) (by omega) (Nat.ne_of_gt la) (Heap.get?_push_size _ rfl) fun s' acc c' kk eg eo et hl hperm => ?_)) q
 have hall:∀ v ∈ acc.toList, ∃ x t,v = .str x t:=fun v hv => by
  obtain ⟨e,he,rfl⟩:=List.mem_map.mp (hperm.mem_iff.mp hv)
  obtain ⟨⟨k',h',_⟩,_⟩:=hel e he
  obtain ⟨u,hu⟩:=Value.isStrOf_shape h'
  exact ⟨k',u,hu⟩
 refine k s' acc.toList c' (acc.toList.map strOf) (fun b o e => kk b o (Nat.ne_of_lt (Heap.lt_size e)) (Heap.get?_push_of_some _ e)) eg eo et (by rw [Array.toArray_toList]; exact hl) (Je0 _ hall) ?_
 refine (hperm.map strOf).trans ?_
 rw [List.map_map]
 exact hp
theorem JeX {K:Type} [DecidableEq K] {knd:PySem.KeyKind prog w K} {d:Addr} {kvs:List (K × Value)} {ep:Nat} {ss:List Str} {Q:Value→Shared→Prop} (hh:A.handled = none) (lo:(d == sysModules) = false) (hd:s.heap.DictAt knd d kvs ep) (h64:kvs.length < 64)
  (hl:ss.length = kvs.length) (hk:∀ i k x v,kvs[i]? = some (k,x)→knd.is k v = true→∃ t,v = .str (ss.getD i ⟨#[]⟩) t)
  (q:∀ s' l (out:Array Value) ss' e,(∀ b o,s.heap.get? b = some o→s'.heap.get? b = some o)→s'.gens = s.gens→s'.os = s.os→s.toks ≤ s'.toks→s.heap.objs.size ≤ l→s'.heap.get? l = some (seqObj "list" out e)→StrsAre out.toList ss'→ss'.Perm ss→sortedS ss' = true→Q (.ref l) s') :
  wpAny (model prog w) A (call (.builtin "sorted") [.ref d]) Q E s:=by
 have slb:(64:Nat) ≤ sizeLine:=by decide
 have la:=hd.lt_size
 have h1:A.in1.handled = none:=by simp [hh]
 refine JbU (ss:=ss) (by omega) (fun R k => ?_) q
 obtain ⟨R0,hR0⟩:∃ R0:Result→Shared→Prop, ∀ r s',R0 r s' ↔ ∃ h' tk acc c',r = .ok (.ret (.ref s.heap.objs.size))∧s' = { s with heap:=h',toks:=tk }∧(∀ b o,b ≠ s.heap.objs.size→(s.heap.push { cls:=.type "list",data:=.seq ([]:List Value).toArray }).get? b = some o→h'.get? b = some o)∧h'.get? s.heap.objs.size = some { cls:=.type "list",dict:=none,data:=.seq acc c',slots:=#[] }∧ItemsOf (fun i v => ∃ k x,kvs[i]? = some (k,x)∧knd.is k v = true) acc kvs.length:=⟨_,fun _ _ => Iff.rfl⟩
 have base:=codeAny_toks_of (n:=s.toks) (s:={ s with heap:=s.heap.push { cls:=.type "list",data:=.seq ([]:List Value).toArray } }) (Nat.le_refl _) (Jdw (A:=A.in1) (R:=R0)
  (PySem.W.kdl_extend (R:=R0) (s:={ s with heap:=s.heap.push { cls:=.type "list",data:=.seq ([]:List Value).toArray } }) (PySem.W.kdl_dict (knd:=knd) (kvs:=kvs) (ep:=ep) lo) h1 (hd.push _) s.heap.objs.size (Nat.ne_of_gt la) (Nat.ne_of_gt la) (.ref s.heap.objs.size) 0 (Heap.get?_push_size _ rfl) (fun h' tk acc c' kk hl hacc => (hR0 _ _).mpr ⟨h',tk,acc,c',rfl,rfl,kk,hl,hacc⟩) (by omega)))
 refine codeAny_mono base ?_
 rintro r s' ⟨ht,hr⟩
 obtain ⟨h',tk,acc,c',rfl,rfl,kk,hlst,hacc⟩:=(hR0 _ _).mp hr
 have ha:StrsAre acc.toList ss:=by
  have hall:∀ v ∈ acc.toList, ∃ x t,v = .str x t:=fun v hv => by
   obtain ⟨i,hi⟩:=List.getElem?_of_mem hv
   rw [Array.getElem?_toList] at hi
   obtain ⟨k',x,e1,e2⟩:=hacc.2 i v hi
   obtain ⟨t,e⟩:=hk i k' x v e1 e2
   exact ⟨_,t,e⟩
  have:=Je0 _ hall
  have e:acc.toList.map strOf = ss:=by
   refine List.ext_getElem? fun i => ?_
   rw [List.getElem?_map,Array.getElem?_toList]
   have l2:acc.size = kvs.length:=hacc.1
   by_cases c:i < kvs.length
   ·have e1:acc[i]? = some acc[i]:=Array.getElem?_eq_getElem (by omega)
    obtain ⟨k',x,e2,e3⟩:=hacc.2 i _ e1
    obtain ⟨t,e4⟩:=hk i k' x _ e2 e3
    rw [e1,Option.map_some,e4,List.getElem?_eq_getElem (by omega)]
    simp [strOf,List.getD_eq_getElem?_getD,List.getElem?_eq_getElem (show i < ss.length by omega)]
   ·rw [Array.getElem?_eq_none (by omega),List.getElem?_eq_none (by omega)]
    rfl
  rw [e] at this
  exact this
 exact k _ acc.toList c' ss (fun b o e => kk b o (Nat.ne_of_lt (Heap.lt_size e)) (Heap.get?_push_of_some _ e)) rfl rfl ht (by rw [Array.toArray_toList]; exact hlst) ha (.refl _)
end
end L2
namespace L2
open PySem PySem.Spec PyProof.Rows
section
variable {prog:Program} {w:World} {A:Around} {E:Value→Shared→Prop} {s:Shared} {a:Addr} {its:Array Value} {n:Nat}
end
end L2
namespace L2
open PySem PySem.Spec PyProof.Rows
section
variable {prog:Program} {w:World} {A:Around} {E:Value→Shared→Prop} {s:Shared}
end
end L2
namespace L2
open PySem PySem.Spec PyProof.Rows
section
variable {X:Cx} {pins:List (Addr × Obj)} {σ : List (Option V)} {H:Hp} {s s':Shared}
theorem Inv.like (I:Inv X pins σ H { s with heap:=s'.heap,toks:=s'.toks }) (eg:s'.gens = s.gens) (eo:s'.os = s.os):Inv X pins σ H s' :=
 ⟨I.ok,by rw [eo]; exact I.os,by rw [eg]; exact I.bare,I.base,I.loc,I.cell,I.free,I.freeC,I.pin,I.hok,I.len⟩
theorem JcY:∀ {vs:List Value} {ss:List Str},StrsAre vs ss→Vals (ss.map V.str) vs
 | _,_, .nil => .nil
 | _,_, .cons z t r => .cons ⟨t,rfl⟩ (JcY r)
theorem Jel:∀ {vs:List Value} {ss:List Str},Vals (ss.map V.str) vs→StrsAre vs ss
 | [],[],_ => .nil
 | [],_ :: _,h => by cases h
 | _ :: _,[],h => by cases h
 | v :: vs,z :: ss,h => by
  cases h with
  | cons h1 h2 =>
   obtain ⟨t,rfl⟩:=h1
   exact .cons z t (Jel h2)
def JhO (out ss:List Str):Prop:=out.Perm ss∧sortedS out = true
def Jjb (xs:List V) (H:Hp) (Q:VK):Prop:=∃ d kvs ss,xs = [.ref d]∧H d = some (.dK kvs)∧kvs.map (·.1) = ss.map Sum.inr∧ss.length < 64∧∀ l out,H l = none→JhO out ss→Q (.ref l) (upd H l (.lst (out.map V.str)))
theorem Jfp (hc:X.calm = true):CallR X (.builtin "sorted") Jjb:=by
 intro pins s σ H xs us Q I r h
 obtain ⟨d,kvs,ss,rfl,e,hk,h64,q⟩:=h
 obtain ⟨u,rfl,rx⟩:=vals1 r
 cases rx
 obtain ⟨hz,hS,vs,rel,dd⟩:=dk_of I.hok e
 obtain ⟨ep,da⟩:=dd.dictAt
 have sl:(64:Nat) ≤ sizeLine:=by decide
 have lk:ss.length = kvs.length:=by simpa using (congrArg List.length hk).symm
 have lv:vs.length = kvs.length:=rel.length.symm
 have keys:vs.map (·.1) = kvs.map (·.1):=by
  clear dd da hk lk lv hz q e
  induction rel with
  | nil => rfl
  | cons h1 _ ih =>
   rw [List.map_cons,List.map_cons,ih,h1.1]
 refine JeX (ss:=ss) (I.ok.hd hc) hS da (by omega) (by omega) (fun i k x v hi hv => ?_) fun s' l out ss' ex k eg eo et hl ho hs hp hso => ?_
 ·have e1:(vs.map (·.1))[i]? = some k:=by rw [List.getElem?_map,hi]; rfl
  rw [keys,hk,List.getElem?_map] at e1
  obtain ⟨z,hz1,rfl⟩:=Option.map_eq_some_iff.mp e1
  rcases JaG (show keyIs (Sum.inr z) v = true from hv) with ⟨b,hb,_⟩ | ⟨y,t,hy,rfl⟩
  ·cases hb
  ·cases hy
   exact ⟨t,by rw [List.getD_eq_getElem?_getD,hz1]; rfl⟩
 ·have lo:out.toList.length ≤ sizeLine:=by
   rw [hs.length,hp.length_eq]
   omega
  refine ⟨.ref l,_,Inv.like (s:=s) (I.laid (t':=s'.toks) (o:=.lst (ss'.map V.str)) k hl (show ObjOk X.prog X.w _ s'.heap l (.lst (ss'.map V.str)) from ⟨by rw [List.length_map,hp.length_eq]; omega,out.toList,ex,JcY hs,by rw [Array.toArray_toList]; exact ho⟩)) eg eo,rfl,q l ss' (I.hok.fresh hl) ⟨hp,hso⟩⟩
end
end L2
namespace L2
open PySem PySem.Spec PyProof.Rows Ch
def leS (a b:Str):Prop:=a.cps.toList ≤ b.cps.toList
theorem Jeg:∀ (p:Str) (l:List Str),risingS p l = true→(p :: l).Pairwise leS
 | p,[],_ => by simp
 | p,x :: r,h => by
  have h':(!ltCps x.cps.toList p.cps.toList && risingS x r) = true:=h
  rw [Bool.and_eq_true] at h'
  have ih:=Jeg x r h'.2
  have h1:leS p x:=by
   have:=h'.1
   rw [ltCps_eq] at this
   exact List.not_lt.mp (by simpa using this)
  refine List.pairwise_cons.mpr ⟨fun b hb => ?_,ih⟩
  rcases List.mem_cons.mp hb with rfl | hb
  ·exact h1
  ·exact List.le_trans h1 ((List.pairwise_cons.mp ih).1 b hb)
theorem Jej (l:List Str) (h:sortedS l = true):l.Pairwise leS:=by
 cases l with
 | nil => simp
 | cons p l => exact Jeg p l h
theorem Jg8 {a b:Str} (h:leS a b) (g:leS b a):a = b:=by
 have e:=List.le_antisymm h g
 cases a
 cases b
 simp only [Str.mk.injEq]
 exact Array.toList_inj.mp e
theorem Jei {l l':List Str} (h:sortedS l = true) (h':sortedS l' = true) (hn:l.Nodup) (hn':l'.Nodup) (hm:∀ z,z ∈ l ↔ z ∈ l'):l = l' :=
 List.Perm.eq_of_pairwise (le:=leS) (fun _ _ _ _ => Jg8) (Jej l h) (Jej l' h') ((List.perm_ext_iff_of_nodup hn hn').mpr hm)
def negF (a:Int × Int):Int × Int:=(-a.1,a.2)
def lessF (a c:Int × Int):Bool:=decide (a.1 * c.2 < c.1 * a.2)
def okB (lo hi:Option (Int × Int)) (a:Int × Int):Bool :=
 (match lo with | none => true | some l => !lessF a l) && (match hi with | none => true | some h => !lessF h a)
structure FB (A B:Nat) (a:Int × Int):Prop where
 s1:Mth.Sz A a.1
 s2:Mth.Sz B a.2
 b1:1 ≤ a.2
 g1:Mth.g a.1 a.2 = 1
theorem FB.ok {A B n:Nat} {a:Int × Int} (h:FB A B a) (h1:A ≤ n) (h2:B ≤ n):FOk n a:=⟨h.s1.mono h1,h.s2.mono h2,h.b1,h.g1⟩
theorem FB.neg {A B:Nat} {a:Int × Int} (h:FB A B a):FB A B (negF a):=⟨by
 have:=h.s1
 unfold Mth.Sz at this ⊢
 unfold negF
 rw [Int.natAbs_neg]
 exact this,h.s2,h.b1,by
 have:=h.g1
 unfold Mth.g negF at *
 simpa using this⟩
theorem FB.add {A B C D n m:Nat} {a c:Int × Int} (h:FB A B a) (k:FB C D c) (h1:A + D ≤ n) (h2:C + B ≤ n) (h3:B + D ≤ m):FB (n + 1) m (addF a c):=by
 have b0:a.2 * c.2 ≠ 0:=Int.mul_ne_zero (by have:=h.b1; omega) (by have:=k.b1; omega)
 have z1:=(h.s1.mul k.s2).mono h1
 have z2:=(k.s1.mul h.s2).mono h2
 exact ⟨Mth.Sz.top b0 (z1.add z2),(Mth.Sz.bot b0 (h.s2.mul k.s2)).mono h3,Mth.Jbg b0,Mth.g_low b0⟩
theorem FB.low {A B:Nat} {t b:Int} (hb:1 ≤ b) (h1:Mth.Sz A t) (h2:Mth.Sz B b):FB A B (Mth.top t b,Mth.bot t b):=by
 have b0:b ≠ 0:=by omega
 exact ⟨Mth.Sz.top b0 h1,Mth.Sz.bot b0 h2,Mth.Jbg b0,Mth.g_low b0⟩
theorem Jhr {x y:Int × Int} (hx:1 ≤ x.2) (hy:1 ≤ y.2):(y.1 ≤ 0→lessF x (addF x y) = false)∧(0 ≤ y.1→lessF (addF x y) x = false):=by
 have b0:x.2 * y.2 ≠ 0:=Int.mul_ne_zero (by omega) (by omega)
 have cr:=Mth.cross (t:=x.1 * y.2 + y.1 * x.2) b0
 have bp:=Mth.Jbg (t:=x.1 * y.2 + y.1 * x.2) b0
 unfold lessF addF
 dsimp only
 generalize Mth.bot (x.1 * y.2 + y.1 * x.2) (x.2 * y.2) = B at cr bp ⊢
 generalize Mth.top (x.1 * y.2 + y.1 * x.2) (x.2 * y.2) = T' at cr ⊢
 have e1:T' * x.2 * y.2 = x.1 * B * y.2 + y.1 * x.2 * B:=by
  have : T' * x.2 * y.2 = T' * (x.2 * y.2):=by rw [Int.mul_assoc]
  rw [this,cr,Int.add_mul]
  rw [Int.mul_right_comm x.1 y.2 B]
 constructor
 ·intro h
  rw [decide_eq_false_iff_not]
  intro hl
  have h2:=Int.mul_lt_mul_of_pos_right hl (show 0 < y.2 by omega)
  rw [e1] at h2
  have h3:y.1 * x.2 * B ≤ 0:=Int.mul_nonpos_of_nonpos_of_nonneg (Int.mul_nonpos_of_nonpos_of_nonneg h (by omega)) (by omega)
  omega
 ·intro h
  rw [decide_eq_false_iff_not]
  intro hl
  have h2:=Int.mul_lt_mul_of_pos_right hl (show 0 < y.2 by omega)
  rw [e1] at h2
  have h3:0 ≤ y.1 * x.2 * B:=Int.mul_nonneg (Int.mul_nonneg h (by omega)) (by omega)
  omega
end L2
namespace L2
open PySem PySem.Spec PyProof.Rows Ch
end L2
namespace L2
open PySem PySem.Spec PyProof.Rows Ch
theorem Jil {X:Cx} {K:PySem.W.Frag} {e:Expr} {ta:TE} {f:Str} {pos:Pos} (hK:X.K = K) (he:PE X e ta) (hb:attributeBase e f X.env (eval e X.env) = eval e X.env):PE X (.Attribute e f pos) (tFld K ta f):=by
 subst hK
 exact JaK he hb
end L2
namespace L2
open PySem PySem.Spec PyProof.Rows Ch
end L2
namespace L2
open PySem PySem.Spec PyProof.Rows Ch
end L2
namespace L2
open PySem PySem.Spec PyProof.Rows Ch
structure FW (A B:Nat) (a:Int × Int):Prop where
 s1:Mth.Sz A a.1
 s2:Mth.Sz B a.2
 b1:1 ≤ a.2
theorem FB.w {A B:Nat} {a:Int × Int} (h:FB A B a):FW A B a:=⟨h.s1,h.s2,h.b1⟩
theorem FW.mono {A B C D:Nat} {a:Int × Int} (h:FW A B a) (h1:A ≤ C) (h2:B ≤ D):FW C D a:=⟨h.s1.mono h1,h.s2.mono h2,h.b1⟩
theorem FW.add {A B C D n m:Nat} {a c:Int × Int} (h:FW A B a) (k:FW C D c) (h1:A + D ≤ n) (h2:C + B ≤ n) (h3:B + D ≤ m):FB (n + 1) m (addF a c):=by
 have b0:a.2 * c.2 ≠ 0:=Int.mul_ne_zero (by have:=h.b1; omega) (by have:=k.b1; omega)
 have z1:=(h.s1.mul k.s2).mono h1
 have z2:=(k.s1.mul h.s2).mono h2
 exact ⟨Mth.Sz.top b0 (z1.add z2),(Mth.Sz.bot b0 (h.s2.mul k.s2)).mono h3,Mth.Jbg b0,Mth.g_low b0⟩
theorem Jfv {a b c:Int × Int} (ha:1 ≤ a.2) (hb:1 ≤ b.2) (hc:1 ≤ c.2) (h1:lessF b a = false) (h2:lessF c b = false):lessF c a = false:=by
 unfold lessF at *
 rw [decide_eq_false_iff_not,Int.not_lt] at *
 have h3:=Int.mul_le_mul_of_nonneg_right h1 (show 0 ≤ c.2 by omega)
 have h4:=Int.mul_le_mul_of_nonneg_right h2 (show 0 ≤ a.2 by omega)
 have e1:a.1 * b.2 * c.2 = (a.1 * c.2) * b.2:=by rw [Int.mul_right_comm]
 have e2:c.1 * b.2 * a.2 = (c.1 * a.2) * b.2:=by rw [Int.mul_right_comm]
 have e3:b.1 * a.2 * c.2 = b.1 * c.2 * a.2:=by rw [Int.mul_right_comm]
 rw [e1,e3] at h3
 rw [e2] at h4
 exact Int.le_of_mul_le_mul_right (Int.le_trans h3 h4) (show 0 < b.2 by omega)
end L2
namespace L2
open PySem PySem.Spec PyProof.Rows Ch
end L2
namespace L2
open PySem PySem.Spec PyProof.Rows Ch
section
variable {X:Cx} {K:PySem.W.Frag} {o e:Expr} {es:List Expr} {to:TE} {t:TA} {name:Str} {apos cpos:Pos} {T id:String} {r:V→List V→Hp→VK→Prop}
end
end L2
namespace L2
open PySem PySem.Spec PyProof.Rows
section
variable {X:Cx}
end
section
variable {prog:Program} {w:World} {A:Around} {E:Value→Shared→Prop} {s:Shared}
theorem JgU {I a:Addr} {ep:Nat} {t:SetTable} {Q:Option Value→Shared→Prop} (hh:A.handled = none) (hI:s.heap.get? I = some (itO (.int 0 0) 0 a 0 ep)) (ha:s.heap.get? a = some (setO #[] ep t)) (hf:t.fits 0 = true)
  (q:∀ h',(∀ b o,b ≠ I→s.heap.get? b = some o→h'.get? b = some o)→Q none { s with heap:=h' }):wpAny (model prog w) A (pyNext (.ref I)) Q E s:=by
 have ty:s.TypeIs (.ref I) "set_iterator":=⟨_,hI,rfl⟩
 cases ht:w.params.followText "set-order" with
 | true => exact Jdu (es:=#[]) (i:=0) hh hI ha hf ht (by rw [← Array.getElem?_toList]; exact List.getElem?_eq_none (by rw [(JbG _ _).length_eq]; simp)) q
 | false =>
  unfold pyNext
  refine wpAny_bind (wpAny_attempt (wpAny_callSpecial?_slot (name:=Str.ofString "__next__") ty JaN (wpAny_call_entry JaN ty Jbw ?_ (JbY _))))
  unfold Builtin.«set_iterator.__next__»
  refine wpAny_bind (m:=slotArgs _ _ _) (wpAny_pure ?_)
  refine wpAny_bind (wpAny_fieldsOf hI rfl ?_)
  show wpAny _ _ (setEntries a >>= _) _ _ _
  refine wpAny_bind (wpAny_setEntries_of ha rfl hf ?_)
  rw [if_neg (by simp)]
  dsimp only
  unfold setNext
  refine wpAny_bind (wpAny_bind (wpAny_setState_of ha rfl hf ?_))
  dsimp only
  refine wpAny_bind (Jbu ?_)
  rw [if_neg (by rw [ht]; decide)]
  refine wpAny_ite_split (fun z => absurd (show (!t.plain && decide ((#[]:Array (Int × Value)).size > 1)) = true from z) (by simp)) (fun _ => ?_)
  refine wpAny_bind ?_
  show wpAny _ _ (if (!t.led && !(#[]:Array (Int × Value)).isEmpty) = true then unsupported _ else pure ()) _ _ _
  rw [if_neg (by simp)]
  refine wpAny_pure (wpAny_pure ?_)
  have e0:∀ i:Nat,(#[]:Array (Int × Value))[i]? = none:=fun i => by simp
  rw [e0]
  dsimp only
  refine wpAny_bind (wpAny_setField hI rfl (by simp) ?_)
  refine JdQ hh fun h' k => q h' fun b o hb e => k b o ?_
  exact ((Heap.SameBut.update ..).extBut b o hb e)
theorem Jf9 {a:Addr} {ep:Nat} {t:SetTable} {Q:Value→Shared→Prop} (ha:s.heap.get? a = some (setO #[] ep t)) (hf:t.fits 0 = true)
  (q1:Q (.ref s.heap.objs.size) { s with heap:=s.heap.push (itO (.int 0 0) 0 a 0 ep) }):wpAny (model prog w) A (pyIter (.ref a)) Q E s:=by
 have ty:s.TypeIs (.ref a) "set":=⟨_,ha,rfl⟩
 refine wpAny_pyIter_slot ty PySem.F.slot_set_iter (wpAny_call_entry PySem.F.slot_set_iter ty JcE ?_ (PySem.F.args_set_iter_1 _))
 unfold Builtin.«frozenset.__iter__»
 refine wpAny_bind (m:=Builtin.Frozenset.slot0 _ _) (wpAny_pure ?_)
 unfold Builtin.Frozenset.sizeOf
 refine wpAny_bind (wpAny_bind (wpAny_setEntries_of ha rfl hf (wpAny_pure ?_)))
 unfold setDrawn
 refine wpAny_bind (wpAny_bind (wpAny_setState_of ha rfl hf ?_))
 dsimp only
 refine wpAny_bind (Jbu ?_)
 refine wpAny_pure ?_
 refine wpAny_ite_split (fun z => absurd (show (!w.params.followText "set-order" && (!t.plain && decide ((#[]:Array (Int × Value)).size > 1))) = true from z) (by simp)) (fun _ => ?_)
 refine wpAny_bind (wpAny_pure (wpAny_bind (wpAny_setEpoch_of ha rfl hf ?_)))
 unfold newFields
 refine wpAny_bind (wpAny_newObj_type (wpAny_pure ⟨_,rfl, "set_iterator",_,⟨_,Heap.get?_push_size _ rfl,rfl⟩,JaN.lookup, ?_⟩))
 exact q1
theorem Jg6 {a:Addr} {ep:Nat} {t:SetTable} (hf:t.fits 0 = true):PySem.W.KdlSrc prog w "set" a a 0 (fun _ _ => False) (fun h => h.get? a = some (setO #[] ep t)) where
 type:=fun _ ha => ⟨_,ha,rfl⟩
 there:=fun _ ha => ⟨Heap.lt_size ha,Heap.lt_size ha⟩
 keep:=fun _ _ ha k => k a (.inl rfl) _ ha
 notList:=by decide
 notTuple:=by decide
 hint:=fun _ _ _ _ ha q => Jct ⟨_,ha,rfl⟩ q
 iter:=fun A s hh ha => ⟨itO (.int 0 0) 0 a 0 ep,fun _ h => h.get? s.heap.objs.size = some (itO (.int 0 0) 0 a 0 ep)∧h.get? a = some (setO #[] ep t),fun _ _ q => Jf9 ha hf q,
  {
   sub:=fun b hb => by simp at hb; simp [hb]
   frame:=fun _ _ _ st k => ⟨k _ (by simp) _ st.1,k _ (by simp) _ st.2⟩
   item:=fun i _ _ _ hi _ _ => absurd hi (Nat.not_lt_zero _)
   done:=fun s' Q E st q => JgU hh st.1 st.2 hf fun h' k => q h' s'.toks fun b o hb z => k b o (fun h => hb (by simp [h])) z
   self:=fun _ _ _ _ st q => Jdx st.1 q },⟨Heap.get?_push_size _ rfl,Heap.get?_push_of_some _ ha⟩⟩
theorem JeY {a:Addr} {ep:Nat} {t:SetTable} {Q:Value→Shared→Prop} (hh:A.handled = none) (ha:s.heap.get? a = some (setO #[] ep t)) (hf:t.fits 0 = true)
  (q:∀ s' l (out:Array Value) ss' e,(∀ b o,s.heap.get? b = some o→s'.heap.get? b = some o)→s'.gens = s.gens→s'.os = s.os→s.toks ≤ s'.toks→s.heap.objs.size ≤ l→s'.heap.get? l = some (seqObj "list" out e)→StrsAre out.toList ss'→ss'.Perm []→sortedS ss' = true→Q (.ref l) s') :
  wpAny (model prog w) A (call (.builtin "sorted") [.ref a]) Q E s:=by
 have la:=Heap.lt_size ha
 have h1:A.in1.handled = none:=by simp [hh]
 refine JbU (ss:=[]) (by decide) (fun R k => ?_) q
 obtain ⟨R0,hR0⟩:∃ R0:Result→Shared→Prop, ∀ r s',R0 r s' ↔ ∃ h' tk acc c',r = .ok (.ret (.ref s.heap.objs.size))∧s' = { s with heap:=h',toks:=tk }∧(∀ b o,b ≠ s.heap.objs.size→(s.heap.push { cls:=.type "list",data:=.seq ([]:List Value).toArray }).get? b = some o→h'.get? b = some o)∧h'.get? s.heap.objs.size = some { cls:=.type "list",dict:=none,data:=.seq acc c',slots:=#[] }∧ItemsOf (fun _ _ => False) acc 0:=⟨_,fun _ _ => Iff.rfl⟩
 have base:=codeAny_toks_of (n:=s.toks) (s:={ s with heap:=s.heap.push { cls:=.type "list",data:=.seq ([]:List Value).toArray } }) (Nat.le_refl _) (Jdw (A:=A.in1) (R:=R0)
  (PySem.W.kdl_extend (R:=R0) (s:={ s with heap:=s.heap.push { cls:=.type "list",data:=.seq ([]:List Value).toArray } }) (Jg6 (prog:=prog) (w:=w) (a:=a) (ep:=ep) hf) h1 (Heap.get?_push_of_some _ ha) s.heap.objs.size (Nat.ne_of_gt la) (Nat.ne_of_gt la) (.ref s.heap.objs.size) 0 (Heap.get?_push_size _ rfl) (fun h' tk acc' c' k' hS hacc => (hR0 _ _).mpr ⟨h',tk,acc',c',rfl,rfl,k',hS,hacc⟩) (Nat.zero_le _)))
 refine codeAny_mono base ?_
 rintro r s' ⟨ht,hr⟩
 obtain ⟨h',tk,acc,c',rfl,rfl,kk,hlst,hacc⟩:=(hR0 _ _).mp hr
 have e:acc.toList = []:=List.eq_nil_of_length_eq_zero (by rw [Array.length_toList]; exact hacc.1)
 exact k _ acc.toList c' [] (fun b o e => kk b o (Nat.ne_of_lt (Heap.lt_size e)) (Heap.get?_push_of_some _ e)) rfl rfl ht (by rw [Array.toArray_toList]; exact hlst) (by rw [e]; exact .nil) (.refl _)
end
end L2
namespace L2
open PySem PySem.Spec PyProof.Rows
section
variable {X:Cx}
end
section
variable {X:Cx} {k k':Nat} {x mn:Str} {C:Addr} {Cs:Addr→Prop} {ps:List Str} {sp:Sp} {p pos apos:Pos} {e o:Expr} {es:List Expr} {t:TA} {ta:TE}
abbrev TX:=St→Hp→VK→XK→Prop
def xMake (C:Addr) (sp:Sp) (t:TA):TX:=fun σ H Q E => t σ H fun vs H1 => ∀ x dx,H1 x = none→H1 dx = none→dx ≠ x →
 sp (.ref x :: (vs ++ [])) (upd (upd H1 dx (.own x)) x (.ins C dx [])) (fun v H2 => v = .non∧Q (.ref x) H2) E
end
end L2
namespace L2
open PySem PySem.Spec PyProof.Rows
section
variable {X:Cx}
end
section
variable {σ : St} {H:Hp} {Q:VK} {E:XK} {ta td ty:TE} {ts:TA} {tc:TT} {t u:TX} {C:Addr} {sp:Sp} {Cs:Addr→Prop} {m:Str}
theorem y9ay:xMake C sp ts σ H Q E = ts σ H fun vs H1 => ∀ x dx,H1 x = none→H1 dx = none→dx ≠ x→sp (.ref x :: (vs ++ [])) (upd (upd H1 dx (.own x)) x (.ins C dx [])) (fun v H2 => v = .non∧Q (.ref x) H2) E:=rfl
theorem y40y:tDIn ty td σ H Q = ty σ H fun y H1 => td σ H1 fun x H2 => ∃ a o,x = .ref a∧DGet H2 a y o∧Q (.bl o.isSome) H2:=rfl
theorem y44y:JgJ ty td σ H Q = ty σ H fun y H1 => td σ H1 fun x H2 => ∃ a o,x = .ref a∧DGet H2 a y o∧Q (.bl (!o.isSome)) H2:=rfl
end
section
variable {α κ : Type} [DecidableEq κ] {f : α→κ} {k : κ} {u y : α}
end
section
variable {α : Type} {P : α→V→Prop}
end
end L2
namespace L2
open PySem PySem.Spec PyProof.Rows Ch
section
variable {P P':TD→V→Prop} {ts:List TD} {kvs:List (Key × V)} {t:TD} {v:V}
end
end L2
namespace L2
open PySem PySem.Spec PyProof.Rows Ch
theorem sub_len {α : Type} [DecidableEq α]:∀ (l m:List α),l.Nodup→l ⊆ m→l.length ≤ m.length
 | [],m,_,_ => by simp
 | a :: l,m,hn,hs => by
  rw [List.nodup_cons] at hn
  have ha:a ∈ m:=hs (by simp)
  have:=sub_len l (m.erase a) hn.2 fun x hx => (List.mem_erase_of_ne (show x ≠ a from fun e => hn.1 (e ▸ hx))).mpr (hs (by simp [hx]))
  rw [List.length_erase_of_mem ha] at this
  have:=List.length_pos_of_mem ha
  rw [List.length_cons]
  omega
end L2
namespace L2
open PySem PySem.Spec PyProof.Rows
section
variable {X:Cx} {pins:List (Addr × Obj)} {σ : St} {H:Hp} {s:Shared} {a:Addr} {kvs:List (Key × V)} {k:Key} {u r:Value} {y:V} {A:Around} {E:Value→Shared→Prop}
end
def tDSet (td ty tx:TE):TE:=fun σ H Q => td σ H fun x H1 => ∃ a,x = .ref a∧IsD H1 a∧ty σ H1 fun y H2 => tx σ H2 fun z H3 => ∃ kvs k,H3 a = some (.dK kvs)∧y = kV k∧kvs.length < sizeLine ∧
 (∀ v,valV kvs k = some v→Q v H3)∧(valV kvs k = none→Q z (upd H3 a (.dK (putK kvs k z))))
section
variable {X:Cx} {o e f:Expr} {apos cpos:Pos} {td ty tx:TE}
end
section
variable {X:Cx}
end
section
variable {σ : St} {H:Hp} {Q:VK} {td ty tx:TE}
theorem y48y:tDSet td ty tx σ H Q = td σ H fun x H1 => ∃ a,x = .ref a∧IsD H1 a∧ty σ H1 fun y H2 => tx σ H2 fun z H3 => ∃ kvs k,H3 a = some (.dK kvs)∧y = kV k∧kvs.length < sizeLine∧(∀ v,valV kvs k = some v→Q v H3)∧(valV kvs k = none→Q z (upd H3 a (.dK (putK kvs k z)))):=rfl
theorem y3fy:Jjg td ty tx σ H Q = td σ H fun x H1 => ∃ a,x = .ref a∧IsD H1 a∧ty σ H1 fun y H2 => tx σ H2 fun z H3 => ∃ o,DGet H3 a y o∧Q (o.getD z) H3:=rfl
theorem y41y {trs:List (TE × TE)}:tDisp trs σ H Q = ∀ p,H p = none→Jfm trs σ (upd H p (.dK [])) fun ps H2 => H2 p = some (.dK [])∧∃ kvs:List (Key × V),ps = kvs.map (fun kv => (kV kv.1,kv.2))∧kvs.length ≤ 15∧Q (.ref p) (upd H2 p (.dK (JhD [] kvs))):=rfl
theorem y7ey {tk tv:TE} {R:List (V × V)→Hp→Prop}:Jfm [(tk,tv)] σ H R = tk σ H fun x H1 => tv σ H1 fun y H2 => R [(x,y)] H2:=rfl
theorem y2dy {K:PySem.W.Frag} {T:String} {r:V→List V→Hp→VK→Prop} {to:TE}:tBM0 K T r to σ H Q = to σ H fun x H1 => tyV K T x H1∧r x [] H1 Q:=rfl
end
end L2
namespace L2
open PySem PySem.Spec PyProof.Rows Ch
section
variable {α : Type} {f : α→Str} {P P' : α→V→Prop} {as:List α} {kvs:List (Key × V)} {a : α} {v:V}
end
structure PD where
 nm:Str
 st:Str
 en:Str
 sz:Int × Int
 mo:Int × Int
 wt:Int
end L2
namespace L2
open PySem PySem.Spec PyProof.Rows
section
variable {X:Cx} {pins:List (Addr × Obj)} {σ : List (Option V)} {H H':Hp} {s s':Shared} {d:Addr} {kvs kvs':List (Key × V)} {od:Obj}
theorem Inv.freeze (I:Inv X pins σ H s) (e:H d = some (.dK kvs)) (ho:s.heap.get? d = some od):Inv X pins σ (upd H d (.frz od (.dK kvs))) s:=by
 refine I.un (h':=s.heap) (t':=s.toks) ⟨fun b o q _ _ _ => q,fun b o q _ _ _ => ⟨o.slots,q⟩,fun b o q n _ => ?_,fun b o q _ => ⟨o,q⟩,fun b xs q => ?_,fun b o u q => ?_,fun b ps q => ⟨#[], ?_⟩⟩ fun a o q => ?_
 ·rw [Jag (fun z => by rw [z,e] at n; cases n)]
  exact n
 ·rw [Jag (fun z => by rw [z,e] at q; cases q)]
  exact q
 ·rw [Jag (fun z => by rw [z,e] at q; cases q)]
  exact q
 ·rw [Jag (fun z => by rw [z,e] at q; cases q),Array.append_empty]
  exact q
 ·have ho':∀ a' b,H b = some (.own a')→upd H d (.frz od (.dK kvs)) b = some (.own a'):=fun a' b q => by
   rw [Jag (fun z => by rw [z,e] at q; cases q)]
   exact q
  have ht':∀ b xs,H b = some (.tup xs)→upd H d (.frz od (.dK kvs)) b = some (.tup xs):=fun b xs q => by
   rw [Jag (fun z => by rw [z,e] at q; cases q)]
   exact q
  by_cases c:a = d
  ·subst c
   rw [Jap] at q
   cases q
   exact ⟨ho,(I.hok a _ e).stay (fun _ _ _ z => z) (ho' a) ht'⟩
  ·rw [Jag c] at q
   exact (I.hok a o q).stay (fun _ _ _ z => z) (ho' a) ht'
end
def Itv (d:Addr) (od:Obj) (kvs:List (Key × V)):It :=
 ⟨fun i H => H d = some (.frz od (.dK kvs))∧i < kvs.length,fun i H x H' => H' = H∧(kvs.map (·.2))[i]? = some x,fun i H => H d = some (.frz od (.dK kvs))∧kvs.length ≤ i⟩
section
variable {X:Cx} {tg:Expr}
def iVals (td:TE):TI:=fun σ H R => td σ H fun x H1 => ∃ d kvs,x = .ref d∧H1 d = some (.dK kvs)∧∀ od,R (Itv d od kvs) (upd H1 d (.frz od (.dK kvs)))
def tThaw (t:TE):TE:=fun σ H Q => ∃ d kvs,H d = some (.dK kvs)∧t σ H fun v H' => ∃ od kvs',H' d = some (.frz od (.dK kvs'))∧Q v (upd H' d (.dK kvs'))
end
section
variable {k:Nat} {cs:List (Nat × Str)} {g:TG} {te tl td:TE} {σ : St} {H H1:Hp} {Q:VK} {d:Addr} {od:Obj} {kvs:List (Key × V)}
theorem y3ay:tThaw (tComp k cs (iVals td) g te) σ H Q = ∃ d kvs,H d = some (.dK kvs)∧td σ H fun x H1 => ∃ d1 kvs1,x = .ref d1∧H1 d1 = some (.dK kvs1)∧∀ od,CompJ (Itv d1 od kvs1) k cs g te σ (fun v H' => ∃ od kvs',H' d = some (.frz od (.dK kvs'))∧Q v (upd H' d (.dK kvs'))) (upd H1 d1 (.frz od (.dK kvs1))):=rfl
end
section
variable {X:Cx} {k k':Nat} {x:Str} {C:Addr} {ps:List Str} {sp:Sp} {E:XK} {p pos:Pos}
end
end L2
namespace L2
open PySem PySem.Spec PyProof.Rows Ch
structure GD where
 nm:Str
 st:Str
 en:Str
 lo:Int × Int
 hi:Int × Int
section
variable {K:PySem.W.Frag} {H H':Hp}
end
end L2
namespace L2
open PySem PySem.Spec PyProof.Rows Ch
section
variable {H H' H'':Hp} {ls:List PD} {one:Str} {fd wl:Addr} {ws:List (Str × List Pr)} {wt:List Str}
end
end L2
namespace L2
open PySem PySem.Spec PyProof.Rows Ch
end L2
namespace L2
open PySem PySem.Spec PyProof.Rows Ch
theorem JeN {X:Cx} {K:PySem.W.Frag} {pos:Pos} {es:List Expr} {k:Nat} {t:TGs} {n:Nat} (hK:X.K = K) (hc:X.calm = true) (h:PGs X es t) (hn:(assignEach es X.env).length = n:=by rfl) (hst:(assignEach es X.env).findIdx? (·.1) = none:=by rfl):PG X (.Tuple es k pos) (gTup K n t):=by
 subst hK
 exact Jec hc h hn hst
abbrev Fr2:=Int × Int
end L2
namespace L2
open PySem PySem.Spec PyProof.Rows Ch
section
variable {K:PySem.W.Frag} {k:Nat} {cs:List (Nat × Str)} {g:TG} {te:TE} {ta:TA} {σ : St} {H H1:Hp} {Q:VK} {a b:Addr} {xs zs:List V}
end
end L2
namespace L2
open PySem PySem.Spec PyProof.Rows Ch
section
variable {X:Cx}
end
section
variable {K:PySem.W.Frag} {H:Hp} {Q:VK}
end
end L2
namespace L2
open PySem PySem.Spec PyProof.Rows Ch
end L2
namespace L2
open PySem PySem.Spec PyProof.Rows Ch
section
variable {prog:Program} {w:World} {A:Around} {E:Value→Shared→Prop} {s:Shared}
end
end L2
namespace L2
open PySem PySem.Spec PyProof.Rows Ch
section
variable {prog:Program} {w:World} {A:Around} {E:Value→Shared→Prop} {s:Shared}
end
section
variable {X:Cx}
end
section
variable {X:Cx} {elts:List Expr} {x1:Nat} {tp:Pos}
end
section
variable {K:PySem.W.Frag} {k:Nat} {cs:List (Nat × Str)} {g:TG} {te:TE} {ta:TA} {σ : St} {H H1:Hp} {Q:VK} {a:Addr} {xs:List V}
end
end L2
namespace L2
open PySem PySem.Spec PyProof.Rows Ch
def Itq (lo c:Int) (n:Nat):It:=⟨fun i _ => i < n,fun i H x H' => H' = H∧x = .int (lo + i * c),fun i _ => n ≤ i⟩
def rsz (lo hi c:Int):Nat:=(if lo < hi then (hi - lo - 1) / c + 1 else 0).toNat
section
variable {X:Cx} {tg:Expr}
def iRng3 (ta:TA):TI:=fun σ H R => ta σ H fun vs H1 => ∃ i j c:Int,vs = [.int i, .int j, .int c]∧(0 ≤ i∧i < 2 ^ 40∧0 ≤ j∧j < 2 ^ 40∧1 ≤ c∧c < 2 ^ 30)∧R (Itq i c (rsz i j c)) H1
end
section
variable {ta:TA} {g:TG} {tb:TS} {D:Ends} {σ : St} {H:Hp}
def ForQ (lo c:Int) (n:Nat) (g:TG) (tb:TS) (D:Ends) (σ : St) (H:Hp):Prop:=∃ W:Nat→Nat→St→Hp→Prop,(∃ m,W 0 m σ H)∧∀ i m σ H,W i m σ H →
 ((Itq lo c n).stop i H∧D.nx σ H) ∨ ((Itq lo c n).go i H∧∃ N:St→Hp→Prop,(∀ σ' H',N σ' H'→∃ m',m' < m∧W (i + 1) m' σ' H')∧∀ x H',(Itq lo c n).yld i H x H'→g x σ H' fun σ2 H2 => tb { D with nx:=N,ct:=N,bk:=D.nx } σ2 H2)
theorem y54y:tFor (iRng3 ta) g tb D σ H = ta σ H fun vs H1 => ∃ i j c:Int,vs = [.int i, .int j, .int c]∧(0 ≤ i∧i < 2 ^ 40∧0 ≤ j∧j < 2 ^ 40∧1 ≤ c∧c < 2 ^ 30)∧ForQ i c (rsz i j c) g tb D σ H1:=rfl
end
theorem y5ey {c:TT} {ta tb:TE} {σ : St} {H:Hp} {Q:VK}:tIf c ta tb σ H Q = c σ H fun b H1 => if b = true then ta σ H1 Q else tb σ H1 Q:=rfl
end L2
namespace L2
open PySem Ch
def vl (a:Int × Int):Rat:=(a.1:Rat) / (a.2:Rat)
theorem Jfk {a:Int} (h:1 ≤ a):(a:Rat) ≠ 0:=fun z => by
 have : a = 0:=by exact_mod_cast z
 omega
theorem JgN {a c:Int × Int} (ha:1 ≤ a.2) (hc:1 ≤ c.2):vl (addF a c) = vl a + vl c:=by
 have b0:a.2 * c.2 ≠ 0:=Int.mul_ne_zero (by omega) (by omega)
 have cr:=Mth.cross (t:=a.1 * c.2 + c.1 * a.2) b0
 have bp:=Mth.Jbg (t:=a.1 * c.2 + c.1 * a.2) b0
 unfold vl addF
 dsimp only
 generalize Mth.top (a.1 * c.2 + c.1 * a.2) (a.2 * c.2) = t at *
 generalize Mth.bot (a.1 * c.2 + c.1 * a.2) (a.2 * c.2) = b at *
 have h1:=Jfk ha
 have h2:=Jfk hc
 have h3:=Jfk bp
 have e:(t:Rat) * ((a.2:Rat) * (c.2:Rat)) = ((a.1:Rat) * (c.2:Rat) + (c.1:Rat) * (a.2:Rat)) * (b:Rat):=by exact_mod_cast cr
 generalize (a.1:Rat) = x at *
 generalize (a.2:Rat) = y at *
 generalize (c.1:Rat) = z at *
 generalize (c.2:Rat) = u at *
 generalize (t:Rat) = t at *
 generalize (b:Rat) = b at *
 grind
theorem JhN (a:Int × Int):vl (negF a) = - vl a:=by
 unfold vl negF
 rw [Rat.intCast_neg]
 grind
theorem Je2 {a c:Int × Int} (ha:1 ≤ a.2) (hc:1 ≤ c.2):lessF a c = true ↔ vl a < vl c:=by
 unfold lessF vl
 rw [decide_eq_true_iff]
 have h1:(0:Rat) < (a.2:Rat):=by exact_mod_cast (show 0 < a.2 by omega)
 have h2:(0:Rat) < (c.2:Rat):=by exact_mod_cast (show 0 < c.2 by omega)
 have e:((a.1 * c.2 < c.1 * a.2) ↔ ((a.1:Rat) * (c.2:Rat) < (c.1:Rat) * (a.2:Rat))):=by
  constructor
  ·intro h
   exact_mod_cast h
  ·intro h
   exact_mod_cast h
 rw [e]
 rw [Rat.div_lt_iff h1]
 generalize (a.1:Rat) = x at *
 generalize (a.2:Rat) = y at *
 generalize (c.1:Rat) = z at *
 generalize (c.2:Rat) = u at *
 have e2:z / u * y = z * y / u:=by grind
 rw [e2,Rat.lt_div_iff h2]
end L2
namespace L2
open PySem Ch
theorem FB.mono {A B C D:Nat} {a:Int × Int} (h:FB A B a) (h1:A ≤ C) (h2:B ≤ D):FB C D a:=⟨h.s1.mono h1,h.s2.mono h2,h.b1,h.g1⟩
end L2
namespace L2
open PySem Ch
section
variable {A B A' B' C D C' D':Nat} {x y z w m a b:Int × Int}
end
end L2
namespace L2
open PySem Ch
section
variable {α : Type} {f : α→Str} {l:List α} {s st:Nat}
end
end L2
namespace L2
open PySem PySem.Spec PyProof.Rows Ch
section
variable {K:PySem.W.Frag} {H H':Hp} {x:V}
end
theorem Jbo {H0 H:Hp} {b:Addr} (S:Same H0 H) (h:H b = none):H0 b = none:=by
 cases e:H0 b with
 | none => rfl
 | some o => rw [S _ _ e] at h; cases h
end L2
namespace L2
open PySem Ch
open PySem.Spec PyProof.Rows
theorem Jfe (z:Str):∀ ss:List Str,inV (.str z) (ss.map V.str) = decide (z ∈ ss)
 | [] => by simp [inV]
 | s :: ss => by
  have h:=Jfe z ss
  unfold inV at h ⊢
  rw [List.map_cons,List.any_cons,h]
  have e:eqV (.str s) (.str z) = decide (s = z):=by first | rfl | simp [eqV]
  rw [e]
  by_cases c:s = z
  ·subst c
   simp
  ·have c':¬ z = s:=fun q => c q.symm
   simp [c,c']
theorem ForR.byN {lo:Int} {n:Nat} {g:TG} {tb:TS} {D:Ends} {σ : St} {H:Hp} (Pv:Nat→St→Hp→Prop) (h0:Pv 0 σ H)
  (hs:∀ i σ H,i < n→Pv i σ H→∀ N:St→Hp→Prop,(∀ σ' H',Pv (i + 1) σ' H'→N σ' H')→g (.int (lo + i)) σ H fun σ2 H2 => tb { D with nx:=N,ct:=N,bk:=D.nx } σ2 H2) (hd:∀ σ H,Pv n σ H→D.nx σ H):ForR lo n g tb D σ H :=
 ForR.by Pv h0 (fun i σ H hi hp => hs i σ H hi hp _ fun _ _ h => h) hd
theorem ForA.byLN {K:PySem.W.Frag} {a:Addr} {xs:List V} {g:TG} {tb:TS} {D:Ends} {σ : St} {H:Hp} (hA:SqL K H a xs) (Pv:Nat→St→Hp→Prop) (h0:Pv 0 σ H) (hl:∀ i σ H',Pv i σ H'→SqL K H' a xs)
  (hs:∀ i x σ H,xs[i]? = some x→Pv i σ H→∀ N:St→Hp→Prop,(∀ σ' H',Pv (i + 1) σ' H'→N σ' H')→g x σ H fun σ2 H2 => tb { D with nx:=N,ct:=N,bk:=D.nx } σ2 H2) (hd:∀ σ H,Pv xs.length σ H→D.nx σ H):ForA K a g tb D σ H :=
 ForA.byL hA Pv h0 hl (fun i x σ H hx hp => hs i x σ H hx hp _ fun _ _ h => h) hd
end L2
namespace L2
open PySem Ch
def prodI:List Int→Int
 | [] => 1
 | f :: r => f * prodI r
theorem Jdk (f:Int):∀ fs:List Int,prodI (fs ++ [f]) = prodI fs * f
 | [] => by simp [prodI]
 | g :: fs => by rw [List.cons_append]; simp only [prodI,Jdk f fs]; rw [Int.mul_assoc]
structure Scl (b:Int) (fs:List Int):Prop where
 b1:1 ≤ b
 f1:∀ f ∈ fs,1 ≤ f
 pr:prodI fs = b
theorem Scl.nil:Scl 1 []:=⟨by decide,by simp,rfl⟩
theorem Scl.snoc {b f:Int} {fs:List Int} (h:Scl b fs) (hf:1 ≤ f):Scl (b * f) (fs ++ [f]):=⟨by
 have:=Int.mul_pos (show 0 < b by have:=h.b1; omega) (show 0 < f by omega)
 omega,fun g hg => by
 rcases List.mem_append.mp hg with hg | hg
 ·exact h.f1 g hg
 ·rw [List.mem_singleton.mp hg]; exact hf,by rw [Jdk,h.pr]⟩
end L2
namespace L2
open PySem PySem.Spec PyProof.Rows Ch
section
variable {X:Cx} {tg:Expr}
end
def notStar:Expr→Bool
 | .Starred _ _ => false
 | _ => true
theorem Jai {e:Expr} {es:List Expr} {env:Env} (h:notStar e = true):starEach (e :: es) env = (false,eval e env) :: starEach es env:=by
 cases e <;> first | rfl | (simp [notStar] at h)
theorem Jaa {X:Cx} {e:Expr} {es:List Expr} {te:TE} {t:TA} (ha:PE X e te) (hr:PA X es t) (hs:notStar e = true:=by rfl):PA X (e :: es) (tCons te t):=Jij ha hr (Jai hs)
section
variable {K:PySem.W.Frag} {H H':Hp} {x:V} {a c:Addr}
def FLV (K:PySem.W.Frag) (H:Hp) (s:Int × Int) (x:V):Prop:=FrV K H x s.1 s.2
theorem FLV.sameT {s:Int × Int} (T:SameT H H') (h:FLV K H s x):FLV K H' s x:=FrV.sameT T h
end
end L2
namespace L2
open PySem PySem.Spec PyProof.Rows Ch
section
variable {X:Cx}
end
section
variable {prog:Program} {w:World} {A:Around} {E:Value→Shared→Prop} {s:Shared}
end
section
variable {X:Cx}
end
end L2
namespace L2
open PySem PySem.Spec PyProof.Rows Ch
def ext (M:Str→Option Str) (f:Str):Str:=(M f).getD f
section
variable {ls:List PD} {M:Str→Option Str} {a b f g:Str} {p:PD}
end
section
variable {K:PySem.W.Frag} {H H':Hp}
end
end L2
namespace L2
open PySem PySem.Spec PyProof.Rows Ch
end L2
namespace L2
open PySem PySem.Spec PyProof.Rows Ch
end L2
namespace L2
open PySem PySem.Spec PyProof.Rows Ch
end L2
namespace L2
open PySem Ch
section
variable {a b:Str→Rat}
end
structure Gp where
 R:Rat
 way:List Str
section
variable {N:List Str} {w M:Str→Rat} {gs:List Gp} {f f':Str→Rat}
end
def left (lvs:List (Str × (Int × Int))) (w:Str→Rat) (n:Str):Rat:=if n ∈ lvs.map (·.1) then 0 else w n
section
variable {lvs:List (Str × (Int × Int))} {n m:Str} {L:Int × Int} {ns:List Str} {w:Str→Rat}
end
section
variable {N:List Str} {w M:Str→Rat} {gs:List Gp} {lvs:List (Str × (Int × Int))} {c:Rat} {L:Int × Int} {ns:List Str}
end
section
variable {D E:Int} {r s:Rat}
end
end L2
namespace L2
open PySem PySem.Spec PyProof.Rows Ch
theorem Jh9 {kvs:List (Key × V)} {vs:List (Key × Value)} (rel:KV kvs vs):vs.map (·.1) = kvs.map (·.1):=by
 unfold KV at rel
 induction rel with
 | nil => rfl
 | cons h1 _ ih => rw [List.map_cons,List.map_cons,ih,h1.1]
theorem Jh8 {P:Program} {w:World} {z:Str} {v:Value} (h:(JaS P w).is (Sum.inr z) v = true):∃ t,v = .str z t:=by
 rcases JaG (show keyIs (Sum.inr z) v = true from h) with ⟨b,hb,_⟩ | ⟨y,t,hy,rfl⟩
 ·cases hb
 ·cases hy
  exact ⟨t,rfl⟩
def Itk (d:Addr) (od:Obj) (kvs:List (Key × V)) (ss:List Str):It :=
 ⟨fun i H => H d = some (.frz od (.dK kvs))∧i < ss.length,fun i H x H' => H' = H∧(ss.map V.str)[i]? = some x,fun i H => H d = some (.frz od (.dK kvs))∧ss.length ≤ i⟩
theorem JgL {P:Program} {w:World} {K:PySem.W.Frag} {tg:Expr} {d it:Addr} {od:Obj} {kvs:List (Key × V)} {ss:List Str} {vs:List (Key × Value)} {ep:Nat} (rel:KV kvs vs) (hk:kvs.map (·.1) = ss.map Sum.inr) (hd:∀ h:Heap,h.get? d = some od→h.DictAt (JaS P w) d vs ep) :
  Turn P w K tg (Itk d od kvs ss) [it] it (fun i h => h.IsKeyIter it d i vs.length ep) where
 mem:=by simp
 obj:=fun i h st b hb => by
  obtain rfl:b = it:=by simpa using hb
  obtain ⟨o,e,c,z⟩:=st
  exact ⟨o,e,fun v q => by rw [z] at q; cases q⟩
 keep:=fun i h h' st k => st.at fun o e => k it (by simp) o e
 item:=by
  intro X hP hw hK hc i pins s σ H E I hf st hg
  subst hP hw hK
  obtain ⟨hfz,hi⟩:=hg
  obtain ⟨f0,f1,f2,f3,f4,f5⟩:=hf it (by simp)
  have g:=(I.hok d _ hfz).1
  have lv:=rel.length
  have lk:kvs.length = ss.length:=by simpa using congrArg List.length hk
  obtain ⟨⟨k,u'⟩,hku⟩:∃ p,vs[i]? = some p:=⟨_,List.getElem?_eq_getElem (show i < vs.length by omega)⟩
  have e3:(vs.map (·.1))[i]? = some k:=by rw [List.getElem?_map,hku]; rfl
  rw [Jh9 rel,hk,List.getElem?_map,List.getElem?_eq_getElem hi] at e3
  have e3:Sum.inr ss[i] = k:=Option.some.inj e3
  subst e3
  refine wpAny_pyNext_dict_item st (hd _ g) hku fun key h' hkey st' sb => ?_
  obtain ⟨t,rfl⟩:=Jh8 hkey
  have I1:Inv X pins σ H { s with heap:=h' }:=I.turned (t':=s.toks) (fun b o hb e => (sb.2 b hb).trans e) f0 f1 f3 f4 f5
  obtain ⟨o,e,c,z⟩:=id st'
  exact ⟨_,rfl,go_of (s:={ s with heap:=h' }) e c z (by decide) ⟨.str ss[i],H,I1,⟨t,rfl⟩,⟨rfl,by rw [List.getElem?_map,List.getElem?_eq_getElem hi]; rfl⟩,st',fun b hb => (hf b hb).1⟩⟩
 done:=by
  intro X hP hw hK hc i pins s σ H E I hf st hg
  subst hP hw hK
  obtain ⟨hfz,hi⟩:=hg
  obtain ⟨f0,f1,f2,f3,f4,f5⟩:=hf it (by simp)
  have g:=(I.hok d _ hfz).1
  have lv:=rel.length
  have lk:kvs.length = ss.length:=by simpa using congrArg List.length hk
  exact wpAny_pyNext_dict_end (I.ok.hd hc) st (hd _ g) (List.getElem?_eq_none (by omega)) fun h' eb => ⟨rfl,I.turned (t':=s.toks) (fun b o hb e => eb b o hb e) f0 f1 f3 f4 f5⟩
 self:=fun _ _ _ _ _ st h => wpAny_pyIter_keyiter st h
section
variable {X:Cx} {tg:Expr}
def iKeys (td:TE):TI:=fun σ H R => td σ H fun x H1 => ∃ (d:Addr) (kvs:List (Key × V)) (ss:List Str),x = .ref d∧H1 d = some (.dK kvs)∧kvs.map (·.1) = ss.map Sum.inr∧∀ od,R (Itk d od kvs ss) (upd H1 d (.frz od (.dK kvs)))
theorem Jin {o:Expr} {td:TE} (ho:PE X o td):PI X tg o (iKeys td):=by
 intro pins s σ H R I h
 refine thn (ho pins s σ H _ I h) fun v s1 ⟨y,H1,I1,r1,d,kvs,ss,ex,e,hk,q1⟩ => ?_
 subst ex
 obtain rfl:v = Value.ref d:=r1
 obtain ⟨hz,hS,vs,rel,dd⟩:=dk_of I1.hok e
 obtain ⟨ep,da⟩:=dd.dictAt
 obtain ⟨od,es,hod,rest⟩:=id da
 refine wpAny_pyIter_dict (knd:=JaS X.prog X.w) (d:=d) (kvs:=vs) (ep:=ep) hS da ?_
 have kk:∀ b o,s1.heap.get? b = some o→(s1.heap.push { cls:=.type "dict_keyiterator",data:=.fields #[.ref d, .int 0 0, .int vs.length 0, .int ep 0] }).get? b = some o:=fun b o z => Heap.get?_push_of_some _ z
 have I2:=(I1.freeze e hod).kept (t':=s1.toks) kk
 refine ⟨_,[_],_,_,_,rfl,I2,JgL (vs:=vs) (ep:=ep) rel hk (fun h q => ⟨od,es,q,rest⟩),⟨_,Heap.get?_push_size _ rfl,rfl,rfl⟩,fun b hb' => ?_,q1 od⟩
 obtain rfl:=List.mem_singleton.mp hb'
 exact I1.fpOk (Nat.le_refl _) ((I1.freeze e hod).hok.fresh (Nat.le_refl _))
def Jji (ts:TS):TS:=fun D σ H => ∃ d kvs,H d = some (.dK kvs)∧ts { nx:=fun σ' H' => ∃ od kvs',H' d = some (.frz od (.dK kvs'))∧D.nx σ' (upd H' d (.dK kvs')),rt:=fun _ _ => False } σ H
theorem ps_no {st:Stmt}:PS X st (fun _ _ _ => False):=fun _ _ _ _ _ _ h => h.elim
def tSumV (td:TE):TE:=fun σ H Q => td σ H fun x H1 => ∃ (d:Addr) (kvs:List (Key × V)) (ns:List Int),x = .ref d∧H1 d = some (.dK kvs)∧kvs.map (·.2) = ns.map V.int∧Q (.int ns.sum) H1
end
section
variable {k:Nat} {cs:List (Nat × Str)} {g:TG} {te tl td:TE} {tt:TT} {σ : St} {H H1:Hp} {Q:VK} {d:Addr} {od:Obj} {kvs:List (Key × V)} {ss:List Str}
theorem y8ay:tSumV td σ H Q = td σ H fun x H1 => ∃ (d:Addr) (kvs:List (Key × V)) (ns:List Int),x = .ref d∧H1 d = some (.dK kvs)∧kvs.map (·.2) = ns.map V.int∧Q (.int ns.sum) H1:=rfl
theorem y37y:Jfl k cs (iKeys td) g tt te σ H Q = td σ H fun x H1 => ∃ (d1:Addr) (kvs1:List (Key × V)) (ss:List Str),x = .ref d1∧H1 d1 = some (.dK kvs1)∧kvs1.map (·.1) = ss.map Sum.inr∧∀ od,Jcz (Itk d1 od kvs1 ss) k cs g tt te σ Q (upd H1 d1 (.frz od (.dK kvs1))):=rfl
theorem y38y:tThaw (Jfl k cs (iKeys td) g tt te) σ H Q = ∃ d kvs,H d = some (.dK kvs)∧td σ H fun x H1 => ∃ (d1:Addr) (kvs1:List (Key × V)) (ss:List Str),x = .ref d1∧H1 d1 = some (.dK kvs1)∧kvs1.map (·.1) = ss.map Sum.inr∧∀ od,Jcz (Itk d1 od kvs1 ss) k cs g tt te σ (fun v H' => ∃ od kvs',H' d = some (.frz od (.dK kvs'))∧Q v (upd H' d (.dK kvs'))) (upd H1 d1 (.frz od (.dK kvs1))):=rfl
theorem y8dy {ts:TS} {En:Ends}:Jji ts En σ H = ∃ d kvs,H d = some (.dK kvs)∧ts { nx:=fun σ' H' => ∃ od kvs',H' d = some (.frz od (.dK kvs'))∧En.nx σ' (upd H' d (.dK kvs')),rt:=fun _ _ => False } σ H:=rfl
theorem DGet.f {H:Hp} {a:Addr} {kvs:List (Key × V)} {k:Key} {od:Obj} (e:H a = some (.frz od (.dK kvs))):DGet H a (kV k) (valV kvs k):=.inl ⟨kvs,k, .inr ⟨od,e⟩,rfl,rfl⟩
end
end L2
namespace L2
open PySem Ch
section
variable {a c:Int × Int}
theorem Jjn (k:Int):vl (k,1) = (k:Rat):=by
 unfold vl
 have : ((1:Int):Rat) = 1:=rfl
 grind
theorem Jiz:vl (0,1) = 0:=Jjn 0
end
structure LidD where
 nm:Str
 rest:Int × Int
 ws:List (Str × Int)
 load:Int
 last:Int × Int
section
variable {w:Str→Rat} {g:Gp} {lvs:List (Str × (Int × Int))} {e:LidD} {m:Str} {L:Int × Int}
end
section
variable {N:List Str} {w:Str→Rat} {gs:List Gp} {lvs:List (Str × (Int × Int))} {L:Int × Int} {m:Str}
end
end L2
namespace L2
open PySem PySem.Spec PyProof.Rows Ch
end L2
namespace L2
open PySem PySem.Spec PyProof.Rows Ch
section
variable {H H':Hp} {d a:Addr} {od:Obj} {kv kw:List (Key × V)} {k:Key}
end
end L2
namespace L2
open PySem PySem.Spec PyProof.Rows Ch
end L2
namespace L2
open PySem PySem.Spec PyProof.Rows Ch
section
variable {b Q:Int} {N:List Str} {w M:Str→Rat} {gs:List Gp} {ms lvs:List (Str × (Int × Int))} {lds:List LidD} {L:Int × Int} {ns:List Str} {D:Int} {k:Nat}
end
end L2
namespace L2
open PySem PySem.Spec PyProof.Rows Ch
end L2
namespace L2
open PySem PySem.Spec PyProof.Rows Ch
structure ShD where
 nm:Str
 sl:Int × Int
 sp:Option Str
section
variable {ls:List PD} {es:List (GD × List Str)} {pl:Str→Int × Int} {p:PD} {f f':Str→Rat} {rs rs':List ShD}
end
section
variable {ls:List PD} {es:List (GD × List Str)} {pl:Str→Int × Int} {lds:List LidD} {ms lvs:List (Str × (Int × Int))} {b q0:Int}
end
end L2
namespace L2
open PySem PySem.Spec PyProof.Rows Ch
section
variable {ls:List PD} {es:List (GD × List Str)} {pl:Str→Int × Int} {lds:List LidD} {ms lvs:List (Str × (Int × Int))} {b q0:Int}
end
end L2
namespace L2
open PySem PySem.Spec PyProof.Rows Ch
end L2
namespace L2
end L2
namespace L2
section
variable {a b c d B:TS} {D:Ends} {σ : St} {H:Hp}
end
end L2
namespace L2
structure Nxt (R:St→Hp→Prop) (b:TS) (D:Ends):Prop where
 go:∀ {σ : St} {H:Hp},b D σ H→R σ H
theorem JdM {a b:TS} {D:Ends} {σ : St} {H:Hp} (h:∀ R,Nxt R b D→a { D with nx:=R } σ H):tSeq a b D σ H:=h _ ⟨fun z => z⟩
end L2
namespace L2
open PySem PySem.Spec PyProof.Rows Ch
structure SpS where
 src:Str
 tgt:Str
 cost:Int × Int
 wh:Int
 nm:Str
 fw:Bool
abbrev SumD:=List (Str × Int)
abbrev LasD:=List (Str × SpS)
section
variable {α : Type}
def lk:List (Str × α)→Str→Option α
 | [],_ => none
 | p :: r,f => if p.1 = f then some p.2 else lk r f
def pu (l:List (Str × α)) (f:Str) (a : α):List (Str × α):=if (l.any fun p => decide (p.1 = f)) = true then l.map (fun p => if p.1 = f then (p.1,a) else p) else l ++ [(f,a)]
theorem Jgf {f g:Str} {a : α} (h:f ≠ g):∀ l:List (Str × α),lk (l.map fun p => if p.1 = f then (p.1,a) else p) g = lk l g
 | [] => rfl
 | p :: r => by
  rw [List.map_cons]
  unfold lk
  by_cases c:p.1 = f
  ·rw [if_pos c]
   have : ¬ p.1 = g:=fun e => h (c.symm.trans e)
   rw [if_neg this,if_neg this]
   exact Jgf h r
  ·rw [if_neg c]
   by_cases d:p.1 = g
   ·rw [if_pos d,if_pos d]
   ·rw [if_neg d,if_neg d]
    exact Jgf h r
theorem Jgg {f:Str} {a : α}:∀ l:List (Str × α),(l.any fun p => decide (p.1 = f)) = true→lk (l.map fun p => if p.1 = f then (p.1,a) else p) f = some a
 | [],h => by simp at h
 | p :: r,h => by
  rw [List.map_cons]
  unfold lk
  by_cases c:p.1 = f
  ·rw [if_pos c,if_pos c]
  ·rw [if_neg c,if_neg c]
   exact Jgg r (by simpa [c] using h)
theorem JhB {g:Str} {a : α} {f:Str}:∀ l:List (Str × α),lk (l ++ [(f,a)]) g = match lk l g with | some b => some b | none => if f = g then some a else none
 | [] => rfl
 | p :: r => by
  rw [List.cons_append]
  unfold lk
  by_cases c:p.1 = g
  ·rw [if_pos c,if_pos c]
  ·rw [if_neg c,if_neg c]
   exact JhB r
theorem Jgh {f:Str}:∀ l:List (Str × α), ¬ (l.any fun p => decide (p.1 = f)) = true→lk l f = none
 | [],_ => rfl
 | p :: r,h => by
  unfold lk
  by_cases c:p.1 = f
  ·exact absurd (by simp [c]) h
  ·rw [if_neg c]
   exact Jgh r fun z => h (by rw [List.any_cons,z,Bool.or_true])
theorem lk_pu {l:List (Str × α)} {f g:Str} {a : α}:lk (pu l f a) g = if f = g then some a else lk l g:=by
 unfold pu
 by_cases c:(l.any fun p => decide (p.1 = f)) = true
 ·rw [if_pos c]
  by_cases d:f = g
  ·subst d
   rw [if_pos rfl]
   exact Jgg l c
  ·rw [if_neg d]
   exact Jgf d l
 ·rw [if_neg c,JhB]
  by_cases d:f = g
  ·subst d
   rw [Jgh l c,if_pos rfl]
  ·rw [if_neg d]
   cases lk l g <;> simp [d]
theorem Jbh {l:List (Str × α)} {f:Str} {a : α}:lk (pu l f a) f = some a:=by rw [lk_pu,if_pos rfl]
theorem lk_ne {l:List (Str × α)} {f g:Str} {a : α} (h:f ≠ g):lk (pu l f a) g = lk l g:=by rw [lk_pu,if_neg h]
end
structure BF where
 S:SumD
 P:LasD
 ch:Option Str
def gains (S:SumD) (s:SpS):Option Int :=
 match lk S s.src with
 | none => none
 | some a => match lk S s.tgt with
  | none => some (a + s.wh)
  | some b => if a + s.wh < b then some (a + s.wh) else none
def rlx (t:BF) (s:SpS):BF :=
 match gains t.S s with
 | none => t
 | some a => ⟨pu t.S s.tgt a,pu t.P s.tgt s,some s.tgt⟩
def trn (ss:List SpS) (t:BF):BF:=ss.foldl rlx { t with ch:=none }
inductive Wk (ss:List SpS) (f0:Str):List SpS→Str→Prop
 | nil:Wk ss f0 [] f0
 | snoc {l:List SpS} {s:SpS}:Wk ss f0 l s.src→s ∈ ss→Wk ss f0 (l ++ [s]) s.tgt
def wgt (l:List SpS):Int:=(l.map (·.wh)).sum
theorem Jba {l:List SpS} {s:SpS}:wgt (l ++ [s]) = wgt l + s.wh:=by simp [wgt]
section
variable {ss:List SpS} {f0:Str} {π : Str→Int} {t:BF} {s:SpS}
def Pot (π : Str→Int) (ss:List SpS):Prop:=∀ s ∈ ss, π s.tgt ≤ π s.src + s.wh
structure BI (ss:List SpS) (f0:Str) (π : Str→Int) (S:SumD) (P:LasD):Prop where
 z:lk S f0 = some 0
 p0:lk P f0 = none
 st:∀ v s,lk P v = some s→s ∈ ss∧s.tgt = v∧∃ a b,lk S s.src = some a∧lk S v = some b∧a + s.wh ≤ b
 ks:∀ v b,lk S v = some b→v = f0 ∨ ∃ s,lk P v = some s
 wk:∀ v b,lk S v = some b→∃ l,Wk ss f0 l v∧wgt l = b
 rk:∃ r:Str→Nat, ∀ v s,lk P v = some s→r s.src < r v
inductive Dsc (P:LasD) (v:Str):Str→Prop
 | refl:Dsc P v v
 | step {x:Str} {s:SpS}:lk P x = some s→Dsc P v s.src→Dsc P v x
theorem Wk.pot (hp:Pot π ss) {l:List SpS} {v:Str} (h:Wk ss f0 l v) : π v - π f0 ≤ wgt l:=by
 induction h with
 | nil => simp [wgt]
 | snoc _ hs ih =>
  rw [Jba]
  have:=hp _ hs
  omega
theorem Dsc.mono {S:SumD} {P:LasD} (hp:Pot π ss) (h:BI ss f0 π S P) {v x:Str} (d:Dsc P v x):∀ a b,lk S v = some a→lk S x = some b→a - π v ≤ b - π x:=by
 induction d with
 | refl => intro a b h1 h2; rw [h1] at h2; cases h2; omega
 | step h1 _ ih =>
  intro a b ha hb
  obtain ⟨m,e,c,d,h2,h3,h4⟩:=h.st _ _ h1
  rw [h3] at hb
  cases hb
  have:=ih a c ha h2
  have:=hp _ m
  rw [e] at this
  omega
theorem JbS {S:SumD} {c:Int} (h:gains S s = some c):∃ a,lk S s.src = some a∧c = a + s.wh∧∀ b,lk S s.tgt = some b→c < b:=by
 unfold gains at h
 cases e:lk S s.src with
 | none => rw [e] at h; cases h
 | some a =>
  rw [e] at h
  refine ⟨a,rfl, ?_⟩
  cases e2:lk S s.tgt with
  | none => rw [e2] at h; cases h; exact ⟨rfl,fun b hb => by cases hb⟩
  | some b =>
   rw [e2] at h
   dsimp only at h
   split at h
   ·cases h
    rename_i c
    exact ⟨rfl,fun b' hb => by cases hb; exact c⟩
   ·cases h
theorem Jce {S:SumD} (h:gains S s = none):∀ a,lk S s.src = some a→∃ b,lk S s.tgt = some b∧b ≤ a + s.wh:=by
 intro a ha
 unfold gains at h
 rw [ha] at h
 cases e2:lk S s.tgt with
 | none => rw [e2] at h; cases h
 | some b =>
  rw [e2] at h
  dsimp only at h
  split at h
  ·cases h
  ·rename_i c
   exact ⟨b,rfl,by omega⟩
theorem BI.put {S:SumD} {P:LasD} (hp:Pot π ss) (h:BI ss f0 π S P) (hs:s ∈ ss) {c:Int} (hg:gains S s = some c):BI ss f0 π (pu S s.tgt c) (pu P s.tgt s):=by
 obtain ⟨a,ha,hc,hlt⟩:=JbS hg
 have hps:=hp s hs
 have nd:¬ Dsc P s.tgt s.src:=fun d => by
  cases e:lk S s.tgt with
  | none =>
   have : ∀ x,Dsc P s.tgt x→lk S x = none:=fun x dx => by
    induction dx with
    | refl => exact e
    | step h1 _ ih =>
     obtain ⟨_,_,c,d,h2,_⟩:=h.st _ _ h1
     rw [ih] at h2
     cases h2
   rw [this _ d] at ha
   cases ha
  | some b =>
   have h1:=d.mono hp h b a e ha
   have h2:=hlt b e
   omega
 have nf:s.tgt ≠ f0:=fun e => by
  have hz:=h.z
  have:=hlt 0 (by rw [e]; exact hz)
  obtain ⟨l,hl,hw⟩:=h.wk _ _ ha
  have:=hl.pot hp
  rw [e] at hps
  omega
 have ns:s.src ≠ s.tgt:=fun e => nd (by rw [e]; exact .refl)
 have low:∀ v b,lk S v = some b→∃ b',lk (pu S s.tgt c) v = some b'∧b' ≤ b:=fun v b hb => by
  by_cases e:s.tgt = v
  ·subst e
   exact ⟨c,Jbh,Int.le_of_lt (hlt b hb)⟩
  ·exact ⟨b,by rw [lk_ne e]; exact hb,Int.le_refl _⟩
 refine ⟨by rw [lk_ne nf]; exact h.z,by rw [lk_ne nf]; exact h.p0,fun v s' hv => ?_,fun v b hv => ?_,fun v b hv => ?_, ?_⟩
 ·by_cases e:s.tgt = v
  ·subst e
   rw [Jbh] at hv
   cases hv
   exact ⟨hs,rfl,a,c,by rw [lk_ne (Ne.symm ns)]; exact ha,Jbh,by omega⟩
  ·rw [lk_ne e] at hv
   obtain ⟨m,e',a',b',h1,h2,h3⟩:=h.st v s' hv
   obtain ⟨a'',h4,h5⟩:=low _ _ h1
   exact ⟨m,e',a'',b',h4,by rw [lk_ne e]; exact h2,by omega⟩
 ·by_cases e:s.tgt = v
  ·subst e
   exact .inr ⟨s,Jbh⟩
  ·rw [lk_ne e] at hv
   rcases h.ks v b hv with h1 | ⟨s',h1⟩
   ·exact .inl h1
   ·exact .inr ⟨s',by rw [lk_ne e]; exact h1⟩
 ·by_cases e:s.tgt = v
  ·subst e
   rw [Jbh] at hv
   cases hv
   obtain ⟨l,hl,hw⟩:=h.wk _ _ ha
   exact ⟨l ++ [s], .snoc hl hs,by rw [Jba,hw,hc]⟩
  ·rw [lk_ne e] at hv
   exact h.wk v b hv
 ·obtain ⟨r,hr⟩:=h.rk
  refine ⟨fun x => open Classical in if Dsc P s.tgt x then r x + r s.src + 1 else r x,fun v s' hv => ?_⟩
  dsimp only
  by_cases e:s.tgt = v
  ·subst e
   rw [Jbh] at hv
   cases hv
   rw [if_neg nd,if_pos .refl]
   omega
  ·rw [lk_ne e] at hv
   have:=hr v s' hv
   by_cases d:Dsc P s.tgt s'.src
   ·rw [if_pos d,if_pos (.step hv d)]
    omega
   ·rw [if_neg d]
    split
    ·omega
    ·exact this
end
end L2
namespace L2
open PySem PySem.Spec PyProof.Rows Ch
section
variable {ss:List SpS} {f0:Str} {π : Str→Int} {t:BF} {s:SpS}
theorem BI.rlx (hp:Pot π ss) (h:BI ss f0 π t.S t.P) (hs:s ∈ ss):BI ss f0 π (L2.rlx t s).S (L2.rlx t s).P:=by
 unfold L2.rlx
 cases e:gains t.S s with
 | none => exact h
 | some c => exact h.put hp hs e
theorem BI.fold (hp:Pot π ss):∀ (l:List SpS) (t:BF),BI ss f0 π t.S t.P→(∀ s ∈ l,s ∈ ss)→BI ss f0 π (l.foldl L2.rlx t).S (l.foldl L2.rlx t).P
 | [],_,h,_ => h
 | s :: l,t,h,hs => by
  rw [List.foldl_cons]
  exact BI.fold hp l _ (h.rlx hp (hs s (by simp))) fun x hx => hs x (by simp [hx])
def LeS (S S':SumD):Prop:=∀ v b,lk S v = some b→∃ b',lk S' v = some b'∧b' ≤ b
theorem LeS.refl {S:SumD}:LeS S S:=fun v b h => ⟨b,h,Int.le_refl _⟩
theorem LeS.trans {S S' S'':SumD} (h:LeS S S') (k:LeS S' S''):LeS S S'':=fun v b hb => by
 obtain ⟨c,h1,h2⟩:=h v b hb
 obtain ⟨d,h3,h4⟩:=k v c h1
 exact ⟨d,h3,by omega⟩
theorem LeS.rlx:LeS t.S (L2.rlx t s).S:=by
 unfold L2.rlx
 cases e:gains t.S s with
 | none => exact LeS.refl
 | some c =>
  obtain ⟨a,_,_,hlt⟩:=JbS e
  intro v b hb
  by_cases q:s.tgt = v
  ·subst q
   exact ⟨c,Jbh,Int.le_of_lt (hlt b hb)⟩
  ·exact ⟨b,by show lk (pu t.S s.tgt c) v = _; rw [lk_ne q]; exact hb,Int.le_refl _⟩
theorem LeS.fold:∀ (l:List SpS) (t:BF),LeS t.S (l.foldl L2.rlx t).S
 | [],_ => LeS.refl
 | s :: l,t => by
  rw [List.foldl_cons]
  exact LeS.rlx.trans (LeS.fold l _)
theorem Jit {a:Int} (h:lk t.S s.src = some a):∃ b,lk (rlx t s).S s.tgt = some b∧b ≤ a + s.wh:=by
 unfold rlx
 cases e:gains t.S s with
 | none => exact Jce e a h
 | some c =>
  obtain ⟨a',ha,hc,_⟩:=JbS e
  rw [h] at ha
  cases ha
  exact ⟨c,Jbh,by omega⟩
theorem Jfc:∀ (l:List SpS) (t:BF) (s:SpS) (a:Int),s ∈ l→lk t.S s.src = some a→∃ b,lk (l.foldl rlx t).S s.tgt = some b∧b ≤ a + s.wh
 | [],_,_,_,h,_ => by cases h
 | x :: l,t,s,a,h,ha => by
  rw [List.foldl_cons]
  rcases List.mem_cons.mp h with e | h
  ·subst e
   obtain ⟨b,h1,h2⟩:=Jit ha
   obtain ⟨c,h3,h4⟩:=LeS.fold l _ _ _ h1
   exact ⟨c,h3,by omega⟩
  ·obtain ⟨a',h1,h2⟩:=LeS.rlx (s:=x) _ _ ha
   obtain ⟨b,h3,h4⟩:=Jfc l _ s a' h h1
   exact ⟨b,h3,by omega⟩
def itr (ss:List SpS):Nat→BF→BF
 | 0,t => t
 | n + 1,t => trn ss (itr ss n t)
def bf0 (f0:Str):BF:=⟨[(f0,0)],[],none⟩
theorem BI.start:BI ss f0 π (bf0 f0).S (bf0 f0).P where
 z:=by simp [bf0,lk]
 p0:=rfl
 st:=fun v s h => by cases h
 ks:=fun v b h => by
  unfold bf0 at h
  simp only [lk] at h
  split at h
  ·rename_i c; exact .inl c.symm
  ·cases h
 wk:=fun v b h => by
  unfold bf0 at h
  simp only [lk] at h
  split at h
  ·rename_i c
   cases h
   rw [← c]
   exact ⟨[], .nil,rfl⟩
  ·cases h
 rk:=⟨fun _ => 0,fun v s h => by cases h⟩
theorem BI.itr (hp:Pot π ss):∀ n,BI ss f0 π (L2.itr ss n (bf0 f0)).S (L2.itr ss n (bf0 f0)).P
 | 0 => BI.start
 | n + 1 => BI.fold hp ss _ (BI.itr hp n) fun _ h => h
theorem JiL:∀ (i:Nat) (l:List SpS) (v:Str),Wk ss f0 l v→l.length ≤ i→∃ b,lk (itr ss i (bf0 f0)).S v = some b∧b ≤ wgt l:=by
 intro i
 induction i with
 | zero =>
  intro l v h hl
  cases h with
  | nil => exact ⟨0,by simp [itr,bf0,lk],Int.le_refl _⟩
  | snoc _ _ => simp at hl
 | succ i ih =>
  intro l v h hl
  cases h with
  | nil =>
   obtain ⟨b,h1,h2⟩:=ih [] f0 .nil (by simp)
   obtain ⟨c,h3,h4⟩:=LeS.fold ss { itr ss i (bf0 f0) with ch:=none } _ _ h1
   exact ⟨c,h3,by omega⟩
  | @snoc l s h hs =>
   obtain ⟨b,h1,h2⟩:=ih l _ h (by simpa using hl)
   obtain ⟨c,h3,h4⟩:=Jfc ss { itr ss i (bf0 f0) with ch:=none } s b hs h1
   exact ⟨c,h3,by rw [Jba]; omega⟩
theorem Wk.cut (hp:Pot π ss) {l:List SpS} {u:Str} (h:Wk ss f0 l u):∀ x,x ∈ f0 :: l.map (·.tgt)→(f0 :: l.map (·.tgt)).Nodup→∃ p,Wk ss f0 p x∧wgt p + (π u - π x) ≤ wgt l∧(f0 :: p.map (·.tgt)).Nodup:=by
 induction h with
 | nil =>
  intro x hx hn
  have : x = f0:=by simpa using hx
  subst this
  exact ⟨[], .nil,by omega,hn⟩
 | @snoc l s h hs ih =>
  intro x hx hn
  by_cases e:x = s.tgt
  ·subst e
   exact ⟨l ++ [s], .snoc h hs,by omega,hn⟩
  ·have hx':x ∈ f0 :: l.map (·.tgt):=by
    rw [List.map_append, ← List.cons_append] at hx
    rcases List.mem_append.mp hx with hx | hx
    ·exact hx
    ·exact absurd (by simpa using hx) e
   have hn':(f0 :: l.map (·.tgt)).Nodup:=by
    rw [List.map_append, ← List.cons_append] at hn
    exact (List.nodup_append.mp hn).1
   obtain ⟨p,h1,h2,h3⟩:=ih x hx' hn'
   have:=hp s hs
   exact ⟨p,h1,by rw [Jba]; omega,h3⟩
theorem Wk.simple (hp:Pot π ss) {l:List SpS} {v:Str} (h:Wk ss f0 l v):∃ p,Wk ss f0 p v∧wgt p ≤ wgt l∧(f0 :: p.map (·.tgt)).Nodup:=by
 induction h with
 | nil => exact ⟨[], .nil,Int.le_refl _,by simp⟩
 | @snoc l s h hs ih =>
  obtain ⟨p,h1,h2,h3⟩:=ih
  have:=hp s hs
  by_cases c:s.tgt ∈ f0 :: p.map (·.tgt)
  ·obtain ⟨q,k1,k2,k3⟩:=h1.cut hp _ c h3
   exact ⟨q,k1,by rw [Jba]; omega,k3⟩
  ·refine ⟨p ++ [s], .snoc h1 hs,by rw [Jba,Jba]; omega, ?_⟩
   rw [List.map_append, ← List.cons_append]
   exact List.nodup_append.mpr ⟨h3,by simp,fun a ha b hb e => c (by
    have q:b = s.tgt:=by simpa using hb
    rw [← q, ← e]
    exact ha)⟩
theorem Wk.mem {l:List SpS} {v:Str} (h:Wk ss f0 l v):∀ s ∈ l,s ∈ ss:=by
 induction h with
 | nil => intro s h; cases h
 | snoc _ hs ih =>
  intro x hx
  rcases List.mem_append.mp hx with hx | hx
  ·exact ih x hx
  ·rw [List.mem_singleton.mp hx]; exact hs
theorem Wk.len {l:List SpS} {v:Str} (h:Wk ss f0 l v) (hn:(f0 :: l.map (·.tgt)).Nodup):l.length ≤ ss.length:=by
 have:=sub_len (l.map (·.tgt)) (ss.map (·.tgt)) (List.nodup_cons.mp hn).2 fun x hx => by
  obtain ⟨s,hs,rfl⟩:=List.mem_map.mp hx
  exact List.mem_map.mpr ⟨s,h.mem s hs,rfl⟩
 simpa using this
theorem Jg5 (hp:Pot π ss):∀ s ∈ ss,gains (itr ss ss.length (bf0 f0)).S s = none:=fun s hs => by
 cases e:gains (itr ss ss.length (bf0 f0)).S s with
 | none => rfl
 | some c =>
  obtain ⟨a,ha,hc,hlt⟩:=JbS e
  obtain ⟨l,hl,hw⟩:=(BI.itr hp ss.length (f0:=f0)).wk _ _ ha
  obtain ⟨p,h1,h2,h3⟩:=(Wk.snoc hl hs).simple hp
  obtain ⟨b,h4,h5⟩:=JiL _ p _ h1 (h1.len h3)
  have:=hlt b h4
  rw [Jba] at h2
  omega
theorem Jf0:∀ (l:List SpS) (t:BF),(l.foldl rlx t).ch = none→l.foldl rlx t = t∧∀ s ∈ l,gains t.S s = none
 | [],t,_ => ⟨rfl,fun s h => by cases h⟩
 | x :: l,t,h => by
  rw [List.foldl_cons] at h ⊢
  obtain ⟨h1,h2⟩:=Jf0 l _ h
  rw [h1] at h
  cases e:gains t.S x with
  | none =>
   have ex:rlx t x = t:=by unfold rlx; rw [e]
   rw [ex] at h1 h2 ⊢
   refine ⟨h1,fun s hs => ?_⟩
   rcases List.mem_cons.mp hs with q | hs
   ·subst q; exact e
   ·exact h2 s hs
  | some c =>
   unfold rlx at h
   rw [e] at h
   cases h
theorem Jf1:∀ (l:List SpS) (t:BF),(∀ s ∈ l,gains t.S s = none)→l.foldl rlx t = t
 | [],_,_ => rfl
 | x :: l,t,h => by
  have ex:rlx t x = t:=by unfold rlx; rw [h x (by simp)]
  rw [List.foldl_cons,ex]
  exact Jf1 l t fun s hs => h s (by simp [hs])
def bfR (ss:List SpS):Nat→BF→BF
 | 0,t => t
 | n + 1,t => if (trn ss t).ch = none then trn ss t else bfR ss n (trn ss t)
structure BE (ss:List SpS) (f0:Str) (P:LasD):Prop where
 ex:∃ S:SumD, ∃ r:Str→Nat,lk S f0 = some 0∧lk P f0 = none∧(∀ v s,lk P v = some s→s ∈ ss∧s.tgt = v∧r s.src < r v∧∃ a,lk S s.src = some a∧lk S v = some (a + s.wh))∧(∀ v b,lk S v = some b→v = f0 ∨ ∃ s,lk P v = some s)∧∀ s ∈ ss, ∀ a,lk S s.src = some a→∃ b,lk S s.tgt = some b∧b ≤ a + s.wh
theorem BE.of {n:Nat} (hp:Pot π ss) (h:(itr ss (n + 1) (bf0 f0)).ch = none):BE ss f0 (itr ss (n + 1) (bf0 f0)).P:=by
 have b:=BI.itr hp n (f0:=f0)
 obtain ⟨h1,h2⟩:=Jf0 ss { itr ss n (bf0 f0) with ch:=none } h
 have e:itr ss (n + 1) (bf0 f0) = { itr ss n (bf0 f0) with ch:=none }:=h1
 rw [e]
 generalize itr ss n (bf0 f0) = t at *
 obtain ⟨r,hr⟩:=b.rk
 refine ⟨t.S,r,b.z,b.p0,fun v s hv => ?_,b.ks,fun s hs a ha => Jce (h2 s hs) a ha⟩
 obtain ⟨m,q,a,c,k1,k2,k3⟩:=b.st v s hv
 obtain ⟨d,k4,k5⟩:=Jce (h2 s m) a k1
 rw [q,k2] at k4
 cases k4
 exact ⟨m,q,hr v s hv,a,k1,by rw [k2]; congr 1; omega⟩
end
end L2
namespace L2
open PySem PySem.Spec PyProof.Rows Ch
theorem JhZ {b n:Int} (h:1 ≤ n):n ∣ b * n.fdiv (Mth.g b n):=by
 have gp:=Mth.g_pos (a:=b) (b:=n) (by omega)
 obtain ⟨c,hc⟩:=Mth.JcF b n
 have e:=Mth.JaU (Mth.Jb7 b n) (by omega:Mth.g b n ≠ 0)
 refine ⟨c, ?_⟩
 generalize hg:Mth.g b n = g at *
 generalize n.fdiv g = f at *
 rw [hc, ← e]
 rw [Int.mul_right_comm,Int.mul_comm g f]
end L2
namespace L2
open PySem PySem.Spec PyProof.Rows Ch
theorem Jeq {ts:List TD}:∀ i,(Ch.all (ts.take i)).length ≤ 2 * i:=fun i => by
 induction i with
 | zero => simp [Ch.all]
 | succ i ih =>
  rw [List.take_succ]
  cases ts[i]? with
  | none => simp; omega
  | some t =>
   have : (Ch.steps t).length ≤ 2:=by unfold Ch.steps fwd bwd; cases t.hi <;> cases t.lo <;> simp
   simp only [Ch.all,List.flatMap_append,Option.toList_some,List.flatMap_cons,List.flatMap_nil,List.append_nil,List.length_append] at ih ⊢
   omega
end L2
namespace L2
open PySem PySem.Spec PyProof.Rows Ch
section
variable {α : Type} {R R' : α→V→Prop}
def DV (R : α→V→Prop):List (Str × α)→List (Key × V)→Prop
 | [],kv => kv = []
 | p :: P,kv => ∃ v r,kv = (Sum.inr p.1,v) :: r∧R p.2 v∧DV R P r
theorem DV.len:∀ {P:List (Str × α)} {kv:List (Key × V)},DV R P kv→kv.length = P.length
 | [],_,h => by rw [h]; rfl
 | p :: P,_,⟨v,r,e,_,h⟩ => by rw [e,List.length_cons,List.length_cons,h.len]
theorem DV.keys:∀ {P:List (Str × α)} {kv:List (Key × V)},DV R P kv→kv.map (·.1) = (P.map (·.1)).map Sum.inr
 | [],_,h => by rw [h]; rfl
 | p :: P,_,⟨v,r,e,_,h⟩ => by rw [e,List.map_cons,List.map_cons,List.map_cons,h.keys]
theorem DV.mono (m:∀ a v,R a v→R' a v):∀ {P:List (Str × α)} {kv:List (Key × V)},DV R P kv→DV R' P kv
 | [],_,h => h
 | p :: P,_,⟨v,r,e,h1,h⟩ => ⟨v,r,e,m _ _ h1,h.mono m⟩
theorem DV.no {z:Str}:∀ {P:List (Str × α)} {kv:List (Key × V)},DV R P kv→lk P z = none→valV kv (Sum.inr z) = none
 | [],_,h,_ => by rw [h]; rfl
 | p :: P,_,⟨v,r,e,_,h⟩,n => by
  unfold lk at n
  by_cases c:p.1 = z
  ·rw [if_pos c] at n; cases n
  ·rw [if_neg c] at n
   rw [e,Jcb (by simpa using c)]
   exact h.no n
theorem DV.at {z:Str} {a : α}:∀ {P:List (Str × α)} {kv:List (Key × V)},DV R P kv→lk P z = some a→∃ v,valV kv (Sum.inr z) = some v∧R a v
 | [],_,_,n => by cases n
 | p :: P,_,⟨v,r,e,h1,h⟩,n => by
  unfold lk at n
  by_cases c:p.1 = z
  ·rw [if_pos c] at n
   cases n
   exact ⟨v,by rw [e]; exact Jcy (by simpa using c),h1⟩
  ·rw [if_neg c] at n
   rw [e,Jcb (by simpa using c)]
   exact h.at n
theorem DV.any {f:Str}:∀ {P:List (Str × α)} {kv:List (Key × V)},DV R P kv→(kv.any fun q => decide (q.1 = Sum.inr f)) = (P.any fun p => decide (p.1 = f))
 | [],_,h => by rw [h]; rfl
 | p :: P,_,⟨v,r,e,_,h⟩ => by
  rw [e,List.any_cons,List.any_cons,h.any]
  congr 1
  simp
theorem DV.map {f:Str} {a : α} {v:V} (ra:R a v):∀ {P:List (Str × α)} {kv:List (Key × V)},DV R P kv→DV R (P.map fun p => if p.1 = f then (p.1,a) else p) (kv.map fun q => if q.1 = Sum.inr f then (q.1,v) else q)
 | [],_,h => by rw [h]; exact rfl
 | p :: P,_,⟨w,r,e,h1,h⟩ => by
  rw [e,List.map_cons,List.map_cons]
  by_cases c:p.1 = f
  ·rw [if_pos c,if_pos (by simpa using c)]
   exact ⟨v,_,rfl,ra,h.map ra⟩
  ·rw [if_neg c,if_neg (by simpa using c)]
   exact ⟨w,_,rfl,h1,h.map ra⟩
theorem DV.app {f:Str} {a : α} {v:V} (ra:R a v):∀ {P:List (Str × α)} {kv:List (Key × V)},DV R P kv→DV R (P ++ [(f,a)]) (kv ++ [(Sum.inr f,v)])
 | [],_,h => by rw [h]; exact ⟨v,[],rfl,ra,rfl⟩
 | p :: P,_,⟨w,r,e,h1,h⟩ => by
  rw [e]
  exact ⟨w,_,rfl,h1,h.app ra⟩
theorem DV.put {f:Str} {a : α} {v:V} {P:List (Str × α)} {kv:List (Key × V)} (h:DV R P kv) (ra:R a v):DV R (pu P f a) (putK kv (Sum.inr f) v):=by
 unfold pu putK
 rw [h.any]
 split
 ·exact h.map ra
 ·exact h.app ra
end
theorem Jd2 {α : Type} {z:Str}:∀ {P:List (Str × α)},z ∈ P.map (·.1)→∃ a,lk P z = some a
 | [],h => by cases h
 | p :: P,h => by
  unfold lk
  by_cases c:p.1 = z
  ·exact ⟨_,if_pos c⟩
  ·rw [if_neg c]
   refine Jd2 ?_
   rcases List.mem_cons.mp h with e | h
   ·exact absurd e.symm c
   ·exact h
theorem Jed {α : Type} {l:List (Str × α)} {f:Str} {a : α}:(pu l f a).length ≤ l.length + 1:=by
 unfold pu
 split <;> simp
end L2
namespace L2
open PySem PySem.Spec PyProof.Rows Ch
inductive Chn (P:LasD) (f0:Str):Str→List SpS→Prop
 | nil:Chn P f0 f0 []
 | snoc {v:Str} {s:SpS} {l:List SpS}:lk P v = some s→Chn P f0 s.src l→Chn P f0 v (l ++ [s])
section
variable {ss:List SpS} {f0:Str} {P:LasD}
theorem Chn.uniq (h0:lk P f0 = none) {v:Str} {l:List SpS} (h:Chn P f0 v l):∀ {k:List SpS},Chn P f0 v k→l = k:=by
 induction h with
 | nil =>
  intro k hk
  cases hk with
  | nil => rfl
  | snoc h _ => rw [h0] at h; cases h
 | snoc h _ ih =>
  intro k hk
  cases hk with
  | nil => rw [h0] at h; cases h
  | snoc h' hk' =>
   rw [h] at h'
   cases h'
   rw [ih hk']
theorem BE.chain (h:BE ss f0 P):∃ S:SumD,(∀ v,(∃ b,lk S v = some b) ↔ (v = f0 ∨ ∃ s,lk P v = some s))∧(∀ v b,lk S v = some b→∃ l,Chn P f0 v l∧Wk ss f0 l v∧wgt l = b∧(f0 :: l.map (·.tgt)).Nodup)∧∀ s ∈ ss, ∀ a,lk S s.src = some a→∃ b,lk S s.tgt = some b∧b ≤ a + s.wh:=by
 obtain ⟨S,r,h1,h2,h3,h4,h5⟩:=h.ex
 have key:∀ n v b,r v ≤ n→lk S v = some b→∃ l,Chn P f0 v l∧Wk ss f0 l v∧wgt l = b∧(f0 :: l.map (·.tgt)).Nodup∧∀ x ∈ f0 :: l.map (·.tgt),x = v ∨ r x < r v:=by
  intro n
  induction n with
  | zero =>
   intro v b hr hb
   rcases h4 v b hb with e | ⟨s,e⟩
   ·subst e
    rw [h1] at hb
    cases hb
    exact ⟨[], .nil, .nil,rfl,by simp,fun x hx => .inl (by simpa using hx)⟩
   ·have:=(h3 v s e).2.2.1
    omega
  | succ n ih =>
   intro v b hr hb
   rcases h4 v b hb with e | ⟨s,e⟩
   ·subst e
    rw [h1] at hb
    cases hb
    exact ⟨[], .nil, .nil,rfl,by simp,fun x hx => .inl (by simpa using hx)⟩
   ·obtain ⟨m,q,lt,a,k1,k2⟩:=h3 v s e
    rw [hb] at k2
    cases k2
    obtain ⟨l,c1,c2,c3,c4,c5⟩:=ih s.src a (by omega) k1
    subst q
    have c6:∀ x ∈ f0 :: l.map (·.tgt),r x < r s.tgt:=fun x hx => by
     rcases c5 x hx with z | z
     ·rw [z]; exact lt
     ·omega
    refine ⟨l ++ [s], .snoc e c1, .snoc c2 m,by rw [Jba,c3], ?_,fun x hx => ?_⟩
    ·rw [List.map_append, ← List.cons_append]
     refine List.nodup_append.mpr ⟨c4,by simp,fun x hx y hy z => ?_⟩
     have q:y = s.tgt:=by simpa using hy
     have:=c6 x hx
     rw [z,q] at this
     omega
    ·rw [List.map_append, ← List.cons_append] at hx
     rcases List.mem_append.mp hx with hx | hx
     ·exact .inr (c6 x hx)
     ·exact .inl (by simpa using hx)
 refine ⟨S,fun v => ⟨fun ⟨b,hb⟩ => h4 v b hb,fun hv => ?_⟩,fun v b hb => ?_,h5⟩
 ·rcases hv with e | ⟨s,e⟩
  ·exact ⟨0,by rw [e]; exact h1⟩
  ·obtain ⟨_,_,_,a,_,k2⟩:=h3 v s e
   exact ⟨_,k2⟩
 ·obtain ⟨l,c1,c2,c3,c4,_⟩:=key (r v) v b (Nat.le_refl _) hb
  exact ⟨l,c1,c2,c3,c4⟩
end
end L2
namespace L2
open PySem
theorem JgA {ss:List SpS} {x:Str→Rat} (h:∀ s ∈ ss,x s.tgt ≤ x s.src + (s.wh:Rat)):Pot (fun f => (x f).floor) ss:=fun s hs => by
 have h1:=Rat.floor_monotone (h s hs)
 rw [Rat.floor_add_intCast] at h1
 exact h1
end L2
namespace L2
open PySem
def Lnk (P:LasD):Str→List SpS→Prop
 | _,[] => True
 | z,s :: r => s.src = z∧lk P s.tgt = some s∧Lnk P s.tgt r
def lnkE:Str→List SpS→Str
 | z,[] => z
 | _,s :: r => lnkE s.tgt r
theorem Lnk.add {P:LasD} {z:Str} {l:List SpS} {s:SpS} (h:Lnk P z l) (hs:lk P z = some s) (ht:s.tgt = z):Lnk P s.src (s :: l):=⟨rfl,by rw [ht]; exact hs,by rw [ht]; exact h⟩
theorem Jg9 {z:Str} {l:List SpS} {s:SpS} (ht:s.tgt = z):lnkE s.src (s :: l) = lnkE z l:=by
 show lnkE s.tgt l = _
 rw [ht]
end L2
namespace L2
open PySem PySem.Spec PyProof.Rows Ch
def Itb (K:PySem.W.Frag) (a:Addr) (n:Nat):It :=
 ⟨fun i H => i < n∧∃ xs x,SqL K H a xs∧xs[n - 1 - i]? = some x,fun i H x H' => H' = H∧∀ xs,SqL K H a xs→xs[n - 1 - i]? = some x,fun i _ => i = n⟩
theorem Jhq {P:Program} {w:World} {K:PySem.W.Frag} {tg:Expr} (a it:Addr) (n:Nat):Turn P w K tg (Itb K a n) [it] it (fun i h => h.IsRevIter it a ((n:Int) - 1 - (i:Int))) where
 mem:=by simp
 obj:=fun i h st b hb => by
  have e:b = it:=by simpa using hb
  subst e
  obtain ⟨o,e,c,d⟩:=st
  exact ⟨o,e,fun v z => by rw [d] at z; cases z⟩
 keep:=fun i h h' st k => st.at fun o e => k it (by simp) o e
 item:=by
  intro X hP hw hK hc i pins s σ H E I hf st hg
  subst hP hw hK
  obtain ⟨li,xs,x,hq,hx⟩:=hg
  obtain ⟨its,rv,p,hz⟩:=I.list hq
  obtain ⟨u,hu,ru⟩:=rv.get hx
  obtain ⟨f0,f1,f2,f3,f4,f5⟩:=hf it (by simp)
  have ei:(n:Int) - 1 - (i:Int) = ((n - 1 - i:Nat):Int):=by omega
  rw [ei] at st
  refine wpAny_pyNext_rev_item st p.isList (x:=u) (by simpa using hu) fun h' st' sb => ?_
  have I1:Inv X pins σ H { s with heap:=h' }:=I.turned (t':=s.toks) (fun b o hb e => (sb.2 b hb).trans e) f0 f1 f3 f4 f5
  have ej:((n - 1 - i:Nat):Int) - 1 = (n:Int) - 1 - ((i + 1:Nat):Int):=by omega
  rw [ej] at st'
  obtain ⟨o,e,c,d⟩:=id st'
  exact ⟨u,rfl,go_of (s:={ s with heap:=h' }) e c d (by decide) ⟨x,H,I1,ru,⟨rfl,fun ys hy => by rw [I.list_inj hy hq]; exact hx⟩,st',fun b hb => (hf b hb).1⟩⟩
 done:=by
  intro X hP hw hK hc i pins s σ H E I hf st hg
  subst hP hw hK
  have hg:i = n:=hg
  subst hg
  obtain ⟨f0,f1,f2,f3,f4,f5⟩:=hf it (by simp)
  have e:(i:Int) - 1 - (i:Int) = -1:=by omega
  rw [e] at st
  exact wpAny_pyNext_rev_end (I.ok.hd hc) st fun h' eb => ⟨rfl,I.turned (t':=s.toks) (fun b o hb e => eb b o hb e) f0 f1 f3 f4 f5⟩
 self:=fun _ _ _ _ _ st h => wpAny_pyIter_revIter st h
def iRevL (K:PySem.W.Frag) (tl:TE):TI:=fun σ H R => tl σ H fun x H1 => ∃ a xs,x = .ref a∧SqL K H1 a xs∧R (Itb K a xs.length) H1
section
variable {X:Cx} {tg:Expr}
theorem Jio {e:Expr} {t:TE} {p2 pos2:Pos} {y:Str} (hy:y = "reversed") (hg2:Gl X y) (hm2:X.mg y = none) (hv2:bootBuiltins y = some (.type "reversed")) (ha:PE X e t) (he:starEach [e] X.env = (false,eval e X.env) :: starEach [] X.env:=by rfl) :
  PI X tg (.Call (.Name y p2) [e] [] pos2) (iRevL X.K t):=by
 intro pins s σ H R I h
 have ny:y ≠ "__name__":=by rw [hy]; decide
 have dy:(y == ("__debug__" : Str)) = false:=by rw [hy]; decide
 refine wpAny_Call_Name_kw (JcI I hg2 hm2 hv2 ?_ ny dy)
 refine PyProof.Rows.callWith_type1 ?_ he rfl
 rw [he]
 show wpAny _ _ (spliced ((false,eval e X.env) :: backTo pos2 (starEach [] X.env))) _ _ s
 refine Calls.spliced_cons (thn (ha pins s σ H _ I h) fun u s1 ⟨x,H1,I1,rx,q⟩ => Calls.spliced_nil ?_)
 obtain ⟨a,xs,rfl,hq,q⟩:=q
 obtain rfl:u = Value.ref a:=rx
 obtain ⟨its,rv,p,hz⟩:=I1.list hq
 refine call_reversed_list p.isList ?_
 refine wpAny_pyIter_revIter ⟨_,Heap.get?_push_size _ rfl,rfl,rfl⟩ ?_
 have hl:=rv.length
 refine ⟨s1.heap.objs.size,[s1.heap.objs.size],_,_,H1,rfl,I1.kept (t':=s1.toks) fun b o e => Heap.get?_push_of_some _ e,Jhq a _ xs.length, ?_,fun b hb => ?_,q⟩
 ·refine ⟨_,Heap.get?_push_size _ rfl,rfl, ?_⟩
  unfold revObj
  have e2:((its.toArray.size:Nat):Int) - 1 = (xs.length:Int) - 1 - ((0:Nat):Int):=by
   rw [List.size_toArray]
   omega
  rw [e2]
 ·have e:b = s1.heap.objs.size:=by simpa using hb
  subst e
  exact I1.fpOk (Nat.le_refl _) (I1.hok.fresh (Nat.le_refl _))
end
end L2
namespace L2
open PySem PySem.Spec PyProof.Rows Ch
theorem Jhg {X:Cx} {K:PySem.W.Frag} {tg:Expr} (hK:X.K = K) {e:Expr} {t:TE} {p2 pos2:Pos} {y:Str} (hy:y = "reversed") (hg2:Gl X y) (hm2:X.mg y = none) (hv2:bootBuiltins y = some (.type "reversed")) (ha:PE X e t) (he:starEach [e] X.env = (false,eval e X.env) :: starEach [] X.env:=by rfl) :
  PI X tg (.Call (.Name y p2) [e] [] pos2) (iRevL K t):=hK ▸ Jio hy hg2 hm2 hv2 ha he
section
variable {K:PySem.W.Frag} {tl td:TE} {g:TG} {tb:TS} {D:Ends} {σ : St} {H:Hp}
theorem y52y:tFor (iRevL K tl) g tb D σ H = tl σ H fun x H1 => ∃ a xs,x = .ref a∧SqL K H1 a xs∧ForJ (Itb K a xs.length) g tb D σ H1:=rfl
theorem y53y:tFor (iKeys td) g tb D σ H = td σ H fun x H1 => ∃ (d:Addr) (kvs:List (Key × V)) (ss:List Str),x = .ref d∧H1 d = some (.dK kvs)∧kvs.map (·.1) = ss.map Sum.inr∧∀ od,ForJ (Itk d od kvs ss) g tb D σ (upd H1 d (.frz od (.dK kvs))):=rfl
theorem ForJ.rev {a:Addr} {xs:List V} (Pv:Nat→St→Hp→Prop) (h0:Pv 0 σ H) (hl:∀ i σ H',Pv i σ H'→SqL K H' a xs)
  (hs:∀ i x σ H,i < xs.length→xs[xs.length - 1 - i]? = some x→Pv i σ H→∀ N:St→Hp→Prop,(∀ σ' H',Pv (i + 1) σ' H'→N σ' H')→g x σ H fun σ2 H2 => tb { D with nx:=N,ct:=N,bk:=D.nx } σ2 H2) (hd:∀ σ H,Pv xs.length σ H→D.nx σ H):ForJ (Itb K a xs.length) g tb D σ H:=by
 refine ⟨fun i m σ H => m = xs.length - i∧i ≤ xs.length∧Pv i σ H,⟨xs.length,by simp,Nat.zero_le _,h0⟩, ?_⟩
 rintro i m σ H ⟨rfl,hi,p⟩
 by_cases hlt:i < xs.length
 ·have hx:=List.getElem?_eq_getElem (by omega:xs.length - 1 - i < xs.length)
  refine .inr ⟨⟨hlt,xs,_,hl i σ H p,hx⟩,Pv (i + 1),fun σ' H' p' => ⟨xs.length - (i + 1),by omega,rfl,hlt,p'⟩,fun x H' y => ?_⟩
  obtain ⟨e,y⟩:=y
  subst e
  exact hs i x σ _ hlt (y xs (hl i σ _ p)) p _ fun _ _ h => h
 ·have e:i = xs.length:=by omega
  subst e
  exact .inl ⟨rfl,hd σ H p⟩
theorem ForJ.keys {d:Addr} {od:Obj} {kvs:List (Key × V)} {ss:List Str} (Pv:Nat→St→Hp→Prop) (h0:Pv 0 σ H) (hl:∀ i σ H',Pv i σ H'→H' d = some (.frz od (.dK kvs)))
  (hs:∀ i z σ H,ss[i]? = some z→Pv i σ H→∀ N:St→Hp→Prop,(∀ σ' H',Pv (i + 1) σ' H'→N σ' H')→g (.str z) σ H fun σ2 H2 => tb { D with nx:=N,ct:=N,bk:=D.nx } σ2 H2) (hd:∀ σ H,Pv ss.length σ H→D.nx σ H):ForJ (Itk d od kvs ss) g tb D σ H:=by
 refine ⟨fun i m σ H => m = ss.length - i∧i ≤ ss.length∧Pv i σ H,⟨ss.length,by simp,Nat.zero_le _,h0⟩, ?_⟩
 rintro i m σ H ⟨rfl,hi,p⟩
 by_cases hlt:i < ss.length
 ·refine .inr ⟨⟨hl i σ H p,hlt⟩,Pv (i + 1),fun σ' H' p' => ⟨ss.length - (i + 1),by omega,rfl,hlt,p'⟩,fun x H' y => ?_⟩
  obtain ⟨e,y⟩:=y
  subst e
  rw [List.getElem?_map,List.getElem?_eq_getElem hlt] at y
  cases y
  exact hs i ss[i] σ _ (List.getElem?_eq_getElem hlt) p _ fun _ _ h => h
 ·have e:i = ss.length:=by omega
  subst e
  exact .inl ⟨⟨hl _ σ H p,Nat.le_refl _⟩,hd σ H p⟩
end
end L2
namespace L2
open PySem PySem.Spec PyProof.Rows Ch
def bF (ns:List (Int × Int)):Int:=ns.foldl (fun b n => b * n.2.fdiv (Mth.g b n.2)) 1
theorem JhU {l:List (Int × Int)} {n:Int × Int}:bF (l ++ [n]) = bF l * n.2.fdiv (Mth.g (bF l) n.2):=by
 unfold bF
 rw [List.foldl_append]
 rfl
section
variable {α : Type}
theorem Jge {z:Str} {a : α}:∀ {P:List (Str × α)},lk P z = some a→z ∈ P.map (·.1)
 | [],h => by cases h
 | p :: P,h => by
  unfold lk at h
  by_cases c:p.1 = z
  ·rw [List.map_cons,c]; exact List.mem_cons_self
  ·rw [if_neg c] at h
   rw [List.map_cons]
   exact List.mem_cons_of_mem _ (Jge h)
theorem pu_nd {l:List (Str × α)} {f:Str} {a : α} (h:(l.map (·.1)).Nodup):((pu l f a).map (·.1)).Nodup:=by
 unfold pu
 split
 ·have e:∀ l:List (Str × α),(l.map fun p => if p.1 = f then (p.1,a) else p).map (·.1) = l.map (·.1):=fun l => by
   rw [List.map_map]
   refine List.map_congr_left fun p _ => ?_
   show (if p.1 = f then (p.1,a) else p).1 = p.1
   split <;> rfl
  rw [e]
  exact h
 ·rename_i c
  rw [List.map_append]
  refine List.nodup_append.mpr ⟨h,by simp,fun x hx y hy e => ?_⟩
  have hy:y = f:=by simpa using hy
  obtain ⟨p,hp,rfl⟩:=List.mem_map.mp hx
  exact c (List.any_eq_true.mpr ⟨p,hp,by simp [e,hy]⟩)
end
section
variable {ss:List SpS} {f0:Str} {P:LasD}
theorem BE.chn (h:BE ss f0 P) {v:Str} {l:List SpS} (c:Chn P f0 v l):(∀ s ∈ l,s ∈ ss)∧l.length ≤ ss.length∧Wk ss f0 l v∧(f0 :: l.map (·.tgt)).Nodup∧(v = f0 ∨ ∃ s,lk P v = some s):=by
 have h0:lk P f0 = none:=by obtain ⟨_,_,_,h2,_⟩:=h.ex; exact h2
 have hv:v = f0 ∨ ∃ s,lk P v = some s:=by
  cases c with
  | nil => exact .inl rfl
  | snoc h _ => exact .inr ⟨_,h⟩
 obtain ⟨S,k1,k2,_⟩:=h.chain
 obtain ⟨b,hb⟩:=(k1 v).mpr hv
 obtain ⟨k,c1,c2,c3,c4⟩:=k2 v b hb
 have e:=Chn.uniq h0 c c1
 subst e
 refine ⟨c2.mem, ?_,c2,c4,hv⟩
 have:=sub_len (l.map (·.tgt)) (ss.map (·.tgt)) (List.nodup_cons.mp c4).2 fun x hx => by
  obtain ⟨y,hy,rfl⟩:=List.mem_map.mp hx
  exact List.mem_map.mpr ⟨y,c2.mem y hy,rfl⟩
 rwa [List.length_map,List.length_map] at this
theorem BE.tb_len (h:BE ss f0 P) {α : Type} {tb:List (Str × (α × List SpS))} (nd:(tb.map (·.1)).Nodup) (hc:∀ v e,lk tb v = some e→Chn P f0 v e.2):tb.length ≤ ss.length + 1:=by
 have:=sub_len (tb.map (·.1)) (f0 :: ss.map (·.tgt)) nd fun x hx => by
  obtain ⟨e,he⟩:=Jd2 hx
  obtain ⟨_,_,_,h2,h3,_⟩:=h.ex
  rcases (h.chn (hc x e he)).2.2.2.2 with e | ⟨s,hs⟩
  ·rw [e]; exact List.mem_cons_self
  ·obtain ⟨k1,k2,_⟩:=h3 x s hs
   exact List.mem_cons_of_mem _ (List.mem_map.mpr ⟨s,k1,k2⟩)
 rwa [List.length_map,List.length_cons,List.length_map] at this
def cs (l:List SpS):Int × Int:=l.foldl (fun a s => addF a s.cost) (0,1)
theorem JfN {l:List SpS} {s:SpS}:cs (l ++ [s]) = addF (cs l) s.cost:=by
 unfold cs
 rw [List.foldl_append]
 rfl
theorem Jhv:∀ (l:List SpS) (a:Int × Int) (n:Nat),FB (201 + 9 * n) (8 * n + 1) a→(∀ s ∈ l,FB 200 8 s.cost)→FB (201 + 9 * (n + l.length)) (8 * (n + l.length) + 1) (l.foldl (fun a s => addF a s.cost) a)
 | [],_,_,h,_ => h
 | s :: l,a,n,h,k => by
  rw [List.foldl_cons]
  have h1:FB (201 + 9 * (n + 1)) (8 * (n + 1) + 1) (addF a s.cost):=(FB.add (n:=209 + 9 * n) (m:=8 * n + 1 + 8) h (k s List.mem_cons_self) (by omega) (by omega) (by omega)).mono (by omega) (by omega)
  have:=Jhv l _ (n + 1) h1 fun s hs => k s (List.mem_cons_of_mem _ hs)
  rw [List.length_cons,show n + (l.length + 1) = n + 1 + l.length by omega]
  exact this
theorem fb01:FB 201 1 (0,1):=⟨by unfold Mth.Sz; exact Nat.two_pow_pos _,by unfold Mth.Sz; decide,by decide,by decide⟩
theorem cs_fb {l:List SpS} (h:∀ s ∈ l,FB 200 8 s.cost):FB (201 + 9 * l.length) (8 * l.length + 1) (cs l):=by
 have:=Jhv l (0,1) 0 fb01 h
 rwa [Nat.zero_add] at this
structure TBk (P:LasD) (f0:Str) (tb:List (Str × ((Int × Int) × List SpS))):Prop where
 nd:(tb.map (·.1)).Nodup
 z0:∃ e,lk tb f0 = some e
 en:∀ v e,lk tb v = some e→Chn P f0 v e.2∧e.1 = cs e.2
theorem TBk.one:TBk P f0 [(f0,((0,1),[]))] where
 nd:=by simp
 z0:=⟨_,if_pos rfl⟩
 en:=fun v e h => by
  unfold lk at h
  by_cases c:f0 = v
  ·rw [if_pos c] at h
   cases h
   subst c
   exact ⟨.nil,rfl⟩
  ·rw [if_neg c] at h
   cases h
theorem TBk.put {tb:List (Str × ((Int × Int) × List SpS))} {s:SpS} {e:(Int × Int) × List SpS} (h:TBk P f0 tb) (he:lk tb s.src = some e) (hs:lk P s.tgt = some s):TBk P f0 (pu tb s.tgt (addF e.1 s.cost,e.2 ++ [s])) where
 nd:=pu_nd h.nd
 z0:=by
  obtain ⟨a,ha⟩:=h.z0
  rw [lk_pu]
  by_cases c:s.tgt = f0
  ·exact ⟨_,if_pos c⟩
  ·exact ⟨a,(if_neg c).trans ha⟩
 en:=fun v x hx => by
  rw [lk_pu] at hx
  by_cases c:s.tgt = v
  ·rw [if_pos c] at hx
   cases hx
   obtain ⟨k1,k2⟩:=h.en _ _ he
   subst c
   exact ⟨.snoc hs k1,by rw [JfN,k2]⟩
  ·rw [if_neg c] at hx
   exact h.en v x hx
theorem TBk.keep {tb:List (Str × ((Int × Int) × List SpS))} {f:Str} {a:(Int × Int) × List SpS} {z:Str} (h:∃ e,lk tb z = some e):∃ e,lk (pu tb f a) z = some e:=by
 obtain ⟨e,he⟩:=h
 rw [lk_pu]
 by_cases c:f = z
 ·exact ⟨_,if_pos c⟩
 ·exact ⟨e,(if_neg c).trans he⟩
end
end L2
namespace L2
open PySem PySem.Spec PyProof.Rows
theorem JdR {xs:Array Nat} {j:Nat} (h1:xs.size = 1) (hx:xs[0]? = some j) (k:Nat):SetTable.below xs k = if j < k then 1 else 0:=by
 have hd:xs.getD 0 k = j:=by rw [Array.getD_eq_getD_getElem?,hx]; rfl
 unfold SetTable.below
 rw [h1]
 simp only [SetTable.below.go]
 rw [if_pos (by decide)]
 show (if xs.getD 0 k < k then _ else _) = _
 rw [hd]
section
variable {prog:Program} {w:World} {A:Around} {E:Value→Shared→Prop} {s:Shared}
theorem Jg3 {a:Addr} {es:Array (Int × Value)} {ep:Nat} {t:SetTable} {Q:Value→Shared→Prop} (ha:s.heap.get? a = some (setO es ep t)) (hf:t.fits es.size = true) (hz:es.size ≤ 1)
  (q1:Q (.ref s.heap.objs.size) { s with heap:=s.heap.push (itO (.int 0 0) 0 a es.size ep) }):wpAny (model prog w) A (pyIter (.ref a)) Q E s:=by
 have ty:s.TypeIs (.ref a) "set":=⟨_,ha,rfl⟩
 have gz:¬ es.size > 1:=by omega
 refine wpAny_pyIter_slot ty PySem.F.slot_set_iter (wpAny_call_entry PySem.F.slot_set_iter ty JcE ?_ (PySem.F.args_set_iter_1 _))
 unfold Builtin.«frozenset.__iter__»
 refine wpAny_bind (m:=Builtin.Frozenset.slot0 _ _) (wpAny_pure ?_)
 unfold Builtin.Frozenset.sizeOf
 refine wpAny_bind (wpAny_bind (wpAny_setEntries_of ha rfl hf (wpAny_pure ?_)))
 unfold setDrawn
 refine wpAny_bind (wpAny_bind (wpAny_setState_of ha rfl hf ?_))
 dsimp only
 refine wpAny_bind (Jbu ?_)
 refine wpAny_pure ?_
 refine wpAny_ite_split (fun z => absurd (show (!w.params.followText "set-order" && (!t.plain && decide (es.size > 1))) = true from z) (by simp [gz])) (fun _ => ?_)
 refine wpAny_bind (wpAny_pure (wpAny_bind (wpAny_setEpoch_of ha rfl hf ?_)))
 unfold newFields
 refine wpAny_bind (wpAny_newObj_type (wpAny_pure ⟨_,rfl, "set_iterator",_,⟨_,Heap.get?_push_size _ rfl,rfl⟩,JaN.lookup, ?_⟩))
 exact q1
theorem Jhb {I a:Addr} {e:Int × Value} {ep j:Nat} {t:SetTable} {Q:Option Value→Shared→Prop} (hI:s.heap.get? I = some (itO (.int 0 0) 0 a 1 ep)) (ha:s.heap.get? a = some (setO #[e] ep t)) (hf:t.fits 1 = true) (ht:w.params.followText "set-order" = false) (hl:t.led = true) (hp:t.place.size = 1) (hj:t.place[0]? = some j)
  (q:∀ h',h'.get? I = some (itO (.int ((j + 1:Nat):Int) 0) 1 a 1 ep)→Heap.SameBut I s.heap h'→Q (some e.2) { s with heap:=h' }):wpAny (model prog w) A (pyNext (.ref I)) Q E s:=by
 have ty:s.TypeIs (.ref I) "set_iterator":=⟨_,hI,rfl⟩
 unfold pyNext
 refine wpAny_bind (wpAny_attempt (wpAny_callSpecial?_slot (name:=Str.ofString "__next__") ty JaN (wpAny_call_entry JaN ty Jbw ?_ (JbY _))))
 unfold Builtin.«set_iterator.__next__»
 refine wpAny_bind (m:=slotArgs _ _ _) (wpAny_pure ?_)
 refine wpAny_bind (wpAny_fieldsOf hI rfl ?_)
 show wpAny _ _ (setEntries a >>= _) _ _ _
 refine wpAny_bind (wpAny_setEntries_of ha rfl hf ?_)
 rw [if_neg (by simp)]
 dsimp only
 unfold setNext
 refine wpAny_bind (wpAny_bind (wpAny_setState_of ha rfl hf ?_))
 dsimp only
 refine wpAny_bind (Jbu ?_)
 rw [if_neg (by rw [ht]; decide)]
 refine wpAny_ite_split (fun z => absurd (show (!t.plain && decide ((#[e]:Array (Int × Value)).size > 1)) = true from z) (by simp)) (fun _ => ?_)
 refine wpAny_bind ?_
 show wpAny _ _ (if (!t.led && !(#[e]:Array (Int × Value)).isEmpty) = true then unsupported _ else pure ()) _ _ _
 rw [if_neg (by simp [hl])]
 refine wpAny_pure (wpAny_pure ?_)
 have b0:SetTable.below t.place (Int.toNat 0) = 0:=by rw [JdR hp hj,if_neg (by simp)]
 rw [b0,hj]
 refine wpAny_bind (wpAny_setField hI rfl (by simp) ?_)
 have h1:=Jdg (f':=.int ((j + 1:Nat):Int) 0) (j:=0) (g:=fun vs => vs.setIfInBounds 0 (rawInt ((j + 1:Nat):Int))) hI rfl
 refine wpAny_bind (wpAny_setField h1 rfl (by simp) ?_)
 have h2:=Jdg (f':=.int ((j + 1:Nat):Int) 0) (j:=1) (g:=fun vs => vs.setIfInBounds 1 (rawInt (((0:Nat):Int) + 1))) h1 rfl
 exact wpAny_pure ⟨_,rfl,wpAny_pure (q _ h2 ((Heap.SameBut.update ..).trans (Heap.SameBut.update ..)))⟩
theorem Jh0 {I a:Addr} {e:Int × Value} {ep j:Nat} {t:SetTable} {Q:Option Value→Shared→Prop} (hh:A.handled = none) (hI:s.heap.get? I = some (itO (.int ((j + 1:Nat):Int) 0) 1 a 1 ep)) (ha:s.heap.get? a = some (setO #[e] ep t)) (hf:t.fits 1 = true) (ht:w.params.followText "set-order" = false) (hl:t.led = true) (hp:t.place.size = 1) (hj:t.place[0]? = some j)
  (q:∀ h',(∀ b o,b ≠ I→s.heap.get? b = some o→h'.get? b = some o)→Q none { s with heap:=h' }):wpAny (model prog w) A (pyNext (.ref I)) Q E s:=by
 have ty:s.TypeIs (.ref I) "set_iterator":=⟨_,hI,rfl⟩
 unfold pyNext
 refine wpAny_bind (wpAny_attempt (wpAny_callSpecial?_slot (name:=Str.ofString "__next__") ty JaN (wpAny_call_entry JaN ty Jbw ?_ (JbY _))))
 unfold Builtin.«set_iterator.__next__»
 refine wpAny_bind (m:=slotArgs _ _ _) (wpAny_pure ?_)
 refine wpAny_bind (wpAny_fieldsOf hI rfl ?_)
 show wpAny _ _ (setEntries a >>= _) _ _ _
 refine wpAny_bind (wpAny_setEntries_of ha rfl hf ?_)
 rw [if_neg (by simp)]
 dsimp only
 unfold setNext
 refine wpAny_bind (wpAny_bind (wpAny_setState_of ha rfl hf ?_))
 dsimp only
 refine wpAny_bind (Jbu ?_)
 rw [if_neg (by rw [ht]; decide)]
 refine wpAny_ite_split (fun z => absurd (show (!t.plain && decide ((#[e]:Array (Int × Value)).size > 1)) = true from z) (by simp)) (fun _ => ?_)
 refine wpAny_bind ?_
 show wpAny _ _ (if (!t.led && !(#[e]:Array (Int × Value)).isEmpty) = true then unsupported _ else pure ()) _ _ _
 rw [if_neg (by simp [hl])]
 refine wpAny_pure (wpAny_pure ?_)
 have b1:SetTable.below t.place (Int.toNat ((j + 1:Nat):Int)) = 1:=by rw [JdR hp hj,Int.toNat_natCast,if_pos (by omega)]
 have e1:(#[e]:Array (Int × Value))[1]? = none:=by simp
 rw [b1,e1]
 dsimp only
 refine wpAny_bind (wpAny_setField hI rfl (by simp) ?_)
 refine JdQ hh fun h' k => q h' fun b o hb e => k b o ?_
 exact ((Heap.SameBut.update ..).extBut b o hb e)
theorem Jfi {f:Nat→Nat} {e:Int × Value}:(pickOrder f #[e]).toList = [e]:=List.perm_singleton.mp (JbG f #[e])
theorem Jh7 {a:Addr} {e:Int × Value} {ep:Nat} {t:SetTable} (hf:t.fits 1 = true) (hl:w.params.followText "set-order" = false→t.led = true):PySem.W.KdlSrc prog w "set" a a 1 (fun _ v => v = e.2) (fun h => h.get? a = some (setO #[e] ep t)) where
 type:=fun _ ha => ⟨_,ha,rfl⟩
 there:=fun _ ha => ⟨Heap.lt_size ha,Heap.lt_size ha⟩
 keep:=fun _ _ ha k => k a (.inl rfl) _ ha
 notList:=by decide
 notTuple:=by decide
 hint:=fun _ _ _ _ ha q => Jct ⟨_,ha,rfl⟩ q
 iter:=fun A s hh ha => by
  have hp:t.place.size = 1:=by
   unfold SetTable.fits at hf
   simp at hf
   exact hf.1
  obtain ⟨j,hj⟩:∃ j,t.place[0]? = some j:=⟨_,Array.getElem?_eq_getElem (by omega)⟩
  refine ⟨itO (.int 0 0) 0 a 1 ep,fun i h => (∃ k:Nat,h.get? s.heap.objs.size = some (itO (.int (k:Int) 0) i a 1 ep)∧(w.params.followText "set-order" = true→k = 0)∧(w.params.followText "set-order" = false→(i = 0∧k = 0) ∨ (i = 1∧k = j + 1)))∧h.get? a = some (setO #[e] ep t),fun _ _ q => Jg3 ha hf (by simp) q,
  {
   sub:=fun b hb => by simp at hb; simp [hb]
   frame:=fun _ _ _ st k => ⟨by obtain ⟨⟨m,h1,h2⟩,_⟩:=st; exact ⟨m,k _ (by simp) _ h1,h2⟩,k _ (by simp) _ st.2⟩
   item:=fun i s' Q E hi st q => by
    obtain ⟨⟨m,h1,h2,h3⟩,h4⟩:=st
    have i0:i = 0:=by omega
    subst i0
    cases ht:w.params.followText "set-order" with
    | true =>
     have m0:=h2 ht
     subst m0
     exact Jd5 h1 h4 hf ht (v:=e.2) (by rw [Jfi]; rfl) fun h' e1 sb => q _ h' s'.toks rfl ⟨⟨0,e1,fun _ => rfl,(fun z => by rw [ht] at z; cases z)⟩,sb.extBut a _ (Nat.ne_of_lt (Heap.lt_size ha)) h4⟩ fun b o hb z => sb.extBut b o (fun h => hb (by simp [h])) z
    | false =>
     have m0:m = 0:=by rcases h3 ht with z | z <;> omega
     subst m0
     exact Jhb h1 h4 hf ht (hl ht) hp hj fun h' e1 sb => q _ h' s'.toks rfl ⟨⟨j + 1,e1,(fun z => by rw [ht] at z; cases z),fun _ => .inr ⟨rfl,rfl⟩⟩,sb.extBut a _ (Nat.ne_of_lt (Heap.lt_size ha)) h4⟩ fun b o hb z => sb.extBut b o (fun h => hb (by simp [h])) z
   done:=fun s' Q E st q => by
    obtain ⟨⟨m,h1,h2,h3⟩,h4⟩:=st
    cases ht:w.params.followText "set-order" with
    | true =>
     have m0:=h2 ht
     subst m0
     exact Jdu hh h1 h4 hf ht (by rw [← Array.getElem?_toList,Jfi]; rfl) fun h' k => q h' s'.toks fun b o hb z => k b o (fun h => hb (by simp [h])) z
    | false =>
     have m0:m = j + 1:=by rcases h3 ht with z | z <;> omega
     subst m0
     exact Jh0 hh h1 h4 hf ht (hl ht) hp hj fun h' k => q h' s'.toks fun b o hb z => k b o (fun h => hb (by simp [h])) z
   self:=fun _ _ _ _ st q => by obtain ⟨⟨m,h1,_⟩,_⟩:=st; exact Jdx h1 q },⟨0,Heap.get?_push_size _ rfl,fun _ => rfl,fun _ => .inl ⟨rfl,rfl⟩⟩,Heap.get?_push_of_some _ ha⟩
theorem JfG {a:Addr} {x:Str} {Q:Value→Shared→Prop} (hh:A.handled = none) (hS:SetS prog w s.heap a [x])
  (q:∀ s' l (out:Array Value) ss' e,(∀ b o,s.heap.get? b = some o→s'.heap.get? b = some o)→s'.gens = s.gens→s'.os = s.os→s.toks ≤ s'.toks→s.heap.objs.size ≤ l→s'.heap.get? l = some (seqObj "list" out e)→StrsAre out.toList ss'→ss'.Perm [x]→sortedS ss' = true→Q (.ref l) s') :
  wpAny (model prog w) A (call (.builtin "sorted") [.ref a]) Q E s:=by
 obtain ⟨es,ep,t,ho,hel,hp,hb,hf,hpl,hld⟩:=hS
 obtain ⟨v,hv⟩:∃ v,es = #[v]:=by
  have sz:es.toList.length = 1:=by rw [← List.length_map (f:=fun e:Int × Value => strOf e.2),hp.length_eq]; rfl
  obtain ⟨v,hv⟩:=List.length_eq_one_iff.mp sz
  exact ⟨v,by rw [← Array.toArray_toList (xs:=es),hv]⟩
 subst hv
 have ha:s.heap.get? a = some (setO #[v] ep t):=ho
 obtain ⟨tk0,hx⟩:∃ tk,v.2 = .str x tk:=by
  obtain ⟨⟨k',h',_⟩,_⟩:=hel v (by simp)
  obtain ⟨u,hu⟩:=Value.isStrOf_shape h'
  have e2:strOf v.2 = x:=by simpa using List.perm_singleton.mp hp
  rw [hu] at e2
  exact ⟨u,by rw [hu, ← e2]; rfl⟩
 have la:=Heap.lt_size ha
 have h1:A.in1.handled = none:=by simp [hh]
 refine JbU (ss:=[x]) (by show 1 < 64; decide) (fun R k => ?_) q
 obtain ⟨R0,hR0⟩:∃ R0:Result→Shared→Prop, ∀ r s',R0 r s' ↔ ∃ h' tk acc c',r = .ok (.ret (.ref s.heap.objs.size))∧s' = { s with heap:=h',toks:=tk }∧(∀ b o,b ≠ s.heap.objs.size→(s.heap.push { cls:=.type "list",data:=.seq ([]:List Value).toArray }).get? b = some o→h'.get? b = some o)∧h'.get? s.heap.objs.size = some { cls:=.type "list",dict:=none,data:=.seq acc c',slots:=#[] }∧ItemsOf (fun _ u => u = v.2) acc 1:=⟨_,fun _ _ => Iff.rfl⟩
 have base:=codeAny_toks_of (n:=s.toks) (s:={ s with heap:=s.heap.push { cls:=.type "list",data:=.seq ([]:List Value).toArray } }) (Nat.le_refl _) (Jdw (A:=A.in1) (R:=R0)
  (PySem.W.kdl_extend (R:=R0) (s:={ s with heap:=s.heap.push { cls:=.type "list",data:=.seq ([]:List Value).toArray } }) (Jh7 (prog:=prog) (w:=w) (a:=a) (e:=v) (ep:=ep) hf hld) h1 (Heap.get?_push_of_some _ ha) s.heap.objs.size (Nat.ne_of_gt la) (Nat.ne_of_gt la) (.ref s.heap.objs.size) 0 (Heap.get?_push_size _ rfl) (fun h' tk acc' c' k' hS hacc => (hR0 _ _).mpr ⟨h',tk,acc',c',rfl,rfl,k',hS,hacc⟩) (by decide)))
 refine codeAny_mono base ?_
 rintro r s' ⟨ht,hr⟩
 obtain ⟨h',tk,acc,c',rfl,rfl,kk,hlst,hacc⟩:=(hR0 _ _).mp hr
 have e:acc.toList = [.str x tk0]:=by
  have sz:acc.toList.length = 1:=by rw [Array.length_toList]; exact hacc.1
  obtain ⟨u,hu⟩:=List.length_eq_one_iff.mp sz
  have:=hacc.2 0 u (by rw [← Array.getElem?_toList,hu]; rfl)
  rw [hu,this,hx]
 exact k _ acc.toList c' [x] (fun b o e => kk b o (Nat.ne_of_lt (Heap.lt_size e)) (Heap.get?_push_of_some _ e)) rfl rfl ht (by rw [Array.toArray_toList]; exact hlst) (by rw [e]; exact .cons x tk0 .nil) (.refl _)
end
section
variable {X:Cx}
def Jja (K:PySem.W.Frag) (xs:List V) (H:Hp) (Q:VK):Prop:=∃ (l:Addr) (ss:List Str),xs = [.ref l]∧SqL K H l (ss.map V.str)∧ss.length < 64∧∀ p out,H p = none→out.Nodup→(∀ z,z ∈ out ↔ z ∈ ss)→sortedS out = true→Q (.ref p) (upd H p (.lst (out.map V.str)))
theorem JcP {e:Expr} {t:TA} {p1 p2 pos pos2:Pos} {x y:Str} (hc:X.calm = true) (hx:x = "sorted") (hy:y = "set") (hg:Gl X x) (hm:X.mg x = none) (hv:bootBuiltins x = some (.builtin "sorted")) (hg2:Gl X y) (hm2:X.mg y = none) (hv2:bootBuiltins y = some (.type "set")) (ha:PA X [e] t)
  (he:starEach [e] X.env = (false,eval e X.env) :: starEach [] X.env:=by rfl) :
  PE X (.Call (.Name x p1) [.Call (.Name y p2) [e] [] pos2] [] pos) (tCB (Jja X.K) t):=by
 intro pins s σ H Q I h
 have nx:x ≠ "__name__":=by rw [hx]; decide
 have ny:y ≠ "__name__":=by rw [hy]; decide
 have dx:(x == ("__debug__" : Str)) = false:=by rw [hx]; decide
 have dy:(y == ("__debug__" : Str)) = false:=by rw [hy]; decide
 refine wpAny_Call_Name_kw (JcI I hg hm hv ?_ nx dx)
 refine PyProof.Rows.callWith_builtin1 ?_ rfl rfl
 show wpAny _ _ (spliced ((false,eval (.Call (.Name y p2) [e] [] pos2) X.env) :: backTo pos (starEach [] X.env))) _ _ s
 refine Calls.spliced_cons ?_
 refine wpAny_Call_Name_kw (JcI I hg2 hm2 hv2 ?_ ny dy)
 refine PyProof.Rows.callWith_type1 (thn (ha pos2 pins s σ H _ I h) fun us s1 ⟨vs,H1,I1,r1,q1⟩ => ?_) he rfl
 obtain ⟨l,ss,rfl,hl,h64,q⟩:=q1
 obtain ⟨u,rfl,rx⟩:=vals1 r1
 cases rx
 obtain ⟨its,ri,pl,hz⟩:=I1.list hl
 have hs:=Jel ri
 have ls:=hs.length
 have hd:=I1.ok.hd hc
 have sb:(66:Nat) < scanBound:=by decide
 refine JcZ hd pl.isList (ss:=ss) (by simpa using hs) (by rw [List.size_toArray]; omega) fun h' tk hS k et => Calls.spliced_nil ?_
 have sz:its.toArray.size = ss.length:=by rw [List.size_toArray]; exact ls
 rw [sz] at hS
 have mem:∀ z,z ∈ met (fun i => ss.getD i ⟨#[]⟩) ss.length ↔ z ∈ ss:=fun z => by
  rw [Jgi]
  constructor
  ·rintro ⟨j,hj,rfl⟩
   rw [List.getD_eq_getElem?_getD,List.getElem?_eq_getElem hj]
   exact List.getElem_mem hj
  ·intro hz
   obtain ⟨j,hj⟩:=List.getElem?_of_mem hz
   exact ⟨j,(List.getElem?_eq_some_iff.mp hj).1,by rw [List.getD_eq_getElem?_getD,hj]; rfl⟩
 have ml:=JeD (fun i => ss.getD i ⟨#[]⟩) ss.length
 have fin:∀ s' l' (out:Array Value) ss' ex,(∀ b o,h'.get? b = some o→s'.heap.get? b = some o)→s'.gens = s1.gens→s'.os = s1.os→h'.objs.size ≤ l'→s'.heap.get? l' = some (seqObj "list" out ex)→StrsAre out.toList ss'→ss'.Perm (met (fun i => ss.getD i ⟨#[]⟩) ss.length)→sortedS ss' = true→EP X pins σ Q (.ref l') s':=fun s' l' out ss' ex k2 eg eo hl' ho hs2 hp hso => by
  have kk:∀ b o,s1.heap.get? b = some o→s'.heap.get? b = some o:=fun b o e => k2 b o (k b o e)
  have hl2:s1.heap.objs.size ≤ l':=by
   have : s1.heap.objs.size < h'.objs.size:=by
    obtain ⟨es,ep,tt,ho,_⟩:=hS
    exact Heap.lt_size ho
   exact Nat.le_of_lt (Nat.lt_of_lt_of_le this hl')
  have nd:ss'.Nodup:=hp.nodup_iff.mpr (Jgj _ _)
  have lo:ss'.length ≤ sizeLine:=by
   have : (64:Nat) ≤ sizeLine:=by decide
   rw [hp.length_eq]
   omega
  exact ⟨.ref l',_,Inv.like (s:=s1) (I1.laid (t':=s'.toks) (o:=.lst (ss'.map V.str)) kk hl2 (show ObjOk X.prog X.w _ s'.heap l' (.lst (ss'.map V.str)) from ⟨by rw [List.length_map]; exact lo,out.toList,ex,JcY hs2,by rw [Array.toArray_toList]; exact ho⟩)) eg eo,rfl,q l' ss' (I1.hok.fresh hl2) nd (fun z => (hp.mem_iff).trans (mem z)) hso⟩
 have sz2:=Jgj (fun i => ss.getD i ⟨#[]⟩) ss.length
 generalize met (fun i => ss.getD i ⟨#[]⟩) ss.length = ms at *
 match hm:ms with
 | [] =>
  obtain ⟨es,ep,tt,ho,hel,hp0,_,hf,_⟩:=hS
  have e0:es = #[]:=by
   have:=hp0.length_eq
   rw [List.length_map,Array.length_toList] at this
   exact Array.eq_empty_of_size_eq_zero (by rw [this]; rfl)
  subst e0
  exact JeY (s:={ s1 with heap:=h',toks:=tk }) hd ho hf fun s' l' out ss' ex k2 eg eo et2 hl' ho' hs2 hp hso => fin s' l' out ss' ex k2 eg eo hl' ho' hs2 hp hso
 | [x] => exact JfG (s:={ s1 with heap:=h',toks:=tk }) hd hS fun s' l' out ss' ex k2 eg eo et2 hl' ho hs2 hp hso => fin s' l' out ss' ex k2 eg eo hl' ho hs2 hp hso
 | x :: y :: r => exact JfH (s:={ s1 with heap:=h',toks:=tk }) hd hS (by simp) (by omega) fun s' l' out ss' ex k2 eg eo et2 hl' ho hs2 hp hso => fin s' l' out ss' ex k2 eg eo hl' ho hs2 hp hso
end
end L2
namespace L2
open PySem PySem.Spec PyProof.Rows
section
variable {X:Cx}
open Classical in
noncomputable def eqIn (ds:List D) (us:List Value) (d:D) (w:Value):Bool:=decide (∃ p ∈ ds.zip us,p.2 = w∧eqD p.1 d = true)
theorem Jf7 {K:PySem.W.Frag} {pins:List (Addr × Obj)} {σ : St} {H:Hp} {s:Shared} (I:Inv X pins σ H s) (hK:X.K = K) {A:Around} (hA:A.units + 60 < cLine) {d0:D} {x:V} {v:Value} (h0:Rep K H d0 x) (r0:RelV x v) (hd0:depD d0 ≤ 40):∀ {ds:List D} {xs:List V} {us:List Value},RepL K H ds xs→Vals xs us→(∀ d ∈ ds,depD d ≤ 40) →
  (∀ p ∈ ds.zip us,SeqAt.EqAt A s p.2 v (eqD p.1 d0))∧(∀ u ∈ us, ∃ d,(d,u) ∈ ds.zip us)∧∀ d ∈ ds, ∃ u,(d,u) ∈ ds.zip us
 | [],xs,us,h,r,_ => by
  simp only [RepL] at h
  subst h
  cases r
  exact ⟨(fun p hp => by cases hp),(fun u hu => by cases hu),(fun u hu => by cases hu)⟩
 | d :: ds,xs,us,h,r,hd => by
  simp only [RepL] at h
  obtain ⟨w,vs,rfl,h1,ht⟩:=h
  cases r with
  | @cons _ u0 _ us0 r1 r2 =>
   obtain ⟨i1,i2,i3⟩:=Jf7 I hK hA h0 r0 hd0 ht r2 fun d' h' => hd d' (List.mem_cons_of_mem _ h')
   refine ⟨fun p hp => ?_,fun u hu => ?_,fun c hc => ?_⟩
   ·rcases List.mem_cons.mp hp with rfl | hp
    ·exact I.eqP 40 d d0 A w x u0 v (hd d (by simp)) (hK ▸ h1) (hK ▸ h0) r1 r0 (by omega)
    ·exact i1 p hp
   ·rcases List.mem_cons.mp hu with rfl | hu
    ·exact ⟨d,List.mem_cons_self⟩
    ·obtain ⟨c,hc⟩:=i2 u hu
     exact ⟨c,List.mem_cons_of_mem _ hc⟩
   ·rcases List.mem_cons.mp hc with rfl | hc
    ·exact ⟨u0,List.mem_cons_self⟩
    ·obtain ⟨u,hu⟩:=i3 c hc
     exact ⟨u,List.mem_cons_of_mem _ hu⟩
def rNinD (K:PySem.W.Frag):R2:=fun x y H Q => ∃ p xs d ds,y = .ref p∧SqL K H p xs∧Rep K H d x∧RepL K H ds xs∧depD d ≤ 40∧(∀ d ∈ ds,depD d ≤ 40)∧Q (.bl (!ds.any fun c => eqD c d)) H
theorem Jih (hu:X.A.units + 64 < cLine):OpR X (compareOp .NotIn) (rNinD X.K):=fun pins s σ H x y v u Q I rx ry q => by
 obtain ⟨p,xs,d,ds,rfl,hq,h0,hr,hd0,hd,q⟩:=q
 cases (show u = Value.ref p from ry)
 obtain ⟨its,r,pl,hz⟩:=I.list hq
 obtain ⟨k1,k2,k3⟩:=Jf7 I rfl (A:=X.A.in1) (by rw [in1_units]; omega) h0 rx hd0 hr r hd
 refine SeqAt.notIn_listAt (eqIn ds its d) pl.isList (fun w hw => ?_) ⟨.bl _,H,I,rfl, ?_⟩
 ·by_cases c:∃ p ∈ ds.zip its,p.2 = w∧eqD p.1 d = true
  ·rw [show eqIn ds its d w = true from decide_eq_true c]
   obtain ⟨p,hp,rfl,e⟩:=c
   rw [← e]
   exact k1 p hp
  ·rw [show eqIn ds its d w = false from decide_eq_false c]
   obtain ⟨e,he⟩:=k2 w (by simpa using hw)
   have:=k1 _ he
   cases z:eqD e d with
   | true => exact absurd ⟨_,he,rfl,z⟩ c
   | false => rw [z] at this; exact this
 ·have : its.toArray.any (eqIn ds its d) = ds.any fun c => eqD c d:=by
   rw [Bool.eq_iff_iff]
   simp only [List.any_toArray,List.any_eq_true]
   constructor
   ·rintro ⟨w,hw,z⟩
    obtain ⟨p,hp,_,e⟩:=of_decide_eq_true z
    exact ⟨p.1,(List.of_mem_zip hp).1,e⟩
   ·rintro ⟨c,hc,e⟩
    obtain ⟨u,hu⟩:=k3 c hc
    exact ⟨u,(List.of_mem_zip hu).2,decide_eq_true ⟨_,hu,rfl,e⟩⟩
  rw [this]
  exact q
end
end L2
namespace L2
open PySem PySem.Spec PyProof.Rows Ch
def toS (b:Int) (s:SD):SpS:=⟨s.src,s.dst,s.c,s.c.1 * b.fdiv s.c.2,s.nm,s.fw⟩
def bD_ (ts:List TD):Int:=bF ((Ch.all ts).map (·.c))
def ssD (ts:List TD):List SpS:=(Ch.all ts).map (toS (bD_ ts))
def lsD (ts:List TD) (f0:Str):LasD:=(bfR (ssD ts) ((ssD ts).length + 1) (bf0 f0)).P
abbrev RowS:=Str × ((Int × Int) × List SpS)
structure RdOk (ts:List TD) (f0:Str) (rows:List RowS):Prop where
 nd:(rows.map (·.1)).Nodup
 so:sortedS (rows.map (·.1)) = true
 mem:∀ v,v ∈ rows.map (·.1) ↔ (v = f0 ∨ ∃ s,lk (lsD ts f0) v = some s)
 en:∀ r ∈ rows,Chn (lsD ts f0) f0 r.1 r.2.2∧r.2.1 = cs r.2.2
 be:BE (ssD ts) f0 (lsD ts f0)
theorem JgV {α : Type} {a b:List (Str × α)} (hk:a.map (·.1) = b.map (·.1)) (hu:∀ r ∈ a, ∀ r' ∈ b,r.1 = r'.1→r = r'):a = b:=by
 have hl:a.length = b.length:=by simpa using congrArg List.length hk
 refine List.ext_getElem hl fun i h1 h2 => ?_
 have e:(a.map (·.1))[i]'(by simpa using h1) = (b.map (·.1))[i]'(by simpa using h2):=by simp only [hk]
 rw [List.getElem_map,List.getElem_map] at e
 exact hu _ (List.getElem_mem h1) _ (List.getElem_mem h2) e
theorem RdOk.p0 {ts:List TD} {f0:Str} {a:List RowS} (h:RdOk ts f0 a):lk (lsD ts f0) f0 = none:=by obtain ⟨_,_,_,h2,_⟩:=h.be.ex; exact h2
theorem RdOk.eq {ts:List TD} {f0:Str} {a b:List RowS} (h:RdOk ts f0 a) (k:RdOk ts f0 b):a = b :=
 JgV (Jei h.so k.so h.nd k.nd fun z => (h.mem z).trans (k.mem z).symm) fun r hr r' hr' e => by
  obtain ⟨c1,e1⟩:=h.en r hr
  obtain ⟨c2,e2⟩:=k.en r' hr'
  rw [← e] at c2
  have:=Chn.uniq h.p0 c1 c2
  obtain ⟨v,x,l⟩:=r
  obtain ⟨v',x',l'⟩:=r'
  simp only at *
  subst e
  subst this
  rw [e1,e2]
theorem wh_vl {c:Int × Int} {b:Int} (h2:1 ≤ c.2) (hd:c.2 ∣ b):((c.1 * b.fdiv c.2:Int):Rat) = vl c * (b:Rat):=by
 obtain ⟨k,rfl⟩:=hd
 rw [Int.mul_fdiv_cancel_left _ (by omega)]
 have h1:=Jfk h2
 unfold vl
 push_cast
 generalize (c.1:Rat) = x at *
 generalize (c.2:Rat) = y at *
 generalize (k:Rat) = z at *
 grind
theorem JfO {b:Int}:∀ (l:List SpS) (a:Int × Int),1 ≤ a.2→(∀ s ∈ l,(s.wh:Rat) = vl s.cost * (b:Rat)∧1 ≤ s.cost.2)→vl (l.foldl (fun a s => addF a s.cost) a) * (b:Rat) = vl a * (b:Rat) + (wgt l:Rat)∧1 ≤ (l.foldl (fun a s => addF a s.cost) a).2
 | [],a,ha,_ => by
  refine ⟨?_,ha⟩
  show vl a * (b:Rat) = vl a * (b:Rat) + ((0:Int):Rat)
  rw [Rat.intCast_zero,Rat.add_zero]
 | s :: l,a,ha,h => by
  rw [List.foldl_cons]
  obtain ⟨h1,h2⟩:=h s List.mem_cons_self
  have hb:1 ≤ (addF a s.cost).2:=Mth.Jbg (Int.mul_ne_zero (by omega) (by omega))
  obtain ⟨i1,i2⟩:=JfO l (addF a s.cost) hb fun s hs => h s (List.mem_cons_of_mem _ hs)
  refine ⟨?_,i2⟩
  rw [i1,JgN ha h2]
  have e:(wgt (s :: l):Rat) = (s.wh:Rat) + (wgt l:Rat):=by
   show ((s.wh + wgt l:Int):Rat) = _
   push_cast
   rfl
  rw [e,h1,Rat.add_mul,Rat.add_assoc]
theorem JiG {b:Int} {l:List SpS} (h:∀ s ∈ l,(s.wh:Rat) = vl s.cost * (b:Rat)∧1 ≤ s.cost.2):vl (cs l) * (b:Rat) = (wgt l:Rat)∧1 ≤ (cs l).2:=by
 obtain ⟨h1,h2⟩:=JfO (b:=b) l (0,1) (by decide) h
 refine ⟨?_,h2⟩
 unfold cs
 rw [h1,Jiz]
 grind
section
variable {ts:List TD}
theorem ss_wh (hb:∀ s ∈ Ch.all ts,1 ≤ s.c.2∧s.c.2 ∣ bD_ ts):∀ s ∈ ssD ts,(s.wh:Rat) = vl s.cost * (bD_ ts:Rat)∧1 ≤ s.cost.2:=fun s hs => by
 obtain ⟨x,hx,rfl⟩:=List.mem_map.mp hs
 exact ⟨wh_vl (hb x hx).1 (hb x hx).2,(hb x hx).1⟩
theorem Jjd {x:Str→Rat} (h1:1 ≤ bD_ ts) (hb:∀ s ∈ Ch.all ts,1 ≤ s.c.2∧s.c.2 ∣ bD_ ts) (hx:∀ s ∈ Ch.all ts,x s.dst ≤ x s.src + vl s.c):Pot (fun f => (x f * (bD_ ts:Rat)).floor) (ssD ts) :=
 JgA (x:=fun f => x f * (bD_ ts:Rat)) fun s hs => by
  have hw:=(ss_wh hb s hs).1
  obtain ⟨y,hy,rfl⟩:=List.mem_map.mp hs
  have:=hx y hy
  rw [hw]
  show x y.dst * _ ≤ x y.src * _ + vl y.c * _
  rw [← Rat.add_mul]
  refine Rat.mul_le_mul_of_nonneg_right this ?_
  have : (0:Int) ≤ bD_ ts:=by omega
  exact_mod_cast this
theorem RdOk.least {f0:Str} {rows:List RowS} (h:RdOk ts f0 rows) (h1:1 ≤ bD_ ts) (hb:∀ s ∈ Ch.all ts,1 ≤ s.c.2∧s.c.2 ∣ bD_ ts) {s:SD} (hs:s ∈ Ch.all ts) {r:RowS} (hr:r ∈ rows) (e:r.1 = s.src):∃ r' ∈ rows,r'.1 = s.dst∧∀ r' ∈ rows,r'.1 = s.dst→lessF (addF r.2.1 s.c) r'.2.1 = false:=by
 obtain ⟨S,k1,k2,k3⟩:=h.be.chain
 have hs':toS (bD_ ts) s ∈ ssD ts:=List.mem_map.mpr ⟨s,hs,rfl⟩
 have val:∀ r ∈ rows, ∀ a,lk S r.1 = some a→vl r.2.1 * (bD_ ts:Rat) = (a:Rat)∧1 ≤ r.2.1.2:=fun r hr a ha => by
  obtain ⟨c1,e1⟩:=h.en r hr
  obtain ⟨l,d1,d2,d3,_⟩:=k2 _ a ha
  have:=Chn.uniq h.p0 c1 d1
  subst this
  rw [e1, ← d3]
  exact JiG fun s hs => ss_wh hb s (d2.mem s hs)
 have hv:=(h.mem r.1).mp (List.mem_map.mpr ⟨r,hr,rfl⟩)
 obtain ⟨a,ha⟩:=(k1 _).mpr hv
 obtain ⟨b,hb',hle⟩:=k3 _ hs' a (by rw [← ha,e]; rfl)
 have hm:=(h.mem s.dst).mpr ((k1 _).mp ⟨b,hb'⟩)
 obtain ⟨r',hr',e'⟩:=List.mem_map.mp hm
 refine ⟨r',hr',e',fun r' hr' e' => ?_⟩
 obtain ⟨v1,v2⟩:=val r hr a ha
 obtain ⟨w1,w2⟩:=val r' hr' b (by rw [e']; exact hb')
 have hw:=(ss_wh hb _ hs').1
 have c1:=(hb s hs).1
 have pb:(0:Rat) < (bD_ ts:Rat):=by
  have : (0:Int) < bD_ ts:=by omega
  exact_mod_cast this
 cases z:lessF (addF r.2.1 s.c) r'.2.1 with
 | false => rfl
 | true =>
  exfalso
  have hlt:=(Je2 (Mth.Jbg (Int.mul_ne_zero (by omega) (by omega)):1 ≤ (addF r.2.1 s.c).2) w2).mp z
  rw [JgN v2 c1] at hlt
  have h3:(b:Rat) ≤ (a:Rat) + ((toS (bD_ ts) s).wh:Rat):=by exact_mod_cast hle
  rw [hw, ← v1, ← w1] at h3
  have h4:=Rat.mul_lt_mul_of_pos_right hlt pb
  rw [Rat.add_mul] at h4
  exact absurd h3 (Rat.not_le.mpr h4)
end
theorem Jfa:∀ {l:List SD} {s:SD},(l.map key).Nodup→s ∈ l→(l.filter fun x => decide (key x = key s)) = [s]
 | a :: l,s,nd,h => by
  rw [List.map_cons,List.nodup_cons] at nd
  rcases List.mem_cons.mp h with rfl | h
  ·rw [List.filter_cons_of_pos (by simp)]
   congr 1
   refine List.filter_eq_nil_iff.mpr fun x hx => ?_
   simp only [decide_eq_true_eq]
   exact fun e => nd.1 (e ▸ List.mem_map.mpr ⟨x,hx,rfl⟩)
  ·have ne:key a ≠ key s:=fun e => nd.1 (e ▸ List.mem_map.mpr ⟨s,h,rfl⟩)
   rw [List.filter_cons_of_neg (by simpa using ne)]
   exact Jfa nd.2 h
theorem Wk.at_ {ss:List SpS} {f0:Str} {l:List SpS} {v:Str} (h:Wk ss f0 l v):∀ i s,l[i]? = some s→Wk ss f0 (l.take i) s.src∧s ∈ ss∧Wk ss f0 (l.take (i + 1)) s.tgt:=by
 induction h with
 | nil => intro i s h; simp at h
 | @snoc l s0 hl hs ih =>
  intro i s h
  by_cases c:i < l.length
  ·rw [List.getElem?_append_left c] at h
   rw [List.take_append_of_le_length (by omega),List.take_append_of_le_length (by omega)]
   exact ih i s h
  ·have li:=(List.getElem?_eq_some_iff.mp h).1
   rw [List.length_append,List.length_singleton] at li
   have : i = l.length:=by omega
   subst this
   rw [List.getElem?_append_right (Nat.le_refl _),Nat.sub_self] at h
   cases h
   refine ⟨by rw [List.take_left]; exact hl,hs, ?_⟩
   rw [List.take_of_length_le (by simp)]
   exact .snoc hl hs
theorem Wk.fin {ss:List SpS} {f0:Str} {l:List SpS} {v:Str} (h:Wk ss f0 l v):(f0 :: l.map (·.tgt))[l.length]? = some v:=by
 cases h with
 | nil => rfl
 | snoc _ _ => rw [List.length_append,List.length_singleton,List.getElem?_cons_succ,List.map_append,List.getElem?_append_right (by rw [List.length_map]; exact Nat.le_refl _),List.length_map,Nat.sub_self]; rfl
end L2
namespace L2
open PySem PySem.Spec PyProof.Rows Ch
def RF (K:PySem.W.Frag) (H:Hp) (e:Int × Int) (v:V):Prop:=FrV K H v e.1 e.2
theorem JhS {α : Type} {xs:List α} {v : α} (h:xs[xs.length - 1]? = some v):atI xs (-1) = some v:=by
 have l:=(List.getElem?_eq_some_iff.mp h).1
 unfold atI ixN
 rw [if_neg (by omega),if_pos (by omega),show ((-1:Int) + (xs.length:Int)).toNat = xs.length - 1 by omega]
 exact h
theorem JhA {K:PySem.W.Frag} {H:Hp} {p:Addr} {xs:List V} {v:V} {Q:VK} (h:SqL K H p xs) (e:xs[xs.length - 1]? = some v) (q:Q v H):rIxU K (.ref p) (.int (-1)) H Q:=⟨xs,v, .inl h,JhS e,q⟩
theorem Jfo {X:Cx} {K:PySem.W.Frag} (hK:X.K = K):CallR X (.type "list") (JhI K):=hK ▸ Jcc
def rowD (r:RowS):D:=.tup [.str r.1,frD r.2.1, .lst (r.2.2.map fun s => prD (s.nm,s.fw))]
theorem JfV:∀ l:List SpS,depL (l.map fun s => prD (s.nm,s.fw)) ≤ 1
 | [] => by simp [depL]
 | s :: l => by
  have:=JfV l
  rw [List.map_cons,depL]
  have e:depD (prD (s.nm,s.fw)) = 1:=by simp [prD,depD,depL]
  omega
theorem JfW (r:RowS):depD (rowD r) ≤ 5:=by
 have:=JfV r.2.2
 simp only [rowD,depD,depL,frD]
 omega
theorem Je8:∀ l:List RowS,depL (l.map rowD) ≤ 5
 | [] => by simp [depL]
 | r :: l => by
  have:=Je8 l
  have:=JfW r
  simp only [List.map_cons,depL]
  omega
theorem Je9:∀ l:List Str,depL (l.map D.str) = 0
 | [] => by simp [depL]
 | r :: l => by
  simp only [List.map_cons,depL,depD,Je9 l]
  rfl
theorem Jee {K:PySem.W.Frag} {H:Hp}:∀ l:List Str,RepL K H (l.map D.str) (l.map V.str)
 | [] => by simp only [List.map_nil,RepL]
 | r :: l => by
  simp only [List.map_cons,RepL,Rep]
  exact ⟨_,_,rfl,rfl,Jee l⟩
theorem Jef {K:PySem.W.Frag} {H:Hp} {a:Addr} {l:List Str} (h:SqL K H a (l.map V.str)):Rep K H (.lst (l.map D.str)) (.ref a):=by
 simp only [Rep]
 exact ⟨_,_,rfl,h,Jee l⟩
theorem RdOk.self {ts:List TD} {f0:Str} {rows:List RowS} (h:RdOk ts f0 rows):∃ r ∈ rows,r = (f0,((0,1),[])):=by
 obtain ⟨r,hr,e⟩:=List.mem_map.mp ((h.mem f0).mpr (.inl rfl))
 obtain ⟨c,e1⟩:=h.en r hr
 obtain ⟨v,q,l⟩:=r
 simp only at *
 subst e
 have:=Chn.uniq h.p0 c .nil
 subst this
 exact ⟨_,hr,by rw [e1]; rfl⟩
theorem JhJ {ts:List TD} {f0:Str} {rows:List RowS} (h:RdOk ts f0 rows) (hfb:∀ s ∈ Ch.all ts,FB 200 8 s.c) (hl:(Ch.all ts).length ≤ 30) {r:RowS} (hr:r ∈ rows):FB 500 300 r.2.1∧r.2.2.length ≤ 30∧Wk (ssD ts) f0 r.2.2 r.1∧(f0 :: r.2.2.map (·.tgt)).Nodup:=by
 obtain ⟨c,e1⟩:=h.en r hr
 obtain ⟨h1,h2,h3,h4,_⟩:=h.be.chn c
 have h2:r.2.2.length ≤ 30:=by
  have : (ssD ts).length = (Ch.all ts).length:=by unfold ssD; rw [List.length_map]
  omega
 refine ⟨?_,h2,h3,h4⟩
 rw [e1]
 refine (cs_fb fun s hs => ?_).mono (by omega) (by omega)
 obtain ⟨y,hy,rfl⟩:=List.mem_map.mp (h1 s hs)
 exact hfb y hy
theorem Jhj {ts:List TD} {f0:Str} {rows:List RowS} (h:RdOk ts f0 rows) (hl:(Ch.all ts).length ≤ 30):rows.length ≤ 31:=by
 have:=sub_len (rows.map (·.1)) (f0 :: (ssD ts).map (·.tgt)) h.nd fun x hx => by
  obtain ⟨_,_,_,h2,h3,_⟩:=h.be.ex
  rcases (h.mem x).mp hx with e | ⟨s,hs⟩
  ·rw [e]; exact List.mem_cons_self
  ·obtain ⟨k1,k2,_⟩:=h3 x s hs
   exact List.mem_cons_of_mem _ (List.mem_map.mpr ⟨s,k1,k2⟩)
 rw [List.length_map,List.length_cons,List.length_map] at this
 unfold ssD at this
 rw [List.length_map] at this
 omega
def ClH (H1 H2:Hp) (fl:Addr) (Ha Hb:Hp):Prop:=∀ c u,Ha c = some u→Hb c = some u ∨ (H1 c = none∧(∃ xs,H2 c = some (.lst xs))∧c ≠ fl∧∃ xs,Hb c = some (.lst xs))
section
variable {H1 H2 Ha Hb:Hp} {fl:Addr}
theorem ClH.refl:ClH H1 H2 fl Ha Ha:=fun _ _ h => .inl h
theorem ClH.put {l:Addr} {xs:List V} (h:ClH H1 H2 fl Ha Hb) (h1:H1 l = none) (h2:H2 l = some (.lst xs)) (ne:l ≠ fl):ClH H1 H2 fl Ha (upd Hb l (.lst [])):=fun c u hc => by
 by_cases e:c = l
 ·subst e
  exact .inr ⟨h1,⟨xs,h2⟩,ne,[],Jap⟩
 ·rw [Jag e]
  exact h c u hc
theorem ClH.t (S:Same H2 Ha) (h:ClH H1 H2 fl Ha Hb):SameT Ha Hb:=fun b u t hb => by
 rcases h b u hb with e | ⟨_,⟨xs,e⟩,_⟩
 ·exact e
 ·rw [S _ _ e] at hb
  cases hb
  cases t
theorem ClH.s (S:Same H1 Ha) (h:ClH H1 H2 fl Ha Hb):Same H1 Hb:=fun b u hb => by
 rcases h b u (S _ _ hb) with e | ⟨e,_⟩
 ·exact e
 ·rw [hb] at e
  cases e
theorem ClH.at_ {u:HO} (h:ClH H1 H2 fl Ha Hb) (e:Ha fl = some u):Hb fl = some u:=by
 rcases h _ _ e with e | ⟨_,_,e,_⟩
 ·exact e
 ·exact absurd rfl e
theorem ClH.fresh {c:Addr} {u:HO} (h:ClH H1 H2 fl Ha Hb) (n:H2 c = none) (e:Ha c = some u):Hb c = some u:=by
 rcases h _ _ e with e | ⟨_,⟨xs,e⟩,_⟩
 ·exact e
 ·rw [n] at e
  cases e
theorem ClH.l {c:Addr} {xs:List V} (h:ClH H1 H2 fl Ha Hb) (e:Ha c = some (.lst xs)):∃ ys,Hb c = some (.lst ys):=by
 rcases h _ _ e with e | ⟨_,_,_,e⟩
 ·exact ⟨xs,e⟩
 ·exact e
end
end L2
namespace L2
open PySem PySem.Spec PyProof.Rows Ch
theorem JhC {α : Type}:∀ (fs:List Str) (ls:List α) (i:Nat) (f:Str) (a : α),fs.Nodup→fs[i]? = some f→ls[i]? = some a→lk (fs.zip ls) f = some a
 | [],_,i,f,a,_,h,_ => by simp at h
 | _ :: _,[],i,f,a,_,_,h => by simp at h
 | f0 :: fs,l0 :: ls,0,f,a,_,h,k => by
  cases h
  cases k
  rw [List.zip_cons_cons]
  exact if_pos rfl
 | f0 :: fs,l0 :: ls,i + 1,f,a,nd,h,k => by
  rw [List.getElem?_cons_succ] at h k
  rw [List.nodup_cons] at nd
  rw [List.zip_cons_cons]
  unfold lk
  rw [if_neg (fun (e:f0 = f) => nd.1 (e ▸ List.mem_of_getElem? h))]
  exact JhC fs ls i f a nd.2 h k
def plcR (ls:List (Int × Int)) (f:Str):Rat:=((lk (faceL.zip ls) f).map vl).getD 0
theorem Jgy {ls:List (Int × Int)} {i:Nat} {f:Str} {a:Int × Int} (h:faceL[i]? = some f) (k:ls[i]? = some a):plcR ls f = vl a:=by
 unfold plcR
 rw [JhC faceL ls i f a (by decide) h k]
 rfl
structure TG2 (ls:List (Int × Int)) (t:TD):Prop where
 ok:TOk t
 ex:∃ (i j:Nat) (li lj:Int × Int),faceL[i]? = some t.st∧faceL[j]? = some t.en∧ls[i]? = some li∧ls[j]? = some lj∧okB t.lo t.hi (addF lj (negF li)) = true
 lo:∀ u,t.lo = some u→FB 147 8 u
 hi:∀ u,t.hi = some u→FB 147 8 u
theorem TG2.fb {ls:List (Int × Int)} {t:TD} (h:TG2 ls t):∀ s ∈ Ch.steps t,FB 200 8 s.c:=fun s hs => by
 unfold Ch.steps fwd bwd at hs
 rcases List.mem_append.mp hs with hs | hs
 ·cases e:t.hi with
  | none => rw [e] at hs; cases hs
  | some u =>
   rw [e] at hs
   rw [List.mem_singleton.mp hs]
   exact (h.hi u e).mono (by decide) (by decide)
 ·cases e:t.lo with
  | none => rw [e] at hs; cases hs
  | some u =>
   rw [e] at hs
   rw [List.mem_singleton.mp hs]
   exact ((h.lo u e).neg).mono (by decide) (by decide)
theorem TG2.pot {ls:List (Int × Int)} {t:TD} (hb:∀ l ∈ ls,1 ≤ l.2) (h:TG2 ls t):∀ s ∈ Ch.steps t,plcR ls s.dst ≤ plcR ls s.src + vl s.c:=fun s hs => by
 obtain ⟨i,j,li,lj,h1,h2,h3,h4,h5⟩:=h.ex
 have b1:=hb li (List.mem_of_getElem? h3)
 have b2:=hb lj (List.mem_of_getElem? h4)
 have ba:1 ≤ (addF lj (negF li)).2:=Mth.Jbg (Int.mul_ne_zero (by omega) (by show li.2 ≠ 0; omega))
 have ea:vl (addF lj (negF li)) = vl lj - vl li:=by
  rw [JgN b2 (show 1 ≤ (negF li).2 from b1),JhN,Rat.sub_eq_add_neg]
 have p1:=Jgy h1 h3
 have p2:=Jgy h2 h4
 unfold okB at h5
 rw [Bool.and_eq_true] at h5
 unfold Ch.steps fwd bwd at hs
 rcases List.mem_append.mp hs with hs | hs
 ·cases e:t.hi with
  | none => rw [e] at hs; cases hs
  | some u =>
   rw [e] at hs h5
   rw [List.mem_singleton.mp hs]
   show plcR ls t.en ≤ plcR ls t.st + vl u
   rw [p1,p2]
   have n:¬ vl u < vl (addF lj (negF li)):=fun z => by
    have:=(Je2 (h.hi u e).b1 ba).mpr z
    have h6:(!lessF u (addF lj (negF li))) = true:=h5.2
    rw [this] at h6
    cases h6
   rw [ea] at n
   have n:=Rat.not_lt.mp n
   grind
 ·cases e:t.lo with
  | none => rw [e] at hs; cases hs
  | some u =>
   rw [e] at hs h5
   rw [List.mem_singleton.mp hs]
   show plcR ls t.st ≤ plcR ls t.en + vl (negF u)
   rw [p1,p2,JhN]
   have n:¬ vl (addF lj (negF li)) < vl u:=fun z => by
    have:=(Je2 ba (h.lo u e).b1).mpr z
    have h6:(!lessF (addF lj (negF li)) u) = true:=h5.1
    rw [this] at h6
    cases h6
   rw [ea] at n
   have n:=Rat.not_lt.mp n
   grind
theorem Jgb:∀ {ts:List TD},(ts.map (·.nm)).Nodup→((Ch.all ts).map key).Nodup
 | [],_ => by simp [Ch.all]
 | t :: ts,h => by
  rw [List.map_cons,List.nodup_cons] at h
  have e:Ch.all (t :: ts) = Ch.steps t ++ Ch.all ts:=by simp [Ch.all]
  rw [e,List.map_append]
  refine List.nodup_append.mpr ⟨?_,Jgb h.2,fun a ha b hb z => ?_⟩
  ·unfold Ch.steps fwd bwd
   cases t.hi <;> cases t.lo <;> simp [key]
  ·obtain ⟨s,hs,rfl⟩:=List.mem_map.mp ha
   obtain ⟨s',hs',rfl⟩:=List.mem_map.mp hb
   obtain ⟨t',ht',hs''⟩:=List.mem_flatMap.mp (show s' ∈ ts.flatMap Ch.steps from hs')
   have e1:=JdB hs
   have e2:=JdB hs''
   have e3:s.nm = s'.nm:=congrArg (·.1) z
   exact h.1 (List.mem_map.mpr ⟨t',ht',by rw [← e2, ← e3,e1]⟩)
theorem JiV {ts:List TD} (h:∀ (j:Nat) (t:TD),ts[j]? = some t→t.nm = ⟨#[97 + j]⟩):(ts.map (·.nm)).Nodup:=by
 refine List.pairwise_iff_getElem.mpr fun i j hi hj hij e => ?_
 rw [List.length_map] at hi hj
 rw [List.getElem_map,List.getElem_map,h i _ (List.getElem?_eq_getElem hi),h j _ (List.getElem?_eq_getElem hj)] at e
 simp at e
 omega
theorem Jhs {P:SD→Prop} {ts:List TD} (h:∀ t ∈ ts, ∀ s ∈ Ch.steps t,P s):∀ s ∈ Ch.all ts,P s:=fun s hs => by
 obtain ⟨t,ht,hs⟩:=List.mem_flatMap.mp (show s ∈ ts.flatMap Ch.steps from hs)
 exact h t ht s hs
end L2
open PySem L2
local macro_rules | `(tactic| infer_instance) => `(tactic| simp only [y85y,y4fy,y50y,y51y,y74y,y2by,y6fy,y82y,y83y,y47y,y2ey,y7by,y95y,y30y,y3cy,y75y,y2fy,y8by,y23y,y29y,y7cy,y77y,y2ay,y7dy,y79y,y5dy,y97y,y26y,y89y,y73y,y6cy,y4cy,y6by,y80y,y33y,y4ay,y71y,y4by,y72y,y49y,y70y,y90y,y67y,y63y,y92y,y94y,y91y,y93y,y25y,y6ay,y24y,true_and,if_true,if_false,Bool.not_true,Bool.not_false,Bool.false_eq_true,yby,ydy,yay,ycy,yey,y15y,y17y,y14y,y16y,y18y,y6y,y8y,y5y,y7y,y9y,y1y,y3y,y0y,y2y,y4y,y10y,y12y,yfy,y11y,y13y,y1ay,y1cy,y19y,y1by,y1dy,y1fy,y21y,y1ey,y20y,y22y,y87y,y7fy,y76y,y31y,y32y,y57y,y65y,y66y,y4ey,y88y,y8ey,y98y,y81y,y27y,V.int.injEq,V.str.injEq,List.set_cons_zero,List.set_cons_succ,List.getElem?_cons_zero,List.getElem?_cons_succ,Option.some.injEq,exists_eq_left,exists_eq_left',V.bl.injEq,Int.reduceToNat,Int.reducePow,List.append_nil,List.nil_append,List.cons_append,y59y,y5by,y2cy,y2dy,y6dy,y62y,y78y,y68y,y69y,y3dy,y3ey,y3fy,y46y,y48y,y41y,y7ey,y43y,y42y,y34y,y36y,y3ay,y40y,y44y,y54y,y56y,y5ey,y38y,y8dy,y8ay,y37y,y9ay,y52y,y53y,reduceCtorEq,decide_false,decide_true])
local macro_rules | `(tactic| contradiction) => `(tactic| simp only [y85y,y4fy,y50y,y51y,y74y,y2by,y6fy,y82y,y83y,y47y,y2ey,y7by,y95y,y30y,y3cy,y75y,y2fy,y8by,y23y,y29y,y7cy,y77y,y2ay,y7dy,y79y,y5dy,y97y,y26y,y89y,y73y,y6cy,y4cy,y6by,y80y,y33y,y4ay,y71y,y4by,y72y,y49y,y70y,y90y,y67y,y63y,y92y,y94y,y91y,y93y,y25y,y6ay,y24y,true_and,if_true,if_false,Bool.not_true,Bool.not_false,Bool.false_eq_true,yby,ydy,yay,ycy,yey,y15y,y17y,y14y,y16y,y18y,y6y,y8y,y5y,y7y,y9y,y1y,y3y,y0y,y2y,y4y,y10y,y12y,yfy,y11y,y13y,y1ay,y1cy,y19y,y1by,y1dy,y1fy,y21y,y1ey,y20y,y22y,y87y,y7fy,y76y,y31y,y32y,y57y,y65y,y66y,y4ey,y88y,y8ey,y98y,y81y,y27y,V.int.injEq,V.str.injEq,List.set_cons_zero,List.set_cons_succ,List.getElem?_cons_zero,List.getElem?_cons_succ,Option.some.injEq,exists_eq_left,exists_eq_left',V.bl.injEq,Int.reduceToNat,Int.reducePow,List.append_nil,List.nil_append,List.cons_append,y59y,y5by,y2cy,y2dy,y6dy,y62y,y78y,y68y,y69y,y3dy,y3ey,y3fy,y46y,y48y,y41y,y7ey,y43y,y42y,y34y,y36y,y3ay,y40y,y44y,y54y,y56y,y5ey,y38y,y8dy,y8ay,y37y,y9ay,y52y,y53y,reduceCtorEq,decide_false,decide_true,y4dy])
local macro_rules | `(tactic| ac_rfl) => `(tactic| simp only [y85y,y4fy,y50y,y51y,y74y,y2by,y6fy,y82y,y83y,y47y,y2ey,y7by,y95y,y30y,y3cy,y75y,y2fy,y8by,y23y,y29y,y7cy,y77y,y2ay,y7dy,y79y,y5dy,y97y,y26y,y89y,y73y,y6cy,y4cy,y6by,y80y,y33y,y4ay,y71y,y4by,y72y,y49y,y70y,y90y,y67y,y63y,y92y,y94y,y91y,y93y,y25y,y6ay,y24y,true_and,if_true,if_false,Bool.not_true,Bool.not_false,Bool.false_eq_true,yby,ydy,yay,ycy,yey,y15y,y17y,y14y,y16y,y18y,y6y,y8y,y5y,y7y,y9y,y1y,y3y,y0y,y2y,y4y,y10y,y12y,yfy,y11y,y13y,y1ay,y1cy,y19y,y1by,y1dy,y1fy,y21y,y1ey,y20y,y22y,y87y,y7fy,y76y,y31y,y32y,y57y,y65y,y66y,y4ey,y88y,y8ey,y98y,y81y,y27y,V.int.injEq,V.str.injEq,List.set_cons_zero,List.set_cons_succ,List.getElem?_cons_zero,List.getElem?_cons_succ,Option.some.injEq,exists_eq_left,exists_eq_left',V.bl.injEq,Int.reduceToNat,Int.reducePow,List.append_nil,List.nil_append,List.cons_append,y59y,y5by,y2cy,y2dy,y6dy,y62y,y78y,y68y,y69y,y3dy,y3ey,y3fy,y46y,y48y,y41y,y7ey,y43y,y42y,y34y,y36y,y3ay,y40y,y44y,y54y,y56y,y5ey,y38y,y8dy,y8ay,y37y,y9ay,y52y,y53y,reduceCtorEq,decide_false,decide_true,y86y])
local macro_rules | `(tactic| symm_saturate) => `(tactic| ((try simp only [y4fy,y50y,y51y,y74y,y2by,y6fy,y82y,y83y,y47y,y2ey,y7by,y95y,y30y,y3cy,y75y,y2fy,y8by,y23y,y29y,y7cy,y77y,y2ay,y7dy,y79y,y5dy,y97y,y26y,y89y,y73y,y6cy,y4cy,y6by,y80y,y33y,y4ay,y71y,y4by,y72y,y49y,y70y,y90y,y67y,y63y,y92y,y94y,y91y,y93y,y25y,y6ay,y24y,true_and,if_true,if_false,Bool.not_true,Bool.not_false,Bool.false_eq_true,yby,ydy,yay,ycy,yey,y15y,y17y,y14y,y16y,y18y,y6y,y8y,y5y,y7y,y9y,y1y,y3y,y0y,y2y,y4y,y10y,y12y,yfy,y11y,y13y,y1ay,y1cy,y19y,y1by,y1dy,y1fy,y21y,y1ey,y20y,y22y,y87y,y7fy,y76y,y31y,y32y,y57y,y65y,y66y,y4ey,y88y,y8ey,y98y,y81y,y27y,V.int.injEq,V.str.injEq,List.set_cons_zero,List.set_cons_succ,List.getElem?_cons_zero,List.getElem?_cons_succ,Option.some.injEq,exists_eq_left,exists_eq_left',V.bl.injEq,Int.reduceToNat,Int.reducePow,List.append_nil,List.nil_append,List.cons_append,y59y,y5by,y2cy,y2dy,y6dy,y62y,y78y,y68y,y69y,y3dy,y3ey,y3fy,y46y,y48y,y41y,y7ey,y43y,y42y,y34y,y36y,y3ay,y40y,y44y,y54y,y56y,y5ey,y38y,y8dy,y8ay,y37y,y9ay,y52y,y53y,reduceCtorEq,decide_false,decide_true,y4dy,y86y]); repeat ((first | (with_reducible refine JdM fun _ _ => ?_) | (with_reducible refine Nxt.go (by assumption) ?_)); (try simp only [y4fy,y50y,y51y,y74y,y2by,y6fy,y82y,y83y,y47y,y2ey,y7by,y95y,y30y,y3cy,y75y,y2fy,y8by,y23y,y29y,y7cy,y77y,y2ay,y7dy,y79y,y5dy,y97y,y26y,y89y,y73y,y6cy,y4cy,y6by,y80y,y33y,y4ay,y71y,y4by,y72y,y49y,y70y,y90y,y67y,y63y,y92y,y94y,y91y,y93y,y25y,y6ay,y24y,true_and,if_true,if_false,Bool.not_true,Bool.not_false,Bool.false_eq_true,yby,ydy,yay,ycy,yey,y15y,y17y,y14y,y16y,y18y,y6y,y8y,y5y,y7y,y9y,y1y,y3y,y0y,y2y,y4y,y10y,y12y,yfy,y11y,y13y,y1ay,y1cy,y19y,y1by,y1dy,y1fy,y21y,y1ey,y20y,y22y,y87y,y7fy,y76y,y31y,y32y,y57y,y65y,y66y,y4ey,y88y,y8ey,y98y,y81y,y27y,V.int.injEq,V.str.injEq,List.set_cons_zero,List.set_cons_succ,List.getElem?_cons_zero,List.getElem?_cons_succ,Option.some.injEq,exists_eq_left,exists_eq_left',V.bl.injEq,Int.reduceToNat,Int.reducePow,List.append_nil,List.nil_append,List.cons_append,y59y,y5by,y2cy,y2dy,y6dy,y62y,y78y,y68y,y69y,y3dy,y3ey,y3fy,y46y,y48y,y41y,y7ey,y43y,y42y,y34y,y36y,y3ay,y40y,y44y,y54y,y56y,y5ey,y38y,y8dy,y8ay,y37y,y9ay,y52y,y53y,reduceCtorEq,decide_false,decide_true,y4dy,y86y]))))
local macro_rules | `(tactic| exfalso) => `(tactic| ((try simp only [y4fy,y50y,y51y,y74y,y2by,y6fy,y82y,y83y,y47y,y2ey,y7by,y95y,y30y,y3cy,y75y,y2fy,y8by,y23y,y29y,y7cy,y77y,y2ay,y7dy,y79y,y5dy,y97y,y26y,y89y,y73y,y6cy,y4cy,y6by,y80y,y33y,y4ay,y71y,y4by,y72y,y49y,y70y,y90y,y67y,y63y,y92y,y94y,y91y,y93y,y25y,y6ay,y24y,true_and,if_true,if_false,Bool.not_true,Bool.not_false,Bool.false_eq_true,yby,ydy,yay,ycy,yey,y15y,y17y,y14y,y16y,y18y,y6y,y8y,y5y,y7y,y9y,y1y,y3y,y0y,y2y,y4y,y10y,y12y,yfy,y11y,y13y,y1ay,y1cy,y19y,y1by,y1dy,y1fy,y21y,y1ey,y20y,y22y,y87y,y7fy,y76y,y31y,y32y,y57y,y65y,y66y,y4ey,y88y,y8ey,y98y,y81y,y27y,V.int.injEq,V.str.injEq,List.set_cons_zero,List.set_cons_succ,List.getElem?_cons_zero,List.getElem?_cons_succ,Option.some.injEq,exists_eq_left,exists_eq_left',V.bl.injEq,Int.reduceToNat,Int.reducePow,List.append_nil,List.nil_append,List.cons_append,y59y,y5by,y2cy,y2dy,y6dy,y62y,y78y,y68y,y69y,y3dy,y3ey,y3fy,y46y,y48y,y41y,y7ey,y43y,y42y,y34y,y36y,y3ay,y40y,y44y,y54y,y56y,y5ey,y38y,y8dy,y8ay,y37y,y9ay,y52y,y53y,reduceCtorEq,decide_false,decide_true,y86y]); repeat ((first | (with_reducible refine JdM fun _ _ => ?_) | (with_reducible refine Nxt.go (by assumption) ?_)); (try simp only [y4fy,y50y,y51y,y74y,y2by,y6fy,y82y,y83y,y47y,y2ey,y7by,y95y,y30y,y3cy,y75y,y2fy,y8by,y23y,y29y,y7cy,y77y,y2ay,y7dy,y79y,y5dy,y97y,y26y,y89y,y73y,y6cy,y4cy,y6by,y80y,y33y,y4ay,y71y,y4by,y72y,y49y,y70y,y90y,y67y,y63y,y92y,y94y,y91y,y93y,y25y,y6ay,y24y,true_and,if_true,if_false,Bool.not_true,Bool.not_false,Bool.false_eq_true,yby,ydy,yay,ycy,yey,y15y,y17y,y14y,y16y,y18y,y6y,y8y,y5y,y7y,y9y,y1y,y3y,y0y,y2y,y4y,y10y,y12y,yfy,y11y,y13y,y1ay,y1cy,y19y,y1by,y1dy,y1fy,y21y,y1ey,y20y,y22y,y87y,y7fy,y76y,y31y,y32y,y57y,y65y,y66y,y4ey,y88y,y8ey,y98y,y81y,y27y,V.int.injEq,V.str.injEq,List.set_cons_zero,List.set_cons_succ,List.getElem?_cons_zero,List.getElem?_cons_succ,Option.some.injEq,exists_eq_left,exists_eq_left',V.bl.injEq,Int.reduceToNat,Int.reducePow,List.append_nil,List.nil_append,List.cons_append,y59y,y5by,y2cy,y2dy,y6dy,y62y,y78y,y68y,y69y,y3dy,y3ey,y3fy,y46y,y48y,y41y,y7ey,y43y,y42y,y34y,y36y,y3ay,y40y,y44y,y54y,y56y,y5ey,y38y,y8dy,y8ay,y37y,y9ay,y52y,y53y,reduceCtorEq,decide_false,decide_true,y86y]))))
local macro_rules | `(tactic| and_intros) => `(tactic| ((try simp only [y4fy,y50y,y51y,y74y,y2by,y6fy,y82y,y83y,y47y,y2ey,y7by,y95y,y30y,y3cy,y75y,y2fy,y8by,y23y,y29y,y7cy,y77y,y2ay,y7dy,y79y,y5dy,y97y,y26y,y89y,y73y,y6cy,y4cy,y6by,y80y,y33y,y4ay,y71y,y4by,y72y,y49y,y70y,y90y,y67y,y63y,y92y,y94y,y91y,y93y,y25y,y6ay,y24y,true_and,if_true,if_false,Bool.not_true,Bool.not_false,Bool.false_eq_true,yby,ydy,yay,ycy,yey,y15y,y17y,y14y,y16y,y18y,y6y,y8y,y5y,y7y,y9y,y1y,y3y,y0y,y2y,y4y,y10y,y12y,yfy,y11y,y13y,y1ay,y1cy,y19y,y1by,y1dy,y1fy,y21y,y1ey,y20y,y22y,y87y,y7fy,y76y,y31y,y32y,y57y,y65y,y66y,y4ey,y88y,y8ey,y98y,y81y,y27y,V.int.injEq,V.str.injEq,List.set_cons_zero,List.set_cons_succ,List.getElem?_cons_zero,List.getElem?_cons_succ,Option.some.injEq,exists_eq_left,exists_eq_left',V.bl.injEq,Int.reduceToNat,Int.reducePow,List.append_nil,List.nil_append,List.cons_append,y59y,y5by,y2cy,y2dy,y6dy,y62y,y78y,y68y,y69y,y3dy,y3ey,y3fy,y46y,y48y,y41y,y7ey,y43y,y42y,y34y,y36y,y3ay,y40y,y44y,y54y,y56y,y5ey,y38y,y8dy,y8ay,y37y,y9ay,y52y,y53y,reduceCtorEq,decide_false,decide_true,y4dy]); repeat ((first | (with_reducible refine JdM fun _ _ => ?_) | (with_reducible refine Nxt.go (by assumption) ?_)); (try simp only [y4fy,y50y,y51y,y74y,y2by,y6fy,y82y,y83y,y47y,y2ey,y7by,y95y,y30y,y3cy,y75y,y2fy,y8by,y23y,y29y,y7cy,y77y,y2ay,y7dy,y79y,y5dy,y97y,y26y,y89y,y73y,y6cy,y4cy,y6by,y80y,y33y,y4ay,y71y,y4by,y72y,y49y,y70y,y90y,y67y,y63y,y92y,y94y,y91y,y93y,y25y,y6ay,y24y,true_and,if_true,if_false,Bool.not_true,Bool.not_false,Bool.false_eq_true,yby,ydy,yay,ycy,yey,y15y,y17y,y14y,y16y,y18y,y6y,y8y,y5y,y7y,y9y,y1y,y3y,y0y,y2y,y4y,y10y,y12y,yfy,y11y,y13y,y1ay,y1cy,y19y,y1by,y1dy,y1fy,y21y,y1ey,y20y,y22y,y87y,y7fy,y76y,y31y,y32y,y57y,y65y,y66y,y4ey,y88y,y8ey,y98y,y81y,y27y,V.int.injEq,V.str.injEq,List.set_cons_zero,List.set_cons_succ,List.getElem?_cons_zero,List.getElem?_cons_succ,Option.some.injEq,exists_eq_left,exists_eq_left',V.bl.injEq,Int.reduceToNat,Int.reducePow,List.append_nil,List.nil_append,List.cons_append,y59y,y5by,y2cy,y2dy,y6dy,y62y,y78y,y68y,y69y,y3dy,y3ey,y3fy,y46y,y48y,y41y,y7ey,y43y,y42y,y34y,y36y,y3ay,y40y,y44y,y54y,y56y,y5ey,y38y,y8dy,y8ay,y37y,y9ay,y52y,y53y,reduceCtorEq,decide_false,decide_true,y4dy]))))
local macro_rules | `(tactic| nofun) => `(tactic| ((try simp only [y4fy,y50y,y51y,y74y,y2by,y6fy,y82y,y83y,y47y,y2ey,y7by,y95y,y30y,y3cy,y75y,y2fy,y8by,y23y,y29y,y7cy,y77y,y2ay,y7dy,y79y,y5dy,y97y,y26y,y89y,y73y,y6cy,y4cy,y6by,y80y,y33y,y4ay,y71y,y4by,y72y,y49y,y70y,y90y,y67y,y63y,y92y,y94y,y91y,y93y,y25y,y6ay,y24y,true_and,if_true,if_false,Bool.not_true,Bool.not_false,Bool.false_eq_true,yby,ydy,yay,ycy,yey,y15y,y17y,y14y,y16y,y18y,y6y,y8y,y5y,y7y,y9y,y1y,y3y,y0y,y2y,y4y,y10y,y12y,yfy,y11y,y13y,y1ay,y1cy,y19y,y1by,y1dy,y1fy,y21y,y1ey,y20y,y22y,y87y,y7fy,y76y,y31y,y32y,y57y,y65y,y66y,y4ey,y88y,y8ey,y98y,y81y,y27y,V.int.injEq,V.str.injEq,List.set_cons_zero,List.set_cons_succ,List.getElem?_cons_zero,List.getElem?_cons_succ,Option.some.injEq,exists_eq_left,exists_eq_left',V.bl.injEq,Int.reduceToNat,Int.reducePow,List.append_nil,List.nil_append,List.cons_append,y59y,y5by,y2cy,y2dy,y6dy,y62y,y78y,y68y,y69y,y3dy,y3ey,y3fy,y46y,y48y,y41y,y7ey,y43y,y42y,y34y,y36y,y3ay,y40y,y44y,y54y,y56y,y5ey,y38y,y8dy,y8ay,y37y,y9ay,y52y,y53y,reduceCtorEq,decide_false,decide_true]); repeat ((first | (with_reducible refine JdM fun _ _ => ?_) | (with_reducible refine Nxt.go (by assumption) ?_)); (try simp only [y4fy,y50y,y51y,y74y,y2by,y6fy,y82y,y83y,y47y,y2ey,y7by,y95y,y30y,y3cy,y75y,y2fy,y8by,y23y,y29y,y7cy,y77y,y2ay,y7dy,y79y,y5dy,y97y,y26y,y89y,y73y,y6cy,y4cy,y6by,y80y,y33y,y4ay,y71y,y4by,y72y,y49y,y70y,y90y,y67y,y63y,y92y,y94y,y91y,y93y,y25y,y6ay,y24y,true_and,if_true,if_false,Bool.not_true,Bool.not_false,Bool.false_eq_true,yby,ydy,yay,ycy,yey,y15y,y17y,y14y,y16y,y18y,y6y,y8y,y5y,y7y,y9y,y1y,y3y,y0y,y2y,y4y,y10y,y12y,yfy,y11y,y13y,y1ay,y1cy,y19y,y1by,y1dy,y1fy,y21y,y1ey,y20y,y22y,y87y,y7fy,y76y,y31y,y32y,y57y,y65y,y66y,y4ey,y88y,y8ey,y98y,y81y,y27y,V.int.injEq,V.str.injEq,List.set_cons_zero,List.set_cons_succ,List.getElem?_cons_zero,List.getElem?_cons_succ,Option.some.injEq,exists_eq_left,exists_eq_left',V.bl.injEq,Int.reduceToNat,Int.reducePow,List.append_nil,List.nil_append,List.cons_append,y59y,y5by,y2cy,y2dy,y6dy,y62y,y78y,y68y,y69y,y3dy,y3ey,y3fy,y46y,y48y,y41y,y7ey,y43y,y42y,y34y,y36y,y3ay,y40y,y44y,y54y,y56y,y5ey,y38y,y8dy,y8ay,y37y,y9ay,y52y,y53y,reduceCtorEq,decide_false,decide_true]))))
local macro_rules | `(tactic| simpa only [$xs,*]) => `(tactic| simp only [y85y,y4fy,y50y,y51y,y74y,y2by,y6fy,y82y,y83y,y47y,y2ey,y7by,y95y,y30y,y3cy,y75y,y2fy,y8by,y23y,y29y,y7cy,y77y,y2ay,y7dy,y79y,y5dy,y97y,y26y,y89y,y73y,y6cy,y4cy,y6by,y80y,y33y,y4ay,y71y,y4by,y72y,y49y,y70y,y90y,y67y,y63y,y92y,y94y,y91y,y93y,y25y,y6ay,y24y,true_and,if_true,if_false,Bool.not_true,Bool.not_false,Bool.false_eq_true,yby,ydy,yay,ycy,yey,y15y,y17y,y14y,y16y,y18y,y6y,y8y,y5y,y7y,y9y,y1y,y3y,y0y,y2y,y4y,y10y,y12y,yfy,y11y,y13y,y1ay,y1cy,y19y,y1by,y1dy,y1fy,y21y,y1ey,y20y,y22y,y87y,y7fy,y76y,y31y,y32y,y57y,y65y,y66y,y4ey,y88y,y8ey,y98y,y81y,y27y,V.int.injEq,V.str.injEq,List.set_cons_zero,List.set_cons_succ,List.getElem?_cons_zero,List.getElem?_cons_succ,Option.some.injEq,exists_eq_left,exists_eq_left',V.bl.injEq,Int.reduceToNat,Int.reducePow,List.append_nil,List.nil_append,List.cons_append,y59y,y5by,y2cy,y2dy,y6dy,y62y,y78y,y68y,y69y,y3dy,y3ey,y3fy,y46y,y48y,y41y,y7ey,y43y,y42y,y34y,y36y,y3ay,y40y,y44y,y54y,y56y,y5ey,y38y,y8dy,y8ay,y37y,y9ay,y52y,y53y,reduceCtorEq,decide_false,decide_true, $xs,*])
namespace Prg
open PySem L2 Ch
def top (i:Nat):Stmt:=PySem.Challenge.pw_slackchain_k23_least_sums_reached.main.body.getD i (.Pass ⟨0,0,0,0⟩)
structure Adr where
 NoTie:Addr
 Tie:Addr
 Free:Addr
 AtLeast:Addr
 AtMost:Addr
 Just:Addr
 Between:Addr
 Scale:Addr
 Step:Addr
 SMALL_LETTERS:Value
 LONGEST_NAME:Value
 ZERO:Addr
structure TieC (K:PySem.W.Frag) (C:Addr):Prop where
 cls:Cls K C
 n1:JaW K C "name"
 n2:JaW K C "start"
 n3:JaW K C "end"
 n4:JaW K C "least"
 n5:JaW K C "greatest"
def IsTie (Ad:Adr) (C:Addr):Prop:=C = Ad.Free ∨ C = Ad.AtLeast ∨ C = Ad.AtMost ∨ C = Ad.Just ∨ C = Ad.Between
def TieV (H:Hp) (v:V) (C:Addr) (n s e l g:V):Prop:=∃ p dx,v = .ref p∧H p = some (.ins C dx (tieF n s e l g))
def kindC (Ad:Adr) (l g:D):Addr:=if nonD l then (if nonD g then Ad.Free else Ad.AtMost) else if nonD g then Ad.AtLeast else if eqD l g then Ad.Just else Ad.Between
theorem JeB (Ad:Adr) (l g:D):IsTie Ad (kindC Ad l g):=by
 unfold kindC IsTie
 split
 ·split
  ·exact .inl rfl
  ·exact .inr (.inr (.inl rfl))
 ·split
  ·exact .inr (.inl rfl)
  ·split
   ·exact .inr (.inr (.inr (.inl rfl)))
   ·exact .inr (.inr (.inr (.inr rfl)))
structure JiB (K:PySem.W.Frag) (C:Addr):Prop where
 cls:Cls K C
 n1:JaW K C "bottom"
 n2:JaW K C "factors"
def Jep (Ad:Adr) (C:Addr):Prop:=C = Ad.Scale
structure StepC (K:PySem.W.Frag) (C:Addr):Prop where
 cls:Cls K C
 n1:JaW K C "source"
 n2:JaW K C "target"
 n3:JaW K C "cost"
 n4:JaW K C "whole"
 n5:JaW K C "pair"
def JiA (Ad:Adr) (C:Addr):Prop:=C = Ad.Step
theorem SqT.put {K:PySem.W.Frag} {H:Hp} {x a C dx:Addr} {fs fs':List (Str × V)} {xs:List V} (hx:H x = some (.ins C dx fs)) (h:SqT K H a xs):SqT K (upd H x (.ins C dx fs')) a xs:=by
 rcases h with (h | ⟨o,h⟩) | h
 ·exact .inl (.inl (by rw [Jag (ne_of h hx (by intro z; cases z))]; exact h))
 ·exact .inl (.inr ⟨o,by rw [Jag (ne_of h hx (by intro z; cases z))]; exact h⟩)
 ·exact .inr h
def partF (n s e z m w:V):List (Str × V):=[("name",n),("start",s),("end",e),("size",z),("most",m),("weight",w)]
def gapF (n s e l g:V):List (Str × V):=[("name",n),("one",s),("other",e),("low",l),("high",g)]
theorem TieV.same {H H':Hp} {v:V} {C:Addr} {n s e l g:V} (S:Same H H') (h:TieV H v C n s e l g):TieV H' v C n s e l g:=by
 obtain ⟨p,dx,a,b⟩:=h
 exact ⟨p,dx,a,S _ _ b⟩
structure Txt (K:PySem.W.Frag) (mg:Str→Option Value) (Ad:Adr):Prop where
 BbH:mg "abs" = none
 Baf:mg "isinstance" = none
 Bbf:mg "len" = none
 BbR:mg "all" = none
 BbS:mg "int" = none
 BbQ:mg "bool" = none
 Bbn:mg "tuple" = none
 BbT:mg "str" = none
 BbB:mg "range" = none
 BbA:mg "list" = none
 n_reversed:mg "reversed" = none
 Bbo:mg "sorted" = none
 n_set:mg "set" = none
 m_NoTie:mg "NoTie" = some (.ref Ad.NoTie)
 m_Tie:mg "Tie" = some (.ref Ad.Tie)
 m_Free:mg "Free" = some (.ref Ad.Free)
 m_AtLeast:mg "AtLeast" = some (.ref Ad.AtLeast)
 m_AtMost:mg "AtMost" = some (.ref Ad.AtMost)
 m_Just:mg "Just" = some (.ref Ad.Just)
 m_Between:mg "Between" = some (.ref Ad.Between)
 BbU:mg "Scale" = some (.ref Ad.Scale)
 m_Step:mg "Step" = some (.ref Ad.Step)
 Bbg:mg "SMALL_LETTERS" = some Ad.SMALL_LETTERS
 Bbh:RelV (.str "abcdefghijklmnopqrstuvwxyz") Ad.SMALL_LETTERS
 Bbj:mg "LONGEST_NAME" = some Ad.LONGEST_NAME
 Bbk:RelV (.int 8) Ad.LONGEST_NAME
 BbK:mg "ZERO" = some (.ref Ad.ZERO)
 BbL:RelV (.ref Ad.ZERO) (.ref Ad.ZERO)
 BbF:∀ H:Hp,SqT K H Ad.ZERO [.int 0, .int 1]
 x_NoTie:PySem.W.excIn K Ad.NoTie [.type "ValueError", .type "Exception", .type "BaseException", .type "object"] "ValueError.__new__" = true
 cl1_Free:PySem.W.plainGet K Ad.Free Str.empty = true
 cl2_Free:PySem.W.hasDictIn K Ad.Free = true
 cl3_Free:PySem.W.plainOver K Ad.Free = true
 cl4_Free:PySem.W.findIn K (.ref Ad.Free) "__setattr__" = some (some (.builtin "object.__setattr__"))
 na1_Free:PySem.W.findIn K (.ref Ad.Free) "name" = some none
 na2_Free:PySem.W.findIn K (.ref Ad.Free) "start" = some none
 na3_Free:PySem.W.findIn K (.ref Ad.Free) "end" = some none
 na4_Free:PySem.W.findIn K (.ref Ad.Free) "least" = some none
 na5_Free:PySem.W.findIn K (.ref Ad.Free) "greatest" = some none
 cl1_AtLeast:PySem.W.plainGet K Ad.AtLeast Str.empty = true
 cl2_AtLeast:PySem.W.hasDictIn K Ad.AtLeast = true
 cl3_AtLeast:PySem.W.plainOver K Ad.AtLeast = true
 cl4_AtLeast:PySem.W.findIn K (.ref Ad.AtLeast) "__setattr__" = some (some (.builtin "object.__setattr__"))
 na1_AtLeast:PySem.W.findIn K (.ref Ad.AtLeast) "name" = some none
 na2_AtLeast:PySem.W.findIn K (.ref Ad.AtLeast) "start" = some none
 na3_AtLeast:PySem.W.findIn K (.ref Ad.AtLeast) "end" = some none
 na4_AtLeast:PySem.W.findIn K (.ref Ad.AtLeast) "least" = some none
 na5_AtLeast:PySem.W.findIn K (.ref Ad.AtLeast) "greatest" = some none
 cl1_AtMost:PySem.W.plainGet K Ad.AtMost Str.empty = true
 cl2_AtMost:PySem.W.hasDictIn K Ad.AtMost = true
 cl3_AtMost:PySem.W.plainOver K Ad.AtMost = true
 cl4_AtMost:PySem.W.findIn K (.ref Ad.AtMost) "__setattr__" = some (some (.builtin "object.__setattr__"))
 na1_AtMost:PySem.W.findIn K (.ref Ad.AtMost) "name" = some none
 na2_AtMost:PySem.W.findIn K (.ref Ad.AtMost) "start" = some none
 na3_AtMost:PySem.W.findIn K (.ref Ad.AtMost) "end" = some none
 na4_AtMost:PySem.W.findIn K (.ref Ad.AtMost) "least" = some none
 na5_AtMost:PySem.W.findIn K (.ref Ad.AtMost) "greatest" = some none
 cl1_Just:PySem.W.plainGet K Ad.Just Str.empty = true
 cl2_Just:PySem.W.hasDictIn K Ad.Just = true
 cl3_Just:PySem.W.plainOver K Ad.Just = true
 cl4_Just:PySem.W.findIn K (.ref Ad.Just) "__setattr__" = some (some (.builtin "object.__setattr__"))
 na1_Just:PySem.W.findIn K (.ref Ad.Just) "name" = some none
 na2_Just:PySem.W.findIn K (.ref Ad.Just) "start" = some none
 na3_Just:PySem.W.findIn K (.ref Ad.Just) "end" = some none
 na4_Just:PySem.W.findIn K (.ref Ad.Just) "least" = some none
 na5_Just:PySem.W.findIn K (.ref Ad.Just) "greatest" = some none
 cl1_Between:PySem.W.plainGet K Ad.Between Str.empty = true
 cl2_Between:PySem.W.hasDictIn K Ad.Between = true
 cl3_Between:PySem.W.plainOver K Ad.Between = true
 cl4_Between:PySem.W.findIn K (.ref Ad.Between) "__setattr__" = some (some (.builtin "object.__setattr__"))
 na1_Between:PySem.W.findIn K (.ref Ad.Between) "name" = some none
 na2_Between:PySem.W.findIn K (.ref Ad.Between) "start" = some none
 na3_Between:PySem.W.findIn K (.ref Ad.Between) "end" = some none
 na4_Between:PySem.W.findIn K (.ref Ad.Between) "least" = some none
 na5_Between:PySem.W.findIn K (.ref Ad.Between) "greatest" = some none
 BaR:PySem.W.plainGet K Ad.Scale Str.empty = true
 BaS:PySem.W.hasDictIn K Ad.Scale = true
 BaT:PySem.W.plainOver K Ad.Scale = true
 BaU:PySem.W.findIn K (.ref Ad.Scale) "__setattr__" = some (some (.builtin "object.__setattr__"))
 BaV:PySem.W.findIn K (.ref Ad.Scale) "bottom" = some none
 BaW:PySem.W.findIn K (.ref Ad.Scale) "factors" = some none
 cl1_Step:PySem.W.plainGet K Ad.Step Str.empty = true
 cl2_Step:PySem.W.hasDictIn K Ad.Step = true
 cl3_Step:PySem.W.plainOver K Ad.Step = true
 cl4_Step:PySem.W.findIn K (.ref Ad.Step) "__setattr__" = some (some (.builtin "object.__setattr__"))
 na1_Step:PySem.W.findIn K (.ref Ad.Step) "source" = some none
 na2_Step:PySem.W.findIn K (.ref Ad.Step) "target" = some none
 na3_Step:PySem.W.findIn K (.ref Ad.Step) "cost" = some none
 na4_Step:PySem.W.findIn K (.ref Ad.Step) "whole" = some none
 na5_Step:PySem.W.findIn K (.ref Ad.Step) "pair" = some none
 tie:∀ C,IsTie Ad C→TieC K C
 Bbp:∀ C,Jep Ad C→JiB K C
 c_Step:∀ C,JiA Ad C→StepC K C
def Jjo (dl dg:D) (a b:Int):Bool:=!lessD (.tup [.int a, .int b]) dl && !lessD dg (.tup [.int a, .int b])
def negD:D→D
 | .tup [.int a, .int b] => .tup [.int (-a), .int b]
 | d => d
def JcW (ds de dl dg:D):List D:=(if nonD dg then [] else [.tup [ds,de,dg, .bl true]]) ++ (if nonD dl then [] else [.tup [de,ds,negD dl, .bl false]])
structure Bnd (K:PySem.W.Frag) (H:Hp) (d:D) (v:V):Prop where
 rep:Rep K H d v
 ok:JbD d = true
 sz:szD d
theorem Bnd.same {K:PySem.W.Frag} {H H':Hp} {d:D} {v:V} (S:Same H H') (b:Bnd K H d v):Bnd K H' d v:=⟨b.rep.same S,b.ok,b.sz⟩
theorem Bnd.frac {K:PySem.W.Frag} {H:Hp} {d:D} {v:V} (b:Bnd K H d v) (h:nonD d = false):∃ x y,d = .tup [.int x, .int y]∧1 ≤ y∧Mth.g x y = 1∧FrV K H v x y∧Mth.Sz 4000 x∧Mth.Sz 4000 y:=by
 have f:fracB d = true:=by have:=b.ok; cases d <;> first | exact this | (simp [nonD] at h)
 obtain ⟨x,y,rfl,h1,h2⟩:=Jbn f
 have sz:=b.sz
 simp only [szD,szL] at sz
 exact ⟨x,y,rfl,h1,h2,FrV.of_rep b.rep,sz.1,sz.2.1⟩
section
variable {K:PySem.W.Frag} {H:Hp}
theorem repS {z:Str}:Rep K H (.str z) (.str z):=by simp only [Rep]
end
theorem Jhp (t:TD):JcW (.str t.st) (.str t.en) (bD t.lo) (bD t.hi) = (Ch.steps t).map pD:=by
 unfold JcW Ch.steps fwd bwd
 cases t.lo <;> cases t.hi <;> simp [bD,frD,nonD,negD,pD]
theorem Jht {K:PySem.W.Frag} {H:Hp} {o:Option (Int × Int)} {v:V} (h:BV K H o v) (k:∀ a,o = some a→FOk 600 a):Bnd K H (bD o) v:=⟨h.rep,(bD_ok k).1,(bD_ok k).2⟩
def SCK (Ad:Adr) (H:Hp) (x:Addr) (b:Int) (fs:List Int):Prop:=∃ dx fl,H x = some (.ins Ad.Scale dx [("bottom", .int b),("factors", .ref fl)])∧H fl = some (.lst (fs.map V.int))∧Scl b fs∧Mth.Sz 2000 b∧fs.length ≤ 30
theorem SCK.same {Ad:Adr} {H H':Hp} {x:Addr} {b:Int} {fs:List Int} (S:Same H H'):SCK Ad H x b fs→SCK Ad H' x b fs:=fun ⟨dx,fl,h1,h2,h3⟩ => ⟨dx,fl,S _ _ h1,S _ _ h2,h3⟩
def TOb (K:PySem.W.Frag) (Ad:Adr) (H:Hp) (t:TD) (v:V):Prop:=∃ vl vg,TieV H v (kindC Ad (bD t.lo) (bD t.hi)) (.str t.nm) (.str t.st) (.str t.en) vl vg∧BV K H t.lo vl∧BV K H t.hi vg
theorem TOb.same {K:PySem.W.Frag} {Ad:Adr} {H H':Hp} {t:TD} {v:V} (S:Same H H'):TOb K Ad H t v→TOb K Ad H' t v:=by
 rintro ⟨vl,vg,h1,h2,h3⟩
 exact ⟨vl,vg,h1.same S,h2.sameT S.t,h3.sameT S.t⟩
def SRV (K:PySem.W.Frag) (H:Hp) (s:SD) (x:V):Prop:=∃ b v,x = .ref b∧SqT K H b [.str s.nm,v]∧PV K H s v
theorem SRV.sameT {K:PySem.W.Frag} {H H':Hp} {s:SD} {x:V} (S:SameT H H'):SRV K H s x→SRV K H' s x:=by
 rintro ⟨b,v,h1,h2,h3⟩
 exact ⟨b,v,h1,h2.sameT S,h3.sameT S⟩
def SOV (K:PySem.W.Frag) (Ad:Adr) (b:Int) (H:Hp) (s:SD) (x:V):Prop:=∃ p dx vc pr,x = .ref p∧H p = some (.ins Ad.Step dx [("source", .str s.src),("target", .str s.dst),("cost",vc),("whole", .int (s.c.1 * b.fdiv s.c.2)),("pair", .ref pr)])∧FrV K H vc s.c.1 s.c.2∧H pr = some (.tup [.str s.nm, .bl s.fw])
theorem SOV.same {K:PySem.W.Frag} {Ad:Adr} {b:Int} {H H':Hp} {s:SD} {x:V} (S:Same H H'):SOV K Ad b H s x→SOV K Ad b H' s x:=by
 rintro ⟨p,dx,vc,pr,h1,h2,h3,h4⟩
 exact ⟨p,dx,vc,pr,h1,S _ _ h2,h3.same S,S _ _ h4⟩
def SOS (K:PySem.W.Frag) (Ad:Adr) (H:Hp) (s:SpS) (x:V):Prop:=∃ p dx vc pr,x = .ref p∧H p = some (.ins Ad.Step dx [("source", .str s.src),("target", .str s.tgt),("cost",vc),("whole", .int s.wh),("pair", .ref pr)])∧FrV K H vc s.cost.1 s.cost.2∧H pr = some (.tup [.str s.nm, .bl s.fw])
theorem SOS.same {K:PySem.W.Frag} {Ad:Adr} {H H':Hp} {s:SpS} {x:V} (S:Same H H'):SOS K Ad H s x→SOS K Ad H' s x:=by
 rintro ⟨p,dx,vc,pr,h1,h2,h3,h4⟩
 exact ⟨p,dx,vc,pr,h1,S _ _ h2,h3.same S,S _ _ h4⟩
def RI (a:Int) (v:V):Prop:=v = .int a
def chV:Option Str→V
 | none => .non
 | some f => .str f
def RT (K:PySem.W.Frag) (H0 H:Hp) (e:(Int × Int) × List SpS) (v:V):Prop:=∃ p qv l xs,v = .ref p∧SqT K H p [qv, .ref l]∧FrV K H qv e.1.1 e.1.2∧H l = some (.lst xs)∧All2 (CV H) (e.2.map fun s => (s.nm,s.fw)) xs∧H0 l = none
theorem RT.same {K:PySem.W.Frag} {H0 H H':Hp} {e:(Int × Int) × List SpS} {v:V} (S:Same H H'):RT K H0 H e v→RT K H0 H' e v:=by
 rintro ⟨p,qv,l,xs,h1,h2,h3,h4,h5,h6⟩
 exact ⟨p,qv,l,xs,h1,h2.same S,h3.same S,S _ _ h4,(h5.mono fun _ _ z => z.sameT S.t),h6⟩
theorem RT.putL {K:PySem.W.Frag} {H0 H H':Hp} {e:(Int × Int) × List SpS} {v:V} {a:Addr} {o:HO} {kv:List (Key × V)} (u:upd H a o = H') (h:H a = some (.dK kv)):RT K H0 H e v→RT K H0 H' e v:=by
 rintro ⟨p,qv,l,xs,h1,h2,h3,h4,h5,h6⟩
 have T:SameT H H':=SameT.put u h rfl
 have n:l ≠ a:=fun z => by rw [z,h] at h4; cases h4
 exact ⟨p,qv,l,xs,h1,h2.sameT T,h3.sameT T,by rw [← u,Jag n]; exact h4,(h5.mono fun _ _ z => z.sameT T),h6⟩
theorem Jjc {K:PySem.W.Frag} {Ad:Adr} {H:Hp} {b:Int} {s:SD} {x:V} (h:SOV K Ad b H s x):SOS K Ad H (toS b s) x:=h
theorem JgH {K:PySem.W.Frag} {Ad:Adr} {H:Hp} {b:Int}:∀ {ss:List SD} {xs:List V},All2 (SOV K Ad b H) ss xs→All2 (SOS K Ad H) (ss.map (toS b)) xs
 | [],_,h => h
 | s :: ss,_,⟨x,r,e,h1,h2⟩ => ⟨x,r,e,Jjc h1,JgH h2⟩
def RR (K:PySem.W.Frag) (H0 H:Hp) (r:RowS) (v:V):Prop:=∃ p qv l xs,v = .ref p∧H p = some (.tup [.str r.1,qv, .ref l])∧FrV K H qv r.2.1.1 r.2.1.2∧H l = some (.lst xs)∧All2 (CV H) (r.2.2.map fun s => (s.nm,s.fw)) xs∧H0 l = none
theorem RR.same {K:PySem.W.Frag} {H0 H H':Hp} {e:RowS} {v:V} (S:Same H H'):RR K H0 H e v→RR K H0 H' e v:=by
 rintro ⟨p,qv,l,xs,h1,h2,h3,h4,h5,h6⟩
 exact ⟨p,qv,l,xs,h1,S _ _ h2,h3.same S,S _ _ h4,(h5.mono fun _ _ z => z.sameT S.t),h6⟩
theorem RR.rep {K:PySem.W.Frag} {H0 H:Hp} {r:RowS} {v:V} (h:RR K H0 H r v):Rep K H (rowD r) v:=by
 obtain ⟨p,qv,l,xs,rfl,h2,h3,h4,h5,_⟩:=h
 have hr:RepL K H (r.2.2.map fun s => prD (s.nm,s.fw)) xs:=by
  have:=h5.repL (f:=prD) (K:=K) fun c x z => z.rep
  rwa [List.map_map] at this
 have h3':=h3.rep
 simp only [rowD,Rep,RepL,frD] at h3' ⊢
 exact ⟨_,_,rfl,SqT.of h2,_,_,rfl,rfl,_,_,rfl,h3',_,_,rfl,⟨_,_,rfl,SqL.of h4,hr⟩,rfl⟩
section
variable {P:Program} {w:World} {K:PySem.W.Frag} {mg:Str→Option Value} {base:Heap} {Ad:Adr}
seal PE PA PS PSs PT PW PG PGs PI PO
abbrev Bad:Stmt:=top 6
theorem JaE:Jan ["one", "other", "greater", "lesser", "rest"] ["one", "other"] (Jaf Bad):=⟨rfl,rfl,rfl,by decide +kernel,rfl,by decide +kernel,by decide +kernel⟩
def JaF  : Sp:=fun vs H Q E => ∃ (a b:Int),vs = [.int a, .int b]∧Q (.int (Mth.g a b)) H
theorem Jcg {f:Addr} {fd:FuncData} {dV:Value} (F:FunD K "common_divisor" "common_divisor" Bad dV f fd) (T:Txt K mg Ad)  : FnOk P w K mg base (CX1 P w) 1 f fd ["one", "other"] (JaF):=by
 refine F.okn JaE (fun vs H Q E h => ?_) (fun cdv A outer s H vs Q E hr h => ?_)
 ·obtain ⟨a,b,rfl,_⟩:=h; rfl
 obtain ⟨a,b,rfl,h⟩:=h
 have hu:=hr.units
 refine ⟨_,(Jab (Jak (i:=2) JaE.nd rfl (Or.inl rfl) (Jat Jb6 rfl T.BbH Je4 (Jaa (pv 0) Jae)))
   (Jab (Jak (i:=3) JaE.nd rfl (Or.inl rfl) (Jat Jb6 rfl T.BbH Je4 (Jaa (pv 1) Jae)))
   (Jab (JdI PassesOwn.never (Jav (Jcl hu) (pv 3) Jad (Jay _))
   (Jab (Jak (i:=4) JaE.nd rfl (Or.inl rfl) (pe_op JaL (pv 2) (pv 3)))
   (Jab (Jak (i:=2) JaE.nd rfl (Or.inl rfl) (pv 3))
   (Jah (Jak (i:=3) JaE.nd rfl (Or.inl rfl) (pv 4))))))
   (Jah (Jao (pv 2)))))), ?_⟩
 clear hu
 show tSeq _ _ _ [some (.int a),some (.int b),none,none,none] H
 try infer_instance
 refine ⟨fun m σ H' => ∃ (x y:Int) (z:Option V), σ = [some (.int a),some (.int b),some (.int x),some (.int y),z]∧H' = H∧0 ≤ x∧0 ≤ y∧Mth.g x y = Mth.g a b∧y.toNat = m,⟨_,_,_,none,rfl,rfl,Mth.Je3 a,Mth.Je3 b,Mth.BbP a b,rfl⟩, ?_⟩
 rintro m σ H' ⟨x,y,z,rfl,rfl,hx,hy,hg,rfl⟩
 try infer_instance
 by_cases c:y = 0
 ·subst c
  rw [if_neg (by simp)]
  have e:Mth.g a b = x:=by rw [← hg,Mth.Jhz]; omega
  rw [e] at h
  exact h
 ·rw [if_pos (by simp [c])]
  have f:=Mth.fm (x:=x) (y:=y) (by omega)
  exact ⟨_,fun _ _ q => q,c,(x.fmod y).toNat,by omega,y,x.fmod y,_,rfl,rfl,hy,f.1,by rw [Mth.Jf4 (by omega)]; exact hg,rfl⟩
abbrev Bbl:Stmt:=top 7
theorem JdL:Jan ["one", "other", "shared", "top", "rest"] ["one", "other"] (Jaf Bbl):=⟨rfl,rfl,rfl,by decide +kernel,rfl,by decide +kernel,by decide +kernel⟩
def JdO (K:PySem.W.Frag):Sp:=fun vs H Q E => ∃ (x y:V) (a b c d:Int),vs = [x,y]∧FrV K H x a b∧FrV K H y c d∧Mth.Sz 4000 a∧Mth.Sz 4000 b∧Mth.Sz 4000 c∧Mth.Sz 4000 d∧1 ≤ b∧1 ≤ d∧Mth.g a b = 1∧Mth.g c d = 1∧∀ p H',Same H H'→H' p = some (.tup [.int (Mth.top (a * d + c * b) (b * d)), .int (Mth.bot (a * d + c * b) (b * d))])→Q (.ref p) H'
theorem Jic {f:Addr} {fd:FuncData} {dV:Value} (F:FunD K "plus" "plus" Bbl dV f fd) (T:Txt K mg Ad) (Bab:Cal P w K mg base 1 "common_divisor" ["one", "other"] [] (JaF)):FnOk P w K mg base (CX1 P w) 2 f fd ["one", "other"] (JdO K):=by
 refine F.okn JdL (fun vs H Q E h => ?_) (fun cdv A outer s H vs Q E hr h => ?_)
 ·obtain ⟨x,y,a,b,c,d,rfl,_⟩:=h; rfl
 obtain ⟨x,y,a,b,c,d,rfl,h⟩:=h
 refine ⟨_,(Jab (Jak (i:=2) JdL.nd rfl (Or.inl rfl) (Bab.ev hr (by decide) rfl passF (Jaa (pe_ix ix_U (pv 0) Jad (fun _ _ => rfl)) (Jaa (pe_ix ix_U (pv 1) Jad (fun _ _ => rfl)) Jae)) (he:=by exact Jai rfl)))
   (Jab (Jak (i:=3) JdL.nd rfl (Or.inl rfl) (pe_op JaV (pe_op JaT (pe_ix ix_U (pv 0) Jad (fun _ _ => rfl)) (pe_op Jaz (pe_ix ix_U (pv 1) Jad (fun _ _ => rfl)) (pv 2))) (pe_op JaT (pe_ix ix_U (pv 1) Jad (fun _ _ => rfl)) (pe_op Jaz (pe_ix ix_U (pv 0) Jad (fun _ _ => rfl)) (pv 2)))))
   (Jab (Jak (i:=4) JdL.nd rfl (Or.inl rfl) (Bab.ev hr (by decide) rfl passF (Jaa (pv 3) (Jaa (pv 2) Jae)) (he:=by exact Jai rfl)))
   (Jah (Jao (JaO (Jaa (pe_op Jaz (pv 3) (pv 4)) (Jaa (pe_op JaT (pe_op Jaz (pe_ix ix_U (pv 0) Jad (fun _ _ => rfl)) (pv 2)) (pe_op Jaz (pe_ix ix_U (pv 1) Jad (fun _ _ => rfl)) (pv 4))) Jae)))))))), ?_⟩
 obtain ⟨hx,hy,sa,sb,sc,sd,hb,hd,la,lc,k⟩:=h
 show tSeq _ _ _ [some x,some y,none,none,none] H
 try infer_instance
 refine ixF1 hx (ixF1 hy ?_)
 try infer_instance
 refine ⟨_,_,rfl, ?_⟩
 try infer_instance
 have sp:=Mth.g_pos (a:=b) (b:=d) (by omega)
 have s1:=Mth.JcF b d
 have s2:=Mth.Jb7 b d
 have sl:Mth.Sz 4000 (Mth.g b d):=Nat.lt_of_le_of_lt (by have:=Mth.g_le (a:=b) (b:=d) (by omega); omega:(Mth.g b d).natAbs ≤ d.natAbs) sd
 have dv:DivOk (Mth.g b d):=divOk (by omega) sl
 have qb:=sb.fdiv s1 (by omega)
 have qd:=sd.fdiv s2 (by omega)
 refine ixF0 hx (ixF1 hy ?_)
 try infer_instance
 refine ⟨dv,mulOk sa qd,ixF0 hy (ixF1 hx ?_)⟩
 try infer_instance
 refine ⟨dv,mulOk sc qb, ?_⟩
 refine ⟨_,_,rfl, ?_⟩
 have pe:=Mth.Jip hb hd la lc (s:=Mth.g b d) rfl rfl rfl
 generalize ht:a * d.fdiv (Mth.g b d) + c * b.fdiv (Mth.g b d) = t at pe ⊢
 have rp:=Mth.g_pos (a:=t) (b:=Mth.g b d) (by omega)
 have r2:=Mth.Jb7 t (Mth.g b d)
 have rl:Mth.Sz 4000 (Mth.g t (Mth.g b d)):=Nat.lt_of_le_of_lt (by have:=Mth.g_le (a:=t) (b:=Mth.g b d) (by omega); omega:(Mth.g t (Mth.g b d)).natAbs ≤ (Mth.g b d).natAbs) sl
 have dr:DivOk (Mth.g t (Mth.g b d)):=divOk (by omega) rl
 try infer_instance
 refine ⟨dr,ixF1 hx ?_⟩
 try infer_instance
 refine ⟨dv,ixF1 hy ?_⟩
 try infer_instance
 refine ⟨dr,mulOk qb (sd.fdiv (Int.dvd_trans r2 s2) (by omega)),len2, ?_⟩
 refine Jgm fun p H1 S hp => k p H1 S ?_
 rw [hp,pe.1,pe.2]
abbrev Bba:Stmt:=top 8
theorem Jhl:Jan ["one", "other"] ["one", "other"] (Jaf Bba):=⟨rfl,rfl,rfl,by decide +kernel,rfl,by decide +kernel,by decide +kernel⟩
def JdN (K:PySem.W.Frag):Sp:=fun vs H Q E => ∃ (x y:V) (a b c d:Int),vs = [x,y]∧FrV K H x a b∧FrV K H y c d∧Mth.Sz 4000 a∧Mth.Sz 4000 b∧Mth.Sz 4000 c∧Mth.Sz 4000 d∧1 ≤ b∧1 ≤ d∧Mth.g a b = 1∧Mth.g c d = 1∧∀ p H',Same H H'→H' p = some (.tup [.int (Mth.top (a * d - c * b) (b * d)), .int (Mth.bot (a * d - c * b) (b * d))])→Q (.ref p) H'
theorem Jhd {f:Addr} {fd:FuncData} {dV:Value} (F:FunD K "minus" "minus" Bba dV f fd) (T:Txt K mg Ad) (Bbm:Cal P w K mg base 2 "plus" ["one", "other"] [] (JdO K)):FnOk P w K mg base (CX1 P w) 3 f fd ["one", "other"] (JdN K):=by
 refine F.okn Jhl (fun vs H Q E h => ?_) (fun cdv A outer s H vs Q E hr h => ?_)
 ·obtain ⟨x,y,a,b,c,d,rfl,_⟩:=h; rfl
 obtain ⟨x,y,a,b,c,d,rfl,h⟩:=h
 refine ⟨_,(Jah (Jao (Bbm.ev hr (by decide) rfl passF (Jaa (pv 0) (Jaa (JaO (Jaa (pe_un Jdo (pe_ix ix_U (pv 1) Jad (fun _ _ => rfl))) (Jaa (pe_ix ix_U (pv 1) Jad (fun _ _ => rfl)) Jae))) Jae)) (he:=by exact Jai rfl)))), ?_⟩
 obtain ⟨hx,hy,sa,sb,sc,sd,hb,hd,la,lc,k⟩:=h
 show tRet _ _ [some x,some y] H
 try infer_instance
 refine ixF0 hy ?_
 try infer_instance
 refine ixF1 hy ?_
 try infer_instance
 refine ⟨len2, ?_⟩
 intro p h_p
 generalize q_p:upd H p _ = H1
 have S:=newS h_p q_p
 have hp:=newE q_p
 refine ⟨_,_,a,b, -c,d,rfl,hx.same S,FrV.of hp,sa,sb,sc.neg,sd,hb,hd,la,by rw [Mth.g_neg]; exact lc,fun p2 H2 S2 e2 => k p2 H2 (S.trans S2) ?_⟩
 rw [e2,Int.neg_mul, ← Int.sub_eq_add_neg]
abbrev Bbb:Stmt:=top 9
theorem Jhm:Jan ["one", "other"] ["one", "other"] (Jaf Bbb):=⟨rfl,rfl,rfl,by decide +kernel,rfl,by decide +kernel,by decide +kernel⟩
def JdP (K:PySem.W.Frag):Sp:=fun vs H Q E => ∃ (x y:V) (a b c d:Int),vs = [x,y]∧FrV K H x a b∧FrV K H y c d∧Mth.Sz 4000 a∧Mth.Sz 4000 b∧Mth.Sz 4000 c∧Mth.Sz 4000 d∧Q (.bl (decide (a * d < c * b))) H
theorem Jhe {f:Addr} {fd:FuncData} {dV:Value} (F:FunD K "under" "under" Bbb dV f fd) (T:Txt K mg Ad)  : FnOk P w K mg base (CX1 P w) 1 f fd ["one", "other"] (JdP K):=by
 refine F.okn Jhm (fun vs H Q E h => ?_) (fun cdv A outer s H vs Q E hr h => ?_)
 ·obtain ⟨x,y,a,b,c,d,rfl,_⟩:=h; rfl
 obtain ⟨x,y,a,b,c,d,rfl,h⟩:=h
 refine ⟨_,(Jah (Jao (Jbi Jeb (pe_op JaT (pe_ix ix_U (pv 0) Jad (fun _ _ => rfl)) (pe_ix ix_U (pv 1) Jad (fun _ _ => rfl))) (pe_op JaT (pe_ix ix_U (pv 1) Jad (fun _ _ => rfl)) (pe_ix ix_U (pv 0) Jad (fun _ _ => rfl))) (Jay _)))), ?_⟩
 obtain ⟨hx,hy,sa,sb,sc,sd,k⟩:=h
 show tRet _ _ [some x,some y] H
 try infer_instance
 refine ixF0 hx (ixF1 hy ?_)
 try infer_instance
 refine ⟨mulOk sa sd,ixF0 hy (ixF1 hx ?_)⟩
 try infer_instance
 exact ⟨mulOk sc sb,k⟩
abbrev BaL:Stmt:=top 15
theorem JfE:Jan ["thing"] ["thing"] (Jaf BaL):=⟨rfl,rfl,rfl,by decide +kernel,rfl,by decide +kernel,by decide +kernel⟩
def JbV (K:PySem.W.Frag):Sp:=fun vs H Q E => ∃ (x:V) (d:D),vs = [x]∧Rep K H d x∧szD d∧∀ H',Same H H'→Q (.bl (nameB d)) H'
theorem JfA {f:Addr} {fd:FuncData} {dV:Value} (F:FunD K "is_name" "is_name" BaL dV f fd) (T:Txt K mg Ad)  : FnOk P w K mg base (CX1 P w) 1 f fd ["thing"] (JbV K):=by
 refine F.okn JfE (fun vs H Q E h => ?_) (fun cdv A outer s H vs Q E hr h => ?_)
 ·obtain ⟨x,d,rfl,_⟩:=h; rfl
 obtain ⟨x,d,rfl,h⟩:=h
 refine ⟨_,(Jab (ps_if (Jbt (Jbf (Jat Jaw rfl T.Baf JaD (Jaa (pv 0) (Jaa (Jbx (v:=.ty "str") rfl T.BbT JiE rfl) Jae)))))
   (Jah (Jao pe_bl))
   Jas)
   (Jab (ps_if (PW.pt (pw_or (Jav Jeb (Jat JaP rfl T.Bbf JbE (Jaa (pv 0) Jae)) Jad (Jay _)) (JbH (Jav Jgr (Jat JaP rfl T.Bbf JbE (Jaa (pv 0) Jae)) (JdH (v:=.int 8) rfl T.Bbj T.Bbk) (Jay _)))))
   (Jah (Jao pe_bl))
   Jas)
   (Jah (Jao (Jat (JfL rfl) rfl T.BbR JiC (Jaa (Jch (own:=["sign"]) (cs:=[]) (cl:=[]) rfl (Ji5 (pv 0)) (fun _ _ _ _ => (Jaj (i:=0) (show [("sign" : Str)].Nodup by decide) rfl (Or.inl rfl))) (fun _ _ _ _ => (Jbi (Ji1 (K:=K) rfl) (pv 0) (JdH (v:=.str "abcdefghijklmnopqrstuvwxyz") rfl T.Bbg T.Bbh) (by with_unfolding_all rfl))) rfl (by decide) rfl (by decide) hcl0 (hhas0 (by decide)) hcs0) Jae)))))), ?_⟩
 obtain ⟨hx,sz,k⟩:=h
 show tSeq _ _ _ [some x] H
 try infer_instance
 refine ⟨_,hx.tyN, ?_⟩
 by_cases hs:∃ z,d = .str z
 ·obtain ⟨z,rfl⟩:=hs
  simp only [Rep] at hx
  subst hx
  simp only [szD] at sz
  simpa only [tyD]
  have hz:z.length ≤ sizeLine:=Nat.le_trans sz (by decide)
  simp only [nameB,nameS] at k
  refine ⟨hz, ?_⟩
  try infer_instance
  by_cases c1:z.length < 1
  ·rw [if_pos (by simp; omega)]
   have e:decide (1 ≤ z.length) = false:=by simp; omega
   rw [e] at k
   exact k H (.refl H)
  ·rw [if_neg (by simp; omega)]
   have e:decide (1 ≤ z.length) = true:=by simp; omega
   rw [e] at k
   refine ⟨hz, ?_⟩
   try infer_instance
   by_cases c2:8 < z.length
   ·rw [if_pos (by simp; omega)]
    have e:decide (z.length ≤ 8) = false:=by simp; omega
    rw [e] at k
    exact k H (.refl H)
   ·rw [if_neg (by simp; omega)]
    have e:decide (z.length ≤ 8) = true:=by simp; omega
    rw [e] at k
    try infer_instance
    simpa only [tComp,iStr]
    refine ⟨fun i m ys H2 => H2 = H∧i ≤ z.cps.size∧m = z.cps.size - i∧ys = (z.cps.toList.take i).map fun c => V.bl (lowB c),⟨_,rfl,Nat.zero_le _,rfl,by simp⟩, ?_⟩
    rintro i m ys H2 ⟨rfl,hi,rfl,rfl⟩
    have lz:z.cps.size = z.length:=rfl
    refine ⟨by simp; omega, ?_⟩
    by_cases lt:i < z.cps.size
    ·refine .inr ⟨lt, ?_⟩
     rintro x H3 ⟨rfl,c,hc,rfl⟩
     simpa only [List.length_singleton,List.replicate,Jau,List.map_nil,y5fy,Jfs]
     refine ⟨_,Nat.sub_lt_sub_left lt (Nat.lt_succ_self i),lt,rfl, ?_⟩
     have hc':z.cps.toList[i]? = some c:=by simpa using hc
     rw [List.take_succ,hc']
     simp
    ·have ei:i = z.cps.size:=by omega
     refine .inl ⟨ei, ?_⟩
     subst ei
     rw [List.take_of_length_le (by simp)]
     intro p hp
     generalize qp:upd H2 p _ = H3
     have S:=newS hp qp
     have e3:=newE qp
     refine ⟨p,z.cps.toList.map lowB,rfl,SqL.of (by rw [e3,List.map_map]; rfl), ?_⟩
     have:=k H3 S
     simpa [List.all_map] using this
 ·have ef:nameB d = false:=by cases d <;> first | rfl | exact absurd ⟨_,rfl⟩ hs
  rw [ef] at k
  have et:isiB (tyD d) "str" = false:=by cases d <;> first | rfl | exact absurd ⟨_,rfl⟩ hs
  simpa only [et]
  exact k H (.refl H)
abbrev Baz:Stmt:=top 16
theorem JeS:Jan ["thing"] ["thing"] (Jaf Baz):=⟨rfl,rfl,rfl,by decide +kernel,rfl,by decide +kernel,by decide +kernel⟩
def Jb2 (K:PySem.W.Frag):Sp:=fun vs H Q E => ∃ (x:V) (d:D),vs = [x]∧Rep K H d x∧Q (.bl (Jco d)) H
theorem JeG {f:Addr} {fd:FuncData} {dV:Value} (F:FunD K "is_whole" "is_whole" Baz dV f fd) (T:Txt K mg Ad)  : FnOk P w K mg base (CX1 P w) 1 f fd ["thing"] (Jb2 K):=by
 refine F.okn JeS (fun vs H Q E h => ?_) (fun cdv A outer s H vs Q E hr h => ?_)
 ·obtain ⟨x,d,rfl,_⟩:=h; rfl
 obtain ⟨x,d,rfl,h⟩:=h
 refine ⟨_,(Jah (Jao (Jb9 (Jat Jaw rfl T.Baf JaD (Jaa (pv 0) (Jaa (Jbx (v:=.ty "int") rfl T.BbS JiD rfl) Jae))) (Jdj (JhH (Jat Jaw rfl T.Baf JaD (Jaa (pv 0) (Jaa (Jbx (v:=.ty "bool") rfl T.BbQ JhV rfl) Jae)))))))), ?_⟩
 obtain ⟨hx,k⟩:=h
 show tRet _ _ [some x] H
 try infer_instance
 refine ⟨_,hx.tyN, ?_⟩
 have hty:=hx.tyN
 cases d <;> simp only [tyD,Jco,y85y,y4fy,y50y,y51y,y74y,y2by,y6fy,y82y,y83y,y47y,y2ey,y7by,y95y,y30y,y3cy,y75y,y2fy,y8by,y23y,y29y,y7cy,y77y,y2ay,y7dy,y79y,y5dy,y97y,y26y,y89y,y73y,y6cy,y4cy,y6by,y80y,y33y,y4ay,y71y,y4by,y72y,y49y,y70y,y90y,y67y,y63y,y92y,y94y,y91y,y93y,y25y,y6ay,y24y,true_and,if_true,if_false,Bool.not_true,Bool.not_false,Bool.false_eq_true,yby,ydy,yay,ycy,yey,y15y,y17y,y14y,y16y,y18y,y6y,y8y,y5y,y7y,y9y,y1y,y3y,y0y,y2y,y4y,y10y,y12y,yfy,y11y,y13y,y1ay,y1cy,y19y,y1by,y1dy,y1fy,y21y,y1ey,y20y,y22y,y87y,y7fy,y76y,y31y,y32y,y57y,y65y,y66y,y4ey,y88y,y8ey,y98y,y81y,y27y,V.int.injEq,V.str.injEq,List.set_cons_zero,List.set_cons_succ,List.getElem?_cons_zero,List.getElem?_cons_succ,Option.some.injEq,exists_eq_left,exists_eq_left',V.bl.injEq,Int.reduceToNat,Int.reducePow,List.append_nil,List.nil_append,List.cons_append,y59y,y5by,y2cy,y2dy,y6dy,y62y,y78y,y68y,y69y,y3dy,y3ey,y3fy,y46y,y48y,y41y,y7ey,y43y,y42y,y34y,y36y,y3ay,y40y,y44y,y54y,y56y,y5ey,y38y,y8dy,y8ay,y37y,y9ay,y52y,y53y,reduceCtorEq,decide_false,decide_true] at k hty ⊢ <;> first | exact k | exact ⟨_,hty,by simpa only [y85y,y4fy,y50y,y51y,y74y,y2by,y6fy,y82y,y83y,y47y,y2ey,y7by,y95y,y30y,y3cy,y75y,y2fy,y8by,y23y,y29y,y7cy,y77y,y2ay,y7dy,y79y,y5dy,y97y,y26y,y89y,y73y,y6cy,y4cy,y6by,y80y,y33y,y4ay,y71y,y4by,y72y,y49y,y70y,y90y,y67y,y63y,y92y,y94y,y91y,y93y,y25y,y6ay,y24y,true_and,if_true,if_false,Bool.not_true,Bool.not_false,Bool.false_eq_true,yby,ydy,yay,ycy,yey,y15y,y17y,y14y,y16y,y18y,y6y,y8y,y5y,y7y,y9y,y1y,y3y,y0y,y2y,y4y,y10y,y12y,yfy,y11y,y13y,y1ay,y1cy,y19y,y1by,y1dy,y1fy,y21y,y1ey,y20y,y22y,y87y,y7fy,y76y,y31y,y32y,y57y,y65y,y66y,y4ey,y88y,y8ey,y98y,y81y,y27y,V.int.injEq,V.str.injEq,List.set_cons_zero,List.set_cons_succ,List.getElem?_cons_zero,List.getElem?_cons_succ,Option.some.injEq,exists_eq_left,exists_eq_left',V.bl.injEq,Int.reduceToNat,Int.reducePow,List.append_nil,List.nil_append,List.cons_append,y59y,y5by,y2cy,y2dy,y6dy,y62y,y78y,y68y,y69y,y3dy,y3ey,y3fy,y46y,y48y,y41y,y7ey,y43y,y42y,y34y,y36y,y3ay,y40y,y44y,y54y,y56y,y5ey,y38y,y8dy,y8ay,y37y,y9ay,y52y,y53y,reduceCtorEq,decide_false,decide_true] using k⟩
abbrev Bal:Stmt:=top 17
theorem Jc5:Jan ["thing"] ["thing"] (Jaf Bal):=⟨rfl,rfl,rfl,by decide +kernel,rfl,by decide +kernel,by decide +kernel⟩
def Jbk (K:PySem.W.Frag):Sp:=fun vs H Q E => ∃ (x:V) (d:D),vs = [x]∧Rep K H d x∧Q (.bl (fracB d)) H
theorem Jc2 {f:Addr} {fd:FuncData} {dV:Value} (F:FunD K "is_fraction" "is_fraction" Bal dV f fd) (T:Txt K mg Ad) (Ba0:Cal P w K mg base 1 "is_whole" ["thing"] [] (Jb2 K)) (Bab:Cal P w K mg base 1 "common_divisor" ["one", "other"] [] (JaF)):FnOk P w K mg base (CX1 P w) 2 f fd ["thing"] (Jbk K):=by
 refine F.okn Jc5 (fun vs H Q E h => ?_) (fun cdv A outer s H vs Q E hr h => ?_)
 ·obtain ⟨x,d,rfl,_⟩:=h; rfl
 obtain ⟨x,d,rfl,h⟩:=h
 have hu:=hr.units
 refine ⟨_,(Jab (ps_if (PW.pt (pw_or (Jbt (Jbf (Jat Jaw rfl T.Baf JaD (Jaa (pv 0) (Jaa (Jbx (v:=.ty "tuple") rfl T.Bbn Jcr rfl) Jae))))) (JbH (Jav (Jcl hu) (Jat JaP rfl T.Bbf JbE (Jaa (pv 0) Jae)) Jad (Jay _)))))
   (Jah (Jao pe_bl))
   Jas)
   (Jab (ps_if (PW.pt (pw_or (Jbt (Jbf (Ba0.ev hr (by decide) rfl passF (Jaa (pe_ix ix_U (pv 0) Jad (fun _ _ => rfl)) Jae) (he:=by exact Jai rfl)))) (JbH (Jbt (Jbf (Ba0.ev hr (by decide) rfl passF (Jaa (pe_ix ix_U (pv 0) Jad (fun _ _ => rfl)) Jae) (he:=by exact Jai rfl)))))))
   (Jah (Jao pe_bl))
   Jas)
   (Jah (Jao (Jb9 (Jbi Ji0 (pe_ix ix_U (pv 0) Jad (fun _ _ => rfl)) Jad (Jay _)) (Jdj (Jbi (JbX hu) (Bab.ev hr (by decide) rfl passF (Jaa (pe_ix ix_U (pv 0) Jad (fun _ _ => rfl)) (Jaa (pe_ix ix_U (pv 0) Jad (fun _ _ => rfl)) Jae)) (he:=by exact Jai rfl)) Jad (Jay _)))))))), ?_⟩
 clear hu
 obtain ⟨hx,k⟩:=h
 show tSeq _ _ _ [some x] H
 try infer_instance
 refine ⟨_,hx.tyN, ?_⟩
 by_cases ht:∃ ds,d = .tup ds
 ·obtain ⟨ds,rfl⟩:=ht
  simpa only [tyD]
  simp only [Rep] at hx
  obtain ⟨a,xs,rfl,hq,hr⟩:=hx
  have hl:=hr.length
  refine ⟨xs, .inr hq, ?_⟩
  try infer_instance
  by_cases h2:ds.length = 2
  ·match ds,h2 with
   | [d0,d1],_ =>
    simp only [RepL] at hr
    obtain ⟨v0,r0,rfl,h0,v1,r1,rfl,h1,rfl⟩:=hr
    simpa only [List.length_cons,List.length_nil]
    rw [if_neg (by simp)]
    try infer_instance
    refine ixT0 hq ?_
    refine ⟨v0,d0,rfl,h0, ?_⟩
    try infer_instance
    by_cases w0:Jco d0 = true
    ·rw [if_neg (by simp [w0])]
     refine ixT1 hq ?_
     refine ⟨v1,d1,rfl,h1, ?_⟩
     try infer_instance
     by_cases w1:Jco d1 = true
     ·rw [if_neg (by simp [w1])]
      obtain ⟨i,rfl⟩:∃ i,d0 = .int i:=by cases d0 <;> simp [Jco] at w0; exact ⟨_,rfl⟩
      obtain ⟨j,rfl⟩:∃ j,d1 = .int j:=by cases d1 <;> simp [Jco] at w1; exact ⟨_,rfl⟩
      simp only [Rep] at h0 h1
      subst h0 h1
      simp only [fracB] at k
      try infer_instance
      refine ixT1 hq ?_
      try infer_instance
      by_cases c:1 ≤ j
      ·rw [if_pos (by simpa using c)]
       refine ixT0 hq (ixT1 hq ?_)
       refine ⟨_,_,rfl, ?_⟩
       try infer_instance
       simpa [c] using k
      ·rw [if_neg (by simpa using c)]
       simpa [c] using k
     ·rw [if_pos (by simp [w1])]
      try infer_instance
      have ef:fracB (.tup [d0,d1]) = false:=by cases d0 <;> cases d1 <;> simp_all [fracB,Jco]
      rw [ef] at k
      exact k
    ·rw [if_pos (by simp [w0])]
     try infer_instance
     have ef:fracB (.tup [d0,d1]) = false:=by cases d0 <;> cases d1 <;> simp_all [fracB,Jco]
     rw [ef] at k
     exact k
  ·rw [if_pos (by simp; omega)]
   have ef:fracB (.tup ds) = false:=by
    unfold fracB
    split
    ·rename_i e; cases e; simp at h2
    ·rfl
   rw [ef] at k
   exact k
 ·have ef:fracB d = false:=by cases d <;> first | rfl | exact absurd ⟨_,rfl⟩ ht
  rw [ef] at k
  have et:isiB (tyD d) "tuple" = false:=by cases d <;> first | rfl | exact absurd ⟨_,rfl⟩ ht
  simpa only [et]
  exact k
abbrev BaA:Stmt:=top 18
theorem JeR:Jan ["thing"] ["thing"] (Jaf BaA):=⟨rfl,rfl,rfl,by decide +kernel,rfl,by decide +kernel,by decide +kernel⟩
def Jb1 (K:PySem.W.Frag):Sp:=fun vs H Q E => ∃ (x:V) (d:D),vs = [x]∧Rep K H d x∧Q (.bl (JbD d)) H
theorem JeF {f:Addr} {fd:FuncData} {dV:Value} (F:FunD K "is_bound" "is_bound" BaA dV f fd) (T:Txt K mg Ad) (BaO:Cal P w K mg base 2 "is_fraction" ["thing"] [] (Jbk K)):FnOk P w K mg base (CX1 P w) 3 f fd ["thing"] (Jb1 K):=by
 refine F.okn JeR (fun vs H Q E h => ?_) (fun cdv A outer s H vs Q E hr h => ?_)
 ·obtain ⟨x,d,rfl,_⟩:=h; rfl
 obtain ⟨x,d,rfl,h⟩:=h
 refine ⟨_,(Jah (Jao (pe_or (Jbi JbF (pv 0) Ja8 (Jay _)) (Jdj (BaO.ev hr (by decide) rfl passF (Jaa (pv 0) Jae) (he:=by exact Jai rfl)))))), ?_⟩
 obtain ⟨hx,k⟩:=h
 show tRet _ _ [some x] H
 try infer_instance
 by_cases hn:d = .non
 ·subst hn
  simp only [Rep] at hx
  subst hx
  simpa only [decide_true]
  exact k
 ·have xn:x ≠ .non:=by
   rintro rfl
   cases d <;> simp [Rep] at hx
   exact hn rfl
  rw [if_neg (by simpa using xn)]
  have ef:JbD d = fracB d:=by cases d <;> first | rfl | exact absurd rfl hn
  rw [ef] at k
  exact ⟨x,d,rfl,hx,k⟩
abbrev Bau:Stmt:=top 19
theorem Jeh:Jan ["one", "other"] ["one", "other"] (Jaf Bau):=⟨rfl,rfl,rfl,by decide +kernel,rfl,by decide +kernel,by decide +kernel⟩
def JbJ (K:PySem.W.Frag):Sp:=fun vs H Q E => ∃ (x y:V) (d e:D),vs = [x,y]∧Rep K H d x∧Rep K H e y∧szD d∧szD e∧∀ H',Same H H'→Q (.bl (Jdd d e)) H'
theorem Jd7 {f:Addr} {fd:FuncData} {dV:Value} (F:FunD K "are_faces" "are_faces" Bau dV f fd) (T:Txt K mg Ad) (BaG:Cal P w K mg base 1 "is_name" ["thing"] [] (JbV K)):FnOk P w K mg base (CX1 P w) 2 f fd ["one", "other"] (JbJ K):=by
 refine F.okn Jeh (fun vs H Q E h => ?_) (fun cdv A outer s H vs Q E hr h => ?_)
 ·obtain ⟨x,y,d,e,rfl,_⟩:=h; rfl
 obtain ⟨x,y,d,e,rfl,h⟩:=h
 have hu:=hr.units
 refine ⟨_,(Jah (Jao (Jb9 (BaG.ev hr (by decide) rfl passF (Jaa (pv 0) Jae) (he:=by exact Jai rfl)) (Jb9 (BaG.ev hr (by decide) rfl passF (Jaa (pv 1) Jae) (he:=by exact Jai rfl)) (Jdj (Jbi (Jcl hu) (pv 0) (pv 1) (Jay _))))))), ?_⟩
 clear hu
 obtain ⟨hx,hy,sx,sy,k⟩:=h
 show tRet _ _ [some x,some y] H
 try infer_instance
 refine ⟨x,d,rfl,hx,sx,fun H1 S1 => ?_⟩
 try infer_instance
 unfold Jdd at k
 by_cases c1:nameB d = true
 ·rw [if_pos c1]
  refine ⟨y,e,rfl,hy.same S1,sy,fun H2 S2 => ?_⟩
  try infer_instance
  by_cases c2:nameB e = true
  ·rw [if_pos c2]
   obtain ⟨z,rfl,_⟩:=Jdi c1
   obtain ⟨z',rfl,_⟩:=Jdi c2
   have e1:=hx.str
   have e2:=hy.str
   subst e1 e2
   try infer_instance
   have:=k H2 (S1.trans S2)
   rw [c1,c2] at this
   simpa [eqD,BEq.beq] using this
  ·rw [if_neg c2]
   have:=k H2 (S1.trans S2)
   have e2:nameB e = false:=by simpa using c2
   rw [c1,e2] at this
   exact this
 ·rw [if_neg c1]
  have:=k H1 S1
  have e1:nameB d = false:=by simpa using c1
  rw [e1] at this
  exact this
abbrev Bap:Stmt:=top 20
theorem JdK:Jan ["least", "greatest"] ["least", "greatest"] (Jaf Bap):=⟨rfl,rfl,rfl,by decide +kernel,rfl,by decide +kernel,by decide +kernel⟩
def JbA (K:PySem.W.Frag):Sp:=fun vs H Q E => ∃ (x y:V) (d e:D),vs = [x,y]∧Rep K H d x∧Rep K H e y∧szD d∧szD e∧Q (.bl (JcB d e)) H
theorem JdC {f:Addr} {fd:FuncData} {dV:Value} (F:FunD K "are_bounds" "are_bounds" Bap dV f fd) (T:Txt K mg Ad) (Ba1:Cal P w K mg base 3 "is_bound" ["thing"] [] (Jb1 K)) (BbC:Cal P w K mg base 1 "under" ["one", "other"] [] (JdP K)):FnOk P w K mg base (CX1 P w) 4 f fd ["least", "greatest"] (JbA K):=by
 refine F.okn JdK (fun vs H Q E h => ?_) (fun cdv A outer s H vs Q E hr h => ?_)
 ·obtain ⟨x,y,d,e,rfl,_⟩:=h; rfl
 obtain ⟨x,y,d,e,rfl,h⟩:=h
 refine ⟨_,(Jab (ps_if (PW.pt (pw_or (Jbt (Jbf (Ba1.ev hr (by decide) rfl passF (Jaa (pv 0) Jae) (he:=by exact Jai rfl)))) (JbH (Jbt (Jbf (Ba1.ev hr (by decide) rfl passF (Jaa (pv 1) Jae) (he:=by exact Jai rfl)))))))
   (Jah (Jao pe_bl))
   Jas)
   (Jab (ps_if (PW.pt (pw_or (Jav JbF (pv 0) Ja8 (Jay _)) (JbH (Jav JbF (pv 1) Ja8 (Jay _)))))
   (Jah (Jao pe_bl))
   Jas)
   (Jah (Jao (JhH (BbC.ev hr (by decide) rfl passF (Jaa (pv 1) (Jaa (pv 0) Jae)) (he:=by exact Jai rfl))))))), ?_⟩
 obtain ⟨hx,hy,sx,sy,k⟩:=h
 show tSeq _ _ _ [some x,some y] H
 try infer_instance
 unfold JcB at k
 refine ⟨x,d,rfl,hx, ?_⟩
 try infer_instance
 by_cases c1:JbD d = true
 ·rw [if_neg (by simp [c1])]
  refine ⟨y,e,rfl,hy, ?_⟩
  try infer_instance
  by_cases c2:JbD e = true
  ·rw [if_neg (by simp [c2])]
   simpa only [hx.nonV,hy.nonV]
   rw [c1,c2] at k
   by_cases n1:d = .non
   ·rw [if_pos (by simp [n1,nonD])]
    try infer_instance
    have : lessD e d = false:=by subst n1; unfold lessD; split <;> first | rfl | simp_all
    rw [this] at k
    exact k
   ·rw [if_neg (by simp [Jgn n1])]
    by_cases n2:e = .non
    ·rw [if_pos (by simp [n2,nonD])]
     try infer_instance
     have : lessD e d = false:=by subst n2; rfl
     rw [this] at k
     exact k
    ·rw [if_neg (by simp [Jgn n2])]
     try infer_instance
     have f1:fracB d = true:=by cases d <;> first | exact c1 | exact absurd rfl n1
     have f2:fracB e = true:=by cases e <;> first | exact c2 | exact absurd rfl n2
     obtain ⟨a,b,rfl,_,_⟩:=Jbn f1
     obtain ⟨a',b',rfl,_,_⟩:=Jbn f2
     simp only [szD,szL] at sx sy
     refine ⟨y,x,a',b',a,b,rfl,FrV.of_rep hy,FrV.of_rep hx,sy.1,sy.2.1,sx.1,sx.2.1, ?_⟩
     try infer_instance
     simpa [lessD] using k
  ·rw [if_pos (by simp [c2])]
   try infer_instance
   have e2:JbD e = false:=by simpa using c2
   rw [c1,e2] at k
   exact k
 ·rw [if_pos (by simp [c1])]
  try infer_instance
  have e1:JbD d = false:=by simpa using c1
  rw [e1] at k
  exact k
abbrev Ba2:Stmt:=top 21
theorem JgE:Jan ["thing"] ["thing"] (Jaf Ba2):=⟨rfl,rfl,rfl,by decide +kernel,rfl,by decide +kernel,by decide +kernel⟩
def JcU (K:PySem.W.Frag):Sp:=fun vs H Q E => ∃ (x:V) (d:D),vs = [x]∧Rep K H d x∧szD d∧∀ H',Same H H'→Q (.bl (tieB d)) H'
theorem Jgp {f:Addr} {fd:FuncData} {dV:Value} (F:FunD K "is_tie" "is_tie" Ba2 dV f fd) (T:Txt K mg Ad) (BaG:Cal P w K mg base 1 "is_name" ["thing"] [] (JbV K)) (Ba5:Cal P w K mg base 2 "are_faces" ["one", "other"] [] (JbJ K)) (BaX:Cal P w K mg base 4 "are_bounds" ["least", "greatest"] [] (JbA K)):FnOk P w K mg base (CX1 P w) 5 f fd ["thing"] (JcU K):=by
 refine F.okn JgE (fun vs H Q E h => ?_) (fun cdv A outer s H vs Q E hr h => ?_)
 ·obtain ⟨x,d,rfl,_⟩:=h; rfl
 obtain ⟨x,d,rfl,h⟩:=h
 have hu:=hr.units
 refine ⟨_,(Jab (ps_if (PW.pt (pw_or (Jbt (Jbf (Jat Jaw rfl T.Baf JaD (Jaa (pv 0) (Jaa (Jbx (v:=.ty "tuple") rfl T.Bbn Jcr rfl) Jae))))) (JbH (Jav (Jcl hu) (Jat JaP rfl T.Bbf JbE (Jaa (pv 0) Jae)) Jad (Jay _)))))
   (Jah (Jao pe_bl))
   Jas)
   (Jah (Jao (Jb9 (BaG.ev hr (by decide) rfl passF (Jaa (pe_ix ix_U (pv 0) Jad (fun _ _ => rfl)) Jae) (he:=by exact Jai rfl)) (Jb9 (Ba5.ev hr (by decide) rfl passF (Jaa (pe_ix ix_U (pv 0) Jad (fun _ _ => rfl)) (Jaa (pe_ix ix_U (pv 0) Jad (fun _ _ => rfl)) Jae)) (he:=by exact Jai rfl)) (Jdj (BaX.ev hr (by decide) rfl passF (Jaa (pe_ix ix_U (pv 0) Jad (fun _ _ => rfl)) (Jaa (pe_ix ix_U (pv 0) Jad (fun _ _ => rfl)) Jae)) (he:=by exact Jai rfl)))))))), ?_⟩
 clear hu
 obtain ⟨hx,sz,k⟩:=h
 show tSeq _ _ _ [some x] H
 try infer_instance
 refine ⟨_,hx.tyN, ?_⟩
 by_cases ht:∃ ds,d = .tup ds
 ·obtain ⟨ds,rfl⟩:=ht
  simpa only [tyD]
  simp only [Rep] at hx
  obtain ⟨a,xs,rfl,hq,hr⟩:=hx
  have hl:=hr.length
  refine ⟨xs, .inr hq, ?_⟩
  try infer_instance
  by_cases h5:ds.length = 5
  ·match ds,h5 with
   | [d0,d1,d2,d3,d4],_ =>
    simp only [RepL] at hr
    obtain ⟨v0,r0,rfl,h0,v1,r1,rfl,h1,v2,r2,rfl,h2,v3,r3,rfl,h3,v4,r4,rfl,h4,rfl⟩:=hr
    simp only [szD,szL] at sz
    obtain ⟨s0,s1,s2,s3,s4,_⟩:=sz
    simp only [tieB] at k
    simpa only [List.length_cons,List.length_nil]
    rw [if_neg (by simp)]
    try infer_instance
    refine ixT (i:=0) hq rfl ?_
    refine ⟨v0,d0,rfl,h0,s0,fun H1 S1 => ?_⟩
    try infer_instance
    by_cases c0:nameB d0 = true
    ·rw [if_pos c0]
     rw [c0] at k
     refine ixT (i:=1) (hq.same S1) rfl ?_
     refine ixT (i:=2) (hq.same S1) rfl ?_
     refine ⟨v1,v2,d1,d2,rfl,h1.same S1,h2.same S1,s1,s2,fun H2 S2 => ?_⟩
     try infer_instance
     have S12:=S1.trans S2
     by_cases c1:Jdd d1 d2 = true
     ·rw [if_pos c1]
      rw [c1] at k
      refine ixT (i:=3) (hq.same S12) rfl ?_
      refine ixT (i:=4) (hq.same S12) rfl ?_
      exact ⟨v3,v4,d3,d4,rfl,h3.same S12,h4.same S12,s3,s4,k H2 S12⟩
     ·rw [if_neg c1]
      have e1:Jdd d1 d2 = false:=by simpa using c1
      rw [e1] at k
      exact k H2 S12
    ·rw [if_neg c0]
     have e0:nameB d0 = false:=by simpa using c0
     rw [e0] at k
     exact k H1 S1
  ·rw [if_pos (by simp; omega)]
   have ef:tieB (.tup ds) = false:=by
    unfold tieB
    split
    ·rename_i e; cases e; simp at h5
    ·rfl
   rw [ef] at k
   try infer_instance
   exact k H (.refl H)
 ·have ef:tieB d = false:=by cases d <;> first | rfl | exact absurd ⟨_,rfl⟩ ht
  rw [ef] at k
  have et:isiB (tyD d) "tuple" = false:=by cases d <;> first | rfl | exact absurd ⟨_,rfl⟩ ht
  simpa only [et]
  exact k H (.refl H)
abbrev Baj:Stmt:=inClass (top 22) 0
theorem JcR:Jan ["self", "row"] ["self", "row"] (Jaf Baj):=⟨rfl,rfl,rfl,by decide +kernel,rfl,by decide +kernel,by decide +kernel⟩
def Jaq (K:PySem.W.Frag):Sp:=fun vs H Q E => ∃ (x C dx a:Addr) (n st en l g:V),vs = [.ref x, .ref a]∧H x = some (.ins C dx [])∧TieC K C∧SqT K H a [n,st,en,l,g]∧∀ H',H' x = some (.ins C dx (tieF n st en l g))→(∀ b,b ≠ x→H' b = H b)→Q .non H'
theorem JcN {f:Addr} {fd:FuncData} {dV:Value} (F:FunD K "__init__" "Tie.__init__" Baj dV f fd) (T:Txt K mg Ad)  : FnOk P w K mg base (CX1 P w) 1 f fd ["self", "row"] (Jaq K):=by
 refine F.okn JcR (fun vs H Q E h => ?_) (fun cdv A outer s H vs Q E hr h => ?_)
 ·obtain ⟨x,C,dx,a,n,st,en,l,g,rfl,_⟩:=h; rfl
 obtain ⟨x,C,dx,a,n,st,en,l,g,rfl,h⟩:=h
 refine ⟨_,(Jab (Jbs (pv 0) (pe_ix ix_U (pv 1) Jad (fun _ _ => rfl)) rfl)
   (Jab (Jbs (pv 0) (pe_ix ix_U (pv 1) Jad (fun _ _ => rfl)) rfl)
   (Jab (Jbs (pv 0) (pe_ix ix_U (pv 1) Jad (fun _ _ => rfl)) rfl)
   (Jab (Jbs (pv 0) (pe_ix ix_U (pv 1) Jad (fun _ _ => rfl)) rfl)
   (Jah (Jbs (pv 0) (pe_ix ix_U (pv 1) Jad (fun _ _ => rfl)) rfl)))))), ?_⟩
 obtain ⟨e0,tc,hq0,k⟩:=h
 show tSeq _ _ _ [some (.ref x),some (.ref a)] H
 try ac_rfl
 refine ixT (i:=0) hq0 rfl ?_
 try ac_rfl
 refine ⟨x,C,dx,_,rfl,e0,tc.cls,tc.n1,by simp, ?_⟩
 have hq1:=SqT.put (fs':=putF "name" n []) e0 hq0
 generalize u1:upd H x _ = H1 at hq1 ⊢
 have e1:H1 x = some (.ins C dx [("name",n)]):=by rw [← u1]; exact Jap.trans rfl
 have o1:∀ b,b ≠ x→H1 b = H b:=fun b hb => by rw [← u1,Jag hb]
 try ac_rfl
 refine ixT (i:=1) hq1 rfl ?_
 try ac_rfl
 refine ⟨x,C,dx,_,rfl,e1,tc.cls,tc.n2,by simp, ?_⟩
 have hq2:=SqT.put (fs':=putF "start" st [("name",n)]) e1 hq1
 generalize u2:upd H1 x _ = H2 at hq2 ⊢
 have e2:H2 x = some (.ins C dx [("name",n),("start",st)]):=by rw [← u2]; exact Jap.trans rfl
 have o2:∀ b,b ≠ x→H2 b = H1 b:=fun b hb => by rw [← u2,Jag hb]
 try ac_rfl
 refine ixT (i:=2) hq2 rfl ?_
 try ac_rfl
 refine ⟨x,C,dx,_,rfl,e2,tc.cls,tc.n3,by simp, ?_⟩
 have hq3:=SqT.put (fs':=putF "end" en [("name",n),("start",st)]) e2 hq2
 generalize u3:upd H2 x _ = H3 at hq3 ⊢
 have e3:H3 x = some (.ins C dx [("name",n),("start",st),("end",en)]):=by rw [← u3]; exact Jap.trans rfl
 have o3:∀ b,b ≠ x→H3 b = H2 b:=fun b hb => by rw [← u3,Jag hb]
 try ac_rfl
 refine ixT (i:=3) hq3 rfl ?_
 try ac_rfl
 refine ⟨x,C,dx,_,rfl,e3,tc.cls,tc.n4,by simp, ?_⟩
 have hq4:=SqT.put (fs':=putF "least" l [("name",n),("start",st),("end",en)]) e3 hq3
 generalize u4:upd H3 x _ = H4 at hq4 ⊢
 have e4:H4 x = some (.ins C dx [("name",n),("start",st),("end",en),("least",l)]):=by rw [← u4]; exact Jap.trans rfl
 have o4:∀ b,b ≠ x→H4 b = H3 b:=fun b hb => by rw [← u4,Jag hb]
 try ac_rfl
 refine ixT (i:=4) hq4 rfl ?_
 try ac_rfl
 refine ⟨x,C,dx,_,rfl,e4,tc.cls,tc.n5,by simp, ?_⟩
 have hq5:=SqT.put (fs':=putF "greatest" g [("name",n),("start",st),("end",en),("least",l)]) e4 hq4
 generalize u5:upd H4 x _ = H5 at hq5 ⊢
 have e5:H5 x = some (.ins C dx [("name",n),("start",st),("end",en),("least",l),("greatest",g)]):=by rw [← u5]; exact Jap.trans rfl
 have o5:∀ b,b ≠ x→H5 b = H4 b:=fun b hb => by rw [← u5,Jag hb]
 try ac_rfl
 exact k H5 e5 fun b hb => by rw [o5 b hb,o4 b hb,o3 b hb,o2 b hb,o1 b hb]
abbrev Ba3:Stmt:=top 28
theorem JcT:Jan ["thing", "least", "greatest"] ["thing"] (Jaf Ba3):=⟨rfl,rfl,rfl,by decide +kernel,rfl,by decide +kernel,by decide +kernel⟩
def JcV (K:PySem.W.Frag) (Ad:Adr):Sp:=fun vs H Q E => ∃ (x:V) (d:D),vs = [x]∧Rep K H d x∧szD d∧(tieB d = false→∀ H',Same H H'→E (.ref Ad.NoTie) none H')∧(tieB d = true→∃ (a:Addr) (n s e l g:D) (vn vs ve vl vg:V),x = .ref a∧SqT K H a [vn,vs,ve,vl,vg]∧d = .tup [n,s,e,l,g]∧Rep K H l vl∧Rep K H g vg∧∀ v H',Same H H'→TieV H' v (kindC Ad l g) vn vs ve vl vg→Q v H')
theorem Jgq {f:Addr} {fd:FuncData} {dV:Value} (F:FunD K "tie_of" "tie_of" Ba3 dV f fd) (T:Txt K mg Ad) (Bbq:Cal P w K mg base 5 "is_tie" ["thing"] [] (JcU K)) (k_Free:KCal P w K mg base 1 "Free" Ad.Free ["self", "row"] (Jaq K)) (k_AtLeast:KCal P w K mg base 1 "AtLeast" Ad.AtLeast ["self", "row"] (Jaq K)) (k_AtMost:KCal P w K mg base 1 "AtMost" Ad.AtMost ["self", "row"] (Jaq K)) (k_Just:KCal P w K mg base 1 "Just" Ad.Just ["self", "row"] (Jaq K)) (k_Between:KCal P w K mg base 1 "Between" Ad.Between ["self", "row"] (Jaq K)):FnOk P w K mg base (CX1 P w) 6 f fd ["thing"] (JcV K Ad):=by
 refine F.okx JcT (fun vs H Q E h => ?_) (fun cdv A outer s H vs Q E hr h => ?_)
 ·obtain ⟨x,d,rfl,_⟩:=h; rfl
 obtain ⟨x,d,rfl,h⟩:=h
 have hu:=hr.units
 refine ⟨_,(Jab (ps_if (Jbt (Jbf (Bbq.ev hr (by decide) rfl pass1 (Jaa (pv 0) Jae) (he:=by exact Jai rfl))))
   (Jah (Jhh PySem.F.excBase_ValueError T.x_NoTie rfl T.m_NoTie (Jaa Jcm Jae)))
   Jas)
   (Jab (Jak (i:=1) JcT.nd rfl (Or.inl rfl) (pe_ix ix_U (pv 0) Jad (fun _ _ => rfl)))
   (Jab (Jak (i:=2) JcT.nd rfl (Or.inl rfl) (pe_ix ix_U (pv 0) Jad (fun _ _ => rfl)))
   (Jab (ps_if (PW.pt (Ji8 (Jav JbF (pv 1) Ja8 (Jay _)) (Jiq (Jav JbF (pv 2) Ja8 (Jay _)))))
   (Jah (Jao (k_Free.ev hr (by decide) rfl pass1 (Jaa (pv 0) Jae))))
   Jas)
   (Jab (ps_if (Jav JbF (pv 2) Ja8 (Jay _))
   (Jah (Jao (k_AtLeast.ev hr (by decide) rfl pass1 (Jaa (pv 0) Jae))))
   Jas)
   (Jab (ps_if (Jav JbF (pv 1) Ja8 (Jay _))
   (Jah (Jao (k_AtMost.ev hr (by decide) rfl pass1 (Jaa (pv 0) Jae))))
   Jas)
   (Jab (ps_if (Jav (JbX hu) (pv 1) (pv 2) (Jay _))
   (Jah (Jao (k_Just.ev hr (by decide) rfl pass1 (Jaa (pv 0) Jae))))
   Jas)
   (Jah (Jao (k_Between.ev hr (by decide) rfl pass1 (Jaa (pv 0) Jae))))))))))), ?_⟩
 clear hu
 obtain ⟨hx,sz,k1,k2⟩:=h
 show tSeq _ _ _ [some x,none,none] H
 try infer_instance
 refine ⟨x,d,rfl,hx,sz,fun H1 S1 => ?_⟩
 try infer_instance
 by_cases c:tieB d = true
 ·rw [if_neg (by simp [c])]
  try infer_instance
  obtain ⟨a,n,s,e,l,g,vn,vs,ve,vl,vg,rfl,hq,rfl,h3,h4,k2⟩:=k2 c
  refine ixT (i:=3) (hq.same S1) rfl ?_
  try infer_instance
  refine ixT (i:=4) (hq.same S1) rfl ?_
  simpa only [h3.nonV,h4.nonV]
  by_cases n1:nonD l = true
  ·by_cases n2:nonD g = true
   ·simpa only [n1,n2]
    try infer_instance
    intro x dx hx hdx ne
    refine ⟨x,_,dx,a,vn,vs,ve,vl,vg,rfl,Jap,T.tie _ ?_, ?_,fun H' e o => ⟨rfl,k2 _ H' ?_ ⟨x,dx,rfl, ?_⟩⟩⟩
    ·exact .inl rfl
    ·exact (hq.same S1).same fun b u q => by rw [Jag (Jac q hx),Jag (Jac q hdx)]; exact q
    ·exact S1.trans fun b u q => by rw [o b (Jac q hx),Jag (Jac q hx),Jag (Jac q hdx)]; exact q
    ·rw [e,show kindC Ad l g = Ad.Free from by simp [kindC,n1,n2]]
   ·have n2':nonD g = false:=by simpa using n2
    simpa only [n1,n2']
    try simpa only [h3.nonV,h4.nonV,n1,n2']
    try infer_instance
    intro x dx hx hdx ne
    refine ⟨x,_,dx,a,vn,vs,ve,vl,vg,rfl,Jap,T.tie _ ?_, ?_,fun H' e o => ⟨rfl,k2 _ H' ?_ ⟨x,dx,rfl, ?_⟩⟩⟩
    ·exact .inr (.inr (.inl rfl))
    ·exact (hq.same S1).same fun b u q => by rw [Jag (Jac q hx),Jag (Jac q hdx)]; exact q
    ·exact S1.trans fun b u q => by rw [o b (Jac q hx),Jag (Jac q hx),Jag (Jac q hdx)]; exact q
    ·rw [e,show kindC Ad l g = Ad.AtMost from by simp [kindC,n1,n2']]
  ·have n1':nonD l = false:=by simpa using n1
   by_cases n2:nonD g = true
   ·simpa only [n1',n2]
    try simpa only [h3.nonV,h4.nonV,n1',n2]
    try infer_instance
    intro x dx hx hdx ne
    refine ⟨x,_,dx,a,vn,vs,ve,vl,vg,rfl,Jap,T.tie _ ?_, ?_,fun H' e o => ⟨rfl,k2 _ H' ?_ ⟨x,dx,rfl, ?_⟩⟩⟩
    ·exact .inr (.inl rfl)
    ·exact (hq.same S1).same fun b u q => by rw [Jag (Jac q hx),Jag (Jac q hdx)]; exact q
    ·exact S1.trans fun b u q => by rw [o b (Jac q hx),Jag (Jac q hx),Jag (Jac q hdx)]; exact q
    ·rw [e,show kindC Ad l g = Ad.AtLeast from by simp [kindC,n1',n2]]
   ·have n2':nonD g = false:=by simpa using n2
    simpa only [n1',n2']
    try simpa only [h3.nonV,h4.nonV,n1',n2']
    simp only [tieB,JcB,Bool.and_eq_true] at c
    have f1:fracB l = true:=by have:=c.2.1.1; cases l <;> first | exact this | (simp [nonD] at n1')
    have f2:fracB g = true:=by have:=c.2.1.2; cases g <;> first | exact this | (simp [nonD] at n2')
    obtain ⟨la,lb,rfl,_,_⟩:=Jbn f1
    obtain ⟨ga,gb,rfl,_,_⟩:=Jbn f2
    have g3:=(FrV.of_rep h3).same S1
    have g4:=(FrV.of_rep h4).same S1
    refine eqF g3 g4 ?_
    have ee:eqD (.tup [.int la, .int lb]) (.tup [.int ga, .int gb]) = (decide (la = ga) && decide (lb = gb)):=by
     simp only [eqD,eqL,Bool.and_true]
     congr 1 <;> simp [BEq.beq]
    try infer_instance
    rw [← ee]
    by_cases q:eqD (.tup [.int la, .int lb]) (.tup [.int ga, .int gb]) = true
    ·rw [if_pos q]
     try infer_instance
     intro x dx hx hdx ne
     refine ⟨x,_,dx,a,vn,vs,ve,vl,vg,rfl,Jap,T.tie _ ?_, ?_,fun H' e o => ⟨rfl,k2 _ H' ?_ ⟨x,dx,rfl, ?_⟩⟩⟩
     ·exact .inr (.inr (.inr (.inl rfl)))
     ·exact (hq.same S1).same fun b u q => by rw [Jag (Jac q hx),Jag (Jac q hdx)]; exact q
     ·exact S1.trans fun b u q => by rw [o b (Jac q hx),Jag (Jac q hx),Jag (Jac q hdx)]; exact q
     ·rw [e,show kindC Ad (.tup [.int la, .int lb]) (.tup [.int ga, .int gb]) = Ad.Just from by simp [kindC,nonD,q]]
    ·rw [if_neg q]
     have q':eqD (.tup [.int la, .int lb]) (.tup [.int ga, .int gb]) = false:=by simpa using q
     try infer_instance
     intro x dx hx hdx ne
     refine ⟨x,_,dx,a,vn,vs,ve,vl,vg,rfl,Jap,T.tie _ ?_, ?_,fun H' e o => ⟨rfl,k2 _ H' ?_ ⟨x,dx,rfl, ?_⟩⟩⟩
     ·exact .inr (.inr (.inr (.inr rfl)))
     ·exact (hq.same S1).same fun b u q => by rw [Jag (Jac q hx),Jag (Jac q hdx)]; exact q
     ·exact S1.trans fun b u q => by rw [o b (Jac q hx),Jag (Jac q hx),Jag (Jac q hdx)]; exact q
     ·rw [e,show kindC Ad (.tup [.int la, .int lb]) (.tup [.int ga, .int gb]) = Ad.Between from by simp [kindC,nonD,q']]
 ·rw [if_pos (by simp [c])]
  try infer_instance
  exact ⟨by show 1 ≤ sizeLine; decide,k1 (by simpa using c) H1 S1⟩
abbrev Bav:Stmt:=inClass (top 22) 3
theorem Jcn:Jan ["self", "told"] ["self"] (Jaf Bav):=⟨rfl,rfl,rfl,by decide +kernel,rfl,by decide +kernel,by decide +kernel⟩
def JbI (K:PySem.W.Frag) (Ad:Adr):Sp:=fun vs H Q E => ∃ (v:V) (C:Addr) (n st en l g:V) (ds de dl dg:D),vs = [v]∧TieV H v C n st en l g∧IsTie Ad C∧Rep K H ds st∧Rep K H de en∧Bnd K H dl l∧Bnd K H dg g∧∀ p xs H',H p = none→Same H H'→H' p = some (.lst xs)→RepL K H' (JcW ds de dl dg) xs→Q (.ref p) H'
theorem Jd6 {f:Addr} {fd:FuncData} {dV:Value} (F:FunD K "steps" "Tie.steps" Bav dV f fd) (T:Txt K mg Ad) (BbD:Cal P w K mg base 3 "minus" ["one", "other"] [] (JdN K)):FnOk P w K mg base (CX1 P w) 4 f fd ["self"] (JbI K Ad):=by
 refine F.okn Jcn (fun vs H Q E h => ?_) (fun cdv A outer s H vs Q E hr h => ?_)
 ·obtain ⟨v,C,n,st,en,l,g,ds,de,dl,dg,rfl,_⟩:=h; rfl
 obtain ⟨v,C,n,st,en,l,g,ds,de,dl,dg,rfl,h⟩:=h
 refine ⟨_,(Jab (Jak (i:=1) Jcn.nd rfl (Or.inl rfl) (Jbq Jae))
   (Jab (ps_if (Jav Jcv (JaK (pv 0) rfl) Ja8 (Jay _))
   (Jah (Ja6 (pe_bm PySem.F.plainAttrs_list PySem.F.slot_list_append PySem.F.type_list_append JaX (pv 1) (Jaa (JaO (Jaa (JaK (pv 0) rfl) (Jaa (JaK (pv 0) rfl) (Jaa (JaK (pv 0) rfl) (Jaa pe_bl Jae))))) Jae) (hs:=by exact Jai rfl))))
   Jas)
   (Jab (ps_if (Jav Jcv (JaK (pv 0) rfl) Ja8 (Jay _))
   (Jah (Ja6 (pe_bm PySem.F.plainAttrs_list PySem.F.slot_list_append PySem.F.type_list_append JaX (pv 1) (Jaa (JaO (Jaa (JaK (pv 0) rfl) (Jaa (JaK (pv 0) rfl) (Jaa (BbD.ev hr (by decide) rfl passF (Jaa (JdH (v:=.ref _) rfl T.BbK T.BbL) (Jaa (JaK (pv 0) rfl) Jae)) (he:=by exact Jai rfl)) (Jaa pe_bl Jae))))) Jae) (hs:=by exact Jai rfl))))
   Jas)
   (Jah (Jao (pv 1)))))), ?_⟩
 obtain ⟨hv,hC,hs,he,hl,hg,k⟩:=h
 obtain ⟨p,dx,rfl,hp⟩:=hv
 have tc:=T.tie C hC
 show tSeq _ _ _ [some (.ref p),none] H
 try contradiction
 refine ⟨len0, ?_⟩
 intro t h_t
 generalize q_t:upd H t _ = H1
 have S1:=newS h_t q_t
 have e1:=newE q_t
 refine ⟨p,C,dx,_,g,rfl,S1 _ _ hp,tc.cls,tc.n5,rfl, ?_⟩
 try simpa only [y4dy,(hg.same S1).rep.nonV]
 by_cases ng:nonD dg = true
 ·rw [ng]
  try contradiction
  by_cases nl:nonD dl = true
  ·refine ⟨p,C,dx,_,l,rfl,S1 _ _ hp,tc.cls,tc.n4,rfl, ?_⟩
   try simpa only [y4dy,(hl.same S1).rep.nonV,nl]
   refine k t _ H1 h_t S1 e1 ?_
   simp only [JcW,ng,nl,if_true,List.append_nil,RepL]
  ·have nl':nonD dl = false:=by simpa using nl
   refine ⟨p,C,dx,_,l,rfl,S1 _ _ hp,tc.cls,tc.n4,rfl, ?_⟩
   try simpa only [y4dy,(hl.same S1).rep.nonV,nl']
   refine ⟨.inl ⟨rfl,_,SqL.of e1⟩, ?_⟩
   refine ⟨p,C,dx,_,en,rfl,S1 _ _ hp,tc.cls,tc.n3,rfl, ?_⟩
   refine ⟨p,C,dx,_,st,rfl,S1 _ _ hp,tc.cls,tc.n2,rfl, ?_⟩
   try contradiction
   refine ⟨p,C,dx,_,l,rfl,S1 _ _ hp,tc.cls,tc.n4,rfl, ?_⟩
   try contradiction
   obtain ⟨la,lb,rfl,hb,hlow,fl,s1,s2⟩:=(hl.same S1).frac nl'
   refine ⟨.ref Ad.ZERO,l,0,1,la,lb,rfl,⟨_,rfl,T.BbF _⟩,fl, .lit (by decide) (by decide), .lit (by decide) (by decide),s1,s2,by decide,hb,by decide,hlow,fun m H4 S4 e4 => ?_⟩
   rw [(JdA hb hlow).1,(JdA hb hlow).2] at e4
   try contradiction
   refine ⟨len4, ?_⟩
   intro w h_w
   generalize q_w:upd H4 w _ = H5
   have S5:=newS h_w q_w
   have e5:=newE q_w
   refine ⟨t,_,_,rfl,rfl,S5 _ _ (S4 _ _ e1),by first | (show 0 < sizeLine; decide) | (show 1 < sizeLine; decide), ?_⟩
   generalize u6:upd H5 t _ = H6
   have e6:=putE u6
   have m6:=putN u6 (S5 _ _ (S4 _ _ e1)) (S5 _ _ e4) (by intro z; cases z)
   have w6:=putN u6 (S5 _ _ (S4 _ _ e1)) e5 (by intro z; cases z)
   have S6:Same H H6:=fun b u q => by rw [← u6,Jag (Jac q h_t)]; exact S5 _ _ (S4 _ _ (S1 _ _ q))
   refine k t _ H6 h_t S6 e6 ?_
   simp only [JcW,ng,nl',if_true,Bool.false_eq_true,if_false,List.nil_append,RepL,Rep,negD]
   exact ⟨_,_,rfl,⟨w,_,rfl,SqT.of w6,_,_,rfl,he.same S6,_,_,rfl,hs.same S6,_,_,rfl,⟨m,_,rfl,SqT.of m6,_,_,rfl,rfl,_,_,rfl,rfl,rfl⟩,_,_,rfl,rfl,rfl⟩,rfl⟩
 ·have ng':nonD dg = false:=by simpa using ng
  rw [ng']
  try contradiction
  refine ⟨.inl ⟨rfl,_,SqL.of e1⟩, ?_⟩
  refine ⟨p,C,dx,_,st,rfl,S1 _ _ hp,tc.cls,tc.n2,rfl, ?_⟩
  refine ⟨p,C,dx,_,en,rfl,S1 _ _ hp,tc.cls,tc.n3,rfl, ?_⟩
  refine ⟨p,C,dx,_,g,rfl,S1 _ _ hp,tc.cls,tc.n5,rfl, ?_⟩
  try contradiction
  refine ⟨len4, ?_⟩
  intro f h_f
  generalize q_f:upd H1 f _ = H2
  have S2:=newS h_f q_f
  have e2:=newE q_f
  refine ⟨t,_,_,rfl,rfl,S2 _ _ e1,by show 0 < sizeLine; decide, ?_⟩
  generalize u3:upd H2 t _ = H3
  have e3:=putE u3
  have f3:=putN u3 (S2 _ _ e1) e2 (by intro z; cases z)
  have S3:Same H H3:=fun b u q => by rw [← u3,Jag (Jac q h_t)]; exact S2 _ _ (S1 _ _ q)
  try contradiction
  by_cases nl:nonD dl = true
  ·refine ⟨p,C,dx,_,l,rfl,S3 _ _ hp,tc.cls,tc.n4,rfl, ?_⟩
   try simpa only [y4dy,(hl.same S3).rep.nonV,nl]
   refine k t _ H3 h_t S3 e3 ?_
   simp only [JcW,ng',nl,if_true,Bool.false_eq_true,if_false,List.append_nil,List.nil_append,RepL,Rep]
   exact ⟨_,_,rfl,⟨f,_,rfl,SqT.of f3,_,_,rfl,hs.same S3,_,_,rfl,he.same S3,_,_,rfl,(hg.same S3).rep,_,_,rfl,rfl,rfl⟩,rfl⟩
  ·have nl':nonD dl = false:=by simpa using nl
   refine ⟨p,C,dx,_,l,rfl,S3 _ _ hp,tc.cls,tc.n4,rfl, ?_⟩
   try simpa only [y4dy,(hl.same S3).rep.nonV,nl']
   refine ⟨.inl ⟨rfl,_,SqL.of e3⟩, ?_⟩
   refine ⟨p,C,dx,_,en,rfl,S3 _ _ hp,tc.cls,tc.n3,rfl, ?_⟩
   refine ⟨p,C,dx,_,st,rfl,S3 _ _ hp,tc.cls,tc.n2,rfl, ?_⟩
   try contradiction
   refine ⟨p,C,dx,_,l,rfl,S3 _ _ hp,tc.cls,tc.n4,rfl, ?_⟩
   try contradiction
   obtain ⟨la,lb,rfl,hb,hlow,fl,s1,s2⟩:=(hl.same S3).frac nl'
   refine ⟨.ref Ad.ZERO,l,0,1,la,lb,rfl,⟨_,rfl,T.BbF _⟩,fl, .lit (by decide) (by decide), .lit (by decide) (by decide),s1,s2,by decide,hb,by decide,hlow,fun m H4 S4 e4 => ?_⟩
   rw [(JdA hb hlow).1,(JdA hb hlow).2] at e4
   try contradiction
   refine ⟨len4, ?_⟩
   intro w h_w
   generalize q_w:upd H4 w _ = H5
   have S5:=newS h_w q_w
   have e5:=newE q_w
   refine ⟨t,_,_,rfl,rfl,S5 _ _ (S4 _ _ e3),by first | (show 0 < sizeLine; decide) | (show 1 < sizeLine; decide), ?_⟩
   generalize u6:upd H5 t _ = H6
   have e6:=putE u6
   have m6:=putN u6 (S5 _ _ (S4 _ _ e3)) (S5 _ _ e4) (by intro z; cases z)
   have w6:=putN u6 (S5 _ _ (S4 _ _ e3)) e5 (by intro z; cases z)
   have S6:Same H H6:=fun b u q => by rw [← u6,Jag (Jac q h_t)]; exact S5 _ _ (S4 _ _ (S3 _ _ q))
   have f6:=putN u6 (S5 _ _ (S4 _ _ e3)) (S5 _ _ (S4 _ _ f3)) (by intro z; cases z)
   refine k t _ H6 h_t S6 e6 ?_
   simp only [JcW,ng',nl',Bool.false_eq_true,if_false,List.nil_append,List.cons_append,RepL,Rep,negD]
   exact ⟨_,_,rfl,⟨f,_,rfl,SqT.of f6,_,_,rfl,hs.same S6,_,_,rfl,he.same S6,_,_,rfl,(hg.same S6).rep,_,_,rfl,rfl,rfl⟩,_,_,rfl,⟨w,_,rfl,SqT.of w6,_,_,rfl,he.same S6,_,_,rfl,hs.same S6,_,_,rfl,⟨m,_,rfl,SqT.of m6,_,_,rfl,rfl,_,_,rfl,rfl,rfl⟩,_,_,rfl,rfl,rfl⟩,rfl⟩
abbrev Bae:Stmt:=inClass (top 10) 0
theorem Ja0:Jan ["self", "numbers", "number", "factor"] ["self", "numbers"] (Jaf Bae):=⟨rfl,rfl,rfl,by decide +kernel,rfl,by decide +kernel,by decide +kernel⟩
def Ja2 (K:PySem.W.Frag) (Ad:Adr):Sp:=fun vs H Q E => ∃ (x dx a:Addr) (xs:List V) (ns:List Fr2),vs = [.ref x, .ref a]∧H x = some (.ins Ad.Scale dx [])∧H a = some (.lst xs)∧All2 (FLV K H) ns xs∧ns.length ≤ 30∧(∀ n ∈ ns,1 ≤ n.2∧Mth.Sz 64 n.2)∧∀ b fs fl H',H' x = some (.ins Ad.Scale dx [("bottom", .int b),("factors", .ref fl)])→H fl = none→H' fl = some (.lst (fs.map V.int))→(∀ c u,c ≠ x→H c = some u→H' c = some u)→b = bF ns→(∀ n ∈ ns,n.2 ∣ b)→Scl b fs→Mth.Sz 2000 b→fs.length ≤ 30→Q .non H'
theorem Jcf {f:Addr} {fd:FuncData} {dV:Value} (F:FunD K "__init__" "Scale.__init__" Bae dV f fd) (T:Txt K mg Ad) (Bab:Cal P w K mg base 1 "common_divisor" ["one", "other"] [] (JaF)):FnOk P w K mg base (CX1 P w) 2 f fd ["self", "numbers"] (Ja2 K Ad):=by
 refine F.okn Ja0 (fun vs H Q E h => ?_) (fun cdv A outer s H vs Q E hr h => ?_)
 ·obtain ⟨x,dx,a,xs,ns,rfl,_⟩:=h; rfl
 obtain ⟨x,dx,a,xs,ns,rfl,h⟩:=h
 refine ⟨_,(Jab (Jbs (pv 0) Jad rfl)
   (Jab (Jbs (pv 0) (Jbq Jae) rfl)
   (Jah (JaY PassesOwn.never rfl (pi_U (pv 1)) (Jaj (i:=2) Ja0.nd rfl (Or.inl rfl))
   (Jab (Jak (i:=3) Ja0.nd rfl (Or.inl rfl) (pe_op Jaz (pe_ix ix_U (pv 2) Jad (fun _ _ => rfl)) (Bab.ev hr (by decide) rfl passF (Jaa (JaK (pv 0) rfl) (Jaa (pe_ix ix_U (pv 2) Jad (fun _ _ => rfl)) Jae)) (he:=by exact Jai rfl))))
   (Jah (ps_if (Jav Jgr (pv 3) Jad (Jay _))
   (Jab (Jbs (pv 0) (pe_op JaT (JaK (pv 0) rfl) (pv 3)) rfl)
   (Jah (Ja6 (pe_bm PySem.F.plainAttrs_list PySem.F.slot_list_append PySem.F.type_list_append JaX (JaK (pv 0) rfl) (Jaa (pv 3) Jae) (hs:=by exact Jai rfl)))))
   Jas))))))), ?_⟩
 obtain ⟨e0,hA,hN,hl,hok,k⟩:=h
 have tc:=T.Bbp Ad.Scale rfl
 have sl:(1000:Nat) ≤ sizeLine:=by decide
 have lx:=hN.length
 show tSeq _ _ _ [some (.ref x),some (.ref a),none,none] H
 symm_saturate
 refine ⟨x,_,dx,_,rfl,e0,tc.cls,tc.n1,by simp, ?_⟩
 generalize u1:upd H x _ = H1
 symm_saturate
 have e1:H1 x = some (.ins Ad.Scale dx [("bottom", .int 1)]):=by rw [← u1]; exact Jap.trans rfl
 have o1:∀ b,b ≠ x→H1 b = H b:=fun b hb => by rw [← u1,Jag hb]
 symm_saturate
 refine ⟨len0, ?_⟩
 intro fl h_fl
 generalize q_fl:upd H1 fl _ = H2
 have S2:=newS h_fl q_fl
 have e2:=newE q_fl
 symm_saturate
 symm_saturate
 refine ⟨x,_,dx,_,rfl,S2 _ _ e1,tc.cls,tc.n2,by simp, ?_⟩
 generalize u3:upd H2 x _ = H3
 symm_saturate
 have e3:H3 x = some (.ins Ad.Scale dx [("bottom", .int 1),("factors", .ref fl)]):=by rw [← u3]; exact Jap.trans rfl
 have nx:fl ≠ x:=fun z => by rw [z,e1] at h_fl; cases h_fl
 have f3:H3 fl = some (.lst []):=by rw [← u3,Jag nx]; exact e2
 have o3:∀ c u,c ≠ x→H c = some u→H3 c = some u:=fun c u hc h => by rw [← u3,Jag hc]; exact S2 _ _ (by rw [o1 c hc]; exact h)
 have h0fl:H fl = none:=by rw [← o1 fl nx]; exact h_fl
 have nax:a ≠ x:=fun z => by rw [z,e0] at hA; cases hA
 have T03:SameT H H3:=(SameT.put u1 e0 rfl).trans (S2.t.trans (SameT.put u3 (S2 _ _ e1) rfl))
 symm_saturate
 refine ⟨a,rfl,ForA.byL (xs:=xs) (SqL.of (o3 _ _ nax hA)) (fun i σ H' => i ≤ xs.length∧∃ (v2 v3:Option V) (b:Int) (fs:List Int), σ = [some (.ref x),some (.ref a),v2,v3]∧H' x = some (.ins Ad.Scale dx [("bottom", .int b),("factors", .ref fl)])∧H' fl = some (.lst (fs.map V.int))∧(∀ c u,c ≠ x→H c = some u→H' c = some u)∧SameT H H'∧b = bF (ns.take i)∧(∀ m ∈ ns.take i,m.2 ∣ b)∧Scl b fs∧Mth.Sz (1 + 64 * i) b∧fs.length ≤ i) ⟨Nat.zero_le _,none,none,1,[],rfl,e3,f3,o3,T03,rfl,(fun m hm => by simp at hm),Scl.nil, .lit (by decide) (by decide),Nat.le_refl _⟩ (fun i σ H' q => by obtain ⟨_,_,_,_,_,_,_,_,q,_⟩:=q; exact SqL.of (q _ _ nax hA)) ?_ ?_⟩
 ·rintro i y σ H4 hy ⟨hi,v2,v3,b,fs,rfl,hx,hf,ho,hT,hbe,hdv,hs,sb,lf⟩
  have li:=(List.getElem?_eq_some_iff.mp hy).1
  obtain ⟨n,hn,fn⟩:=hN.at_ hy
  have fn:FrV K H4 y n.1 n.2:=FrV.sameT hT fn
  have nok:=hok n (List.mem_of_getElem? hn)
  have ntk:∀ m ∈ ns.take (i + 1),m ∈ ns.take i ∨ m = n:=fun m hm => by
   rw [List.take_succ,hn] at hm
   simpa using hm
  have sb:Mth.Sz 2000 b:=sb.mono (by omega)
  have gp:=Mth.g_pos (a:=b) (b:=n.2) (by omega)
  have gd:=Mth.Jb7 b n.2
  have ndv:n.2 ∣ b * n.2.fdiv (Mth.g b n.2):=JhZ (by omega)
  have hbs:b * n.2.fdiv (Mth.g b n.2) = bF (ns.take (i + 1)):=by
   rw [List.take_succ,hn]
   show _ = bF (ns.take i ++ [n])
   rw [JhU, ← hbe]
  have gl:=Mth.g_le (a:=b) (b:=n.2) (by omega)
  have d1:DivOk (Mth.g b n.2):=divOk (n:=64) (by omega) (Nat.lt_of_le_of_lt (by omega:(Mth.g b n.2).natAbs ≤ n.2.natAbs) nok.2)
  have f1:=Mth.Jcs gd (by omega) nok.1
  have sf:Mth.Sz 64 (n.2.fdiv (Mth.g b n.2)):=nok.2.fdiv gd (by omega)
  symm_saturate
  refine ixF1 fn ?_
  refine ⟨x,_,dx,_, .int b,rfl,hx,tc.cls,tc.n1,rfl, ?_⟩
  refine ixF1 fn ?_
  symm_saturate
  refine ⟨_,_,rfl, ?_⟩
  symm_saturate
  refine ⟨d1, ?_⟩
  generalize n.2.fdiv (Mth.g b n.2) = f at *
  symm_saturate
  by_cases c:1 < f
  ·rw [if_pos (by simpa using c)]
   symm_saturate
   try simpa only [y4dy,y86y]
   refine ⟨x,_,dx,_, .int b,rfl,hx,tc.cls,tc.n1,rfl, ?_⟩
   try simpa only [y4dy,y86y]
   refine ⟨mulOk sb sf, ?_⟩
   refine ⟨x,_,dx,_,rfl,hx,tc.cls,tc.n1,by simp, ?_⟩
   generalize u5:upd H4 x _ = H5
   symm_saturate
   have e5:H5 x = some (.ins Ad.Scale dx [("bottom", .int (b * f)),("factors", .ref fl)]):=by rw [← u5]; exact Jap.trans rfl
   have f5:H5 fl = some (.lst (fs.map V.int)):=by rw [← u5,Jag nx]; exact hf
   have T5:SameT H4 H5:=SameT.put u5 hx rfl
   try simpa only [y4dy,y86y]
   refine ⟨x,_,dx,_, .ref fl,rfl,e5,tc.cls,tc.n2,rfl, ?_⟩
   refine ⟨.inl ⟨rfl,_,SqL.of f5⟩, ?_⟩
   symm_saturate
   refine ⟨fl,_,_,rfl,rfl,f5,by rw [List.length_map]; omega, ?_⟩
   generalize u6:upd H5 fl _ = H6
   symm_saturate
   have f6:=putE u6
   have T6:SameT H5 H6:=SameT.put u6 f5 rfl
   symm_saturate
   refine ⟨li,_,_,b * f,fs ++ [f],rfl,by rw [← u6,Jag (Ne.symm nx)]; exact e5,by rw [f6]; simp,fun c u hc h => by rw [← u6,Jag (Jac h h0fl), ← u5,Jag hc]; exact ho c u hc h,hT.trans (T5.trans T6),hbs,(fun m hm => (ntk m hm).elim (fun h => Int.dvd_trans (hdv m h) (Int.dvd_mul_right ..)) fun h => h ▸ ndv),hs.snoc (by omega), ?_,by simp; omega⟩
   have:=(show Mth.Sz (1 + 64 * i) b by assumption).mul sf
   exact this.mono (by omega)
  ·rw [if_neg (by simpa using c)]
   symm_saturate
   symm_saturate
   have f1_:f = 1:=by omega
   rw [f1_,Int.mul_one] at ndv hbs
   exact ⟨li,_,_,b,fs,rfl,hx,hf,ho,hT,hbs,(fun m hm => (ntk m hm).elim (hdv m) fun h => h ▸ ndv),hs,(show Mth.Sz (1 + 64 * i) b by assumption).mono (by omega),by omega⟩
 ·rintro σ H4 ⟨hi,v2,v3,b,fs,rfl,hx,hf,ho,hT,hbe,hdv,hs,sb,lf⟩
  symm_saturate
  rw [List.take_of_length_le (by omega)] at hdv hbe
  exact k b fs fl H4 hx h0fl hf ho hbe hdv hs (sb.mono (by omega)) (by omega)
abbrev Bak:Stmt:=inClass (top 10) 1
theorem JaH:Jan ["self", "number", "top", "rest", "factor", "shared"] ["self", "number"] (Jaf Bak):=⟨rfl,rfl,rfl,by decide +kernel,rfl,by decide +kernel,by decide +kernel⟩
def Jbc (K:PySem.W.Frag) (Ad:Adr):Sp:=fun vs H Q E => ∃ (x:Addr) (v:V) (n:Fr2) (b:Int) (fs:List Int),vs = [.ref x,v]∧SCK Ad H x b fs∧FrV K H v n.1 n.2∧FB 400 64 n∧n.2 ∣ b∧∀ p H',Same H H'→H' p = some (.tup [.int (n.1 * b.fdiv n.2), .int 1])→Q (.ref p) H'
theorem JcM {f:Addr} {fd:FuncData} {dV:Value} (F:FunD K "lifted" "Scale.lifted" Bak dV f fd) (T:Txt K mg Ad) (Bab:Cal P w K mg base 1 "common_divisor" ["one", "other"] [] (JaF)):FnOk P w K mg base (CX1 P w) 2 f fd ["self", "number"] (Jbc K Ad):=by
 refine F.okn JaH (fun vs H Q E h => ?_) (fun cdv A outer s H vs Q E hr h => ?_)
 ·obtain ⟨x,v,n,b,fs,rfl,_⟩:=h; rfl
 obtain ⟨x,v,n,b,fs,rfl,h⟩:=h
 have hu:=hr.units
 refine ⟨_,(Jab (ps_if (Jav (JbX hu) (pe_op JaL (JaK (pv 0) rfl) (pe_ix ix_U (pv 1) Jad (fun _ _ => rfl))) Jad (Jay _))
   (Jah (Jao (JaO (Jaa (pe_op JaT (pe_ix ix_U (pv 1) Jad (fun _ _ => rfl)) (pe_op Jaz (JaK (pv 0) rfl) (pe_ix ix_U (pv 1) Jad (fun _ _ => rfl)))) (Jaa Jad Jae)))))
   Jas)
   (Jab (Jak (i:=2) JaH.nd rfl (Or.inl rfl) (pe_ix ix_U (pv 1) Jad (fun _ _ => rfl)))
   (Jab (Jak (i:=3) JaH.nd rfl (Or.inl rfl) (pe_ix ix_U (pv 1) Jad (fun _ _ => rfl)))
   (Jab (JaY PassesOwn.never rfl (pi_U (JaK (pv 0) rfl)) (Jaj (i:=4) JaH.nd rfl (Or.inl rfl))
   (Jab (Jak (i:=5) JaH.nd rfl (Or.inl rfl) (Bab.ev hr (by decide) rfl passF (Jaa (pv 3) (Jaa (pv 4) Jae)) (he:=by exact Jai rfl)))
   (Jab (Jak (i:=2) JaH.nd rfl (Or.inl rfl) (pe_op JaT (pv 2) (pe_op Jaz (pv 4) (pv 5))))
   (Jah (Jak (i:=3) JaH.nd rfl (Or.inl rfl) (pe_op Jaz (pv 3) (pv 5)))))))
   (Jah (Jao (JaO (Jaa (pv 2) (Jaa (pv 3) Jae))))))))), ?_⟩
 clear hu
 obtain ⟨⟨dx,fl,hx,hf,hs,sb,l30⟩,fv,fb,dv,k⟩:=h
 have tc:=T.Bbp Ad.Scale rfl
 have n1:=fb.b1
 have d1:DivOk n.2:=divOk (n:=64) (by omega) fb.s2
 have c:b.fmod n.2 = 0:=by
  rw [Int.fmod_eq_emod_of_nonneg _ (by omega)]
  exact Int.emod_eq_zero_of_dvd dv
 show tSeq _ _ _ [some (.ref x),some v,none,none,none,none] H
 and_intros
 refine ⟨x,_,dx,_, .int b,rfl,hx,tc.cls,tc.n1,rfl, ?_⟩
 refine ixF1 fv ?_
 and_intros
 refine ⟨by omega, ?_⟩
 rw [if_pos (by simpa using c)]
 and_intros
 and_intros
 refine ixF0 fv ?_
 refine ⟨x,_,dx,_, .int b,rfl,hx,tc.cls,tc.n1,rfl, ?_⟩
 refine ixF1 fv ?_
 and_intros
 refine ⟨d1,mulOk fb.s1 (sb.fdiv dv n1),len2, ?_⟩
 intro p h_p
 generalize q_p:upd H p _ = H1
 have S1:=newS h_p q_p
 have e1:=newE q_p
 and_intros
 exact k p H1 S1 e1
abbrev Bah:Stmt:=inClass (top 30) 0
theorem Jcq:Jan ["self", "name", "row", "scale"] ["self", "name", "row", "scale"] (Jaf Bah):=⟨rfl,rfl,rfl,by decide +kernel,rfl,by decide +kernel,by decide +kernel⟩
def Ja7 (K:PySem.W.Frag) (Ad:Adr):Sp:=fun vs H Q E => ∃ (x dx sc r:Addr) (nm vs_ vt vc:V) (b:Int) (fs:List Int) (n:Fr2) (w:V),vs = [.ref x,nm, .ref r, .ref sc]∧H x = some (.ins Ad.Step dx [])∧SqT K H r [vs_,vt,vc,w]∧FrV K H vc n.1 n.2∧FB 400 64 n∧n.2 ∣ b∧SCK Ad H sc b fs∧∀ pr H',(∀ c u,c ≠ x→H c = some u→H' c = some u)→H' pr = some (.tup [nm,w])→H' x = some (.ins Ad.Step dx [("source",vs_),("target",vt),("cost",vc),("whole", .int (n.1 * b.fdiv n.2)),("pair", .ref pr)])→Q .non H'
theorem Jcp {f:Addr} {fd:FuncData} {dV:Value} (F:FunD K "__init__" "Step.__init__" Bah dV f fd) (T:Txt K mg Ad) (Bbr:MCal P w K mg base 2 "lifted" (Jep Ad) ["self", "number"] (Jbc K Ad)):FnOk P w K mg base (CX1 P w) 3 f fd ["self", "name", "row", "scale"] (Ja7 K Ad):=by
 refine F.okn Jcq (fun vs H Q E h => ?_) (fun cdv A outer s H vs Q E hr h => ?_)
 ·obtain ⟨x,dx,sc,r,nm,vs_,vt,vc,b,fs,n,w,rfl,_⟩:=h; rfl
 obtain ⟨x,dx,sc,r,nm,vs_,vt,vc,b,fs,n,w,rfl,h⟩:=h
 refine ⟨_,(Jab (Jbs (pv 0) (pe_ix ix_U (pv 2) Jad (fun _ _ => rfl)) rfl)
   (Jab (Jbs (pv 0) (pe_ix ix_U (pv 2) Jad (fun _ _ => rfl)) rfl)
   (Jab (Jbs (pv 0) (pe_ix ix_U (pv 2) Jad (fun _ _ => rfl)) rfl)
   (Jab (Jbs (pv 0) (pe_ix ix_U (Bbr.m hr (by decide) passF (pv 3) (Jaa (pe_ix ix_U (pv 2) Jad (fun _ _ => rfl)) Jae)) Jad (fun _ _ => rfl)) rfl)
   (Jah (Jbs (pv 0) (JaO (Jaa (pv 1) (Jaa (pe_ix ix_U (pv 2) Jad (fun _ _ => rfl)) Jae))) rfl)))))), ?_⟩
 obtain ⟨e0,hr_,fv,fb,dv,hsc,k⟩:=h
 have tc:=T.c_Step Ad.Step rfl
 have tsc:=T.Bbp Ad.Scale rfl
 show tSeq _ _ _ [some (.ref x),some nm,some (.ref r),some (.ref sc)] H
 exfalso
 refine ixT (i:=0) hr_ rfl ?_
 exfalso
 refine ⟨x,_,dx,_,rfl,e0,tc.cls,tc.n1,by simp, ?_⟩
 generalize u1:upd H x _ = H1
 exfalso
 have e1:H1 x = some (.ins Ad.Step dx [("source",vs_)]):=by rw [← u1]; exact Jap.trans rfl
 have T1:SameT H H1:=SameT.put u1 e0 rfl
 have o1:∀ c u,c ≠ x→H c = some u→H1 c = some u:=fun c u hc h => by rw [← u1,Jag hc]; exact h
 exfalso
 refine ixT (i:=1) (hr_.sameT T1) rfl ?_
 exfalso
 refine ⟨x,_,dx,_,rfl,e1,tc.cls,tc.n2,by simp, ?_⟩
 generalize u2:upd H1 x _ = H2
 exfalso
 have e2:H2 x = some (.ins Ad.Step dx [("source",vs_),("target",vt)]):=by rw [← u2]; exact Jap.trans rfl
 have T2:SameT H H2:=T1.trans (SameT.put u2 e1 rfl)
 have o2:∀ c u,c ≠ x→H c = some u→H2 c = some u:=fun c u hc h => by rw [← u2,Jag hc]; exact o1 c u hc h
 exfalso
 refine ixT (i:=2) (hr_.sameT T2) rfl ?_
 exfalso
 refine ⟨x,_,dx,_,rfl,e2,tc.cls,tc.n3,by simp, ?_⟩
 generalize u3:upd H2 x _ = H3
 exfalso
 have e3:H3 x = some (.ins Ad.Step dx [("source",vs_),("target",vt),("cost",vc)]):=by rw [← u3]; exact Jap.trans rfl
 have T3:SameT H H3:=T2.trans (SameT.put u3 e2 rfl)
 have o3:∀ c u,c ≠ x→H c = some u→H3 c = some u:=fun c u hc h => by rw [← u3,Jag hc]; exact o2 c u hc h
 obtain ⟨dsc,fl,hs1,hs2,hs3⟩:=id hsc
 have nsx:sc ≠ x:=fun z => by rw [z,e0] at hs1; simp at hs1
 have nfx:fl ≠ x:=fun z => by rw [z,e0] at hs2; cases hs2
 have hsc3:SCK Ad H3 sc b fs:=⟨dsc,fl,o3 _ _ nsx hs1,o3 _ _ nfx hs2,hs3⟩
 exfalso
 refine ⟨sc,_,dsc,_,rfl,o3 _ _ nsx hs1,rfl,rfl, ?_⟩
 refine ixT (i:=2) (hr_.sameT T3) rfl ?_
 exfalso
 refine ⟨sc,vc,n,b,fs,rfl,hsc3,FrV.sameT T3 fv,fb,dv,fun p H4 S4 e4 => ?_⟩
 exfalso
 refine ixT (i:=0) (SqT.of e4) rfl ?_
 exfalso
 refine ⟨x,_,dx,_,rfl,S4 _ _ e3,tc.cls,tc.n4,by simp, ?_⟩
 generalize u5:upd H4 x _ = H5
 exfalso
 have e5:H5 x = some (.ins Ad.Step dx [("source",vs_),("target",vt),("cost",vc),("whole", .int (n.1 * b.fdiv n.2))]):=by rw [← u5]; exact Jap.trans rfl
 have T5:SameT H H5:=T3.trans (S4.t.trans (SameT.put u5 (S4 _ _ e3) rfl))
 have o5:∀ c u,c ≠ x→H c = some u→H5 c = some u:=fun c u hc h => by rw [← u5,Jag hc]; exact S4 _ _ (o3 c u hc h)
 exfalso
 refine ixT (i:=3) (hr_.sameT T5) rfl ?_
 exfalso
 refine ⟨len2, ?_⟩
 intro pr h_pr
 generalize q_pr:upd H5 pr _ = H6
 have S6:=newS h_pr q_pr
 have e6:=newE q_pr
 exfalso
 exfalso
 refine ⟨x,_,dx,_,rfl,S6 _ _ e5,tc.cls,tc.n5,by simp, ?_⟩
 generalize u7:upd H6 x _ = H7
 exfalso
 have e7:H7 x = some (.ins Ad.Step dx [("source",vs_),("target",vt),("cost",vc),("whole", .int (n.1 * b.fdiv n.2)),("pair", .ref pr)]):=by rw [← u7]; exact Jap.trans rfl
 have npx:pr ≠ x:=fun z => by rw [z,e5] at h_pr; cases h_pr
 exfalso
 exact k pr H7 (fun c u hc h => by rw [← u7,Jag hc]; exact S6 _ _ (o5 c u hc h)) (by rw [← u7,Jag npx]; exact e6) e7
abbrev BaB:Stmt:=top 31
theorem Jbz:Jan ["ties", "rows", "tie", "scale"] ["ties"] (Jaf BaB):=⟨rfl,rfl,rfl,by decide +kernel,rfl,by decide +kernel,by decide +kernel⟩
def Jb5 (K:PySem.W.Frag) (Ad:Adr):Sp:=fun vs H Q E => ∃ (a:Addr) (xs:List V) (ts:List TD),vs = [.ref a]∧SqL K H a xs∧All2 (TOb K Ad H) ts xs∧(∀ t ∈ ts,TOk t)∧(∀ s ∈ Ch.all ts,FB 400 64 s.c)∧ts.length ≤ 15∧∀ l ys (b:Int) H',Same H H'→H' l = some (.lst ys)→b = bF ((Ch.all ts).map (·.c))→1 ≤ b→Mth.Sz 2000 b→(∀ s ∈ Ch.all ts,s.c.2 ∣ b)→All2 (SOV K Ad b H') (Ch.all ts) ys→Q (.ref l) H'
theorem JeL {f:Addr} {fd:FuncData} {dV:Value} (F:FunD K "steps_of" "steps_of" BaB dV f fd) (T:Txt K mg Ad) (m_steps:MCal P w K mg base 4 "steps" (IsTie Ad) ["self"] (JbI K Ad)) (BbE:KCal P w K mg base 2 "Scale" Ad.Scale ["self", "numbers"] (Ja2 K Ad)) (k_Step:KCal P w K mg base 3 "Step" Ad.Step ["self", "name", "row", "scale"] (Ja7 K Ad)):FnOk P w K mg base (CX1 P w) 6 f fd ["ties"] (Jb5 K Ad):=by
 refine F.okn Jbz (fun vs H Q E h => ?_) (fun cdv A outer s H vs Q E hr h => ?_)
 ·obtain ⟨a,xs,ts,rfl,_⟩:=h; rfl
 obtain ⟨a,xs,ts,rfl,h⟩:=h
 refine ⟨_,(Jab (Jak (i:=1) Jbz.nd rfl (Or.inl rfl) (Jbq Jae))
   (Jab (JaY PassesOwn.never rfl (pi_U (pv 0)) (Jaj (i:=2) Jbz.nd rfl (Or.inr rfl))
   (Jah (Ja6 (pe_bm PySem.F.plainAttrs_list PySem.F.slot_list_extend PySem.F.type_list_extend Jgk (pv 1) (Jaa (JdG (own:=["row"]) (cs:=[(2, "tie")]) rfl (pi_U (m_steps.m0 hr (by decide) passF (pv 2))) (fun _ _ _ _ => (Jaj (i:=0) (show [("row" : Str),("tie" : Str)].Nodup by decide) rfl (Or.inl rfl))) (fun _ _ _ _ => (JaO (Jaa (Jil (K:=K) rfl (pv 1) rfl) (Jaa (pv 0) Jae)))) (Jdf rfl) (by decide) rfl (by decide)
   (hcs1 rfl rfl rfl)) Jae)))))
   (Jab (Jak (i:=3) Jbz.nd rfl (Or.inr rfl) (BbE.ev hr (by decide) rfl passF (Jaa (Jch (own:=["name", "row"]) (cs:=[]) (cl:=[]) rfl (pi_U (pv 1)) (fun _ _ _ _ => (JeN (K:=K) (n:=2) rfl rfl (JaA (Jaj (i:=0) (show [("name" : Str),("row" : Str)].Nodup by decide) rfl (Or.inl rfl) (hf:=Or.inr rfl)) (JaA (Jaj (i:=1) (show [("name" : Str),("row" : Str)].Nodup by decide) rfl (Or.inl rfl) (hf:=Or.inr rfl)) JbZ)))) (fun _ _ _ _ => (pe_ix (ix_UK (K:=K) rfl) (pv 1) Jad (fun _ _ => rfl))) rfl (by decide) rfl (by decide) hcl0 (hhas0 (by decide)) hcs0) Jae)))
   (Jah (Jao (JdG (own:=["name", "row"]) (cs:=[(3, "scale")]) rfl (pi_U (pv 1)) (fun _ _ _ _ => (JeN (K:=K) (n:=2) rfl rfl (JaA (Jaj (i:=0) (show [("name" : Str),("row" : Str),("scale" : Str)].Nodup by decide) rfl (Or.inl rfl) (hf:=Or.inr rfl)) (JaA (Jaj (i:=1) (show [("name" : Str),("row" : Str),("scale" : Str)].Nodup by decide) rfl (Or.inl rfl) (hf:=Or.inr rfl)) JbZ)))) (fun _ _ _ _ => (k_Step.ev hr (by decide) rfl passF (Jaa (pv 0) (Jaa (pv 1) (Jaa (pv 2) Jae))))) (Jdf rfl) (by decide) rfl (by decide)
   (hcs1 rfl rfl rfl))))))), ?_⟩
 obtain ⟨hS,hR,hT,hfb,hl,k⟩:=h
 have sl:(1000:Nat) ≤ sizeLine:=by decide
 have lR:=hR.length
 have hlen:∀ i,(Ch.all (ts.take i)).length ≤ 2 * i:=fun i => Jeq i
 show tSeq _ _ _ [some (.ref a),none,none,none] H
 and_intros
 refine ⟨len0, ?_⟩
 intro rl h_rl
 generalize q_rl:upd H rl _ = H1
 have S1:=newS h_rl q_rl
 have e1:=newE q_rl
 and_intros
 refine ⟨a,rfl,ForA.byLN (xs:=xs) (hS.same S1) (fun i σ H' => i ≤ xs.length∧∃ (v2:Option V) (rx:List V), σ = [some (.ref a),some (.ref rl),v2,none]∧Same H H'∧H' rl = some (.lst rx)∧All2 (SRV K H') (Ch.all (ts.take i)) rx) ⟨Nat.zero_le _,none,[],rfl,S1,e1,by rw [List.take_zero]; exact rfl⟩ (fun i σ H' z => by obtain ⟨_,_,_,_,z,_⟩:=z; exact hS.same z) ?_ ?_⟩
 ·rintro i x σ H2 hx ⟨hi,v2,rx,rfl,S2,e2,hD⟩ N0 hN0
  have li:=(List.getElem?_eq_some_iff.mp hx).1
  obtain ⟨t,ht,tv0⟩:=hR.at_ hx
  have ok:=hT t (List.mem_of_getElem? ht)
  obtain ⟨vl,vg,tv,hl',hg'⟩:=tv0.same S2
  have tv':=tv
  obtain ⟨p',dx,rfl,hp'⟩:=tv
  have tc:=T.tie _ (JeB Ad (bD t.lo) (bD t.hi))
  and_intros
  refine ⟨.inl ⟨rfl,_,SqL.of e2⟩, ?_⟩
  refine ⟨p',_,dx,_,rfl,hp',JeB Ad _ _,rfl, ?_⟩
  refine ⟨_,_,_,_,_,_,_, .str t.st, .str t.en,bD t.lo,bD t.hi,rfl,tv',JeB Ad _ _,repS,repS,Jht hl' ok.lo,Jht hg' ok.hi,fun q ys H4 hn S4 e4 r4 => ?_⟩
  rw [Jhp] at r4
  have pv:=All2.ofRepL (P:=PV K H4) (fun s x => PV.of) r4
  have l2:(Ch.steps t).length ≤ 2:=by unfold Ch.steps fwd bwd; cases t.hi <;> cases t.lo <;> simp
  have lpv:=pv.length
  and_intros
  refine ⟨q,rfl, .inl ⟨⟨_,SqL.of e4⟩,CompJ.list (xs:=ys) (fun j zs H' => Same H4 H'∧All2 (SRV K H') ((Ch.steps t).take j) zs) ⟨Same.refl _,by rw [List.take_zero]; exact rfl⟩ (fun j zs H' hj z => ⟨SqL.of (z.1 _ _ e4),by have:=z.2.length; rw [List.length_take] at this; omega⟩) ?_ ?_⟩⟩
  ·rintro j y zs H5 hy ⟨S5,hA⟩
   obtain ⟨s,hs,ps0⟩:=pv.at_ hy
   have nm:s.nm = t.nm:=JdB (List.mem_of_getElem? hs)
   simpa only [List.length_singleton,List.length_cons,List.length_nil,List.replicate,Jau,List.map_cons,List.map_nil,Option.join_some,y4dy]
   refine ⟨p',_,dx,_, .str t.nm,rfl,S5 _ _ (S4 _ _ hp'),tc.cls,tc.n1,rfl, ?_⟩
   and_intros
   refine ⟨by show 2 ≤ sizeLine; omega, ?_⟩
   intro c h_c
   generalize q_c:upd H5 c _ = H6
   have S6:=newS h_c q_c
   have e6:=newE q_c
   and_intros
   refine ⟨S5.trans S6, ?_⟩
   rw [List.take_succ,hs]
   exact (hA.mono (P':=SRV K H6) fun _ _ z => z.sameT S6.t).append (.one ⟨c,y,rfl,by rw [nm]; exact SqT.of e6,ps0.sameT (S5.t.trans S6.t)⟩)
  ·rintro zs H5 ⟨S5,hA⟩
   rw [List.take_of_length_le (by omega)] at hA
   intro cl h_cl
   generalize q_cl:upd H5 cl _ = H6
   have S6:=newS h_cl q_cl
   have e6:=newE q_cl
   and_intros
   have S26:=S4.trans (S5.trans S6)
   have lD:=hD.length
   have lA:=hA.length
   have hli:=hlen i
   refine ⟨rl,cl,rx,zs,rfl,rfl,S26 _ _ e2,e6,by omega, ?_⟩
   generalize u7:upd H6 rl _ = H7
   and_intros
   have e7:=putE u7
   have T7:SameT H6 H7:=SameT.put u7 (S26 _ _ e2) rfl
   refine hN0 _ _ ⟨li,_,rx ++ zs,rfl,fun b w h => by rw [← u7,Jag (Jac h h_rl)]; exact S26 _ _ (S2 _ _ h),e7, ?_⟩
   rw [show Ch.all (ts.take (i + 1)) = Ch.all (ts.take i) ++ Ch.steps t by rw [List.take_succ,ht]; simp [Ch.all]]
   exact (hD.mono (P':=SRV K H7) fun _ _ z => z.sameT (S26.t.trans T7)).append (hA.mono (P':=SRV K H7) fun _ _ z => z.sameT (S6.t.trans T7))
 ·rintro σ H2 ⟨hi,v2,rx,rfl,S2,e2,hD⟩
  have hli:=hlen ts.length
  rw [List.take_of_length_le (by omega)] at hD
  rw [List.take_of_length_le (Nat.le_refl _)] at hli
  have lD:=hD.length
  and_intros
  refine ⟨rl,rfl, .inl ⟨⟨_,SqL.of e2⟩,CompJ.list (xs:=rx) (fun j zs H' => H' = H2∧All2 (FLV K H2) (((Ch.all ts).map (·.c)).take j) zs) ⟨rfl,by rw [List.take_zero]; exact rfl⟩ (fun j zs H' hj z => ⟨by rw [z.1]; exact SqL.of e2,by have:=z.2.length; rw [List.length_take] at this; omega⟩) ?_ ?_⟩⟩
  ·rintro j y zs H3 hy ⟨rfl,hA⟩
   obtain ⟨s,hs,b,v,rfl,hb,b',vc,rfl,hb',hc⟩:=hD.at_ hy
   simpa only [List.length_singleton,List.length_cons,List.length_nil,List.replicate,Jau,List.map_cons,List.map_nil,Option.join_some]
   refine ⟨b,_,rfl,hb,rfl, ?_⟩
   and_intros
   refine ixT (i:=2) hb' rfl ?_
   and_intros
   rw [List.take_succ,List.getElem?_map,hs]
   exact hA.append (.one hc)
  ·rintro zs H3 ⟨rfl,hA⟩
   rw [List.take_of_length_le (by rw [List.length_map]; omega)] at hA
   intro nl h_nl
   generalize q_nl:upd H3 nl _ = H4
   have S4:=newS h_nl q_nl
   have e4:=newE q_nl
   and_intros
   and_intros
   intro sc ds hs hds hne_
   have Sm:Same H4 (upd (upd H4 ds (.own sc)) sc (.ins Ad.Scale ds [])):=fun b u q => by rw [Jag (Jac q hs),Jag (Jac q hds)]; exact q
   refine ⟨sc,ds,nl,zs,(Ch.all ts).map (·.c),rfl,Jap,Sm _ _ e4,hA.mono (fun _ _ z => FLV.sameT (S4.t.trans Sm.t) z),by rw [List.length_map]; omega,fun n hn => ?_,fun b fs fl H6 h1 h2 h3 h4 hbe hdv hsc hsz hfl => ⟨rfl, ?_⟩⟩
   ·obtain ⟨s,hs',rfl⟩:=List.mem_map.mp hn
    exact ⟨(hfb s hs').b1,(hfb s hs').s2⟩
   have S46:Same H4 H6:=fun c u h => h4 c u (Jac h hs) (Sm _ _ h)
   have S36:=S4.trans S46
   have sck:SCK Ad H6 sc b fs:=⟨ds,fl,h1,h3,hsc,hsz,hfl⟩
   have hdv:∀ s ∈ Ch.all ts,s.c.2 ∣ b:=fun s hs' => hdv s.c (List.mem_map.mpr ⟨s,hs',rfl⟩)
   have hD6:All2 (SRV K H6) (Ch.all ts) rx:=hD.mono fun _ _ z => z.sameT S36.t
   and_intros
   refine ⟨rl,rfl, .inl ⟨⟨_,SqL.of (S36 _ _ e2)⟩,CompJ.list (xs:=rx) (fun j zs H' => Same H6 H'∧All2 (SOV K Ad b H') ((Ch.all ts).take j) zs) ⟨Same.refl _,by rw [List.take_zero]; exact rfl⟩ (fun j zs H' hj z => ⟨SqL.of (z.1 _ _ (S36 _ _ e2)),by have:=z.2.length; rw [List.length_take] at this; omega⟩) ?_ ?_⟩⟩
   ·rintro j y zs' H7 hy ⟨S7,hA7⟩
    obtain ⟨s,hs',srv⟩:=hD6.at_ hy
    have hsm:=List.mem_of_getElem? hs'
    obtain ⟨p,v,rfl,hp,p',vc,rfl,hp',hc⟩:=srv.sameT S7.t
    simpa only [List.length_singleton,List.length_cons,List.length_nil,List.replicate,Jau,List.map_cons,List.map_nil,Option.join_some]
    refine ⟨p,_,rfl,hp,rfl, ?_⟩
    and_intros
    intro x dx hx hdx hne_
    have Sm:Same H7 (upd (upd H7 dx (.own x)) x (.ins Ad.Step dx [])):=fun b u q => by rw [Jag (Jac q hx),Jag (Jac q hdx)]; exact q
    refine ⟨x,dx,sc,p', .str s.nm, .str s.src, .str s.dst,vc,b,fs,s.c, .bl s.fw,rfl,Jap,hp'.same Sm,FrV.same Sm hc,hfb s hsm,hdv s hsm,(sck.same S7).same Sm,fun pr H8 ho e1 e2 => ?_⟩
    have S78:Same H7 H8:=fun c u h => ho c u (Jac h hx) (Sm _ _ h)
    refine ⟨rfl,S7.trans S78, ?_⟩
    rw [List.take_succ,hs']
    exact (hA7.mono (P':=SOV K Ad b H8) fun _ _ z => z.same S78).append (.one ⟨x,dx,vc,pr,rfl,e2,FrV.same S78 hc,e1⟩)
   ·rintro zs' H7 ⟨S7,hA7⟩
    rw [List.take_of_length_le (Nat.le_of_eq (by omega))] at hA7
    intro ol h_ol
    generalize q_ol:upd H7 ol _ = H8
    have S8:=newS h_ol q_ol
    have e8:=newE q_ol
    and_intros
    exact k ol zs' b H8 (S2.trans (S36.trans (S7.trans S8))) e8 hbe hsc.b1 hsz hdv (hA7.mono fun _ _ z => z.same S8)
abbrev Baq:Stmt:=top 33
theorem JaB:Jan ["steps", "starts", "sums", "face", "lasts", "changed", "turn", "step", "total"] ["steps", "starts"] (Jaf Baq):=⟨rfl,rfl,rfl,by decide +kernel,rfl,by decide +kernel,by decide +kernel⟩
def JbB (K:PySem.W.Frag) (Ad:Adr):Sp:=fun vs H Q E => ∃ (sL fL:Addr) (sx:List V) (ss:List SpS) (f0:Str) (π : Str→Int),vs = [.ref sL, .ref fL]∧SqL K H sL sx∧All2 (SOS K Ad H) ss sx∧SqL K H fL [.str f0]∧Pot π ss∧ss.length ≤ 30∧∀ ld kv P H',Same H H'→H ld = none→H' ld = some (.dK kv)→DV (SOS K Ad H) P kv→P = (bfR ss (ss.length + 1) (bf0 f0)).P→BE ss f0 P→Q (.ref ld) H'
theorem JdD {f:Addr} {fd:FuncData} {dV:Value} (F:FunD K "last_steps" "last_steps" Baq dV f fd) (T:Txt K mg Ad)  : FnOk P w K mg base (CX1 P w) 1 f fd ["steps", "starts"] (JbB K Ad):=by
 refine F.okx JaB (fun vs H Q E h => ?_) (fun cdv A outer s H vs Q E hr h => ?_)
 ·obtain ⟨sL,fL,sx,ss,f0, π,rfl,_⟩:=h; rfl
 obtain ⟨sL,fL,sx,ss,f0, π,rfl,h⟩:=h
 have hu:=hr.units
 refine ⟨_,(Jab (Jak (i:=2) JaB.nd rfl (Or.inl rfl) Jcw)
   (Jab (JaY PassesOwn.leaving rfl (pi_U (pv 1)) (Jaj (i:=3) JaB.nd rfl (Or.inl rfl))
   (Jah (Jci (hu1 hu) (pv 2) (pv 3) Jad rfl)))
   (Jab (Jak (i:=4) JaB.nd rfl (Or.inl rfl) Jcw)
   (Jab (Jak (i:=5) JaB.nd rfl (Or.inl rfl) Ja8)
   (Jab (JaY PassesOwn.leaving rfl (JcQ rfl T.BbB (Jaa (pe_op JaV (Jat JaP rfl T.Bbf JbE (Jaa (pv 0) Jae)) Jad) Jae)) (Jaj (i:=6) JaB.nd rfl (Or.inl rfl))
   (Jab (Jak (i:=5) JaB.nd rfl (Or.inl rfl) Ja8)
   (Jab (JaY PassesOwn.leaving rfl (pi_U (pv 0)) (Jaj (i:=7) JaB.nd rfl (Or.inl rfl))
   (Jah (ps_if (Jdm (JhF (hu1 hu) (JaK (pv 7) rfl) (pv 2)) (by with_unfolding_all rfl))
   (Jab (Jak (i:=8) JaB.nd rfl (Or.inl rfl) (pe_op JaV (Jby (hu1 hu) (pv 2) (JaK (pv 7) rfl) (fun _ _ => rfl)) (JaK (pv 7) rfl)))
   (Jah (ps_if (PW.pt (pw_or (Jdm (Jb8 (hu1 hu) (JaK (pv 7) rfl) (pv 2)) (by with_unfolding_all rfl)) (JbH (Jav Jeb (pv 8) (Jby (hu1 hu) (pv 2) (JaK (pv 7) rfl) (fun _ _ => rfl)) (Jay _)))))
   (Jab (Jci (hu1 hu) (pv 2) (JaK (pv 7) rfl) (pv 8) rfl)
   (Jab (Jci (hu1 hu) (pv 4) (JaK (pv 7) rfl) (pv 7) rfl)
   (Jah (Jak (i:=5) JaB.nd rfl (Or.inl rfl) (JaK (pv 7) rfl)))))
   Jas)))
   Jas)))
   (Jah (ps_if (Jav JbF (pv 5) Ja8 (Jay _))
   (Jah (Jao (pv 4)))
   Jas)))))
   (Jah ps_no)))))), ?_⟩
 clear hu
 obtain ⟨hS,hX,hF,hp,l30,k⟩:=h
 have sl:(1000:Nat) ≤ sizeLine:=by decide
 have lX:=hX.length
 have tc:=T.c_Step Ad.Step rfl
 show tSeq _ _ _ [some (.ref sL),some (.ref fL),none,none,none,none,none,none,none] H
 and_intros
 intro sd h_sd
 generalize q_sd:upd H sd _ = H1
 have S1:=newS h_sd q_sd
 have e1:=newE q_sd
 and_intros
 refine ⟨fL,rfl,ForA.byLN (xs:=[.str f0]) (hF.same S1) (fun i σ H' => ∃ (v3:Option V) (kv:List (Key × V)), σ = [some (.ref sL),some (.ref fL),some (.ref sd),v3,none,none,none,none,none]∧Same H H'∧H' sd = some (.dK kv)∧DV RI ([(f0,0)].take i) kv) ⟨none,[],rfl,S1,e1,rfl⟩ (fun i σ H' z => by obtain ⟨_,_,_,z,_⟩:=z; exact hF.same z) ?_ ?_⟩
 ·rintro i y σ H2 hy ⟨v3,kv,rfl,S2,ekv,hD⟩ N0 hN0
  have li:=(List.getElem?_eq_some_iff.mp hy).1
  have i0:i = 0:=by simpa using li
  subst i0
  cases hy
  have hkv:kv = []:=hD
  subst hkv
  and_intros
  refine ⟨sd,_,rfl,DPut.k (k:=Sum.inr f0) ekv (by simp; omega), ?_⟩
  generalize u3:upd H2 sd _ = H3
  and_intros
  have e3:=putE u3
  exact hN0 _ _ ⟨_,_,rfl,fun c w h => by rw [← u3,Jag (Jac h h_sd)]; exact S2 _ _ h,e3,⟨_,_,rfl,rfl,rfl⟩⟩
 ·rintro σ H2 ⟨v3,kv0,rfl,S2,ekv0,hD0⟩
  and_intros
  intro ld h_ld
  generalize q_ld:upd H2 ld _ = H3
  have S3:=newS h_ld q_ld
  have e3:=newE q_ld
  and_intros
  have h0ld:=Jbo S2 h_ld
  have nls:ld ≠ sd:=fun z => by rw [z,ekv0] at h_ld; cases h_ld
  and_intros
  refine ⟨_, .inl ((hS.same S2).same S3), ?_⟩
  and_intros
  refine ⟨_,rfl,by omega,by omega, ?_⟩
  refine ForR.byN (fun i σ H' => ∃ (v5 v6 v7 v8:Option V) (t:BF) (kv kw:List (Key × V)), σ = [some (.ref sL),some (.ref fL),some (.ref sd),v3,some (.ref ld),v5,v6,v7,v8]∧Same H H'∧H' sd = some (.dK kv)∧DV RI t.S kv∧H' ld = some (.dK kw)∧DV (SOS K Ad H) t.P kw∧t = itr ss i (bf0 f0)∧bfR ss (ss.length + 1) (bf0 f0) = bfR ss (ss.length + 1 - i) t∧t.S.length ≤ 1 + 30 * i∧t.P.length ≤ 30 * i∧(i ≠ 0→t.ch ≠ none)) ⟨_,none,none,none,bf0 f0,kv0,[],rfl,S2.trans S3,S3 _ _ ekv0,hD0,e3,rfl,rfl,rfl,by simp [bf0],by simp [bf0],fun z => absurd rfl z⟩ ?_ ?_
  ·rintro i σ H4 hi ⟨v5,v6,v7,v8,t,kv,kw,rfl,S4,ekv,hDS,ekw,hDP,ht,hbf,lS,lP,hne⟩ N0 hN0
   have i30:i ≤ ss.length:=by omega
   rw [Int.zero_add]
   and_intros
   refine ⟨sL,rfl,ForA.byLN (xs:=sx) (hS.same S4) (fun j σ H' => j ≤ sx.length∧∃ (u:BF) (v7 v8:Option V) (kv kw:List (Key × V)), σ = [some (.ref sL),some (.ref fL),some (.ref sd),v3,some (.ref ld),some (chV u.ch),some (.int (i:Int)),v7,v8]∧Same H H'∧H' sd = some (.dK kv)∧DV RI u.S kv∧H' ld = some (.dK kw)∧DV (SOS K Ad H) u.P kw∧u = (ss.take j).foldl rlx { t with ch:=none }∧u.S.length ≤ 1 + 30 * i + j∧u.P.length ≤ 30 * i + j) ⟨Nat.zero_le _,{ t with ch:=none },v7,v8,kv,kw,rfl,S4,ekv,hDS,ekw,hDP,rfl,lS,lP⟩ (fun j σ H' z => by obtain ⟨_,_,_,_,_,_,_,z,_⟩:=z; exact hS.same z) ?_ ?_⟩
   ·clear ekv hDS ekw hDP lS lP
    rintro j y σ H5 hyj ⟨hj,u,v7,v8,kv,kw,rfl,S5,ekv,hDS,ekw,hDP,hu,lS,lP⟩ N1 hN1
    have lj:=(List.getElem?_eq_some_iff.mp hyj).1
    obtain ⟨s,hsj,p,dx,vc,pr,rfl,hp0,hc0,hpr0⟩:=hX.at_ hyj
    have hpj:=S5 _ _ hp0
    have etk:(ss.take (j + 1)).foldl rlx { t with ch:=none } = rlx ((ss.take j).foldl rlx { t with ch:=none }) s:=by rw [List.take_succ,hsj,List.foldl_append]; rfl
    have lks:=hDS.len
    have lkw:=hDP.len
    and_intros
    refine ⟨p,_,dx,_, .str s.src,rfl,hpj,tc.cls,tc.n1,rfl, ?_⟩
    refine ⟨sd,_,rfl,DGet.k (k:=Sum.inr s.src) ekv, ?_⟩
    cases ea:lk u.S s.src with
    | none =>
     have gn:gains u.S s = none:=by unfold gains; rw [ea]
     rw [hDS.no ea]
     try simpa only [Option.isSome_none]
     exact hN1 _ _ ⟨lj,u,_,_,kv,kw,rfl,S5,ekv,hDS,ekw,hDP,by rw [etk, ← hu]; unfold rlx; rw [gn],by omega,by omega⟩
    | some a =>
     obtain ⟨v,hv,rv⟩:=hDS.at ea
     have rv:v = .int a:=rv
     subst rv
     rw [hv]
     try simpa only [y4dy,Option.isSome_some]
     refine ⟨p,_,dx,_, .str s.src,rfl,hpj,tc.cls,tc.n1,rfl, ?_⟩
     refine ⟨sd, .int a,rfl,by rw [← hv]; exact DGet.k (k:=Sum.inr s.src) ekv, ?_⟩
     refine ⟨p,_,dx,_, .int s.wh,rfl,hpj,tc.cls,tc.n4,rfl, ?_⟩
     and_intros
     refine ⟨p,_,dx,_, .str s.tgt,rfl,hpj,tc.cls,tc.n2,rfl, ?_⟩
     refine ⟨sd,_,rfl,DGet.k (k:=Sum.inr s.tgt) ekv, ?_⟩
     cases eb:lk u.S s.tgt with
     | none =>
      have gn:gains u.S s = some (a + s.wh):=by unfold gains; rw [ea]; dsimp only; rw [eb]
      rw [hDS.no eb]
      try simpa only [y4dy,Option.isSome_none]
      and_intros
      refine ⟨p,_,dx,_, .str s.tgt,rfl,hpj,tc.cls,tc.n2,rfl, ?_⟩
      refine ⟨sd,_,rfl,DPut.k (k:=Sum.inr s.tgt) ekv (by omega), ?_⟩
      generalize u7:upd H5 sd _ = H7
      and_intros
      have e7:=putE u7
      have S57:Same H H7:=fun c w h => by rw [← u7,Jag (Jac h h_sd)]; exact S5 _ _ h
      have p7:H7 p = _:=S57 _ _ hp0
      have ew7:H7 ld = some (.dK kw):=by rw [← u7,Jag nls]; exact ekw
      and_intros
      refine ⟨p,_,dx,_, .str s.tgt,rfl,p7,tc.cls,tc.n2,rfl, ?_⟩
      refine ⟨ld,_,rfl,DPut.k (k:=Sum.inr s.tgt) ew7 (by omega), ?_⟩
      generalize u8:upd H7 ld _ = H8
      and_intros
      have e8:=putE u8
      have S58:Same H H8:=fun c w h => by rw [← u8,Jag (Jac h h0ld)]; exact S57 _ _ h
      have p8:H8 p = _:=S58 _ _ hp0
      and_intros
      refine ⟨p,_,dx,_, .str s.tgt,rfl,p8,tc.cls,tc.n2,rfl, ?_⟩
      and_intros
      refine hN1 _ _ ⟨lj,⟨pu u.S s.tgt (a + s.wh),pu u.P s.tgt s,some s.tgt⟩,_,_,_,_,rfl,S58,by rw [← u8,Jag (Ne.symm nls)]; exact e7,DV.put hDS rfl,e8,DV.put hDP (hX.at_ hyj |> fun ⟨s',h1,h2⟩ => by rw [hsj] at h1; cases h1; exact h2), ?_,by have:=Jed (l:=u.S) (f:=s.tgt) (a:=a + s.wh); show (pu u.S s.tgt (a + s.wh)).length ≤ _; omega,by have:=Jed (l:=u.P) (f:=s.tgt) (a:=s); show (pu u.P s.tgt s).length ≤ _; omega⟩
      rw [etk, ← hu]
      unfold rlx
      rw [gn]
     | some b =>
      obtain ⟨w,hw,rw_⟩:=hDS.at eb
      have rw_:w = .int b:=rw_
      subst rw_
      rw [hw]
      try simpa only [y4dy,Option.isSome_some]
      refine ⟨p,_,dx,_, .str s.tgt,rfl,hpj,tc.cls,tc.n2,rfl, ?_⟩
      refine ⟨sd, .int b,rfl,by rw [← hw]; exact DGet.k (k:=Sum.inr s.tgt) ekv, ?_⟩
      and_intros
      by_cases c:a + s.wh < b
      ·rw [if_pos (by simpa using c)]
       and_intros
       have gn:gains u.S s = some (a + s.wh):=by unfold gains; rw [ea]; dsimp only; rw [eb]; exact if_pos c
       and_intros
       refine ⟨p,_,dx,_, .str s.tgt,rfl,hpj,tc.cls,tc.n2,rfl, ?_⟩
       refine ⟨sd,_,rfl,DPut.k (k:=Sum.inr s.tgt) ekv (by omega), ?_⟩
       generalize u7:upd H5 sd _ = H7
       and_intros
       have e7:=putE u7
       have S57:Same H H7:=fun c w h => by rw [← u7,Jag (Jac h h_sd)]; exact S5 _ _ h
       have p7:H7 p = _:=S57 _ _ hp0
       have ew7:H7 ld = some (.dK kw):=by rw [← u7,Jag nls]; exact ekw
       and_intros
       refine ⟨p,_,dx,_, .str s.tgt,rfl,p7,tc.cls,tc.n2,rfl, ?_⟩
       refine ⟨ld,_,rfl,DPut.k (k:=Sum.inr s.tgt) ew7 (by omega), ?_⟩
       generalize u8:upd H7 ld _ = H8
       and_intros
       have e8:=putE u8
       have S58:Same H H8:=fun c w h => by rw [← u8,Jag (Jac h h0ld)]; exact S57 _ _ h
       have p8:H8 p = _:=S58 _ _ hp0
       and_intros
       refine ⟨p,_,dx,_, .str s.tgt,rfl,p8,tc.cls,tc.n2,rfl, ?_⟩
       and_intros
       refine hN1 _ _ ⟨lj,⟨pu u.S s.tgt (a + s.wh),pu u.P s.tgt s,some s.tgt⟩,_,_,_,_,rfl,S58,by rw [← u8,Jag (Ne.symm nls)]; exact e7,DV.put hDS rfl,e8,DV.put hDP (hX.at_ hyj |> fun ⟨s',h1,h2⟩ => by rw [hsj] at h1; cases h1; exact h2), ?_,by have:=Jed (l:=u.S) (f:=s.tgt) (a:=a + s.wh); show (pu u.S s.tgt (a + s.wh)).length ≤ _; omega,by have:=Jed (l:=u.P) (f:=s.tgt) (a:=s); show (pu u.P s.tgt s).length ≤ _; omega⟩
       rw [etk, ← hu]
       unfold rlx
       rw [gn]
      ·rw [if_neg (by simpa using c)]
       and_intros
       have gn:gains u.S s = none:=by unfold gains; rw [ea]; dsimp only; rw [eb]; exact if_neg c
       and_intros
       exact hN1 _ _ ⟨lj,u,_,_,kv,kw,rfl,S5,ekv,hDS,ekw,hDP,by rw [etk, ← hu]; unfold rlx; rw [gn],by omega,by omega⟩
   ·clear ekv hDS ekw hDP lS lP
    rintro σ H5 ⟨hj,u,v7,v8,kv,kw,rfl,S5,ekv,hDS,ekw,hDP,hu,lS,lP⟩
    rw [List.take_of_length_le (by omega)] at hu
    have htr:trn ss t = u:=hu.symm
    have hu':u = itr ss (i + 1) (bf0 f0):=by rw [← htr,ht]; rfl
    have ebf:bfR ss (ss.length + 1 - i) t = if u.ch = none then u else bfR ss (ss.length - i) u:=by
     rw [show ss.length + 1 - i = (ss.length - i) + 1 by omega,bfR,htr]
    and_intros
    cases ec:u.ch with
    | none =>
     try simpa only [chV]
     refine k ld kw u.P H5 S5 h0ld ekw hDP (by rw [hbf,ebf,if_pos ec]) ?_
     rw [hu']
     exact BE.of hp (by rw [← hu']; exact ec)
    | some f =>
     try simpa only [chV]
     exact hN0 _ _ ⟨_,_,_,_,u,kv,kw,rfl,S5,ekv,hDS,ekw,hDP,hu',by rw [hbf,ebf,if_neg (by rw [ec]; simp)]; congr 1; omega,by omega,by omega,fun _ => by rw [ec]; simp⟩
  ·rintro σ H4 ⟨v5,v6,v7,v8,t,kv,kw,rfl,S4,ekv,hDS,ekw,hDP,ht,hbf,lS,lP,hne⟩
   refine absurd ?_ (hne (by omega))
   rw [ht,show ((sx.length:Int) + 1).toNat = ss.length + 1 by omega]
   show (ss.foldl rlx { itr ss ss.length (bf0 f0) with ch:=none }).ch = none
   rw [Jf1 ss { itr ss ss.length (bf0 f0) with ch:=none } (Jg5 hp)]
abbrev Bam:Stmt:=top 34
theorem Jax:Jan ["steps", "starts", "lasts", "told", "face", "missing", "at", "step", "ahead"] ["steps", "starts"] (Jaf Bam):=⟨rfl,rfl,rfl,by decide +kernel,rfl,by decide +kernel,by decide +kernel⟩
def Jbj (K:PySem.W.Frag) (Ad:Adr):Sp:=fun vs H Q E => ∃ (sL fL:Addr) (sx:List V) (ss:List SpS) (f0:Str) (π : Str→Int),vs = [.ref sL, .ref fL]∧SqL K H sL sx∧All2 (SOS K Ad H) ss sx∧SqL K H fL [.str f0]∧Pot π ss∧ss.length ≤ 30∧(∀ s ∈ ss,FB 200 8 s.cost)∧∀ (td:Addr) (kt:List (Key × V)) (tb:List (Str × ((Int × Int) × List SpS))) (P:LasD) (H':Hp),Same H H'→H' td = some (.dK kt)→DV (RT K H H') tb kt→P = (bfR ss (ss.length + 1) (bf0 f0)).P→BE ss f0 P→(∀ v,(∃ e,lk tb v = some e) ↔ (v = f0 ∨ ∃ s,lk P v = some s))→TBk P f0 tb→Q (.ref td) H'
theorem Jc1 {f:Addr} {fd:FuncData} {dV:Value} (F:FunD K "chains_from" "chains_from" Bam dV f fd) (T:Txt K mg Ad) (BaY:Cal P w K mg base 1 "last_steps" ["steps", "starts"] [] (JbB K Ad)) (Bbm:Cal P w K mg base 2 "plus" ["one", "other"] [] (JdO K)):FnOk P w K mg base (CX1 P w) 3 f fd ["steps", "starts"] (Jbj K Ad):=by
 refine F.okx Jax (fun vs H Q E h => ?_) (fun cdv A outer s H vs Q E hr h => ?_)
 ·obtain ⟨sL,fL,sx,ss,f0, π,rfl,_⟩:=h; rfl
 obtain ⟨sL,fL,sx,ss,f0, π,rfl,h⟩:=h
 have hu:=hr.units
 refine ⟨_,(Jab (Jak (i:=2) Jax.nd rfl (Or.inl rfl) (BaY.ev hr (by decide) rfl pass1 (Jaa (pv 0) (Jaa (pv 1) Jae)) (he:=by exact Jai rfl)))
   (Jab (Jak (i:=3) Jax.nd rfl (Or.inl rfl) Jcw)
   (Jab (JaY PassesOwn.leaving rfl (pi_U (pv 1)) (Jaj (i:=4) Jax.nd rfl (Or.inl rfl))
   (Jah (ps_if (Jdm (Jb8 (hu1 hu) (pv 4) (pv 2)) (by with_unfolding_all rfl))
   (Jah (Jci (hu1 hu) (pv 3) (pv 4) (JaO (Jaa (JdH (v:=.ref _) rfl T.BbK T.BbL) (Jaa (Jbq Jae) Jae))) rfl))
   Jas)))
   (Jab (JaY PassesOwn.leaving rfl (Jin (pv 2)) (Jaj (i:=4) Jax.nd rfl (Or.inl rfl))
   (Jab (Jak (i:=5) Jax.nd rfl (Or.inl rfl) (Jbq Jae))
   (Jab (Jak (i:=6) Jax.nd rfl (Or.inl rfl) (pv 4))
   (Jab (JdI PassesOwn.leaving (Jdm (Jb8 (hu1 hu) (pv 6) (pv 3)) (by with_unfolding_all rfl))
   (Jab (Ja6 (pe_bm PySem.F.plainAttrs_list PySem.F.slot_list_append PySem.F.type_list_append JaX (pv 5) (Jaa (Jby (hu1 hu) (pv 2) (pv 6) (fun _ _ => rfl)) Jae) (hs:=by exact Jai rfl)))
   (Jah (Jak (i:=6) Jax.nd rfl (Or.inl rfl) (JaK (Jby (hu1 hu) (pv 2) (pv 6) (fun _ _ => rfl)) rfl)))))
   (Jah (JaY PassesOwn.leaving rfl (Jhg (K:=K) rfl rfl rfl T.n_reversed Jet (pv 5)) (Jaj (i:=7) Jax.nd rfl (Or.inl rfl))
   (Jab (Jak (i:=8) Jax.nd rfl (Or.inl rfl) (Jby (hu1 hu) (pv 3) (JaK (pv 7) rfl) (fun _ _ => rfl)))
   (Jah (Jci (hu1 hu) (pv 3) (JaK (pv 7) rfl) (JaO (Jaa (Bbm.ev hr (by decide) rfl pass1 (Jaa (pe_ix ix_U (pv 8) Jad (fun _ _ => rfl)) (Jaa (JaK (pv 7) rfl) Jae)) (he:=by exact Jai rfl)) (Jaa (pe_op JaV (pe_ix ix_U (pv 8) Jad (fun _ _ => rfl)) (Jbq (Jaa (JaK (pv 7) rfl) Jae))) Jae))) rfl)))))))))
   (Jah (Jao (pv 3))))))), ?_⟩
 clear hu
 obtain ⟨hS,hX,hF,hp,l30,hfb,k⟩:=h
 have sl:(1000:Nat) ≤ sizeLine:=by decide
 have tc:=T.c_Step Ad.Step rfl
 show tSeq _ _ _ [some (.ref sL),some (.ref fL),none,none,none,none,none,none,none] H
 and_intros
 refine ⟨sL,fL,sx,ss,f0, π,rfl,hS,hX,hF,hp,l30,fun ld kv P H1 S1 h0 e1 hD hP hB => ?_⟩
 have hB':=hB
 obtain ⟨S,r,b1,b2,b3,b4,b5⟩:=hB.ex
 and_intros
 intro td h_td
 generalize q_td:upd H1 td _ = H2
 have S2:=newS h_td q_td
 have e2:=newE q_td
 and_intros
 have ntl:td ≠ ld:=fun z => by rw [z,e1] at h_td; cases h_td
 and_intros
 refine ⟨fL,rfl,ForA.byLN (xs:=[.str f0]) ((hF.same S1).same S2) (fun i σ H' => ∃ (v4:Option V) (kt:List (Key × V)), σ = [some (.ref sL),some (.ref fL),some (.ref ld),some (.ref td),v4,none,none,none,none]∧Same H1 H'∧H' td = some (.dK kt)∧DV (RT K H H') ([(f0,(((0:Int),(1:Int)),([]:List SpS)))].take i) kt) ⟨none,[],rfl,S2,e2,rfl⟩ (fun i σ H' z => by obtain ⟨_,_,_,z,_⟩:=z; exact (hF.same S1).same z) ?_ ?_⟩
 ·rintro i y σ H3 hy ⟨v4,kt,rfl,S3,ekt,hT⟩ N0 hN0
  have li:=(List.getElem?_eq_some_iff.mp hy).1
  have i0:i = 0:=by simpa using li
  subst i0
  cases hy
  have hkt:kt = []:=hT
  subst hkt
  and_intros
  refine ⟨ld,_,rfl,DGet.k (k:=Sum.inr f0) (S3 _ _ e1), ?_⟩
  rw [hD.no b2]
  try simpa only [Option.isSome_none]
  refine ⟨len0, ?_⟩
  intro el h_el
  generalize q_el:upd H3 el _ = H4
  have S4:=newS h_el q_el
  have e4:=newE q_el
  and_intros
  refine ⟨len2, ?_⟩
  intro tp h_tp
  generalize q_tp:upd H4 tp _ = H5
  have S5:=newS h_tp q_tp
  have e5:=newE q_tp
  and_intros
  and_intros
  refine ⟨td,_,rfl,DPut.k (k:=Sum.inr f0) (S5 _ _ (S4 _ _ ekt)) (by simp; omega), ?_⟩
  generalize u6:upd H5 td _ = H6
  and_intros
  have e6:=putE u6
  have ne_:el ≠ td:=fun z => by rw [z,ekt] at h_el; cases h_el
  have nt_:tp ≠ td:=fun z => by rw [z,S4 _ _ ekt] at h_tp; cases h_tp
  exact hN0 _ _ ⟨_,_,rfl,fun c w h => by rw [← u6,Jag (Jac h h_td)]; exact S5 _ _ (S4 _ _ (S3 _ _ h)),e6,⟨_,_,rfl,⟨tp, .ref Ad.ZERO,el,[],rfl,SqT.of (by rw [← u6,Jag nt_]; exact e5),⟨Ad.ZERO,rfl,T.BbF _⟩,by rw [← u6,Jag ne_]; exact S5 _ _ e4,rfl,Jbo S1 (Jbo S3 h_el)⟩,rfl⟩⟩
 ·rintro σ H3 ⟨v4,kt,rfl,S3,ekt,hT⟩
  have hT:DV (RT K H H3) [(f0,(((0:Int),(1:Int)),([]:List SpS)))] kt:=hT
  have ht:td ≠ ld:=ntl
  and_intros
  refine ⟨ld,kv,P.map (·.1),rfl,S3 _ _ e1,hD.keys,fun od => ?_⟩
  generalize uf:upd H3 ld _ = H4
  and_intros
  have ef:H4 ld = some (.frz od (.dK kv)):=by rw [← uf]; exact Jap
  have S04:Same H H4:=fun c w h => by rw [← uf,Jag (Jac h h0)]; exact S3 _ _ (S1 _ _ h)
  have ekt4:H4 td = some (.dK kt):=by rw [← uf,Jag ntl]; exact ekt
  have h0td:=Jbo S1 h_td
  refine ForJ.keys (fun i σ H' => ∃ (v4 v5 v6 v7 v8:Option V) (kt:List (Key × V)) (tb:List (Str × ((Int × Int) × List SpS))), σ = [some (.ref sL),some (.ref fL),some (.ref ld),some (.ref td),v4,v5,v6,v7,v8]∧Same H H'∧H' ld = some (.frz od (.dK kv))∧H' td = some (.dK kt)∧DV (RT K H H') tb kt∧TBk P f0 tb∧(∀ j z,j < i→(P.map (·.1))[j]? = some z→∃ e,lk tb z = some e)) ⟨v4,none,none,none,none,kt,_,rfl,S04,ef,ekt4,hT.mono fun _ _ z => z.putL uf (S3 _ _ e1),TBk.one,fun j z hj => absurd hj (Nat.not_lt_zero _)⟩ (fun i σ H' z => by obtain ⟨_,_,_,_,_,_,_,_,_,z,_⟩:=z; exact z) ?_ ?_
  ·rintro i z σ H5 hz ⟨v4,v5,v6,v7,v8,kt,tb,rfl,S5,ef5,ekt5,hT5,hB5,hk5⟩ N0 hN0
   and_intros
   refine ⟨len0, ?_⟩
   intro ml h_ml
   generalize q_ml:upd H5 ml _ = H6
   have S6:=newS h_ml q_ml
   have e6:=newE q_ml
   and_intros
   have nlm:ml ≠ ld:=fun q => by rw [q,ef5] at h_ml; cases h_ml
   have ntm:ml ≠ td:=fun q => by rw [q,ekt5] at h_ml; cases h_ml
   have h0ml:=Jbo S5 h_ml
   have hzP:∃ s,lk P z = some s:=Jd2 (List.mem_of_getElem? hz)
   have hSz:∃ b,lk S z = some b:=by
    obtain ⟨s,hs⟩:=hzP
    obtain ⟨_,_,_,a,_,k2⟩:=b3 z s hs
    exact ⟨_,k2⟩
   and_intros
   refine ⟨fun m σ H' => ∃ (q:Str) (ms:List SpS) (mx:List V), σ = [some (.ref sL),some (.ref fL),some (.ref ld),some (.ref td),some (.str z),some (.ref ml),some (.str q),v7,v8]∧Same H5 H'∧H' ml = some (.lst mx)∧All2 (SOS K Ad H) ms mx∧Lnk P q ms.reverse∧lnkE q ms.reverse = z∧(∃ b,lk S q = some b)∧r q = m∧(ms.map (·.tgt)).Nodup∧(∀ x ∈ ms.map (·.tgt),r q < r x)∧(∀ x ∈ ms,x ∈ ss),⟨_,z,[],[],rfl,S6,e6,rfl,trivial,rfl,hSz,rfl, .nil,(fun x hx => by cases hx),fun x hx => by cases hx⟩, ?_⟩
   rintro m σ H7 ⟨q,ms,mx,rfl,S7,em7,hM7,hL7,hE7,hS7,rfl,hn7,hr7,hs7⟩
   have ef7:=S7 _ _ ef5
   have ekt7:=S7 _ _ ekt5
   and_intros
   refine ⟨td,_,rfl,DGet.k (k:=Sum.inr q) ekt7, ?_⟩
   cases eq_:lk tb q with
   | none =>
    rw [hT5.no eq_]
    try simpa only [Option.isSome_none]
    have nq:q ≠ f0:=fun z => by obtain ⟨e,he⟩:=hB5.z0; rw [← z,eq_] at he; cases he
    obtain ⟨bq,hbq⟩:=hS7
    obtain ⟨s,hs⟩:=(b4 q bq hbq).resolve_left nq
    obtain ⟨sm_,st_,sr_,sa,sa1,sa2⟩:=b3 q s hs
    obtain ⟨v,hv,hsv⟩:=hD.at hs
    obtain ⟨p,dx,vc,pr,rfl,hp0,hc0,hpr0⟩:=id hsv
    have lms:ms.length ≤ 30:=by
     have:=sub_len (ms.map (·.tgt)) (ss.map (·.tgt)) hn7 fun x hx => by
      obtain ⟨y,hy,rfl⟩:=List.mem_map.mp hx
      exact List.mem_map.mpr ⟨y,hs7 y hy,rfl⟩
     rw [List.length_map,List.length_map] at this
     omega
    have lmx:=hM7.length
    refine ⟨_,fun _ _ h => h, ?_⟩
    and_intros
    refine ⟨.inl ⟨rfl,_,SqL.of em7⟩, ?_⟩
    refine ⟨ld, .ref p,rfl,by rw [← hv]; exact DGet.f (k:=Sum.inr q) ef7, ?_⟩
    refine ⟨ml,mx,_,rfl,rfl,em7,by omega, ?_⟩
    generalize u8:upd H7 ml _ = H8
    and_intros
    have e8:=putE u8
    have T8:SameT H7 H8:=SameT.put u8 em7 rfl
    have S8:Same H5 H8:=fun c w h => by rw [← u8,Jag (Jac h h_ml)]; exact S7 _ _ h
    have ef8:=S8 _ _ ef5
    and_intros
    refine ⟨ld, .ref p,rfl,by rw [← hv]; exact DGet.f (k:=Sum.inr q) ef8, ?_⟩
    refine ⟨p,_,dx,_, .str s.src,rfl,S8 _ _ (S5 _ _ hp0),tc.cls,tc.n1,rfl, ?_⟩
    and_intros
    refine ⟨r s.src,sr_,s.src,ms ++ [s],mx ++ [.ref p],rfl,S8,e8,hM7.append (.one hsv),by rw [List.reverse_append]; exact hL7.add hs st_,by rw [List.reverse_append]; exact (Jg9 st_).trans hE7,⟨sa,sa1⟩,rfl, ?_,fun x hx => ?_,fun x hx => ?_⟩
    ·rw [List.map_append]
     refine List.nodup_append.mpr ⟨hn7,by simp,fun x hx y hy e => ?_⟩
     have hy:y = s.tgt:=by simpa using hy
     have:=hr7 x hx
     rw [e,hy,st_] at this
     omega
    ·rw [List.map_append] at hx
     rcases List.mem_append.mp hx with hx | hx
     ·have:=hr7 x hx
      omega
     ·have hx:x = s.tgt:=by simpa using hx
      rw [hx,st_]
      exact sr_
    ·rcases List.mem_append.mp hx with hx | hx
     ·exact hs7 x hx
     ·rw [List.mem_singleton.mp hx]
      exact sm_
   | some e =>
    rw [(hT5.at eq_).choose_spec.1]
    try simpa only [Option.isSome_some]
    (try ((with_reducible refine Nxt.go (by assumption) ?_); and_intros))
    have lmx:=hM7.length
    refine ⟨ml,mx,rfl,SqL.of em7,ForJ.rev (fun j σ H' => ∃ (v7 v8:Option V) (kt:List (Key × V)) (tb:List (Str × ((Int × Int) × List SpS))) (y:Str), σ = [some (.ref sL),some (.ref fL),some (.ref ld),some (.ref td),some (.str z),some (.ref ml),some (.str q),v7,v8]∧Same H H'∧H' ld = some (.frz od (.dK kv))∧H' ml = some (.lst mx)∧H' td = some (.dK kt)∧DV (RT K H H') tb kt∧TBk P f0 tb∧(∀ j z,j < i→(P.map (·.1))[j]? = some z→∃ e,lk tb z = some e)∧(∃ e,lk tb y = some e)∧Lnk P y (ms.reverse.drop j)∧lnkE y (ms.reverse.drop j) = z) ⟨v7,v8,kt,tb,q,rfl,S5.trans S7,ef7,em7,ekt7,hT5.mono fun _ _ z => z.same S7,hB5,hk5,⟨e,eq_⟩,hL7,hE7⟩ (fun j σ H' z => by obtain ⟨_,_,_,_,_,_,_,_,z,_⟩:=z; exact SqL.of z) ?_ ?_⟩
    ·clear ekt7 ekt5 hT5 hB5 hk5 eq_ ef7 em7
     rintro j x σ H8 hj hx ⟨v7,v8,kt,tb,y,rfl,S8,ef8,em8,ekt8,hT8,hB8,hk8,⟨e,he8⟩,hL8,hE8⟩ N1 hN1
     obtain ⟨s,hs,sv⟩:=hM7.at_ hx
     have hsr:ms.reverse[j]? = some s:=by rw [List.getElem?_reverse (by omega),show ms.length = mx.length by omega]; exact hs
     have hdr:ms.reverse.drop j = s :: ms.reverse.drop (j + 1):=by
      obtain ⟨h1,h2⟩:=List.getElem?_eq_some_iff.mp hsr
      rw [← h2]
      exact List.drop_eq_getElem_cons h1
     rw [hdr] at hL8 hE8
     obtain ⟨rfl,hPs,hL9⟩:=hL8
     have hss:=hs7 s (List.mem_of_getElem? hs)
     obtain ⟨p,dx,vc,pr,rfl,hp0,hc0,hpr0⟩:=sv.same S8
     obtain ⟨v,hv,hrt⟩:=hT8.at he8
     obtain ⟨w,qv,l,xs,rfl,hw,hqv,hl,hxs,_⟩:=id hrt
     obtain ⟨hch,hcs⟩:=hB8.en _ _ he8
     obtain ⟨hm_,hle_,_⟩:=hB'.chn hch
     have fbe:=cs_fb fun s hs => hfb s (hm_ s hs)
     rw [← hcs] at fbe
     have fbc:=hfb s hss
     have ltb:=hB'.tb_len hB8.nd fun v e h => (hB8.en v e h).1
     have lkt:=hT8.len
     have lxs:=hxs.length
     rw [List.length_map] at lxs
     and_intros
     refine ⟨p,_,dx,_, .str s.src,rfl,hp0,tc.cls,tc.n1,rfl, ?_⟩
     refine ⟨td, .ref w,rfl,by rw [← hv]; exact DGet.k (k:=Sum.inr s.src) ekt8, ?_⟩
     and_intros
     refine ixT (i:=0) hw rfl ?_
     refine ⟨p,_,dx,_,vc,rfl,hp0,tc.cls,tc.n3,rfl, ?_⟩
     and_intros
     refine ⟨qv,vc,e.1.1,e.1.2,s.cost.1,s.cost.2,rfl,hqv,hc0,fbe.s1.mono (by omega),fbe.s2.mono (by omega),fbc.s1.mono (by omega),fbc.s2.mono (by omega),fbe.b1,fbc.b1,fbe.g1,fbc.g1,fun ap H9 S9 e9 => ?_⟩
     and_intros
     refine ixT (i:=1) (hw.same S9) rfl ?_
     refine ⟨p,_,dx,_, .ref pr,rfl,S9 _ _ hp0,tc.cls,tc.n5,rfl, ?_⟩
     refine ⟨by show 1 ≤ sizeLine; omega, ?_⟩
     intro ol h_ol
     generalize q_ol:upd H9 ol _ = H10
     have S10:=newS h_ol q_ol
     have e10:=newE q_ol
     and_intros
     refine .inl ⟨l,ol,xs,[.ref pr],rfl,rfl,S10 _ _ (S9 _ _ hl),e10,by simp; omega, ?_⟩
     intro nl h_nl
     generalize q_nl:upd H10 nl _ = H11
     have S11:=newS h_nl q_nl
     have e11:=newE q_nl
     and_intros
     refine ⟨len2, ?_⟩
     intro np h_np
     generalize q_np:upd H11 np _ = H12
     have S12:=newS h_np q_np
     have e12:=newE q_np
     and_intros
     have S812:=S9.trans (S10.trans (S11.trans S12))
     and_intros
     refine ⟨p,_,dx,_, .str s.tgt,rfl,S812 _ _ hp0,tc.cls,tc.n2,rfl, ?_⟩
     have ekt12:=S812 _ _ ekt8
     refine ⟨td,_,rfl,DPut.k (k:=Sum.inr s.tgt) ekt12 (by omega), ?_⟩
     generalize u13:upd H12 td _ = H13
     and_intros
     have e13:=putE u13
     have T13:SameT H12 H13:=SameT.put u13 ekt12 rfl
     have nlt:nl ≠ td:=fun z => by rw [z,S10 _ _ (S9 _ _ ekt8)] at h_nl; cases h_nl
     have nt_:np ≠ td:=fun z => by rw [z,S11 _ _ (S10 _ _ (S9 _ _ ekt8))] at h_np; cases h_np
     have rt13:RT K H H13 (addF e.1 s.cost,e.2 ++ [s]) (.ref np):=by
      refine ⟨np, .ref ap,nl,xs ++ [.ref pr],rfl,SqT.of (by rw [← u13,Jag nt_]; exact e12),⟨ap,rfl,SqT.sameT T13 (SqT.of (S12 _ _ (S11 _ _ (S10 _ _ e9))))⟩,by rw [← u13,Jag nlt]; exact S12 _ _ e11, ?_,Jbo S8 (Jbo S9 (Jbo S10 h_nl))⟩
      rw [List.map_append]
      exact (hxs.mono (P':=CV H13) fun _ _ z => z.sameT (S812.t.trans T13)).append (.one ⟨pr,rfl,by rw [← u13,Jag (ne_of hpr0 ekt8 (by intro z; cases z))]; exact S812 _ _ hpr0⟩)
     exact hN1 _ _ ⟨_,_,_,pu tb s.tgt (addF e.1 s.cost,e.2 ++ [s]),s.tgt,rfl,fun c w h => by rw [← u13,Jag (Jac h h0td)]; exact S812 _ _ (S8 _ _ h),by rw [← u13,Jag (Ne.symm ntl)]; exact S812 _ _ ef8,by rw [← u13,Jag ntm]; exact S812 _ _ em8,e13,(hT8.mono fun _ _ z => (z.same S812).putL u13 ekt12).put rt13,hB8.put he8 hPs,fun j z hj hz => TBk.keep (hk8 j z hj hz),⟨_,Jbh⟩,hL9,hE8⟩
    ·clear ekt7 ekt5 hT5 hB5 hk5 eq_ ef7 em7
     rintro σ H8 ⟨v7,v8,kt,tb,y,rfl,S8,ef8,em8,ekt8,hT8,hB8,hk8,he8,hL8,hE8⟩
     rw [List.drop_of_length_le (by rw [List.length_reverse]; omega)] at hE8
     have hE8:y = z:=hE8
     subst hE8
     refine hN0 _ _ ⟨_,_,_,_,_,kt,tb,rfl,S8,ef8,ekt8,hT8,hB8,fun j z hj hz' => ?_⟩
     by_cases c:j < i
     ·exact hk8 j z c hz'
     ·have : j = i:=by omega
      subst this
      rw [hz] at hz'
      cases hz'
      exact he8
  ·rintro σ H5 ⟨v4,v5,v6,v7,v8,kt,tb,rfl,S5,ef5,ekt5,hT5,hB5,hk5⟩
   and_intros
   refine k td kt tb P H5 S5 ekt5 hT5 hP hB' (fun v => ⟨fun ⟨e,he⟩ => (hB'.chn (hB5.en v e he).1).2.2.2.2,fun hv => ?_⟩) hB5
   rcases hv with rfl | ⟨s,hs⟩
   ·exact hB5.z0
   ·obtain ⟨j,hj⟩:=List.getElem?_of_mem (Jge hs)
    exact hk5 j v (List.getElem?_eq_some_iff.mp hj).1 hj
abbrev BaM:Stmt:=top 35
theorem Jdn:Jan ["ties", "face", "told"] ["ties", "face"] (Jaf BaM):=⟨rfl,rfl,rfl,by decide +kernel,rfl,by decide +kernel,by decide +kernel⟩
def Jck (K:PySem.W.Frag) (Ad:Adr):Sp:=fun vs H Q E => ∃ (tl:Addr) (xs:List V) (ts:List TD) (f0:Str) (x:Str→Rat),vs = [.ref tl, .str f0]∧SqL K H tl xs∧All2 (TV K H) ts xs∧(∀ t ∈ ts,TOk t)∧(∀ s ∈ Ch.all ts,FB 200 8 s.c)∧ts.length ≤ 15∧(∀ s ∈ Ch.all ts,x s.dst ≤ x s.src + vl s.c)∧∀ (l:Addr) (ys:List V) (rows:List RowS) (H':Hp),Same H H'→H l = none→H' l = some (.lst ys)→All2 (RR K H H') rows ys→RdOk ts f0 rows→1 ≤ bD_ ts→(∀ s ∈ Ch.all ts,1 ≤ s.c.2∧s.c.2 ∣ bD_ ts)→Q (.ref l) H'
theorem JfC {f:Addr} {fd:FuncData} {dV:Value} (F:FunD K "reached" "reached" BaM dV f fd) (T:Txt K mg Ad) (Bbs:Cal P w K mg base 6 "tie_of" ["thing"] [] (JcV K Ad)) (Bbc:Cal P w K mg base 6 "steps_of" ["ties"] [] (Jb5 K Ad)) (BaP:Cal P w K mg base 3 "chains_from" ["steps", "starts"] [] (Jbj K Ad)):FnOk P w K mg base (CX1 P w) 7 f fd ["ties", "face"] (Jck K Ad):=by
 refine F.okx Jdn (fun vs H Q E h => ?_) (fun cdv A outer s H vs Q E hr h => ?_)
 ·obtain ⟨tl,xs,ts,f0,x,rfl,_⟩:=h; rfl
 obtain ⟨tl,xs,ts,f0,x,rfl,h⟩:=h
 have hu:=hr.units
 refine ⟨_,(Jab (Jak (i:=2) Jdn.nd rfl (Or.inr rfl) (BaP.ev hr (by decide) rfl pass1 (Jaa (Bbc.ev hr (by decide) rfl pass1 (Jaa (Jch (own:=["row"]) (cs:=[]) (cl:=[]) rfl (pi_U (pv 0)) (fun _ _ _ _ => (Jaj (i:=0) (show [("row" : Str)].Nodup by decide) rfl (Or.inl rfl))) (fun _ _ _ _ => (Bbs.ev hr (by decide) rfl passF (Jaa (pv 0) Jae) (he:=by exact Jai rfl))) rfl (by decide) rfl (by decide) hcl0 (hhas0 (by decide)) hcs0) Jae) (he:=by exact Jai rfl)) (Jaa (Jbq (Jaa (pv 1) Jae)) Jae)) (he:=by exact Jai rfl)))
   (Jah (Jao (JdG (own:=["other"]) (cs:=[(2, "told")]) rfl (pi_U (Jat (Jfp rfl) rfl T.Bbo JcD (Jaa (pv 2) Jae))) (fun _ _ _ _ => (Jaj (i:=0) (show [("other" : Str),("told" : Str)].Nodup by decide) rfl (Or.inl rfl))) (fun _ _ _ _ => (JaO (Jaa (pv 0) (Jaa (pe_ix (ix_UK (K:=K) rfl) (Jby (hu1 hu) (pv 1) (pv 0) (fun _ _ => rfl)) Jad (fun _ _ => rfl)) (Jaa (pe_ix (ix_UK (K:=K) rfl) (Jby (hu1 hu) (pv 1) (pv 0) (fun _ _ => rfl)) Jad (fun _ _ => rfl)) Jae))))) (Jdf rfl) (by decide) rfl (by decide)
   (hcs1 rfl rfl rfl))))), ?_⟩
 clear hu
 obtain ⟨hS,hR,hT,hfb,hl,hx,k⟩:=h
 have sl:(1000:Nat) ≤ sizeLine:=by decide
 have lR:=hR.length
 have lal:(Ch.all ts).length ≤ 30:=by
  have:=Jeq (ts:=ts) ts.length
  rw [List.take_of_length_le (Nat.le_refl _)] at this
  omega
 show tSeq _ _ _ [some (.ref tl),some (.str f0),none] H
 nofun
 refine ⟨tl,rfl, .inl ⟨⟨_,hS⟩,CompJ.list (xs:=xs) (fun j zs H' => Same H H'∧All2 (TOb K Ad H') (ts.take j) zs) ⟨Same.refl _,by rw [List.take_zero]; exact rfl⟩ (fun j zs H' hj z => ⟨hS.same z.1,by have:=z.2.length; rw [List.length_take] at this; omega⟩) ?_ ?_⟩⟩
 ·rintro j y zs H1 hy ⟨S1,hA⟩
  obtain ⟨t,ht,tv0⟩:=hR.at_ hy
  have ok:=hT t (List.mem_of_getElem? ht)
  have tv1:=tv0.sameT S1.t
  simpa only [List.length_singleton,List.length_cons,List.length_nil,List.replicate,Jau,List.map_cons,List.map_nil,Option.join_some]
  refine ⟨y,tdD t,rfl,tv1.rep,ok.sz,fun z => absurd z (by rw [ok.tie]; simp),fun _ => ?_⟩
  obtain ⟨b,vl,vg,rfl,hq,hl',hg'⟩:=tv1
  refine ⟨b,_,_,_,_,_,_,_,_,_,_,rfl,hq,rfl,hl'.rep,hg'.rep,fun v H3 S3 tv => ?_⟩
  refine ⟨S1.trans S3, ?_⟩
  rw [List.take_succ,ht]
  exact (hA.mono (P':=TOb K Ad H3) fun _ _ z => z.same S3).append (.one ⟨vl,vg,tv,hl'.sameT S3.t,hg'.sameT S3.t⟩)
 ·rintro zs H1 ⟨S1,hA⟩
  rw [List.take_of_length_le (by omega)] at hA
  intro ol h_ol
  generalize q_ol:upd H1 ol _ = H2
  have S2:=newS h_ol q_ol
  have e2:=newE q_ol
  nofun
  nofun
  refine ⟨ol,zs,ts,rfl,SqL.of e2,hA.mono (fun _ _ z => z.same S2),hT,fun s hs => (hfb s hs).mono (by decide) (by decide),hl,fun sL sx b H3 S3 e3 hb hb1 hbs hdv hsv => ?_⟩
  nofun
  refine ⟨by show 1 ≤ sizeLine; omega, ?_⟩
  intro fL h_fL
  generalize q_fL:upd H3 fL _ = H4
  have S4:=newS h_fL q_fL
  have e4:=newE q_fL
  nofun
  have hb:b = bD_ ts:=hb
  subst hb
  have hbb:∀ s ∈ Ch.all ts,1 ≤ s.c.2∧s.c.2 ∣ bD_ ts:=fun s hs => ⟨(hfb s hs).b1,hdv s hs⟩
  refine ⟨sL,fL,sx,ssD ts,f0,_,rfl,SqL.of (S4 _ _ e3),(JgH hsv).mono (fun _ _ z => z.same S4),SqL.of e4,Jjd hb1 hbb hx,by unfold ssD; rw [List.length_map]; omega,fun s hs => ?_,fun td kt tb P H5 S5 e5 hT5 hP hB5 hi5 hk5 => ?_⟩
  ·obtain ⟨s',hs',rfl⟩:=List.mem_map.mp hs
   exact hfb s' hs'
  have hP:P = lsD ts f0:=hP
  subst hP
  (try ((with_reducible refine Nxt.go (by assumption) ?_); nofun))
  nofun
  have ltb:=hB5.tb_len hk5.nd fun v e h => (hk5.en v e h).1
  have lss:(ssD ts).length ≤ 30:=by unfold ssD; rw [List.length_map]; omega
  refine ⟨td,kt,tb.map (·.1),rfl,e5,hT5.keys,by rw [List.length_map]; omega, ?_⟩
  intro so out h_so hio
  generalize q_so:upd H5 so _ = H6
  have S6:=newS h_so q_so
  have e6:=newE q_so
  have lo:out.length = tb.length:=by rw [hio.1.length_eq,List.length_map]
  have hmo:∀ z ∈ out, ∃ e,lk tb z = some e:=fun z hz => Jd2 (hio.1.mem_iff.mp hz)
  have e56:=S6 _ _ e5
  have hT6:DV (RT K (upd H3 fL (.lst [.str f0])) H6) tb kt:=by rw [q_fL]; exact hT5.mono fun _ _ z => z.same S6
  rw [q_fL] at hT6
  generalize hg:(fun z => (z,(lk tb z).getD ((0,1),[])):Str→RowS) = g
  have hg1:∀ z e,lk tb z = some e→g z = (z,e):=fun z e h => by rw [← hg]; show (z,(lk tb z).getD _) = _; rw [h]; rfl
  have S04:Same H H4:=S1.trans (S2.trans (S3.trans S4))
  nofun
  refine ⟨so,rfl, .inl ⟨⟨_,SqL.of e6⟩,CompJ.list (xs:=out.map V.str) (fun j zs H' => Same H6 H'∧All2 (RR K H H') ((out.take j).map g) zs) ⟨Same.refl _,by rw [List.take_zero]; exact rfl⟩ (fun j zs H' hj z => ⟨SqL.of (z.1 _ _ e6),by have:=z.2.length; rw [List.length_map,List.length_take] at this; omega⟩) ?_ ?_⟩⟩
  ·rintro j y ws H7 hy ⟨S7,hA7⟩
   rw [List.getElem?_map] at hy
   obtain ⟨z,hz,rfl⟩:=Option.map_eq_some_iff.mp hy
   obtain ⟨e,he⟩:=hmo z (List.mem_of_getElem? hz)
   obtain ⟨v,hv,p,qv,l,cx,rfl,hp,hq,hl',hc,hf⟩:=hT6.at he
   simpa only [List.length_singleton,List.length_cons,List.length_nil,List.replicate,Jau,List.map_cons,List.map_nil,Option.join_some]
   refine ⟨td, .ref p,rfl,by rw [← hv]; exact DGet.k (k:=Sum.inr z) (S7 _ _ e56), ?_⟩
   nofun
   refine ixT (i:=0) (hp.same S7) rfl ?_
   nofun
   refine ⟨td, .ref p,rfl,by rw [← hv]; exact DGet.k (k:=Sum.inr z) (S7 _ _ e56), ?_⟩
   nofun
   refine ixT (i:=1) (hp.same S7) rfl ?_
   nofun
   refine ⟨by show 3 ≤ sizeLine; omega, ?_⟩
   intro np h_np
   generalize q_np:upd H7 np _ = H8
   have S8:=newS h_np q_np
   have e8:=newE q_np
   nofun
   refine ⟨S7.trans S8, ?_⟩
   rw [List.take_succ,hz,List.map_append]
   have S68:=S7.trans S8
   refine (hA7.mono (P':=RR K H H8) fun _ _ z => z.same S8).append (.one ?_)
   rw [hg1 z e he]
   exact ⟨np,qv,l,cx,rfl,e8,hq.same S68,S68 _ _ hl',hc.mono fun _ _ z => z.sameT S68.t,Jbo S04 hf⟩
  ·rintro ws H7 ⟨S7,hA7⟩
   rw [List.take_of_length_le (by rw [List.length_map]; omega)] at hA7
   intro rl h_rl
   generalize q_rl:upd H7 rl _ = H8
   have S8:=newS h_rl q_rl
   have e8:=newE q_rl
   nofun
   have S58:=S6.trans (S7.trans S8)
   have S08:Same H H8:=S04.trans (S5.trans S58)
   have hrk:(out.map g).map (·.1) = out:=by
    rw [List.map_map, ← hg]
    exact List.map_id _
   refine k rl ws (out.map g) H8 S08 (Jbo (S04.trans (S5.trans (S6.trans S7))) h_rl) e8 (hA7.mono fun _ _ z => z.same S8) ⟨?_, ?_,fun v => ?_,fun r hr => ?_,hB5⟩ hb1 hbb
   ·rw [hrk]
    exact hio.1.nodup_iff.mpr hk5.nd
   ·rw [hrk]
    exact hio.2
   ·rw [hrk,hio.1.mem_iff, ← hi5 v]
    exact ⟨Jd2,fun ⟨e,he⟩ => Jge he⟩
   ·obtain ⟨z,hz,rfl⟩:=List.mem_map.mp hr
    obtain ⟨e,he⟩:=hmo z hz
    rw [hg1 z e he]
    exact hk5.en z e he
abbrev Ban:Stmt:=top 38
theorem Ja3:Jan ["_law_one", "_law_other"] ["_law_one", "_law_other"] (Jaf Ban):=⟨rfl,rfl,rfl,by decide +kernel,rfl,by decide +kernel,by decide +kernel⟩
def Jbl  : Sp:=fun vs H Q E => ∃ (a b:Int),vs = [.int a, .int b]∧Q (.int (Mth.g a b)) H
theorem Jc4 {f:Addr} {fd:FuncData} {dV:Value} (F:FunD K "_law_divisor" "_law_divisor" Ban dV f fd) (T:Txt K mg Ad)  : FnOk P w K mg base (CX1 P w) 1 f fd ["_law_one", "_law_other"] (Jbl):=by
 refine F.okn Ja3 (fun vs H Q E h => ?_) (fun cdv A outer s H vs Q E hr h => ?_)
 ·obtain ⟨a,b,rfl,_⟩:=h; rfl
 obtain ⟨a,b,rfl,h⟩:=h
 refine ⟨_,(Jab (Jak (i:=0) Ja3.nd rfl (Or.inl rfl) (Jat Jb6 rfl T.BbH Je4 (Jaa (pv 0) Jae)))
   (Jab (Jak (i:=1) Ja3.nd rfl (Or.inl rfl) (Jat Jb6 rfl T.BbH Je4 (Jaa (pv 1) Jae)))
   (Jab (JdI PassesOwn.never (Jav Jgr (pv 1) Jad (Jay _))
   (Jah (Ji7 (i:=0) (j:=1) rfl Ja3.nd rfl rfl (by decide) rfl rfl (Jaa (pv 1) (Jaa (pe_op JaL (pv 0) (pv 1)) Jae)) rfl)))
   (Jah (Jao (pv 0)))))), ?_⟩
 show tSeq _ _ _ [some (.int a),some (.int b)] H
 try infer_instance
 refine ⟨fun m σ H' => ∃ (x y:Int), σ = [some (.int x),some (.int y)]∧H' = H∧0 ≤ x∧0 ≤ y∧Mth.g x y = Mth.g a b∧y.toNat = m,⟨_,_,_,rfl,rfl,Mth.Je3 a,Mth.Je3 b,Mth.BbP a b,rfl⟩, ?_⟩
 rintro m σ H' ⟨x,y,rfl,rfl,hx,hy,hg,rfl⟩
 try infer_instance
 by_cases c:y = 0
 ·subst c
  rw [if_neg (by simp)]
  have e:Mth.g a b = x:=by rw [← hg,Mth.Jhz]; omega
  rw [e] at h
  exact h
 ·rw [if_pos (by simp; omega)]
  have f:=Mth.fm (x:=x) (y:=y) (by omega)
  refine ⟨_,fun _ _ q => q, ?_⟩
  simp only [tPar,y85y,y4fy,y50y,y51y,y74y,y2by,y6fy,y82y,y83y,y47y,y2ey,y7by,y95y,y30y,y3cy,y75y,y2fy,y8by,y23y,y29y,y7cy,y77y,y2ay,y7dy,y79y,y5dy,y97y,y26y,y89y,y73y,y6cy,y4cy,y6by,y80y,y33y,y4ay,y71y,y4by,y72y,y49y,y70y,y90y,y67y,y63y,y92y,y94y,y91y,y93y,y25y,y6ay,y24y,true_and,if_true,if_false,Bool.not_true,Bool.not_false,Bool.false_eq_true,yby,ydy,yay,ycy,yey,y15y,y17y,y14y,y16y,y18y,y6y,y8y,y5y,y7y,y9y,y1y,y3y,y0y,y2y,y4y,y10y,y12y,yfy,y11y,y13y,y1ay,y1cy,y19y,y1by,y1dy,y1fy,y21y,y1ey,y20y,y22y,y87y,y7fy,y76y,y58y,y5ay,y31y,y32y,y57y,y65y,y66y,y4ey,y88y,y8ey,y98y,y81y,y27y,V.int.injEq,V.str.injEq,List.set_cons_zero,List.set_cons_succ,List.getElem?_cons_zero,List.getElem?_cons_succ,Option.some.injEq,exists_eq_left,exists_eq_left',V.bl.injEq,Int.reduceToNat,Int.reducePow,List.append_nil,List.nil_append,List.cons_append]
  exact ⟨c,_,_,rfl,(x.fmod y).toNat,by omega,y,x.fmod y,rfl,hy,f.1,by rw [Mth.Jf4 (by omega)]; exact hg,rfl⟩
abbrev Bao:Stmt:=top 37
theorem Jc6:Jan ["_law_script", "_law_k"] ["_law_script", "_law_k"] (Jaf Bao):=⟨rfl,rfl,rfl,by decide +kernel,rfl,by decide +kernel,by decide +kernel⟩
def Ja4 (K:PySem.W.Frag):Sp:=fun vs H Q E => ∃ (a:Addr) (ns:List Int) (k:Int),vs = [.ref a, .int k]∧SqL K H a (ns.map V.int)∧ns.length ≤ 63∧0 ≤ k∧∀ v:Int,Q (.int v) H
theorem Jc3 {f:Addr} {fd:FuncData} {dV:Value} (F:FunD K "_law_cell_at" "_law_cell_at" Bao dV f fd) (T:Txt K mg Ad)  : FnOk P w K mg base (CX1 P w) 1 f fd ["_law_script", "_law_k"] (Ja4 K):=by
 refine F.okn Jc6 (fun vs H Q E h => ?_) (fun cdv A outer s H vs Q E hr h => ?_)
 ·obtain ⟨a,ns,k,rfl,_⟩:=h; rfl
 obtain ⟨a,ns,k,rfl,h⟩:=h
 refine ⟨_,(Jab (ps_if (Jav Jeb (pv 1) (Jat JaP rfl T.Bbf JbE (Jaa (pv 0) Jae)) (Jay _))
   (Jah (Jao (pe_ix ix_U (pv 0) (pv 1) (fun _ _ => rfl))))
   Jas)
   (Jah (Jao Jad))), ?_⟩
 obtain ⟨hS,hl,h0,q⟩:=h
 show tSeq _ _ _ [some (.ref a),some (.int k)] H
 try infer_instance
 refine ⟨_, .inl hS, ?_⟩
 simpa only [List.length_map]
 obtain ⟨n,rfl⟩:=Int.eq_ofNat_of_zero_le h0
 by_cases c:n < ns.length
 ·rw [if_pos (by simp; omega)]
  try infer_instance
  exact ixL hS (by rw [List.getElem?_map,List.getElem?_eq_getElem c]; rfl) (q _)
 ·rw [if_neg (by simp; omega)]
  try infer_instance
  exact q 0
abbrev Bar:Stmt:=top 39
theorem Jca:Jan ["_law_top", "_law_bottom", "_law_by"] ["_law_top", "_law_bottom"] (Jaf Bar):=⟨rfl,rfl,rfl,by decide +kernel,rfl,by decide +kernel,by decide +kernel⟩
def Ja9  : Sp:=fun vs H Q E => ∃ (t b:Int),vs = [.int t, .int b]∧1 ≤ b∧Mth.Sz 8000 b∧∀ p H',Same H H'→H' p = some (.tup [.int (Mth.top t b), .int (Mth.bot t b)])→Q (.ref p) H'
theorem JdE {f:Addr} {fd:FuncData} {dV:Value} (F:FunD K "_law_lowest" "_law_lowest" Bar dV f fd) (T:Txt K mg Ad) (BaQ:Cal P w K mg base 1 "_law_divisor" ["_law_one", "_law_other"] [] (Jbl)):FnOk P w K mg base (CX1 P w) 2 f fd ["_law_top", "_law_bottom"] (Ja9):=by
 refine F.okn Jca (fun vs H Q E h => ?_) (fun cdv A outer s H vs Q E hr h => ?_)
 ·obtain ⟨t,b,rfl,_⟩:=h; rfl
 obtain ⟨t,b,rfl,h⟩:=h
 refine ⟨_,(Jab (Jak (i:=2) Jca.nd rfl (Or.inl rfl) (BaQ.ev hr (by decide) rfl passF (Jaa (pv 0) (Jaa (pv 1) Jae)) (he:=by exact Jai rfl)))
   (Jah (Jao (JaO (Jaa (pe_op Jaz (pv 0) (pv 2)) (Jaa (pe_op Jaz (pv 1) (pv 2)) Jae)))))), ?_⟩
 obtain ⟨hb,hs,k⟩:=h
 show tSeq _ _ _ [some (.int t),some (.int b),none] H
 try infer_instance
 refine ⟨_,_,rfl, ?_⟩
 try infer_instance
 have gp:=Mth.g_pos (a:=t) (b:=b) (by omega)
 have gl:=Mth.g_le (a:=t) (b:=b) (by omega)
 have d1:DivOk (Mth.g t b):=divOk (n:=8000) (by omega) (Nat.lt_of_le_of_lt (by omega:(Mth.g t b).natAbs ≤ b.natAbs) hs)
 refine ⟨d1,d1,len2, ?_⟩
 refine Jgm fun p H1 S hp => k p H1 S ?_
 rw [hp]
 unfold Mth.top Mth.bot Mth.by_
 rw [if_neg (by omega)]
abbrev BaC:Stmt:=top 40
theorem JeV:Jan ["_law_one", "_law_other"] ["_law_one", "_law_other"] (Jaf BaC):=⟨rfl,rfl,rfl,by decide +kernel,rfl,by decide +kernel,by decide +kernel⟩
def Jbe (K:PySem.W.Frag):Sp:=fun vs H Q E => ∃ (x y:V) (a c:Int × Int),vs = [x,y]∧FrV K H x a.1 a.2∧FrV K H y c.1 c.2∧FW 3000 3000 a∧FW 3000 3000 c∧∀ p H',Same H H'→H' p = some (.tup [.int (addF a c).1, .int (addF a c).2])→Q (.ref p) H'
theorem JeK {f:Addr} {fd:FuncData} {dV:Value} (F:FunD K "_law_plus" "_law_plus" BaC dV f fd) (T:Txt K mg Ad) (Bas:Cal P w K mg base 2 "_law_lowest" ["_law_top", "_law_bottom"] [] (Ja9)):FnOk P w K mg base (CX1 P w) 3 f fd ["_law_one", "_law_other"] (Jbe K):=by
 refine F.okn JeV (fun vs H Q E h => ?_) (fun cdv A outer s H vs Q E hr h => ?_)
 ·obtain ⟨x,y,a,c,rfl,_⟩:=h; rfl
 obtain ⟨x,y,a,c,rfl,h⟩:=h
 refine ⟨_,(Jah (Jao (Bas.ev hr (by decide) rfl passF (Jaa (pe_op JaV (pe_op JaT (pe_ix ix_U (pv 0) Jad (fun _ _ => rfl)) (pe_ix ix_U (pv 1) Jad (fun _ _ => rfl))) (pe_op JaT (pe_ix ix_U (pv 1) Jad (fun _ _ => rfl)) (pe_ix ix_U (pv 0) Jad (fun _ _ => rfl)))) (Jaa (pe_op JaT (pe_ix ix_U (pv 0) Jad (fun _ _ => rfl)) (pe_ix ix_U (pv 1) Jad (fun _ _ => rfl))) Jae)) (he:=by exact Jai rfl)))), ?_⟩
 obtain ⟨hx,hy,ha,hc,k⟩:=h
 show tRet _ _ [some x,some y] H
 try infer_instance
 refine ixF0 hx (ixF1 hy ?_)
 try infer_instance
 refine ⟨mulOk ha.s1 hc.s2,ixF0 hy (ixF1 hx ?_)⟩
 try infer_instance
 refine ⟨mulOk hc.s1 ha.s2,ixF1 hx (ixF1 hy ?_)⟩
 try infer_instance
 refine ⟨mulOk ha.s2 hc.s2,_,_,rfl, ?_,(ha.s2.mul hc.s2).mono (by decide),fun p H1 S e => k p H1 S e⟩
 have:=Int.mul_pos (show 0 < a.2 by have:=ha.b1; omega) (show 0 < c.2 by have:=hc.b1; omega)
 omega
abbrev BaD:Stmt:=top 41
theorem JeU:Jan ["_law_one", "_law_other"] ["_law_one", "_law_other"] (Jaf BaD):=⟨rfl,rfl,rfl,by decide +kernel,rfl,by decide +kernel,by decide +kernel⟩
def Jb4 (K:PySem.W.Frag):Sp:=fun vs H Q E => ∃ (x y:V) (a c:Int × Int),vs = [x,y]∧FrV K H x a.1 a.2∧FrV K H y c.1 c.2∧FOk 3000 a∧FOk 3000 c∧Q (.bl (lessF a c)) H
theorem JeJ {f:Addr} {fd:FuncData} {dV:Value} (F:FunD K "_law_less" "_law_less" BaD dV f fd) (T:Txt K mg Ad)  : FnOk P w K mg base (CX1 P w) 1 f fd ["_law_one", "_law_other"] (Jb4 K):=by
 refine F.okn JeU (fun vs H Q E h => ?_) (fun cdv A outer s H vs Q E hr h => ?_)
 ·obtain ⟨x,y,a,c,rfl,_⟩:=h; rfl
 obtain ⟨x,y,a,c,rfl,h⟩:=h
 refine ⟨_,(Jah (Jao (Jbi Jeb (pe_op JaT (pe_ix ix_U (pv 0) Jad (fun _ _ => rfl)) (pe_ix ix_U (pv 1) Jad (fun _ _ => rfl))) (pe_op JaT (pe_ix ix_U (pv 1) Jad (fun _ _ => rfl)) (pe_ix ix_U (pv 0) Jad (fun _ _ => rfl))) (Jay _)))), ?_⟩
 obtain ⟨hx,hy,ha,hc,k⟩:=h
 show tRet _ _ [some x,some y] H
 try infer_instance
 refine ixF0 hx (ixF1 hy ?_)
 try infer_instance
 refine ⟨mulOk ha.s1 hc.s2,ixF0 hy (ixF1 hx ?_)⟩
 try infer_instance
 refine ⟨mulOk hc.s1 ha.s2, ?_⟩
 exact k
abbrev Bat:Stmt:=top 42
theorem JaM:Jan ["_law_script", "_law_faces", "_law_places_here", "_law_k", "_law_cell", "_law_mixed", "_law_top"] ["_law_script", "_law_faces"] (Jaf Bat):=⟨rfl,rfl,rfl,by decide +kernel,rfl,by decide +kernel,by decide +kernel⟩
def JbC (K:PySem.W.Frag):Sp:=fun vs H Q E => ∃ (a:Addr) (ns:List Int) (f:Nat),vs = [.ref a, .int (f:Int)]∧SqL K H a (ns.map V.int)∧ns.length ≤ 63∧f ≤ 6∧∀ p ys ls H',H p = none→Same H H'→H' p = some (.lst ys)→All2 (fun (l:Int × Int) x => FrV K H' x l.1 l.2) ls ys→ls.length = f→(∀ l ∈ ls,FB 140 3 l)→Q (.ref p) H'
theorem JdF {f:Addr} {fd:FuncData} {dV:Value} (F:FunD K "_law_places" "_law_places" Bat dV f fd) (T:Txt K mg Ad) (Bag:Cal P w K mg base 1 "_law_cell_at" ["_law_script", "_law_k"] [] (Ja4 K)) (Bas:Cal P w K mg base 2 "_law_lowest" ["_law_top", "_law_bottom"] [] (Ja9)):FnOk P w K mg base (CX1 P w) 3 f fd ["_law_script", "_law_faces"] (JbC K):=by
 refine F.okn JaM (fun vs H Q E h => ?_) (fun cdv A outer s H vs Q E hr h => ?_)
 ·obtain ⟨a,ns,f,rfl,_⟩:=h; rfl
 obtain ⟨a,ns,f,rfl,h⟩:=h
 have hu:=hr.units
 refine ⟨_,(Jab (Jak (i:=2) JaM.nd rfl (Or.inl rfl) (Jbq Jae))
   (Jab (JaY PassesOwn.never rfl (JcQ rfl T.BbB (Jaa (pv 1) Jae)) (Jaj (i:=3) JaM.nd rfl (Or.inl rfl))
   (Jab (Jak (i:=4) JaM.nd rfl (Or.inl rfl) (Bag.ev hr (by decide) rfl passF (Jaa (pv 0) (Jaa (pe_op JaV Jad (pv 3)) Jae)) (he:=by exact Jai rfl)))
   (Jab (Jak (i:=5) JaM.nd rfl (Or.inl rfl) (pe_op Jaz (pe_op JaL (pe_op JaT (pv 4) Jad) Jad) Jad))
   (Jab (Jak (i:=6) JaM.nd rfl (Or.inl rfl) (pe_op Jgw (pe_op JaL (pv 5) Jad) Jad))
   (Jab (ps_if (Jav (JbX hu) (pe_op JaL (pe_op Jaz (pv 5) Jad) Jad) Jad (Jay _))
   (Jah (Jak (i:=6) JaM.nd rfl (Or.inl rfl) (pe_op Jgw (pe_op JaL (pv 4) (pe_op Jgv Jad Jad)) (pe_op JaT Jad (pe_op Jgv Jad Jad)))))
   Jas)
   (Jah (Ja6 (pe_bm PySem.F.plainAttrs_list PySem.F.slot_list_append PySem.F.type_list_append JaX (pv 2) (Jaa (Bas.ev hr (by decide) rfl passF (Jaa (pv 6) (Jaa (pe_op JaV Jad (pe_op JaL (pe_op Jaz (pv 5) Jad) Jad)) Jae)) (he:=by exact Jai rfl)) Jae) (hs:=by exact Jai rfl)))))))))
   (Jah (Jao (pv 2))))), ?_⟩
 clear hu
 obtain ⟨hS,hl,hf,k⟩:=h
 show tSeq _ _ _ [some (.ref a),some (.int (f:Int)),none,none,none,none,none] H
 try infer_instance
 refine ⟨len0, ?_⟩
 intro pl h_pl
 generalize q_pl:upd H pl _ = H1
 have S1:=newS h_pl q_pl
 have e1:=newE q_pl
 have sl:(1000:Nat) ≤ sizeLine:=by decide
 refine ⟨_,rfl,by omega,by omega, ?_⟩
 refine ForR.by (fun i σ H' => ∃ (v3 v4 v5 v6:Option V) (ys:List V) (ls:List (Int × Int)), σ = [some (.ref a),some (.int (f:Int)),some (.ref pl),v3,v4,v5,v6]∧Same H H'∧H' pl = some (.lst ys)∧All2 (fun (l:Int × Int) x => FrV K H' x l.1 l.2) ls ys∧ls.length = i∧∀ l ∈ ls,FB 140 3 l) ⟨none,none,none,none,[],[],rfl,S1,e1,rfl,rfl,by simp⟩ ?_ ?_
 ·rintro i σ H2 hi ⟨v3,v4,v5,v6,ys,ls,rfl,S2,e2,hA,hli,hB⟩
  have ly:=hA.length
  try infer_instance
  refine ⟨a,ns,_,rfl,hS.same S2,hl,by omega,fun c => ?_⟩
  try infer_instance
  repeat (refine And.intro (by first | exact Jbm (by decide) | exact Jbr (by decide) | exact Jbp (by decide) | exact JaZ (by decide) | exact Int.one_ne_zero | decide) ?_)
  generalize hmx:((c * 69621).fmod 2147483629).fdiv 37 = mx
  have q1:=Mth.fm (x:=mx) (y:=61) (by decide)
  have q2:=Mth.fm (x:=mx.fdiv 244) (y:=6) (by decide)
  have q5:=Mth.fm (x:=c) (y:=10000000000000000000000000000000000000000) (by decide)
  by_cases c3:(mx.fdiv 61).fmod 4 = 1
  ·rw [if_pos (by simpa using c3)]
   try infer_instance
   repeat (refine And.intro (by first | exact Jbm (by decide) | exact Jbr (by decide) | exact Jbp (by decide) | exact JaZ (by decide) | exact Int.one_ne_zero | decide) ?_)
   refine ⟨.inl ⟨rfl,_,SqL.of e2⟩, ?_⟩
   try infer_instance
   repeat (refine And.intro (by first | exact Jbm (by decide) | exact Jbr (by decide) | exact Jbp (by decide) | exact JaZ (by decide) | exact Int.one_ne_zero | decide) ?_)
   refine ⟨c.fmod 10000000000000000000000000000000000000000 - 5000000000000000000000000000000000000000,1 + (mx.fdiv 244).fmod 6,rfl,by omega, .lit (by omega) (by omega),fun pf H3 S3 e3 => ?_⟩
   refine ⟨pl,_,_,rfl,rfl,S3 _ _ e2,by omega, ?_⟩
   generalize u5:upd H3 pl _ = H5
   have e5:=putE u5
   have T35:SameT H3 H5:=SameT.put u5 (S3 _ _ e2) rfl
   refine ⟨_,_,_,_,ys ++ [.ref pf],ls ++ [(Mth.top (c.fmod 10000000000000000000000000000000000000000 - 5000000000000000000000000000000000000000) (1 + (mx.fdiv 244).fmod 6),Mth.bot (c.fmod 10000000000000000000000000000000000000000 - 5000000000000000000000000000000000000000) (1 + (mx.fdiv 244).fmod 6))],rfl,fun bb u hb => ?_,e5, ?_,by simp [hli],fun l hl' => ?_⟩
   ·rw [← u5,Jag (Jac hb h_pl)]
    exact S3 _ _ (S2 _ _ hb)
   ·exact (hA.mono (P':=fun (l:Int × Int) x => FrV K H5 x l.1 l.2) fun _ _ z => (z.sameT S3.t).sameT T35).append (.one ((FrV.of e3).sameT T35))
   ·rcases List.mem_append.mp hl' with h' | h'
    ·exact hB l h'
    ·rw [List.mem_singleton.mp h']
     exact FB.low (by omega) (.lit (by omega) (by omega)) (.lit (by omega) (by omega))
  ·rw [if_neg (by simpa using c3)]
   try infer_instance
   refine ⟨.inl ⟨rfl,_,SqL.of e2⟩, ?_⟩
   try infer_instance
   repeat (refine And.intro (by first | exact Jbm (by decide) | exact Jbr (by decide) | exact Jbp (by decide) | exact JaZ (by decide) | exact Int.one_ne_zero | decide) ?_)
   refine ⟨mx.fmod 61 - 30,1 + (mx.fdiv 244).fmod 6,rfl,by omega, .lit (by omega) (by omega),fun pf H3 S3 e3 => ?_⟩
   refine ⟨pl,_,_,rfl,rfl,S3 _ _ e2,by omega, ?_⟩
   generalize u5:upd H3 pl _ = H5
   have e5:=putE u5
   have T35:SameT H3 H5:=SameT.put u5 (S3 _ _ e2) rfl
   refine ⟨_,_,_,_,ys ++ [.ref pf],ls ++ [(Mth.top (mx.fmod 61 - 30) (1 + (mx.fdiv 244).fmod 6),Mth.bot (mx.fmod 61 - 30) (1 + (mx.fdiv 244).fmod 6))],rfl,fun bb u hb => ?_,e5, ?_,by simp [hli],fun l hl' => ?_⟩
   ·rw [← u5,Jag (Jac hb h_pl)]
    exact S3 _ _ (S2 _ _ hb)
   ·exact (hA.mono (P':=fun (l:Int × Int) x => FrV K H5 x l.1 l.2) fun _ _ z => (z.sameT S3.t).sameT T35).append (.one ((FrV.of e3).sameT T35))
   ·rcases List.mem_append.mp hl' with h' | h'
    ·exact hB l h'
    ·rw [List.mem_singleton.mp h']
     exact FB.low (by omega) (.lit (by omega) (by omega)) (.lit (by omega) (by omega))
 ·rintro σ H2 ⟨v3,v4,v5,v6,ys,ls,rfl,S2,e2,hA,hli,hB⟩
  try infer_instance
  exact k pl ys ls H2 h_pl S2 e2 hA (by rw [hli]; simp) hB
abbrev BaE:Stmt:=top 43
theorem JeT:Jan ["_law_k"] ["_law_k"] (Jaf BaE):=⟨rfl,rfl,rfl,by decide +kernel,rfl,by decide +kernel,by decide +kernel⟩
def Jbd (K:PySem.W.Frag):Sp:=fun vs H Q E => ∃ (k:Nat),vs = [.int (k:Int)]∧k < 6∧∀ z H',Same H H'→faceL[k]? = some z→Q (.str z) H'
theorem JeH {f:Addr} {fd:FuncData} {dV:Value} (F:FunD K "_law_face" "_law_face" BaE dV f fd) (T:Txt K mg Ad)  : FnOk P w K mg base (CX1 P w) 1 f fd ["_law_k"] (Jbd K):=by
 refine F.okn JeT (fun vs H Q E h => ?_) (fun cdv A outer s H vs Q E hr h => ?_)
 ·obtain ⟨k,rfl,_⟩:=h; rfl
 obtain ⟨k,rfl,h⟩:=h
 refine ⟨_,(Jah (Jao (pe_ix ix_U (Jbq (Jaa Jcm (Jaa Jcm (Jaa Jcm (Jaa Jcm (Jaa Jcm (Jaa Jcm Jae))))))) (pv 0) (fun _ _ => rfl)))), ?_⟩
 obtain ⟨hk,q⟩:=h
 show tRet _ _ [some (.int (k:Int))] H
 try infer_instance
 refine ⟨by show 6 ≤ sizeLine; decide, ?_⟩
 intro p h_p
 generalize q_p:upd H p _ = H1
 have S1:=newS h_p q_p
 have e1:=newE q_p
 have hz:faceL[k]? = some faceL[k]:=List.getElem?_eq_getElem hk
 refine ixL (i:=k) (SqL.of e1) (v:=.str faceL[k]) ?_ (q _ H1 S1 hz)
 have : (faceL.map V.str)[k]? = some (.str faceL[k]):=by rw [List.getElem?_map,hz]; rfl
 exact this
abbrev BaN:Stmt:=top 44
theorem JaR:Jan ["_law_cell", "_law_k", "_law_places_here", "_law_mixed", "_law_start", "_law_end", "_law_apart", "_law_low", "_law_high"] ["_law_cell", "_law_k", "_law_places_here"] (Jaf BaN):=⟨rfl,rfl,rfl,by decide +kernel,rfl,by decide +kernel,by decide +kernel⟩
def Jcj (K:PySem.W.Frag):Sp:=fun vs H Q E => ∃ (c:Int) (k:Nat) (p:Addr) (ys:List V) (ls:List (Int × Int)),vs = [.int c, .int (k:Int), .ref p]∧k < 9∧SqL K H p ys∧All2 (fun (l:Int × Int) x => FrV K H x l.1 l.2) ls ys∧2 ≤ ls.length∧ls.length ≤ 6∧(∀ l ∈ ls,FB 140 3 l)∧∀ x t (i j:Nat) (li lj:Int × Int) H',Same H H'→TV K H' t x→TOk t→faceL[i]? = some t.st→faceL[j]? = some t.en→ls[i]? = some li→ls[j]? = some lj→okB t.lo t.hi (addF lj (negF li)) = true→t.nm = ⟨#[97 + k]⟩→(∀ u,t.lo = some u→FB 147 8 u)→(∀ u,t.hi = some u→FB 147 8 u)→Q x H'
theorem JfB {f:Addr} {fd:FuncData} {dV:Value} (F:FunD K "_law_tie" "_law_tie" BaN dV f fd) (T:Txt K mg Ad) (Bai:Cal P w K mg base 3 "_law_plus" ["_law_one", "_law_other"] [] (Jbe K)) (Ba4:Cal P w K mg base 1 "_law_face" ["_law_k"] [] (Jbd K)):FnOk P w K mg base (CX1 P w) 4 f fd ["_law_cell", "_law_k", "_law_places_here"] (Jcj K):=by
 refine F.okn JaR (fun vs H Q E h => ?_) (fun cdv A outer s H vs Q E hr h => ?_)
 ·obtain ⟨c,k,p,ys,ls,rfl,_⟩:=h; rfl
 obtain ⟨c,k,p,ys,ls,rfl,h⟩:=h
 have hu:=hr.units
 refine ⟨_,(Jab (Jak (i:=3) JaR.nd rfl (Or.inl rfl) (pe_op Jaz (pe_op JaL (pe_op JaT (pv 0) Jad) Jad) Jad))
   (Jab (Jak (i:=4) JaR.nd rfl (Or.inl rfl) (pe_op JaL (pv 3) (Jat JaP rfl T.Bbf JbE (Jaa (pv 2) Jae))))
   (Jab (Jak (i:=5) JaR.nd rfl (Or.inl rfl) (pe_op JaL (pe_op JaV (pe_op JaV (pv 4) Jad) (pe_op JaL (pe_op Jaz (pv 3) Jad) (pe_op Jgw (Jat JaP rfl T.Bbf JbE (Jaa (pv 2) Jae)) Jad))) (Jat JaP rfl T.Bbf JbE (Jaa (pv 2) Jae))))
   (Jab (Jak (i:=6) JaR.nd rfl (Or.inl rfl) (Bai.ev hr (by decide) rfl passF (Jaa (pe_ix ix_U (pv 2) (pv 5) (fun _ _ => rfl)) (Jaa (JaO (Jaa (pe_un Jdo (pe_ix ix_U (pe_ix ix_U (pv 2) (pv 4) (fun _ _ => rfl)) Jad (fun _ _ => rfl))) (Jaa (pe_ix ix_U (pe_ix ix_U (pv 2) (pv 4) (fun _ _ => rfl)) Jad (fun _ _ => rfl)) Jae))) Jae)) (he:=by exact Jai rfl)))
   (Jab (Jak (i:=7) JaR.nd rfl (Or.inl rfl) (Bai.ev hr (by decide) rfl passF (Jaa (pv 6) (Jaa (JaO (Jaa (pe_un Jdo (pe_op JaL (pe_op Jaz (pv 3) Jad) Jad)) (Jaa (pe_op JaV Jad (pe_op JaL (pe_op Jaz (pv 3) Jad) Jad)) Jae))) Jae)) (he:=by exact Jai rfl)))
   (Jab (Jak (i:=8) JaR.nd rfl (Or.inl rfl) (Bai.ev hr (by decide) rfl passF (Jaa (pv 6) (Jaa (JaO (Jaa (pe_op JaL (pe_op Jaz (pv 3) Jad) Jad) (Jaa (pe_op JaV Jad (pe_op JaL (pe_op Jaz (pv 3) Jad) Jad)) Jae))) Jae)) (he:=by exact Jai rfl)))
   (Jab (ps_if (Jav (JbX hu) (pe_op JaL (pe_op Jaz (pv 3) Jad) Jad) Jad (Jay _))
   (Jah (Jak (i:=7) JaR.nd rfl (Or.inl rfl) Ja8))
   Jas)
   (Jab (ps_if (Jav (JbX hu) (pe_op JaL (pe_op Jaz (pv 3) Jad) Jad) Jad (Jay _))
   (Jah (Jak (i:=8) JaR.nd rfl (Or.inl rfl) Ja8))
   Jas)
   (Jah (Jao (JaO (Jaa (pe_ix ix_U Jcm (pv 1) (fun _ _ => rfl)) (Jaa (Ba4.ev hr (by decide) rfl passF (Jaa (pv 4) Jae) (he:=by exact Jai rfl)) (Jaa (Ba4.ev hr (by decide) rfl passF (Jaa (pv 5) Jae) (he:=by exact Jai rfl)) (Jaa (pv 7) (Jaa (pv 8) Jae)))))))))))))))), ?_⟩
 clear hu
 obtain ⟨hk,hY,hL,hf2,hf6,hB,q⟩:=h
 show tSeq _ _ _ [some (.int c),some (.int (k:Int)),some (.ref p),none,none,none,none,none,none] H
 try infer_instance
 repeat (refine And.intro (by first | exact Jbm (by decide) | exact Jbr (by decide) | exact Jbp (by decide) | exact JaZ (by decide) | exact Int.one_ne_zero | decide) ?_)
 generalize hmx:((c * 48271).fmod 2147483647).fdiv 37 = mx
 have lY:=hL.length
 have sl:(1000:Nat) ≤ sizeLine:=by decide
 refine ⟨_, .inl hY, ?_⟩
 try infer_instance
 refine ⟨by omega, ?_⟩
 repeat (refine And.intro (by first | exact Jbm (by decide) | exact Jbr (by decide) | exact Jbp (by decide) | exact JaZ (by decide) | exact Int.one_ne_zero | decide) ?_)
 refine ⟨_, .inl hY, ?_⟩
 try infer_instance
 refine ⟨by omega,_, .inl hY, ?_⟩
 try infer_instance
 refine ⟨by omega, ?_⟩
 generalize hfy:ys.length = f at *
 have q1:=Mth.fm (x:=mx) (y:=(f:Int)) (by omega)
 have q2:=Mth.fm (x:=mx.fdiv 6) (y:=(f:Int) - 1) (by omega)
 have st2:=JgZ (x:=mx.fmod (f:Int) + 1 + (mx.fdiv 6).fmod ((f:Int) - 1)) (f:=(f:Int)) (by omega) (by omega)
 obtain ⟨sI,hsI⟩:=Int.eq_ofNat_of_zero_le q1.1
 have q7:=Mth.fm (x:=mx.fmod (f:Int) + 1 + (mx.fdiv 6).fmod ((f:Int) - 1)) (y:=(f:Int)) (by omega)
 obtain ⟨eI,heI⟩:=Int.eq_ofNat_of_zero_le q7.1
 have hne:sI ≠ eI:=fun z => by
  have : mx.fmod (f:Int) = (mx.fmod (f:Int) + 1 + (mx.fdiv 6).fmod ((f:Int) - 1)).fmod (f:Int):=by rw [heI,hsI,z]
  rcases st2 with e | e <;> omega
 rw [heI,hsI]
 have lsI:sI < ys.length:=by omega
 have leI:eI < ys.length:=by omega
 obtain ⟨fs,hfs,frs⟩:=hL.at_ (List.getElem?_eq_getElem lsI)
 obtain ⟨fe,hfe,fre⟩:=hL.at_ (List.getElem?_eq_getElem leI)
 have bs:=hB fs (List.mem_of_getElem? hfs)
 have be:=hB fe (List.mem_of_getElem? hfe)
 refine ixL (i:=eI) hY (List.getElem?_eq_getElem leI) ?_
 refine ixL (i:=sI) hY (List.getElem?_eq_getElem lsI) ?_
 refine ixF0 frs ?_
 try infer_instance
 refine ixL (i:=sI) hY (List.getElem?_eq_getElem lsI) ?_
 refine ixF1 frs ?_
 try infer_instance
 refine ⟨len2, ?_⟩
 intro pn h_pn
 generalize q_pn:upd H pn _ = H1
 have S1:=newS h_pn q_pn
 have e1:=newE q_pn
 refine ⟨_,_,fe,negF fs,rfl,fre.same S1,FrV.of e1,be.w.mono (by decide) (by decide),bs.neg.w.mono (by decide) (by decide),fun pa H2 S2 e2 => ?_⟩
 have bA:FB 144 6 (addF fe (negF fs)):=be.w.add (n:=143) (m:=6) bs.neg.w (by decide) (by decide) (by decide)
 have frA:FrV K H2 (.ref pa) (addF fe (negF fs)).1 (addF fe (negF fs)).2:=FrV.of e2
 generalize hAA:addF fe (negF fs) = AA at *
 try infer_instance
 repeat (refine And.intro (by first | exact Jbm (by decide) | exact Jbr (by decide) | exact Jbp (by decide) | exact JaZ (by decide) | exact Int.one_ne_zero | decide) ?_)
 have m5:=Mth.fm (x:=mx.fdiv 36) (y:=5) (by decide)
 have m3:=Mth.fm (x:=mx.fdiv 180) (y:=3) (by decide)
 have n5:=Mth.fm (x:=mx.fdiv 540) (y:=5) (by decide)
 have n3:=Mth.fm (x:=mx.fdiv 2700) (y:=3) (by decide)
 obtain ⟨c1,hc1,hk1⟩:∃ c1:Nat,atI (Str.ofString "abcdefghi").cps.toList (k:Int) = some c1∧c1 = 97 + k:=by
  have e:(Str.ofString "abcdefghi").cps.toList = List.range' 97 9:=by decide
  rw [e]
  refine ⟨97 + k,JcA ?_,rfl⟩
  rw [List.getElem?_range' (by omega)]
  simp
 have l6:faceL.length = 6:=by decide
 have zs1:faceL[sI]? = some faceL[sI]:=List.getElem?_eq_getElem (by omega)
 have ze1:faceL[eI]? = some faceL[eI]:=List.getElem?_eq_getElem (by omega)
 have fin:∀ (lo hi:Option (Int × Int)) (vl vh:V) (Hx:Hp),Same H Hx→BV K Hx lo vl→BV K Hx hi vh→(∀ u,lo = some u→FB 147 8 u)→(∀ u,hi = some u→FB 147 8 u)→lessD (bD hi) (bD lo) = false→okB lo hi AA = true →
   rIxU K (V.str (Str.ofString "abcdefghi")) (V.int (k:Int)) Hx (fun x H1 => Jbd K [V.int (sI:Int)] H1 (fun x4 H1 => Jbd K [V.int (eI:Int)] H1 (fun x6 H1 => [x,x4,x6,vl,vh].length ≤ sizeLine∧∀ (p:Addr),H1 p = none→Q (V.ref p) (upd H1 p (HO.tup [x,x4,x6,vl,vh]))) E0) E0):=by
  intro lo hi vl vh Hx Sx bl bh ol oh hle hok
  refine ⟨c1,by decide,hc1, ?_⟩
  try infer_instance
  refine ⟨sI,rfl,by omega,fun z3 H3 S3 hz3 => ?_⟩
  rw [zs1] at hz3
  cases hz3
  refine ⟨eI,rfl,by omega,fun z4 H4 S4 hz4 => ?_⟩
  rw [ze1] at hz4
  cases hz4
  try infer_instance
  refine ⟨len5, ?_⟩
  intro px h_px
  generalize q_px:upd H4 px _ = H5
  have S5:=newS h_px q_px
  have e5:=newE q_px
  have Sx5:=S3.trans (S4.trans S5)
  have lc1:(⟨#[c1]⟩:Str).length = 1:=rfl
  refine q (.ref px) ⟨⟨#[c1]⟩,faceL[sI],faceL[eI],lo,hi⟩ sI eI fs fe H5 (Sx.trans Sx5) ⟨px,_,_,rfl,SqT.of e5,bl.sameT Sx5.t,bh.sameT Sx5.t⟩ ⟨?_,JfZ zs1,JfZ ze1,fun z => ?_,fun u hu => (ol u hu).ok (by decide) (by decide),fun u hu => (oh u hu).ok (by decide) (by decide),hle⟩ zs1 ze1 hfs hfe (by rw [hAA]; exact hok) (by rw [hk1]) ol oh
  ·unfold nameS
   have h2:lowB c1 = true:=by unfold lowB; simp; omega
   simp [lc1,h2]
  ·have z':faceL[sI] = faceL[eI]:=z
   exact hne (JgX zs1 (by rw [z']; exact ze1))
 refine ⟨len2, ?_⟩
 intro p1 h_p1
 generalize q_p1:upd H2 p1 _ = H3
 have S3:=newS h_p1 q_p1
 have e3:=newE q_p1
 have w1:FW 3 2 ((-(mx.fdiv 36).fmod 5,1 + (mx.fdiv 180).fmod 3):Int × Int):=⟨.lit (show -(2 ^ 3) < -(mx.fdiv 36).fmod 5 by omega) (show -(mx.fdiv 36).fmod 5 < 2 ^ 3 by omega), .lit (show -(2 ^ 2) < 1 + (mx.fdiv 180).fmod 3 by omega) (show 1 + (mx.fdiv 180).fmod 3 < 2 ^ 2 by omega),(show 1 ≤ 1 + (mx.fdiv 180).fmod 3 by omega)⟩
 have w2:FW 3 2 (((mx.fdiv 540).fmod 5,1 + (mx.fdiv 2700).fmod 3):Int × Int):=⟨.lit (show -(2 ^ 3) < (mx.fdiv 540).fmod 5 by omega) (show (mx.fdiv 540).fmod 5 < 2 ^ 3 by omega), .lit (show -(2 ^ 2) < 1 + (mx.fdiv 2700).fmod 3 by omega) (show 1 + (mx.fdiv 2700).fmod 3 < 2 ^ 2 by omega),(show 1 ≤ 1 + (mx.fdiv 2700).fmod 3 by omega)⟩
 have le1:=(Jhr (x:=AA) (y:=(-(mx.fdiv 36).fmod 5,1 + (mx.fdiv 180).fmod 3)) bA.b1 w1.b1).1 (show -(mx.fdiv 36).fmod 5 ≤ 0 by omega)
 have le2:=(Jhr (x:=AA) (y:=((mx.fdiv 540).fmod 5,1 + (mx.fdiv 2700).fmod 3)) bA.b1 w2.b1).2 (show 0 ≤ (mx.fdiv 540).fmod 5 by omega)
 refine ⟨_,_,AA,(-(mx.fdiv 36).fmod 5,1 + (mx.fdiv 180).fmod 3),rfl,frA.same S3,FrV.of e3,bA.w.mono (by decide) (by decide),w1.mono (by decide) (by decide),fun plo H4 S4 e4 => ?_⟩
 have b1:FB 147 8 (addF AA (-(mx.fdiv 36).fmod 5,1 + (mx.fdiv 180).fmod 3)):=bA.w.add (n:=146) (m:=8) w1 (by decide) (by decide) (by decide)
 have f1:FrV K H4 (.ref plo) (addF AA (-(mx.fdiv 36).fmod 5,1 + (mx.fdiv 180).fmod 3)).1 (addF AA (-(mx.fdiv 36).fmod 5,1 + (mx.fdiv 180).fmod 3)).2:=FrV.of e4
 generalize addF AA (-(mx.fdiv 36).fmod 5,1 + (mx.fdiv 180).fmod 3) = LL at *
 try infer_instance
 repeat (refine And.intro (by first | exact Jbm (by decide) | exact Jbr (by decide) | exact Jbp (by decide) | exact JaZ (by decide) | exact Int.one_ne_zero | decide) ?_)
 refine ⟨len2, ?_⟩
 intro p2 h_p2
 generalize q_p2:upd H4 p2 _ = H5
 have S5:=newS h_p2 q_p2
 have e5:=newE q_p2
 have S45:=S5
 refine ⟨_,_,AA,((mx.fdiv 540).fmod 5,1 + (mx.fdiv 2700).fmod 3),rfl,frA.same (S3.trans (S4.trans S5)),FrV.of e5,bA.w.mono (by decide) (by decide),w2.mono (by decide) (by decide),fun phi H6 S6 e6 => ?_⟩
 have b2:FB 147 8 (addF AA ((mx.fdiv 540).fmod 5,1 + (mx.fdiv 2700).fmod 3)):=bA.w.add (n:=146) (m:=8) w2 (by decide) (by decide) (by decide)
 have f2:FrV K H6 (.ref phi) (addF AA ((mx.fdiv 540).fmod 5,1 + (mx.fdiv 2700).fmod 3)).1 (addF AA ((mx.fdiv 540).fmod 5,1 + (mx.fdiv 2700).fmod 3)).2:=FrV.of e6
 generalize addF AA ((mx.fdiv 540).fmod 5,1 + (mx.fdiv 2700).fmod 3) = HH at *
 have S06:Same H H6:=S1.trans (S2.trans (S3.trans (S4.trans (S5.trans S6))))
 have f1':=f1.same (S5.trans S6)
 have o1:=b1.ok (n:=200) (by decide) (by decide)
 have o2:=b2.ok (n:=200) (by decide) (by decide)
 have hle:=Jfv (a:=LL) (b:=AA) (c:=HH) b1.b1 bA.b1 b2.b1 le1 le2
 try infer_instance
 repeat (refine And.intro (by first | exact Jbm (by decide) | exact Jbr (by decide) | exact Jbp (by decide) | exact JaZ (by decide) | exact Int.one_ne_zero | decide) ?_)
 by_cases cl:(mx.fdiv 3).fmod 5 = 1
 ·rw [if_pos (by simpa using cl)]
  repeat (refine And.intro (by first | exact Jbm (by decide) | exact Jbr (by decide) | exact Jbp (by decide) | exact JaZ (by decide) | exact Int.one_ne_zero | decide) ?_)
  by_cases ch:(mx.fdiv 5).fmod 5 = 1
  ·rw [if_pos (by simpa using ch)]
   exact fin none none _ _ H6 S06 rfl rfl (fun u hu => by cases hu) (fun u hu => by cases hu) rfl rfl
  ·rw [if_neg (by simpa using ch)]
   exact fin none (some HH) _ _ H6 S06 rfl f2 (fun u hu => by cases hu) (fun u hu => by cases hu; exact b2) rfl (by simp [okB,le2])
 ·rw [if_neg (by simpa using cl)]
  repeat (refine And.intro (by first | exact Jbm (by decide) | exact Jbr (by decide) | exact Jbp (by decide) | exact JaZ (by decide) | exact Int.one_ne_zero | decide) ?_)
  by_cases ch:(mx.fdiv 5).fmod 5 = 1
  ·rw [if_pos (by simpa using ch)]
   exact fin (some LL) none _ _ H6 S06 f1' rfl (fun u hu => by cases hu; exact b1) (fun u hu => by cases hu) rfl (by simp [okB,le1])
  ·rw [if_neg (by simpa using ch)]
   exact fin (some LL) (some HH) _ _ H6 S06 f1' f2 (fun u hu => by cases hu; exact b1) (fun u hu => by cases hu; exact b2) (by simpa [bD,frD,lessD,lessF] using hle) (by simp [okB,le1,le2])
abbrev Baw:Stmt:=top 45
theorem JaQ:Jan ["_law_ties", "_law_steps_here", "_law_name", "_law_start", "_law_end", "_law_low", "_law_high"] ["_law_ties"] (Jaf Baw):=⟨rfl,rfl,rfl,by decide +kernel,rfl,by decide +kernel,by decide +kernel⟩
def JbM (K:PySem.W.Frag):Sp:=fun vs H Q E => ∃ (a:Addr) (xs:List V) (ts:List TD),vs = [.ref a]∧SqL K H a xs∧All2 (TV K H) ts xs∧ts.length ≤ 60∧∀ p ys H',H p = none→Same H H'→H' p = some (.lst ys)→All2 (LV K H') (Ch.all ts) ys→Q (.ref p) H'
theorem Jea {f:Addr} {fd:FuncData} {dV:Value} (F:FunD K "_law_steps" "_law_steps" Baw dV f fd) (T:Txt K mg Ad)  : FnOk P w K mg base (CX1 P w) 1 f fd ["_law_ties"] (JbM K):=by
 refine F.okn JaQ (fun vs H Q E h => ?_) (fun cdv A outer s H vs Q E hr h => ?_)
 ·obtain ⟨a,xs,ts,rfl,_⟩:=h; rfl
 obtain ⟨a,xs,ts,rfl,h⟩:=h
 refine ⟨_,(Jab (Jak (i:=1) JaQ.nd rfl (Or.inl rfl) (Jbq Jae))
   (Jab (JaY PassesOwn.never rfl (pi_U (pv 0)) (Jec rfl (JaA (Jaj (i:=2) JaQ.nd rfl (Or.inl rfl)) (JaA (Jaj (i:=3) JaQ.nd rfl (Or.inl rfl)) (JaA (Jaj (i:=4) JaQ.nd rfl (Or.inl rfl)) (JaA (Jaj (i:=5) JaQ.nd rfl (Or.inl rfl)) (JaA (Jaj (i:=6) JaQ.nd rfl (Or.inl rfl)) JbZ))))))
   (Jab (ps_if (Jav Jcv (pv 6) Ja8 (Jay _))
   (Jah (Ja6 (pe_bm PySem.F.plainAttrs_list PySem.F.slot_list_append PySem.F.type_list_append JaX (pv 1) (Jaa (JaO (Jaa (pv 3) (Jaa (pv 4) (Jaa (pv 6) (Jaa (JaO (Jaa (pv 2) (Jaa pe_bl Jae))) Jae))))) Jae) (hs:=by exact Jai rfl))))
   Jas)
   (Jah (ps_if (Jav Jcv (pv 5) Ja8 (Jay _))
   (Jah (Ja6 (pe_bm PySem.F.plainAttrs_list PySem.F.slot_list_append PySem.F.type_list_append JaX (pv 1) (Jaa (JaO (Jaa (pv 4) (Jaa (pv 3) (Jaa (JaO (Jaa (pe_un Jdo (pe_ix ix_U (pv 5) Jad (fun _ _ => rfl))) (Jaa (pe_ix ix_U (pv 5) Jad (fun _ _ => rfl)) Jae))) (Jaa (JaO (Jaa (pv 2) (Jaa pe_bl Jae))) Jae))))) Jae) (hs:=by exact Jai rfl))))
   Jas))))
   (Jah (Jao (pv 1))))), ?_⟩
 obtain ⟨hS,hR,hl,q⟩:=h
 show tSeq _ _ _ [some (.ref a),none,none,none,none,none,none] H
 try infer_instance
 refine ⟨len0, ?_⟩
 intro st h_st
 generalize q_st:upd H st _ = H1
 have S1:=newS h_st q_st
 have e1:=newE q_st
 have sl:(1000:Nat) ≤ sizeLine:=by decide
 have lx:=hR.length
 refine ⟨a,rfl,ForA.byL (xs:=xs) (hS.same S1) (fun i σ H' => i ≤ xs.length∧∃ (v2 v3 v4 v5 v6:Option V) (ys:List V), σ = [some (.ref a),some (.ref st),v2,v3,v4,v5,v6]∧Same H H'∧H' st = some (.lst ys)∧All2 (LV K H') (Ch.all (ts.take i)) ys) ⟨Nat.zero_le _,none,none,none,none,none,[],rfl,S1,e1,rfl⟩ (fun i σ H' z => by obtain ⟨_,_,_,_,_,_,_,_,z,_⟩:=z; exact hS.same z) ?_ ?_⟩
 ·rintro i x σ H2 hx ⟨hi,v2,v3,v4,v5,v6,ys,rfl,S2,e2,hA⟩
  obtain ⟨t,ht,tv0⟩:=hR.at_ hx
  obtain ⟨b,vl,vg,rfl,hq,hlo,hhi⟩:=tv0.sameT S2.t
  have li:i < xs.length:=(List.getElem?_eq_some_iff.mp hx).1
  refine ⟨b,_,rfl,hq,rfl, ?_⟩
  try infer_instance
  cases hhi2:t.hi with
  | none =>
   rw [hhi2] at hhi
   replace hhi:vg = .non:=hhi
   subst hhi
   try infer_instance
   have ef:fwd t = []:=by unfold fwd; rw [hhi2]
   have hA':All2 (LV K H2) (Ch.all (ts.take i) ++ fwd t) ys:=by rw [ef,List.append_nil]; exact hA
   have hlo':=hlo.sameT (.refl H2)
   have eall:Ch.all (ts.take (i + 1)) = (Ch.all (ts.take i) ++ fwd t) ++ bwd t:=by
    rw [List.take_succ,ht]
    simp [Ch.all,Ch.steps]
   cases hlo2:t.lo with
   | none =>
    rw [hlo2] at hlo'
    replace hlo':vl = .non:=hlo'
    subst hlo'
    try infer_instance
    have eb:bwd t = []:=by unfold bwd; rw [hlo2]
    exact ⟨li,_,_,_,_,_,ys,rfl,S2,e2,by rw [eall,eb,List.append_nil]; exact hA'⟩
   | some lw =>
    rw [hlo2] at hlo'
    obtain ⟨pl,rfl,sql⟩:=hlo'
    have frl:FrV K H2 (.ref pl) lw.1 lw.2:=⟨pl,rfl,sql⟩
    try infer_instance
    refine ⟨.inl ⟨rfl,_,SqL.of e2⟩, ?_⟩
    refine ixF0 frl ?_
    try infer_instance
    refine ixF1 frl ?_
    try infer_instance
    refine ⟨len2, ?_⟩
    intro n1 h_n1
    generalize q_n1:upd H2 n1 _ = HB
    have SB:=newS h_n1 q_n1
    have eB:=newE q_n1
    refine ⟨len2, ?_⟩
    intro n2 h_n2
    generalize q_n2:upd HB n2 _ = HC
    have SC:=newS h_n2 q_n2
    have eC:=newE q_n2
    refine ⟨len4, ?_⟩
    intro n3 h_n3
    generalize q_n3:upd HC n3 _ = HD
    have SD:=newS h_n3 q_n3
    have eD:=newE q_n3
    have SAD:=SB.trans (SC.trans SD)
    refine ⟨st,_,_,rfl,rfl,SAD _ _ e2,by have hz:=hA'.length; simp only [List.length_append,List.length_cons,List.length_nil] at hz ⊢; have:=JeC ts i; have:=Jgc t; omega, ?_⟩
    generalize uE:upd HD st _ = HE
    have eE:=putE uE
    have TE:SameT HD HE:=SameT.put uE (SAD _ _ e2) rfl
    have eb:bwd t = [⟨t.en,t.st,(-lw.1,lw.2),t.nm,false⟩]:=by unfold bwd; rw [hlo2]
    have lvn:LV K HE ⟨t.en,t.st,(-lw.1,lw.2),t.nm,false⟩ (.ref n3):=⟨n3, .ref n1, .ref n2,rfl,(SqT.of eD).sameT TE,(FrV.of ((SC.trans SD) _ _ eB)).sameT TE,n2,rfl,TE _ _ rfl (SD _ _ eC)⟩
    try infer_instance
    refine ⟨li,_,_,_,_,_,_,rfl,fun bb u hb => ?_,eE, ?_⟩
    ·rw [← uE,Jag (Jac hb h_st)]
     exact SAD _ _ ((S2) _ _ hb)
    ·rw [eall,eb]
     exact (hA'.mono (P':=LV K HE) fun _ _ z => (z.sameT SAD.t).sameT TE).append (.one lvn)
  | some hh =>
   rw [hhi2] at hhi
   obtain ⟨pg,rfl,sqg⟩:=hhi
   try infer_instance
   refine ⟨.inl ⟨rfl,_,SqL.of e2⟩, ?_⟩
   refine ⟨len2, ?_⟩
   intro m1 h_m1
   generalize q_m1:upd H2 m1 _ = H3
   have S3:=newS h_m1 q_m1
   have e3:=newE q_m1
   refine ⟨len4, ?_⟩
   intro m2 h_m2
   generalize q_m2:upd H3 m2 _ = H4
   have S4:=newS h_m2 q_m2
   have e4:=newE q_m2
   have S24:=S3.trans S4
   refine ⟨st,_,_,rfl,rfl,S24 _ _ e2,by have:=hA.length; have:=JeC ts i; omega, ?_⟩
   generalize u5:upd H4 st _ = H5
   have e5:=putE u5
   have T45:SameT H4 H5:=SameT.put u5 (S24 _ _ e2) rfl
   have T25:SameT H2 H5:=S24.t.trans T45
   have ef:fwd t = [⟨t.st,t.en,hh,t.nm,true⟩]:=by unfold fwd; rw [hhi2]
   have lvn:LV K H5 ⟨t.st,t.en,hh,t.nm,true⟩ (.ref m2):=⟨m2, .ref pg, .ref m1,rfl,(SqT.of e4).sameT T45,⟨pg,rfl,sqg.sameT T25⟩,m1,rfl,T45 _ _ rfl (S4 _ _ e3)⟩
   have hA':All2 (LV K H5) (Ch.all (ts.take i) ++ fwd t) (ys ++ [V.ref m2]):=by
    rw [ef]
    exact (hA.mono (P':=LV K H5) fun _ _ z => z.sameT T25).append (.one lvn)
   have S5:Same H H5:=fun bb u hb => by
    rw [← u5,Jag (Jac hb h_st)]
    exact S24 _ _ (S2 _ _ hb)
   try infer_instance
   have hlo':=hlo.sameT T25
   have eall:Ch.all (ts.take (i + 1)) = (Ch.all (ts.take i) ++ fwd t) ++ bwd t:=by
    rw [List.take_succ,ht]
    simp [Ch.all,Ch.steps]
   cases hlo2:t.lo with
   | none =>
    rw [hlo2] at hlo'
    replace hlo':vl = .non:=hlo'
    subst hlo'
    try infer_instance
    have eb:bwd t = []:=by unfold bwd; rw [hlo2]
    exact ⟨li,_,_,_,_,_,(ys ++ [V.ref m2]),rfl,S5,e5,by rw [eall,eb,List.append_nil]; exact hA'⟩
   | some lw =>
    rw [hlo2] at hlo'
    obtain ⟨pl,rfl,sql⟩:=hlo'
    have frl:FrV K H5 (.ref pl) lw.1 lw.2:=⟨pl,rfl,sql⟩
    try infer_instance
    refine ⟨.inl ⟨rfl,_,SqL.of e5⟩, ?_⟩
    refine ixF0 frl ?_
    try infer_instance
    refine ixF1 frl ?_
    try infer_instance
    refine ⟨len2, ?_⟩
    intro n1 h_n1
    generalize q_n1:upd H5 n1 _ = HB
    have SB:=newS h_n1 q_n1
    have eB:=newE q_n1
    refine ⟨len2, ?_⟩
    intro n2 h_n2
    generalize q_n2:upd HB n2 _ = HC
    have SC:=newS h_n2 q_n2
    have eC:=newE q_n2
    refine ⟨len4, ?_⟩
    intro n3 h_n3
    generalize q_n3:upd HC n3 _ = HD
    have SD:=newS h_n3 q_n3
    have eD:=newE q_n3
    have SAD:=SB.trans (SC.trans SD)
    refine ⟨st,_,_,rfl,rfl,SAD _ _ e5,by have hz:=hA'.length; simp only [List.length_append,List.length_cons,List.length_nil] at hz ⊢; have:=JeC ts i; have:=Jgc t; omega, ?_⟩
    generalize uE:upd HD st _ = HE
    have eE:=putE uE
    have TE:SameT HD HE:=SameT.put uE (SAD _ _ e5) rfl
    have eb:bwd t = [⟨t.en,t.st,(-lw.1,lw.2),t.nm,false⟩]:=by unfold bwd; rw [hlo2]
    have lvn:LV K HE ⟨t.en,t.st,(-lw.1,lw.2),t.nm,false⟩ (.ref n3):=⟨n3, .ref n1, .ref n2,rfl,(SqT.of eD).sameT TE,(FrV.of ((SC.trans SD) _ _ eB)).sameT TE,n2,rfl,TE _ _ rfl (SD _ _ eC)⟩
    try infer_instance
    refine ⟨li,_,_,_,_,_,_,rfl,fun bb u hb => ?_,eE, ?_⟩
    ·rw [← uE,Jag (Jac hb h_st)]
     exact SAD _ _ ((S5) _ _ hb)
    ·rw [eall,eb]
     exact (hA'.mono (P':=LV K HE) fun _ _ z => (z.sameT SAD.t).sameT TE).append (.one lvn)
 ·rintro σ H2 ⟨hi,v2,v3,v4,v5,v6,ys,rfl,S2,e2,hA⟩
  try infer_instance
  rw [List.take_of_length_le (Nat.le_of_eq lx.symm)] at hA
  exact q st ys H2 h_st S2 e2 hA
abbrev Bax:Stmt:=top 46
theorem JaI:Jan ["_law_steps_here", "_law_face_here", "_law_told", "_law_other", "_law_total", "_law_chain_here", "_law_seen", "_law_here", "_law_pair", "_law_found"] ["_law_steps_here", "_law_face_here", "_law_told"] (Jaf Bax):=⟨rfl,rfl,rfl,by decide +kernel,rfl,by decide +kernel,by decide +kernel⟩
def JbK (K:PySem.W.Frag):Sp:=fun vs H Q E => ∃ (a:Addr) (xs:List V) (ts:List TD) (f0:Str) (v:V) (r:RowS) (H0:Hp),vs = [.ref a, .str f0,v]∧SqL K H a xs∧All2 (LV K H) (Ch.all ts) xs∧((Ch.all ts).map key).Nodup∧(∀ s ∈ Ch.all ts,FB 200 8 s.c)∧(Ch.all ts).length ≤ 30∧RR K H0 H r v∧Wk (ssD ts) f0 r.2.2 r.1∧(f0 :: r.2.2.map (·.tgt)).Nodup∧r.2.1 = cs r.2.2∧r.2.2.length ≤ 30∧∀ H',Same H H'→Q (.bl true) H'
theorem Jd8 {f:Addr} {fd:FuncData} {dV:Value} (F:FunD K "_law_chain" "_law_chain" Bax dV f fd) (T:Txt K mg Ad) (Bai:Cal P w K mg base 3 "_law_plus" ["_law_one", "_law_other"] [] (Jbe K)):FnOk P w K mg base (CX1 P w) 4 f fd ["_law_steps_here", "_law_face_here", "_law_told"] (JbK K):=by
 refine F.okn JaI (fun vs H Q E h => ?_) (fun cdv A outer s H vs Q E hr h => ?_)
 ·obtain ⟨a,xs,ts,f0,v,r,H0,rfl,_⟩:=h; rfl
 obtain ⟨a,xs,ts,f0,v,r,H0,rfl,h⟩:=h
 have hu:=hr.units
 refine ⟨_,(Jab (Ji6 (pv 2) (Jec rfl (JaA (Jaj (i:=3) JaI.nd rfl (Or.inl rfl)) (JaA (Jaj (i:=4) JaI.nd rfl (Or.inl rfl)) (JaA (Jaj (i:=5) JaI.nd rfl (Or.inl rfl)) JbZ)))))
   (Jab (Jak (i:=6) JaI.nd rfl (Or.inl rfl) (Jbq (Jaa (pv 1) Jae)))
   (Jab (Jak (i:=7) JaI.nd rfl (Or.inl rfl) (JaO (Jaa Jad (Jaa Jad Jae))))
   (Jab (JaY PassesOwn.never rfl (pi_U (pv 5)) (Jaj (i:=8) JaI.nd rfl (Or.inr rfl))
   (Jab (JeO (j:=9) (own:=["_law_step"]) (cs:=[(8, "_law_pair")]) JaI.nd rfl (Or.inl rfl) rfl (pi_U (pv 0)) (fun _ _ _ _ => (Jaj (i:=0) (show [("_law_step" : Str),("_law_pair" : Str)].Nodup by decide) rfl (Or.inl rfl))) (fun _ _ _ _ => (Jav (JiZ (K:=K) rfl hu) (pe_ix (ix_UK (K:=K) rfl) (pv 0) Jad (fun _ _ => rfl)) (pv 1) (Jay _))) (fun _ _ _ _ => (pv 0)) (Jdf rfl) (by decide) rfl (by decide) (hcs1 rfl rfl rfl))
   (Jab (ps_if (PW.pt (pw_or (Jav (Jcl hu) (Jat JaP rfl T.Bbf JbE (Jaa (pv 9) Jae)) Jad (Jay _)) (pw_or (Jav (Jcl hu) (pe_ix ix_U (pe_ix ix_U (pv 9) Jad (fun _ _ => rfl)) Jad (fun _ _ => rfl)) (pe_ix ix_U (pv 6) (pe_un Jdo Jad) (fun _ _ => rfl)) (Jay _)) (JbH (Jav JhE (pe_ix ix_U (pe_ix ix_U (pv 9) Jad (fun _ _ => rfl)) Jad (fun _ _ => rfl)) (pv 6) (by with_unfolding_all rfl))))))
   (Jah (Jao pe_bl))
   Jas)
   (Jab (Ja6 (pe_bm PySem.F.plainAttrs_list PySem.F.slot_list_append PySem.F.type_list_append JaX (pv 6) (Jaa (pe_ix ix_U (pe_ix ix_U (pv 9) Jad (fun _ _ => rfl)) Jad (fun _ _ => rfl)) Jae) (hs:=by exact Jai rfl)))
   (Jah (Jak (i:=7) JaI.nd rfl (Or.inl rfl) (Bai.ev hr (by decide) rfl passF (Jaa (pv 7) (Jaa (pe_ix ix_U (pe_ix ix_U (pv 9) Jad (fun _ _ => rfl)) Jad (fun _ _ => rfl)) Jae)) (he:=by exact Jai rfl))))))))
   (Jah (Jao (Jb9 (Jbi (JbX hu) (pe_ix ix_U (pv 6) (pe_un Jdo Jad) (fun _ _ => rfl)) (pv 3) (Jay _)) (Jb9 (Jbi (JbX hu) (pv 7) (pv 4) (Jay _)) (Jb9 (Jat Jaw rfl T.Baf JaD (Jaa (pv 4) (Jaa (Jbx (v:=.ty "tuple") rfl T.Bbn Jcr rfl) Jae))) (Jdj (Jat Jaw rfl T.Baf JaD (Jaa (pv 5) (Jaa (Jbx (v:=.ty "list") rfl T.BbA JcC rfl) Jae))))))))))))), ?_⟩
 clear hu
 obtain ⟨hS,hR,hnd,hfb,lal,hrr,hwk,hnf,hcs,lch,k⟩:=h
 obtain ⟨p,qv,l,cx,rfl,hp,hq,hl,hc,_⟩:=hrr
 have sl:(1000:Nat) ≤ sizeLine:=by decide
 have lx:=hR.length
 have lcx:=hc.length
 rw [List.length_map] at lcx
 have hss:∀ s ∈ r.2.2,FB 200 8 s.cost:=fun s hs => by
  obtain ⟨y,hy,rfl⟩:=List.mem_map.mp (hwk.mem s hs)
  exact hfb y hy
 show tSeq _ _ _ [some (.ref a),some (.str f0),some (.ref p),none,none,none,none,none,none,none] H
 nofun
 refine ⟨p,_,rfl,SqT.of hp,rfl, ?_⟩
 nofun
 refine ⟨by show 1 ≤ sizeLine; omega, ?_⟩
 intro sn h_sn
 generalize q_sn:upd H sn _ = H1
 have S1:=newS h_sn q_sn
 have e1:=newE q_sn
 nofun
 refine ⟨len2, ?_⟩
 intro hz h_hz
 generalize q_hz:upd H1 hz _ = H2
 have S2:=newS h_hz q_hz
 have e2:=newE q_hz
 nofun
 refine ⟨l,rfl,ForA.byLN (xs:=cx) ((SqL.of hl).same (S1.trans S2)) (fun i σ H' => i ≤ cx.length∧∃ (hv:V) (v8 v9:Option V), σ = [some (.ref a),some (.str f0),some (.ref p),some (.str r.1),some qv,some (.ref l),some (.ref sn),some hv,v8,v9]∧Same H H'∧H' sn = some (.lst ((f0 :: (r.2.2.take i).map (·.tgt)).map V.str))∧FrV K H' hv (cs (r.2.2.take i)).1 (cs (r.2.2.take i)).2) ⟨Nat.zero_le _,_,none,none,rfl,S1.trans S2,S2 _ _ e1,FrV.of e2⟩ (fun i σ H' z => by obtain ⟨_,_,_,_,_,z,_⟩:=z; exact (SqL.of hl).same z) ?_ ?_⟩
 ·rintro i x σ H3 hx ⟨hi,hv,v8,v9,rfl,S3,e3,hvf⟩ N0 hN0
  have li:=(List.getElem?_eq_some_iff.mp hx).1
  obtain ⟨c0,hc0,cv0⟩:=hc.at_ hx
  rw [List.getElem?_map] at hc0
  obtain ⟨s,hs,rfl⟩:=Option.map_eq_some_iff.mp hc0
  have hsm:=List.mem_of_getElem? hs
  obtain ⟨wa,wm,wb⟩:=hwk.at_ i s hs
  obtain ⟨y,hy,rfl⟩:=List.mem_map.mp wm
  have cv:=cv0.sameT S3.t
  obtain ⟨b,rfl,hb2⟩:=id cv
  have fby:=hfb y hy
  have etk:r.2.2.take (i + 1) = r.2.2.take i ++ [toS (bD_ ts) y]:=by rw [List.take_succ,hs]; rfl
  have fbt:=cs_fb (l:=r.2.2.take i) fun s hs => hss s (List.mem_of_mem_take hs)
  have ltk:(r.2.2.take i).length = i:=by rw [List.length_take]; omega
  rw [ltk] at fbt
  nofun
  refine ⟨a,rfl, .inl ⟨⟨xs,hS.same S3⟩,Jcz.list (xs:=xs) (fun j ys H' => H' = H3∧All2 (LV K H3) (((Ch.all ts).take j).filter fun s => decide (key s = key y)) ys) ⟨rfl,rfl⟩ (fun j ys H' hj z' => ⟨by rw [z'.1]; exact hS.same S3,by have h1:=z'.2.length; have h2:=List.length_filter_le (fun s => decide (key s = key y)) ((Ch.all ts).take j); rw [List.length_take] at h2; omega⟩) ?_ ?_⟩⟩
  ·rintro j x ys H4 hx' ⟨rfl,hyA⟩
   simpa only [List.length_singleton,List.replicate,Jau,List.map_cons,List.map_nil,Option.join_some]
   obtain ⟨s',hs',lv0⟩:=hR.at_ hx'
   have lv:=lv0.sameT S3.t
   obtain ⟨bs',v',w',rfl,qs',f',cw'⟩:=id lv
   refine ixT (i:=3) qs' rfl ?_
   nofun
   obtain ⟨bw,rfl,hbw⟩:=id cw'
   refine ⟨prD (key s'),prD (key y),cw'.rep,CV.rep ⟨b,rfl,hb2⟩,by simp [prD,depD,depL],rfl, ?_⟩
   nofun
   rw [JiI]
   have et:((Ch.all ts).take (j + 1)).filter (fun s => decide (key s = key y)) = ((Ch.all ts).take j).filter (fun s => decide (key s = key y)) ++ (if key s' = key y then [s'] else []):=by
    rw [List.take_succ,hs',List.filter_append]
    congr 1
    simp [List.filter_cons]
   by_cases ck:key s' = key y
   ·rw [if_pos (by simpa using ck)]
    nofun
    nofun
    rw [et,if_pos ck]
    exact hyA.append (.one lv)
   ·rw [if_neg (by simpa using ck)]
    nofun
    nofun
    rw [et,if_neg ck,List.append_nil]
    exact hyA
  ·rintro ys H4 ⟨rfl,hyA⟩
   rw [List.take_of_length_le (by omega),Jfa hnd hy] at hyA
   obtain ⟨x0,ry,rfl,lv,ery⟩:=hyA
   have ery:ry = []:=ery
   subst ery
   obtain ⟨bs,vv,ww,rfl,qs,fs,cw⟩:=lv
   intro fo h_fo
   generalize q_fo:upd H4 fo _ = H5
   have S5:=newS h_fo q_fo
   have e5:=newE q_fo
   nofun
   have S45:=S5
   have hv5:=hvf.same S5
   have e35:=S5 _ _ e3
   have qs5:=qs.same S5
   have fs5:=fs.same S5
   have hdr:r.2.2.drop i = toS (bD_ ts) y :: r.2.2.drop (i + 1):=by
    obtain ⟨h1,h2⟩:=List.getElem?_eq_some_iff.mp hs
    rw [← h2]
    exact List.drop_eq_getElem_cons h1
   have hni:y.dst ∉ f0 :: (r.2.2.take i).map (·.tgt):=by
    have e0:r.2.2 = r.2.2.take i ++ toS (bD_ ts) y :: r.2.2.drop (i + 1):=by rw [← hdr,List.take_append_drop]
    have e:f0 :: r.2.2.map (·.tgt) = (f0 :: (r.2.2.take i).map (·.tgt)) ++ (y.dst :: (r.2.2.drop (i + 1)).map (·.tgt)):=by
     rw [congrArg (List.map (·.tgt)) e0,List.map_append,List.map_cons]
     rfl
    rw [e] at hnf
    exact fun h => (List.nodup_append.mp hnf).2.2 _ h _ List.mem_cons_self rfl
   have hlast:((f0 :: (r.2.2.take i).map (·.tgt)).map V.str)[((f0 :: (r.2.2.take i).map (·.tgt)).map V.str).length - 1]? = some (.str y.src):=by
    rw [List.getElem?_map]
    have:=wa.fin
    simp only [List.length_map,List.length_cons,Nat.add_sub_cancel] at this ⊢
    rw [this]
    rfl
   refine ⟨_, .inl (SqL.of e5), ?_⟩
   nofun
   rw [if_neg (by simp)]
   nofun
   refine ixL (i:=0) (SqL.of e5) rfl ?_
   refine ixT (i:=0) qs5 rfl ?_
   refine JhA (SqL.of e35) hlast ?_
   nofun
   try rw [if_neg (by simp)]
   refine ixL (i:=0) (SqL.of e5) rfl ?_
   refine ixT (i:=1) qs5 rfl ?_
   refine ⟨sn,_,rfl, .inl (SqL.of e35),rfl,List.all_eq_true.mpr (fun v hv => by obtain ⟨z,_,rfl⟩:=List.mem_map.mp hv; rfl), ?_⟩
   rw [if_neg (by decide),Jfe]
   nofun
   nofun
   rw [if_neg (by simpa using hni)]
   nofun
   (try ((with_reducible refine Nxt.go (by assumption) ?_); nofun))
   nofun
   refine ⟨.inl ⟨rfl,_,SqL.of e35⟩, ?_⟩
   refine ixL (i:=0) (SqL.of e5) rfl ?_
   refine ixT (i:=1) qs5 rfl ?_
   refine ⟨sn,_,_,rfl,rfl,e35,by simp only [List.length_map,List.length_cons,ltk]; omega, ?_⟩
   generalize u6:upd H5 sn _ = H6
   nofun
   have e6:=putE u6
   have T6:SameT H5 H6:=SameT.put u6 e35 rfl
   have nfs:fo ≠ sn:=fun z => by rw [z,e3] at h_fo; cases h_fo
   have e56:H6 fo = some (.lst [.ref bs]):=by rw [← u6,Jag nfs]; exact e5
   (try ((with_reducible refine Nxt.go (by assumption) ?_); nofun))
   nofun
   refine ixL (i:=0) (SqL.of e56) rfl ?_
   refine ixT (i:=2) (qs5.sameT T6) rfl ?_
   nofun
   refine ⟨_,_,_,y.c,rfl,hv5.sameT T6,fs5.sameT T6,fbt.w.mono (by omega) (by omega),fby.w.mono (by decide) (by decide),fun ap H7 S7 e7 => ?_⟩
   have fin:FrV K H7 (.ref ap) (cs (r.2.2.take (i + 1))).1 (cs (r.2.2.take (i + 1))).2:=by
    rw [etk,JfN]
    exact FrV.of e7
   (try ((with_reducible refine Nxt.go (by assumption) ?_); nofun))
   nofun
   refine hN0 _ _ ⟨li,_,_,_,rfl,fun c w h => S7 _ _ (by rw [← u6,Jag (Jac h h_sn)]; exact S5 _ _ (S3 _ _ h)), ?_,fin⟩
   rw [S7 _ _ e6,etk,List.map_append, ← List.cons_append,List.map_append]
   rfl
 ·rintro σ H3 ⟨hi,hv,v8,v9,rfl,S3,e3,hvf⟩
  rw [List.take_of_length_le (by omega)] at e3 hvf
  nofun
  have hlast:((f0 :: r.2.2.map (·.tgt)).map V.str)[((f0 :: r.2.2.map (·.tgt)).map V.str).length - 1]? = some (.str r.1):=by
   rw [List.getElem?_map]
   have:=hwk.fin
   simp only [List.length_map,List.length_cons,Nat.add_sub_cancel] at this ⊢
   rw [this]
   rfl
  refine JhA (SqL.of e3) hlast ?_
  nofun
  refine eqF hvf (hq.same S3) ?_
  nofun
  rw [← hcs,if_pos (by simp)]
  obtain ⟨qp,rfl,hqp⟩:=hq.same S3
  refine ⟨"tuple", .inr ⟨rfl,_,hqp⟩, ?_⟩
  nofun
  refine ⟨"list", .inl ⟨rfl,_,SqL.of (S3 _ _ hl)⟩, ?_⟩
  nofun
  exact k H3 S3
abbrev Bay:Stmt:=top 47
theorem JaJ:Jan ["_law_steps_here", "_law_found", "_law_sums", "_law_other", "_law_total", "_law_chain_here", "_law_start", "_law_end", "_law_cost", "_law_pair"] ["_law_steps_here", "_law_found"] (Jaf Bay):=⟨rfl,rfl,rfl,by decide +kernel,rfl,by decide +kernel,by decide +kernel⟩
def JbL (K:PySem.W.Frag):Sp:=fun vs H Q E => ∃ (a l:Addr) (xs ys:List V) (ts:List TD) (f0:Str) (rows:List RowS) (H0:Hp),vs = [.ref a, .ref l]∧SqL K H a xs∧All2 (LV K H) (Ch.all ts) xs∧SqL K H l ys∧All2 (RR K H0 H) rows ys∧RdOk ts f0 rows∧1 ≤ bD_ ts∧(∀ s ∈ Ch.all ts,1 ≤ s.c.2∧s.c.2 ∣ bD_ ts)∧(∀ s ∈ Ch.all ts,FB 200 8 s.c)∧(Ch.all ts).length ≤ 30∧rows.length ≤ 31∧(∀ r ∈ rows,FB 500 300 r.2.1)∧∀ H',Same H H'→Q (.bl true) H'
theorem Jd9 {f:Addr} {fd:FuncData} {dV:Value} (F:FunD K "_law_least" "_law_least" Bay dV f fd) (T:Txt K mg Ad) (Bai:Cal P w K mg base 3 "_law_plus" ["_law_one", "_law_other"] [] (Jbe K)) (Bbd:Cal P w K mg base 1 "_law_less" ["_law_one", "_law_other"] [] (Jb4 K)):FnOk P w K mg base (CX1 P w) 4 f fd ["_law_steps_here", "_law_found"] (JbL K):=by
 refine F.okn JaJ (fun vs H Q E h => ?_) (fun cdv A outer s H vs Q E hr h => ?_)
 ·obtain ⟨a,l,xs,ys,ts,f0,rows,H0,rfl,_⟩:=h; rfl
 obtain ⟨a,l,xs,ys,ts,f0,rows,H0,rfl,h⟩:=h
 have hu:=hr.units
 refine ⟨_,(Jab (Jak (i:=2) JaJ.nd rfl (Or.inl rfl) Jcw)
   (Jab (JaY PassesOwn.never rfl (pi_U (pv 1)) (Jec rfl (JaA (Jaj (i:=3) JaJ.nd rfl (Or.inl rfl)) (JaA (Jaj (i:=4) JaJ.nd rfl (Or.inl rfl)) (JaA (Jaj (i:=5) JaJ.nd rfl (Or.inl rfl)) JbZ))))
   (Jah (Jci (hu1 hu) (pv 2) (pv 3) (pv 4) rfl)))
   (Jab (JaY PassesOwn.never rfl (pi_U (pv 0)) (Jec rfl (JaA (Jaj (i:=6) JaJ.nd rfl (Or.inl rfl)) (JaA (Jaj (i:=7) JaJ.nd rfl (Or.inl rfl)) (JaA (Jaj (i:=8) JaJ.nd rfl (Or.inl rfl)) (JaA (Jaj (i:=9) JaJ.nd rfl (Or.inl rfl)) JbZ)))))
   (Jah (ps_if (Jdm (JhF (hu1 hu) (pv 6) (pv 2)) (by with_unfolding_all rfl))
   (Jah (ps_if (PW.pt (pw_or (Jdm (Jb8 (hu1 hu) (pv 7) (pv 2)) (by with_unfolding_all rfl)) (JbH (Jbf (Bbd.ev hr (by decide) rfl passF (Jaa (Bai.ev hr (by decide) rfl passF (Jaa (Jby (hu1 hu) (pv 2) (pv 6) (fun _ _ => rfl)) (Jaa (pv 8) Jae)) (he:=by exact Jai rfl)) (Jaa (Jby (hu1 hu) (pv 2) (pv 7) (fun _ _ => rfl)) Jae)) (he:=by exact Jai rfl))))))
   (Jah (Jao pe_bl))
   Jas))
   Jas)))
   (Jah (Jao pe_bl))))), ?_⟩
 clear hu
 obtain ⟨hS,hR,hL,hW,hok,hb1,hbb,hfb,lal,lrw,hfr,k⟩:=h
 have sl:(1000:Nat) ≤ sizeLine:=by decide
 have lx:=hR.length
 have ly:=hW.length
 show tSeq _ _ _ [some (.ref a),some (.ref l),none,none,none,none,none,none,none,none] H
 nofun
 intro sd h_sd
 generalize q_sd:upd H sd _ = H1
 have S1:=newS h_sd q_sd
 have e1:=newE q_sd
 nofun
 refine ⟨l,rfl,ForA.byLN (xs:=ys) (hL.same S1) (fun i σ H' => i ≤ ys.length∧∃ (v3 v4 v5:Option V) (kv:List (Key × V)) (tb:List (Str × (Int × Int))), σ = [some (.ref a),some (.ref l),some (.ref sd),v3,v4,v5,none,none,none,none]∧Same H H'∧H' sd = some (.dK kv)∧DV (RF K H') tb kv∧tb.length ≤ i∧(∀ r ∈ rows.take i,lk tb r.1 = some r.2.1)∧(∀ v e,lk tb v = some e→∃ r ∈ rows.take i,r.1 = v∧r.2.1 = e)) ⟨Nat.zero_le _,none,none,none,[],[],rfl,S1,e1,rfl,Nat.le_refl _,fun r hr => by simp at hr,fun v e h => by cases h⟩ (fun i σ H' z => by obtain ⟨_,_,_,_,_,_,_,z,_⟩:=z; exact hL.same z) ?_ ?_⟩
 ·rintro i x σ H2 hx ⟨hi,v3,v4,v5,kv,tb,rfl,S2,ekv,hD,ltb,ht1,ht2⟩ N0 hN0
  have li:=(List.getElem?_eq_some_iff.mp hx).1
  obtain ⟨r,hr,rr0⟩:=hW.at_ hx
  obtain ⟨p,qv,l',cx,rfl,hp,hq,hl',hc,_⟩:=rr0.same S2
  have lkv:=hD.len
  nofun
  refine ⟨p,_,rfl,SqT.of hp,rfl, ?_⟩
  nofun
  refine ⟨sd,_,rfl,DPut.k (k:=Sum.inr r.1) ekv (by omega), ?_⟩
  generalize u3:upd H2 sd _ = H3
  nofun
  have e3:=putE u3
  have T3:SameT H2 H3:=SameT.put u3 ekv rfl
  have etk:rows.take (i + 1) = rows.take i ++ [r]:=by rw [List.take_succ,hr]; rfl
  have hnk:∀ r' ∈ rows.take i,r'.1 ≠ r.1:=fun r' hr' e => by
   have e0:rows = rows.take i ++ r :: rows.drop (i + 1):=by
    obtain ⟨h1,h2⟩:=List.getElem?_eq_some_iff.mp hr
    rw [← h2, ← List.drop_eq_getElem_cons h1,List.take_append_drop]
   have nd:=hok.nd
   rw [e0,List.map_append,List.map_cons] at nd
   exact (List.nodup_append.mp nd).2.2 _ (List.mem_map.mpr ⟨r',hr',rfl⟩) _ List.mem_cons_self e
  refine hN0 _ _ ⟨li,_,_,_,_,pu tb r.1 r.2.1,rfl,fun c w h => by rw [← u3,Jag (Jac h h_sd)]; exact S2 _ _ h,e3,(hD.mono (R':=RF K H3) fun _ _ z => FrV.sameT T3 z).put (FrV.sameT T3 hq),by have:=Jed (l:=tb) (f:=r.1) (a:=r.2.1); omega,fun r' hr' => ?_,fun v e h => ?_⟩
  ·rw [etk] at hr'
   rcases List.mem_append.mp hr' with h | h
   ·rw [lk_ne (fun z => hnk r' h z.symm)]
    exact ht1 r' h
   ·rw [List.mem_singleton.mp h]
    exact Jbh
  ·rw [lk_pu] at h
   rw [etk]
   by_cases c:r.1 = v
   ·rw [if_pos c] at h
    cases h
    exact ⟨r,by simp,c,rfl⟩
   ·rw [if_neg c] at h
    obtain ⟨r',h1,h2⟩:=ht2 v e h
    exact ⟨r',List.mem_append_left _ h1,h2⟩
 ·rintro σ H2 ⟨hi,v3,v4,v5,kv,tb,rfl,S2,ekv,hD,ltb,ht1,ht2⟩
  rw [List.take_of_length_le (by omega)] at ht1 ht2
  nofun
  refine ⟨a,rfl,ForA.byLN (xs:=xs) (hS.same S2) (fun i σ H' => ∃ (v6 v7 v8 v9:Option V), σ = [some (.ref a),some (.ref l),some (.ref sd),v3,v4,v5,v6,v7,v8,v9]∧Same H2 H') ⟨_,_,_,_,rfl,Same.refl _⟩ (fun i σ H' z => by obtain ⟨_,_,_,_,_,z⟩:=z; exact (hS.same S2).same z) ?_ ?_⟩
  ·rintro i x σ H3 hx ⟨v6,v7,v8,v9,rfl,S3⟩ N0 hN0
   obtain ⟨s,hs,lv0⟩:=hR.at_ hx
   have hsm:=List.mem_of_getElem? hs
   have S03:=S2.trans S3
   obtain ⟨bs,vv,ww,rfl,qs,fs,cw⟩:=lv0.sameT S03.t
   have ekv3:=S3 _ _ ekv
   nofun
   refine ⟨bs,_,rfl,qs,rfl, ?_⟩
   nofun
   refine ⟨sd,_,rfl,DGet.k (k:=Sum.inr s.src) ekv3, ?_⟩
   cases ea:lk tb s.src with
   | none =>
    rw [hD.no ea]
    try simpa only [Option.isSome_none]
    exact hN0 _ _ ⟨_,_,_,_,rfl,S3⟩
   | some e =>
    obtain ⟨v,hv,rv⟩:=hD.at ea
    obtain ⟨r,hr,er,rfl⟩:=ht2 _ _ ea
    obtain ⟨r',hr',er',hls⟩:=hok.least hb1 hbb hsm hr er
    have ed:=ht1 r' hr'
    rw [er'] at ed
    obtain ⟨v',hv',rv'⟩:=hD.at ed
    have fb1:=hfr r hr
    have fb2:=hfr r' hr'
    have fbc:=hfb s hsm
    rw [hv]
    try simpa only [Option.isSome_some]
    refine ⟨sd,_,rfl,DGet.k (k:=Sum.inr s.dst) ekv3, ?_⟩
    rw [hv']
    try simpa only [Option.isSome_some]
    refine ⟨sd,v,rfl,by rw [← hv]; exact DGet.k (k:=Sum.inr s.src) ekv3, ?_⟩
    nofun
    refine ⟨_,_,r.2.1,s.c,rfl,FrV.same S3 rv,fs,fb1.w.mono (by decide) (by decide),fbc.w.mono (by decide) (by decide),fun ap H4 S4 e4 => ?_⟩
    nofun
    refine ⟨sd,v',rfl,by rw [← hv']; exact DGet.k (k:=Sum.inr s.dst) (S4 _ _ ekv3), ?_⟩
    nofun
    refine ⟨_,_,addF r.2.1 s.c,r'.2.1,rfl,FrV.of e4,FrV.same (S3.trans S4) rv',(FB.add (n:=510) (m:=310) fb1 fbc (by decide) (by decide) (by decide)).ok (by decide) (by decide),fb2.ok (by decide) (by decide), ?_⟩
    rw [hls r' hr' er']
    nofun
    exact hN0 _ _ ⟨_,_,_,_,rfl,S3.trans S4⟩
  ·rintro σ H3 ⟨v6,v7,v8,v9,rfl,S3⟩
   nofun
   exact k H3 (S2.trans S3)
abbrev BaF:Stmt:=top 48
theorem Ja1:Jan ["_law_ties", "_law_steps_here", "_law_face_here", "_law_found", "_law_names", "_law_told", "_law_kept"] ["_law_ties", "_law_steps_here", "_law_face_here"] (Jaf BaF):=⟨rfl,rfl,rfl,by decide +kernel,rfl,by decide +kernel,by decide +kernel⟩
def Jb3 (K:PySem.W.Frag) (Ad:Adr):Sp:=fun vs H Q E => ∃ (tl a:Addr) (xs zs:List V) (ts:List TD) (f0:Str) (x:Str→Rat),vs = [.ref tl, .ref a, .str f0]∧SqL K H tl xs∧All2 (TV K H) ts xs∧SqL K H a zs∧All2 (LV K H) (Ch.all ts) zs∧((Ch.all ts).map key).Nodup∧(∀ t ∈ ts,TOk t)∧(∀ s ∈ Ch.all ts,FB 200 8 s.c)∧ts.length ≤ 15∧(∀ s ∈ Ch.all ts,x s.dst ≤ x s.src + vl s.c)∧∀ H',Same H H'→Q (.bl true) H'
theorem JeI {f:Addr} {fd:FuncData} {dV:Value} (F:FunD K "_law_from" "_law_from" BaF dV f fd) (T:Txt K mg Ad) (Ba9:Cal P w K mg base 7 "reached" ["ties", "face"] [] (Jck K Ad)) (Ba6:Cal P w K mg base 4 "_law_chain" ["_law_steps_here", "_law_face_here", "_law_told"] [] (JbK K)) (Ba7:Cal P w K mg base 4 "_law_least" ["_law_steps_here", "_law_found"] [] (JbL K)):FnOk P w K mg base (CX1 P w) 8 f fd ["_law_ties", "_law_steps_here", "_law_face_here"] (Jb3 K Ad):=by
 refine F.okx Ja1 (fun vs H Q E h => ?_) (fun cdv A outer s H vs Q E hr h => ?_)
 ·obtain ⟨tl,a,xs,zs,ts,f0,x,rfl,_⟩:=h; rfl
 obtain ⟨tl,a,xs,zs,ts,f0,x,rfl,h⟩:=h
 have hu:=hr.units
 refine ⟨_,(Jab (Jak (i:=3) Ja1.nd rfl (Or.inl rfl) (Ba9.ev hr (by decide) rfl pass1 (Jaa (JcO Jcc rfl T.BbA JcC (Jaa (pv 0) Jae)) (Jaa (pv 2) Jae)) (he:=by exact Jai rfl)))
   (Jab (ps_if (PW.pt (pw_or (Jbt (Jbf (Jat Jaw rfl T.Baf JaD (Jaa (pv 3) (Jaa (Jbx (v:=.ty "list") rfl T.BbA JcC rfl) Jae))))) (JbH (Jav (Jih hu) (JaO (Jaa (pv 2) (Jaa (JaO (Jaa Jad (Jaa Jad Jae))) (Jaa (Jbq Jae) Jae)))) (pv 3) (by with_unfolding_all rfl)))))
   (Jah (Jao pe_bl))
   Jas)
   (Jab (Jdl (j:=4) (own:=["_law_told"]) (cs:=[]) Ja1.nd rfl (Or.inl rfl) rfl (pi_U (pv 3)) (fun _ _ _ _ => (Jaj (i:=0) (show [("_law_told" : Str)].Nodup by decide) rfl (Or.inl rfl))) (fun _ _ _ _ => (pe_ix (ix_UK (K:=K) rfl) (pv 0) Jad (fun _ _ => rfl))) (Jdf rfl) (by decide) rfl (by decide) hcs0)
   (Jab (ps_if (Jav (Jcl hu) (pv 4) (JcP rfl rfl rfl rfl T.Bbo JcD rfl T.n_set Jhu (Jaa (pv 4) Jae)) (Jay _))
   (Jah (Jao pe_bl))
   Jas)
   (Jab (JaY PassesOwn.leaving rfl (pi_U (pv 3)) (Jaj (i:=5) Ja1.nd rfl (Or.inl rfl))
   (Jah (ps_if (PW.pt (pw_or (Jbt (Jbf (Jat Jaw rfl T.Baf JaD (Jaa (pv 5) (Jaa (Jbx (v:=.ty "tuple") rfl T.Bbn Jcr rfl) Jae))))) (pw_or (Jav (Jcl hu) (Jat JaP rfl T.Bbf JbE (Jaa (pv 5) Jae)) Jad (Jay _)) (JbH (Jbt (Jbf (Ba6.ev hr (by decide) rfl pass1 (Jaa (pv 1) (Jaa (pv 2) (Jaa (pv 5) Jae))) (he:=by exact Jai rfl))))))))
   (Jah (Jao pe_bl))
   Jas)))
   (Jab (ps_if (Jbt (Jbf (Ba7.ev hr (by decide) rfl pass1 (Jaa (pv 1) (Jaa (pv 3) Jae)) (he:=by exact Jai rfl))))
   (Jah (Jao pe_bl))
   Jas)
   (Jab (Jdl (j:=6) (own:=["_law_other", "_law_total", "_law_chain_here"]) (cs:=[]) Ja1.nd rfl (Or.inl rfl) rfl (pi_U (pv 3)) (fun _ _ _ _ => (JeN (K:=K) (n:=3) rfl rfl (JaA (Jaj (i:=0) (show [("_law_other" : Str),("_law_total" : Str),("_law_chain_here" : Str)].Nodup by decide) rfl (Or.inl rfl) (hf:=Or.inr rfl)) (JaA (Jaj (i:=1) (show [("_law_other" : Str),("_law_total" : Str),("_law_chain_here" : Str)].Nodup by decide) rfl (Or.inl rfl) (hf:=Or.inr rfl)) (JaA (Jaj (i:=2) (show [("_law_other" : Str),("_law_total" : Str),("_law_chain_here" : Str)].Nodup by decide) rfl (Or.inl rfl) (hf:=Or.inr rfl)) JbZ))))) (fun _ _ _ _ => (JaO (Jaa (pv 0) (Jaa (pv 1) (Jaa (JcO (Jfo (K:=K) rfl) rfl T.BbA JcC (Jaa (pv 2) Jae)) Jae))))) (Jdf rfl) (by decide) rfl (by decide) hcs0)
   (Jab (JaY PassesOwn.leaving rfl (pi_U (pv 3)) (Jaj (i:=5) Ja1.nd rfl (Or.inl rfl))
   (Jah (Ja6 (JhG PySem.F.plainAttrs_list PySem.F.slot_list_clear PySem.F.type_list_clear Jfg (pe_ix ix_U (pv 5) Jad (fun _ _ => rfl))))))
   (Jab (Ja6 (JhG PySem.F.plainAttrs_list PySem.F.slot_list_clear PySem.F.type_list_clear Jfg (pv 3)))
   (Jah (Jao (Jbi (JbX hu) (Ba9.ev hr (by decide) rfl pass1 (Jaa (JcO Jcc rfl T.BbA JcC (Jaa (pv 0) Jae)) (Jaa (pv 2) Jae)) (he:=by exact Jai rfl)) (pv 6) (Jay _))))))))))))), ?_⟩
 clear hu
 obtain ⟨hS,hR,hA,hZ,hnd,hT,hfb,hl,hx,k⟩:=h
 have sl:(1000:Nat) ≤ sizeLine:=by decide
 have lR:=hR.length
 have lZ:=hZ.length
 have lal:(Ch.all ts).length ≤ 30:=by
  have:=Jeq (ts:=ts) ts.length
  rw [List.take_of_length_le (Nat.le_refl _)] at this
  omega
 show tSeq _ _ _ [some (.ref tl),some (.ref a),some (.str f0),none,none,none,none] H
 nofun
 refine ⟨tl,xs,rfl, .inl hS, ?_⟩
 intro tc h_tc
 generalize q_tc:upd H tc _ = H1
 have S1:=newS h_tc q_tc
 have e1:=newE q_tc
 nofun
 refine ⟨tc,xs,ts,f0,x,rfl,SqL.of e1,hR.mono (fun _ _ z => z.sameT S1.t),hT,hfb,hl,hx,fun fl ys rows H2 S2 h0fl e2 hW hok hb1 hbb => ?_⟩
 have lrw:=Jhj hok lal
 have ly:=hW.length
 have S02:=S1.trans S2
 (try ((with_reducible refine Nxt.go (by assumption) ?_); nofun))
 nofun
 refine ⟨"list", .inl ⟨rfl,_,SqL.of e2⟩, ?_⟩
 nofun
 refine ⟨len2, ?_⟩
 intro za h_za
 generalize q_za:upd H2 za _ = H3
 have S3:=newS h_za q_za
 have e3:=newE q_za
 nofun
 refine ⟨len0, ?_⟩
 intro zb h_zb
 generalize q_zb:upd H3 zb _ = H4
 have S4:=newS h_zb q_zb
 have e4:=newE q_zb
 nofun
 refine ⟨by show 3 ≤ sizeLine; omega, ?_⟩
 intro zc h_zc
 generalize q_zc:upd H4 zc _ = H5
 have S5:=newS h_zc q_zc
 have e5:=newE q_zc
 nofun
 have S25:=S3.trans (S4.trans S5)
 have rep5:RepL K H5 (rows.map rowD) ys:=hW.repL fun r v z => (z.same S25).rep
 have repd:Rep K H5 (.tup [.str f0,frD (0,1), .lst []]) (.ref zc):=by
  simp only [Rep,RepL,frD]
  exact ⟨_,_,rfl,SqT.of e5,_,_,rfl,rfl,_,_,rfl,⟨_,_,rfl,SqT.of (S5 _ _ (S4 _ _ e3)),_,_,rfl,rfl,_,_,rfl,rfl,rfl⟩,_,_,rfl,⟨_,_,rfl,SqL.of (S5 _ _ e4),rfl⟩,rfl⟩
 refine ⟨fl,ys,_,_,rfl,SqL.of (S25 _ _ e2),repd,rep5,by simp [depD,depL,frD],(fun d hd => by obtain ⟨r,_,rfl⟩:=List.mem_map.mp hd; have:=JfW r; omega), ?_⟩
 have hany:((rows.map rowD).any fun c => eqD c (.tup [.str f0,frD (0,1), .lst []])) = true:=by
  obtain ⟨r,hr,e⟩:=hok.self
  refine List.any_eq_true.mpr ⟨rowD r,List.mem_map.mpr ⟨r,hr,rfl⟩, ?_⟩
  rw [e]
  exact JbR _
 rw [hany]
 nofun
 refine ⟨fl,rfl, .inl ⟨⟨_,SqL.of (S25 _ _ e2)⟩,CompJ.list (xs:=ys) (fun j ws H' => H' = H5∧ws = ((rows.take j).map (·.1)).map V.str) ⟨rfl,rfl⟩ (fun j ws H' hj z => ⟨by rw [z.1]; exact SqL.of (S25 _ _ e2),by rw [z.2]; simp only [List.length_map,List.length_take]; omega⟩) ?_ ?_⟩⟩
 ·rintro j y ws H6 hy ⟨rfl,rfl⟩
  obtain ⟨r,hr,rr0⟩:=hW.at_ hy
  obtain ⟨p,qv,l,cx,rfl,hp,_⟩:=rr0.same S25
  simpa only [List.length_singleton,List.length_cons,List.length_nil,List.replicate,Jau,List.map_cons,List.map_nil,Option.join_some]
  refine ixT (i:=0) (SqT.of hp) rfl ?_
  nofun
  rw [List.take_succ,hr]
  simp
 ·rintro ws H6 ⟨rfl,rfl⟩
  rw [List.take_of_length_le (by omega)]
  intro nl h_nl
  generalize q_nl:upd H6 nl _ = H7
  have S7:=newS h_nl q_nl
  have e7:=newE q_nl
  nofun
  (try ((with_reducible refine Nxt.go (by assumption) ?_); nofun))
  nofun
  refine ⟨nl,rows.map (·.1),rfl,SqL.of e7,by rw [List.length_map]; omega,fun so out h_so ond omem oso => ?_⟩
  generalize q_so:upd H7 so _ = H8
  have S8:=newS h_so q_so
  have e8:=newE q_so
  have eo:out = rows.map (·.1):=Jei oso hok.so ond hok.nd omem
  subst eo
  nofun
  refine ⟨_,_,Jef (SqL.of (S8 _ _ e7)),Jef (SqL.of e8),by simp only [depD,Je9]; omega,rfl, ?_⟩
  rw [JbR]
  nofun
  (try ((with_reducible refine Nxt.go (by assumption) ?_); nofun))
  nofun
  have S28:=S25.trans (S7.trans S8)
  refine ⟨fl,rfl,ForA.byLN (xs:=ys) (SqL.of (S28 _ _ e2)) (fun i σ H' => ∃ v5:Option V, σ = [some (.ref tl),some (.ref a),some (.str f0),some (.ref fl),some (.ref nl),v5,none]∧Same H2 H') ⟨none,rfl,S28⟩ (fun i σ H' z => by obtain ⟨_,_,z⟩:=z; exact SqL.of (z _ _ e2)) ?_ ?_⟩
  ·rintro i y σ H9 hy ⟨v5,rfl,S9⟩ N0 hN0
   obtain ⟨r,hr,rr0⟩:=hW.at_ hy
   have hrm:=List.mem_of_getElem? hr
   have rr:=rr0.same S9
   obtain ⟨p,qv,l,cx,rfl,hp,hq,hl',hc,hf⟩:=id rr
   obtain ⟨fb,l30,wk,ndr⟩:=JhJ hok hfb lal hrm
   have S09:=S02.trans S9
   nofun
   refine ⟨"tuple", .inr ⟨rfl,_,SqT.of hp⟩, ?_⟩
   nofun
   refine ⟨_, .inr (SqT.of hp), ?_⟩
   nofun
   try rw [if_neg (by simp)]
   refine ⟨a,zs,ts,f0,_,r,H1,rfl,hA.same S09,hZ.mono (fun _ _ z => z.sameT S09.t),hnd,hfb,lal,rr,wk,ndr,(hok.en r hrm).2,l30,fun H10 S10 => ?_⟩
   nofun
   exact hN0 _ _ ⟨_,rfl,S9.trans S10⟩
  ·rintro σ H9 ⟨v5,rfl,S9⟩
   have S09:=S02.trans S9
   nofun
   refine ⟨a,fl,zs,ys,ts,f0,rows,H1,rfl,hA.same S09,hZ.mono (fun _ _ z => z.sameT S09.t),SqL.of (S9 _ _ e2),hW.mono (fun _ _ z => z.same S9),hok,hb1,hbb,hfb,lal,lrw,fun r hr => (JhJ hok hfb lal hr).1,fun H10 S10 => ?_⟩
   nofun
   (try ((with_reducible refine Nxt.go (by assumption) ?_); nofun))
   nofun
   have S210:=S9.trans S10
   refine ⟨fl,rfl, .inl ⟨⟨_,SqL.of (S210 _ _ e2)⟩,CompJ.list (xs:=ys) (fun j ws H' => Same H10 H'∧All2 (RR K H10 H') (rows.take j) ws) ⟨Same.refl _,by rw [List.take_zero]; exact rfl⟩ (fun j ws H' hj z => ⟨SqL.of (z.1 _ _ (S210 _ _ e2)),by have:=z.2.length; rw [List.length_take] at this; omega⟩) ?_ ?_⟩⟩
   ·rintro j y ws H11 hy ⟨S11,hA11⟩
    obtain ⟨r,hr,rr0⟩:=hW.at_ hy
    obtain ⟨p,qv,l,cx,rfl,hp,hq,hl',hc,hf⟩:=rr0.same (S210.trans S11)
    simpa only [List.length_singleton,List.length_cons,List.length_nil,List.replicate,Jau,List.map_cons,List.map_nil,Option.join_some]
    refine ⟨p,_,rfl,SqT.of hp,rfl, ?_⟩
    nofun
    refine ⟨l,cx,rfl, .inl (SqL.of hl'), ?_⟩
    intro kl h_kl
    generalize q_kl:upd H11 kl _ = H12
    have S12:=newS h_kl q_kl
    have e12:=newE q_kl
    nofun
    refine ⟨by show 3 ≤ sizeLine; omega, ?_⟩
    intro kt h_kt
    generalize q_kt:upd H12 kt _ = H13
    have S13:=newS h_kt q_kt
    have e13:=newE q_kt
    nofun
    have S1113:=S12.trans S13
    refine ⟨S11.trans S1113, ?_⟩
    rw [List.take_succ,hr]
    exact (hA11.mono (P':=RR K H10 H13) fun _ _ z => z.same S1113).append (.one ⟨kt,qv,kl,cx,rfl,e13,hq.same S1113,S13 _ _ e12,hc.mono (fun _ _ z => z.sameT S1113.t),Jbo S11 h_kl⟩)
   ·rintro ws H11 ⟨S11,hA11⟩
    rw [List.take_of_length_le (by omega)] at hA11
    intro kp h_kp
    generalize q_kp:upd H11 kp _ = H12
    have S12:=newS h_kp q_kp
    have e12:=newE q_kp
    nofun
    have hK12:=hA11.mono (P':=RR K H10 H12) fun _ _ z => z.same S12
    have S212:=S210.trans (S11.trans S12)
    (try ((with_reducible refine Nxt.go (by assumption) ?_); nofun))
    nofun
    refine ⟨fl,rfl,ForA.byLN (xs:=ys) (SqL.of (S212 _ _ e2)) (fun i σ H' => ∃ v5:Option V, σ = [some (.ref tl),some (.ref a),some (.str f0),some (.ref fl),some (.ref nl),v5,some (.ref kp)]∧ClH H1 H2 fl H12 H') ⟨_,rfl,ClH.refl⟩ (fun i σ H' z => by obtain ⟨_,_,z⟩:=z; exact SqL.of (z.at_ (S212 _ _ e2))) ?_ ?_⟩
    ·rintro i y σ H13 hy ⟨v5,rfl,C13⟩ N0 hN0
     obtain ⟨r,hr,p,qv,l,cx,rfl,hp,hq,hl',hc,hf⟩:=hW.at_ hy
     have nlf:l ≠ fl:=fun z => by
      rw [z,e2] at hl'
      cases hl'
      obtain ⟨c,_,b,hb,hb2⟩:=hc.at_ hy
      cases hb
      rw [hp] at hb2
      simp at hb2
     have hp13:=C13.t S212 _ _ rfl (S212 _ _ hp)
     obtain ⟨cx',hl13⟩:=C13.l (S212 _ _ hl')
     nofun
     refine ixT (i:=2) (SqT.of hp13) rfl ?_
     nofun
     refine ⟨.inl ⟨rfl,_,SqL.of hl13⟩, ?_⟩
     refine ⟨l,cx',rfl,rfl,hl13, ?_⟩
     nofun
     exact hN0 _ _ ⟨_,rfl,C13.put hf hl' nlf⟩
    ·rintro σ H13 ⟨v5,rfl,C13⟩
     have efl:=C13.at_ (S212 _ _ e2)
     nofun
     refine ⟨.inl ⟨rfl,_,SqL.of efl⟩, ?_⟩
     refine ⟨fl,ys,rfl,rfl,efl, ?_⟩
     generalize u14:upd H13 fl _ = H14
     nofun
     have S114:Same H1 H14:=fun c u h => by rw [← u14,Jag (Jac h h0fl)]; exact C13.s (S2.trans S212) c u h
     have S014:=S1.trans S114
     (try ((with_reducible refine Nxt.go (by assumption) ?_); nofun))
     nofun
     refine ⟨tl,xs,rfl, .inl (hS.same S014), ?_⟩
     intro tk h_tk
     generalize q_tk:upd H14 tk _ = H15
     have S15:=newS h_tk q_tk
     have e15:=newE q_tk
     nofun
     have S015:=S014.trans S15
     refine ⟨tk,xs,ts,f0,x,rfl,SqL.of e15,hR.mono (fun _ _ z => z.sameT S015.t),hT,hfb,hl,hx,fun fl2 ys2 rows2 H16 S16 _ e16 hW2 hok2 _ _ => ?_⟩
     have er:rows2 = rows:=hok2.eq hok
     subst er
     have T13:SameT H12 H13:=C13.t S212
     have T14:SameT H13 H14:=SameT.put u14 efl rfl
     have S1416:=S15.trans S16
     have hK16:All2 (RR K H10 H16) rows2 ws:=hK12.mono fun r v z => by
      obtain ⟨p,qv,l,cx,rfl,hp,hq,hl',hc,hf⟩:=z
      have nlf:l ≠ fl:=fun z => by rw [z,S210 _ _ e2] at hf; cases hf
      exact ⟨p,qv,l,cx,rfl,S1416 _ _ (T14 _ _ rfl (T13 _ _ rfl hp)),(hq.sameT (T13.trans T14)).same S1416,S1416 _ _ (by rw [← u14,Jag nlf]; exact C13.fresh (Jbo S210 hf) hl'),hc.mono (fun _ _ z => z.sameT ((T13.trans T14).trans S1416.t)),hf⟩
     have nkf:kp ≠ fl:=fun z => by rw [z,S11 _ _ (S210 _ _ e2)] at h_kp; cases h_kp
     have ekp:H16 kp = some (.lst ws):=S1416 _ _ (by rw [← u14,Jag nkf]; exact C13.fresh (Jbo (S210.trans S11) h_kp) e12)
     have rp1:Rep K H16 (.lst (rows2.map rowD)) (.ref fl2):=by
      simp only [Rep]
      exact ⟨_,_,rfl,SqL.of e16,hW2.repL fun r v z => z.rep⟩
     have rp2:Rep K H16 (.lst (rows2.map rowD)) (.ref kp):=by
      simp only [Rep]
      exact ⟨_,_,rfl,SqL.of ekp,hK16.repL fun r v z => z.rep⟩
     nofun
     refine ⟨_,_,rp1,rp2,by have:=Je8 rows2; simp only [depD]; omega,rfl, ?_⟩
     rw [JbR]
     exact k H16 (S015.trans S16)
abbrev Bbt:Stmt:=top 49
theorem JcS:Jan ["_law_script", "_law_faces", "_law_places_here", "_law_ties", "_law_k", "_law_steps_here", "_law_face_here"] ["_law_script"] (Jaf Bbt):=⟨rfl,rfl,rfl,by decide +kernel,rfl,by decide +kernel,by decide +kernel⟩
def Bbz (K:PySem.W.Frag):Sp:=fun vs H Q E => ∃ (a:Addr) (ns:List Int),vs = [.ref a]∧SqL K H a (ns.map V.int)∧ns.length ≤ 63∧∀ H',Q (.bl true) H'
theorem JiW {f:Addr} {fd:FuncData} {dV:Value} (F:FunD K "law" "law" Bbt dV f fd) (T:Txt K mg Ad) (Bag:Cal P w K mg base 1 "_law_cell_at" ["_law_script", "_law_k"] [] (Ja4 K)) (BaZ:Cal P w K mg base 3 "_law_places" ["_law_script", "_law_faces"] [] (JbC K)) (Bbi:Cal P w K mg base 4 "_law_tie" ["_law_cell", "_law_k", "_law_places_here"] [] (Jcj K)) (Ba8:Cal P w K mg base 1 "_law_steps" ["_law_ties"] [] (JbM K)) (Bbe:Cal P w K mg base 8 "_law_from" ["_law_ties", "_law_steps_here", "_law_face_here"] [] (Jb3 K Ad)):FnOk P w K mg base (CX1 P w) 9 f fd ["_law_script"] (Bbz K):=by
 refine F.okn JcS (fun vs H Q E h => ?_) (fun cdv A outer s H vs Q E hr h => ?_)
 ·obtain ⟨a,ns,rfl,_⟩:=h; rfl
 obtain ⟨a,ns,rfl,h⟩:=h
 refine ⟨_,(Jab (Jak (i:=1) JcS.nd rfl (Or.inl rfl) (pe_op JaV Jad (pe_op JaL (Bag.ev hr (by decide) rfl passF (Jaa (pv 0) (Jaa Jad Jae)) (he:=by exact Jai rfl)) Jad)))
   (Jab (Jak (i:=2) JcS.nd rfl (Or.inl rfl) (BaZ.ev hr (by decide) rfl passF (Jaa (pv 0) (Jaa (pv 1) Jae)) (he:=by exact Jai rfl)))
   (Jab (Jak (i:=3) JcS.nd rfl (Or.inl rfl) (Jbq Jae))
   (Jab (JaY PassesOwn.never rfl (JcQ rfl T.BbB (Jaa (pe_op JaV Jad (pe_op JaL (pe_op Jaz (Bag.ev hr (by decide) rfl passF (Jaa (pv 0) (Jaa Jad Jae)) (he:=by exact Jai rfl)) Jad) Jad)) Jae)) (Jaj (i:=4) JcS.nd rfl (Or.inl rfl))
   (Jah (Ja6 (pe_bm PySem.F.plainAttrs_list PySem.F.slot_list_append PySem.F.type_list_append JaX (pv 3) (Jaa (Bbi.ev hr (by decide) rfl passF (Jaa (Bag.ev hr (by decide) rfl passF (Jaa (pv 0) (Jaa (pe_op JaV Jad (pv 4)) Jae)) (he:=by exact Jai rfl)) (Jaa (pv 4) (Jaa (pv 2) Jae))) (he:=by exact Jai rfl)) Jae) (hs:=by exact Jai rfl)))))
   (Jab (Jak (i:=5) JcS.nd rfl (Or.inl rfl) (Ba8.ev hr (by decide) rfl passF (Jaa (pv 3) Jae) (he:=by exact Jai rfl)))
   (Jab (JaY PassesOwn.never rfl (pi_U (JcP rfl rfl rfl rfl T.Bbo JcD rfl T.n_set Jhu (Jaa (pe_op JaV (Jch (own:=["_law_tie_here"]) (cs:=[]) (cl:=[]) rfl (pi_U (pv 3)) (fun _ _ _ _ => (Jaj (i:=0) (show [("_law_tie_here" : Str)].Nodup by decide) rfl (Or.inl rfl))) (fun _ _ _ _ => (pe_ix (ix_UK (K:=K) rfl) (pv 0) Jad (fun _ _ => rfl))) rfl (by decide) rfl (by decide) hcl0 (hhas0 (by decide)) hcs0) (Jch (own:=["_law_tie_here"]) (cs:=[]) (cl:=[]) rfl (pi_U (pv 3)) (fun _ _ _ _ => (Jaj (i:=0) (show [("_law_tie_here" : Str)].Nodup by decide) rfl (Or.inl rfl))) (fun _ _ _ _ => (pe_ix (ix_UK (K:=K) rfl) (pv 0) Jad (fun _ _ => rfl))) rfl (by decide) rfl (by decide) hcl0 (hhas0 (by decide)) hcs0)) Jae))) (Jaj (i:=6) JcS.nd rfl (Or.inl rfl))
   (Jah (ps_if (Jbt (Jbf (Bbe.ev hr (by decide) rfl passF (Jaa (pv 3) (Jaa (pv 5) (Jaa (pv 6) Jae))) (he:=by exact Jai rfl))))
   (Jah (Jao pe_bl))
   Jas)))
   (Jah (Jao pe_bl)))))))), ?_⟩
 obtain ⟨hS,hl,k⟩:=h
 show tSeq _ _ _ [some (.ref a),none,none,none,none,none,none] H
 nofun
 have sl:(1000:Nat) ≤ sizeLine:=by decide
 refine ⟨a,ns,0,rfl,hS,hl,by decide,fun c0 => ?_⟩
 nofun
 repeat (refine And.intro (by first | exact Jbm (by decide) | exact Jbr (by decide) | exact Jbp (by decide) | exact JaZ (by decide) | exact Int.one_ne_zero | decide) ?_)
 nofun
 have qf:=Mth.fm (x:=c0) (y:=5) (by decide)
 obtain ⟨f,hf⟩:∃ f:Nat,2 + c0.fmod 5 = (f:Int):=Int.eq_ofNat_of_zero_le (by omega)
 rw [hf]
 (try ((with_reducible refine Nxt.go (by assumption) ?_); nofun))
 nofun
 refine ⟨a,ns,f,rfl,hS,hl,by omega,fun pl ys ls H1 hpl S1 e1 hL hlf hB => ?_⟩
 (try ((with_reducible refine Nxt.go (by assumption) ?_); nofun))
 nofun
 refine ⟨len0, ?_⟩
 intro tl h_tl
 generalize q_tl:upd H1 tl _ = H2
 have S2:=newS h_tl q_tl
 have e2:=newE q_tl
 nofun
 (try ((with_reducible refine Nxt.go (by assumption) ?_); nofun))
 nofun
 refine ⟨a,ns,0,rfl,(hS.same S1).same S2,hl,by decide,fun c1 => ?_⟩
 nofun
 repeat (refine And.intro (by first | exact Jbm (by decide) | exact Jbr (by decide) | exact Jbp (by decide) | exact JaZ (by decide) | exact Int.one_ne_zero | decide) ?_)
 have q9:=Mth.fm (x:=c1.fdiv 5) (y:=9) (by decide)
 refine ⟨_,rfl,by omega,by omega, ?_⟩
 refine ForR.byN (fun i σ H' => ∃ (v4:Option V) (xs:List V) (ts:List TD), σ = [some (.ref a),some (.int (f:Int)),some (.ref pl),some (.ref tl),v4,none,none]∧Same H1 H'∧H' tl = some (.lst xs)∧All2 (TV K H') ts xs∧ts.length = i∧(∀ t ∈ ts,TG2 ls t)∧∀ (j:Nat) (t:TD),ts[j]? = some t→t.nm = ⟨#[97 + j]⟩) ⟨none,[],[],rfl,S2,e2,rfl,rfl,(fun t ht => by cases ht),(fun j t ht => by simp at ht)⟩ ?_ ?_
 ·rintro i σ H3 hi ⟨v4,xs,ts,rfl,S3,e3,hA,hti,hG,hN⟩ N0 hN0
  have la:=hA.length
  nofun
  refine ⟨.inl ⟨rfl,_,SqL.of e3⟩, ?_⟩
  nofun
  refine ⟨a,ns,_,rfl,(hS.same S1).same S3,hl,by omega,fun c2 => ?_⟩
  nofun
  refine ⟨c2,i,pl,ys,ls,by rw [Int.zero_add],by omega,SqL.of (S3 _ _ e1),hL.mono (P':=fun (l:Int × Int) x => FrV K H3 x l.1 l.2) fun _ _ z => z.sameT S3.t,by omega,by omega,hB,fun x t i' j' li lj H4 S4 tv ok g1 g2 g3 g4 g5 g6 g7 g8 => ?_⟩
  refine ⟨tl,_,_,rfl,rfl,S4 _ _ e3,by omega, ?_⟩
  generalize u5:upd H4 tl _ = H5
  nofun
  have e5:=putE u5
  have T45:SameT H4 H5:=SameT.put u5 (S4 _ _ e3) rfl
  refine hN0 _ _ ⟨_,xs ++ [x],ts ++ [t],rfl,fun bb u hb => ?_,e5, ?_,by simp [hti],fun t' ht' => ?_,fun j t' ht' => ?_⟩
  ·rw [← u5,Jag (Jac hb h_tl)]
   exact S4 _ _ (S3 _ _ hb)
  ·exact (hA.mono (P':=TV K H5) fun _ _ z => (z.sameT S4.t).sameT T45).append (.one (tv.sameT T45))
  ·rcases List.mem_append.mp ht' with h' | h'
   ·exact hG _ h'
   ·rw [List.mem_singleton.mp h']
    exact ⟨ok,⟨i',j',li,lj,g1,g2,g3,g4,g5⟩,g7,g8⟩
  ·by_cases c:j < ts.length
   ·rw [List.getElem?_append_left c] at ht'
    exact hN j t' ht'
   ·have lj:=(List.getElem?_eq_some_iff.mp ht').1
    rw [List.length_append,List.length_singleton] at lj
    have : j = ts.length:=by omega
    subst this
    rw [List.getElem?_append_right (Nat.le_refl _),Nat.sub_self] at ht'
    cases ht'
    rw [g6,hti]
 ·rintro σ H3 ⟨v4,xs,ts,rfl,S3,e3,hA,hti,hG,hN⟩
  have la:=hA.length
  nofun
  have hT:∀ t ∈ ts,TOk t:=fun t ht => (hG t ht).ok
  have hfb:=Jhs fun t ht => (hG t ht).fb
  have hpot:=Jhs fun t ht => (hG t ht).pot fun l hl => (hB l hl).b1
  have hnd:=Jgb (JiV hN)
  have l9:ts.length ≤ 9:=by omega
  refine ⟨tl,xs,ts,rfl,SqL.of e3,hA,by omega,fun sp zs H4 hsp S4 e4 hZ => ?_⟩
  (try ((with_reducible refine Nxt.go (by assumption) ?_); nofun))
  nofun
  have hA4:=hA.mono (P':=TV K H4) fun _ _ z => z.sameT S4.t
  refine ⟨tl,rfl, .inl ⟨⟨xs,SqL.of (S4 _ _ e3)⟩,CompJ.list (xs:=xs) (fun i ws H' => H' = H4∧ws = ((ts.take i).map (·.st)).map V.str) ⟨rfl,rfl⟩ (fun i ws H' hi z => ⟨by rw [z.1]; exact SqL.of (S4 _ _ e3),by rw [z.2]; simp only [List.length_map,List.length_take]; omega⟩) ?_ ?_⟩⟩
  ·rintro i x ws H' hx ⟨rfl,rfl⟩
   simpa only [List.length_singleton,List.length_cons,List.length_nil,List.replicate,Jau,List.map_cons,List.map_nil,Option.join_some]
   obtain ⟨t,ht,b,vl,vg,rfl,hq,_,_⟩:=hA4.at_ hx
   refine ixT (i:=1) hq rfl ?_
   nofun
   rw [List.take_succ,ht]
   simp
  ·rintro ws H' ⟨rfl,rfl⟩
   rw [List.take_of_length_le (by omega)]
   intro la1 h_la1
   generalize q_la1:upd H' la1 _ = H5
   have S5:=newS h_la1 q_la1
   have e5:=newE q_la1
   nofun
   have hA5:=hA4.mono (P':=TV K H5) fun _ _ z => z.sameT S5.t
   have e35:=S5 _ _ (S4 _ _ e3)
   nofun
   refine ⟨tl,rfl, .inl ⟨⟨xs,SqL.of e35⟩,CompJ.list (xs:=xs) (fun i ws H' => H' = H5∧ws = ((ts.take i).map (·.en)).map V.str) ⟨rfl,rfl⟩ (fun i ws H' hi z => ⟨by rw [z.1]; exact SqL.of e35,by rw [z.2]; simp only [List.length_map,List.length_take]; omega⟩) ?_ ?_⟩⟩
   ·rintro i x ws H' hx ⟨rfl,rfl⟩
    simpa only [List.length_singleton,List.length_cons,List.length_nil,List.replicate,Jau,List.map_cons,List.map_nil,Option.join_some]
    obtain ⟨t,ht,b,vl,vg,rfl,hq,_,_⟩:=hA5.at_ hx
    refine ixT (i:=2) hq rfl ?_
    nofun
    rw [List.take_succ,ht]
    simp
   ·rintro ws H'' ⟨rfl,rfl⟩
    rw [List.take_of_length_le (by omega)]
    intro la2 h_la2
    generalize q_la2:upd H'' la2 _ = H6
    have S6:=newS h_la2 q_la2
    have e6:=newE q_la2
    nofun
    refine .inl ⟨la1,la2,_,_,rfl,rfl,S6 _ _ e5,e6,by simp only [List.length_map]; omega, ?_⟩
    intro lc h_lc
    generalize q_lc:upd H6 lc _ = H7
    have S7:=newS h_lc q_lc
    have e7:=newE q_lc
    nofun
    nofun
    refine ⟨lc,ts.map (·.st) ++ ts.map (·.en),rfl,by rw [List.map_append]; exact SqL.of e7,by simp only [List.length_append,List.length_map]; omega,fun so out h_so ond omem oso => ?_⟩
    generalize q_so:upd H7 so _ = H8
    have S8:=newS h_so q_so
    have e8:=newE q_so
    have S48:=S5.trans (S6.trans (S7.trans S8))
    refine ⟨so,rfl,ForA.byLN (xs:=out.map V.str) (SqL.of e8) (fun i σ H' => ∃ v6:Option V, σ = [some (.ref a),some (.int (f:Int)),some (.ref pl),some (.ref tl),v4,some (.ref sp),v6]∧Same H8 H') ⟨none,rfl,Same.refl _⟩ (fun i σ H' z => by obtain ⟨_,_,z⟩:=z; exact SqL.of (z _ _ e8)) ?_ ?_⟩
    ·rintro i y σ H9 hy ⟨v6,rfl,S9⟩ N0 hN0
     rw [List.getElem?_map] at hy
     obtain ⟨z,hz,rfl⟩:=Option.map_eq_some_iff.mp hy
     have S49:=S48.trans S9
     nofun
     refine ⟨tl,sp,xs,zs,ts,z,plcR ls,rfl,SqL.of (S49 _ _ (S4 _ _ e3)),hA4.mono (fun _ _ z => z.sameT S49.t),SqL.of (S49 _ _ e4),hZ.mono (fun _ _ z => z.sameT S49.t),hnd,hT,hfb,by omega,hpot,fun H10 S10 => ?_⟩
     nofun
     exact hN0 _ _ ⟨_,rfl,S9.trans S10⟩
    ·rintro σ H9 ⟨v6,rfl,S9⟩
     nofun
     exact k H9
end
theorem all_mk {l:PySem.W.OpenLaw} {w:World} {K:PySem.W.Frag} {h:Heap} {mg:Str→Option Value} {fa:Addr} {NoTie Tie Free AtLeast AtMost Just Between Scale Step:Addr} (X:K.In h) (G:h.Ns mainGlobals mg) (hfa:mg "law" = some (.ref fa))
  {f1:Addr} {od1 an1:Option Addr} {sl1:Array (Option Value)} {oc1 kV1 dc1 pm1 cd1 ct1:Value}
  {f2:Addr} {od2 an2:Option Addr} {sl2:Array (Option Value)} {oc2 kV2 dc2 pm2 cd2 ct2:Value}
  {f3:Addr} {od3 an3:Option Addr} {sl3:Array (Option Value)} {oc3 kV3 dc3 pm3 cd3 ct3:Value}
  {f4:Addr} {od4 an4:Option Addr} {sl4:Array (Option Value)} {oc4 kV4 dc4 pm4 cd4 ct4:Value}
  {f5:Addr} {od5 an5:Option Addr} {sl5:Array (Option Value)} {oc5 kV5 dc5 pm5 cd5 ct5:Value}
  {f6:Addr} {od6 an6:Option Addr} {sl6:Array (Option Value)} {oc6 kV6 dc6 pm6 cd6 ct6:Value}
  {f7:Addr} {od7 an7:Option Addr} {sl7:Array (Option Value)} {oc7 kV7 dc7 pm7 cd7 ct7:Value}
  {f8:Addr} {od8 an8:Option Addr} {sl8:Array (Option Value)} {oc8 kV8 dc8 pm8 cd8 ct8:Value}
  {f9:Addr} {od9 an9:Option Addr} {sl9:Array (Option Value)} {oc9 kV9 dc9 pm9 cd9 ct9:Value}
  {f10:Addr} {od10 an10:Option Addr} {sl10:Array (Option Value)} {oc10 kV10 dc10 pm10 cd10 ct10:Value}
  {f11:Addr} {od11 an11:Option Addr} {sl11:Array (Option Value)} {oc11 kV11 dc11 pm11 cd11 ct11:Value}
  {f12:Addr} {od12 an12:Option Addr} {sl12:Array (Option Value)} {oc12 kV12 dc12 pm12 cd12 ct12:Value}
  {f13:Addr} {od13 an13:Option Addr} {sl13:Array (Option Value)} {oc13 kV13 dc13 pm13 cd13 ct13:Value}
  {f14:Addr} {od14 an14:Option Addr} {sl14:Array (Option Value)} {oc14 kV14 dc14 pm14 cd14 ct14:Value}
  {f15:Addr} {od15 an15:Option Addr} {sl15:Array (Option Value)} {oc15 kV15 dc15 pm15 cd15 ct15:Value}
  {f16:Addr} {od16 an16:Option Addr} {sl16:Array (Option Value)} {oc16 kV16 dc16 pm16 cd16 ct16:Value}
  {f17:Addr} {od17 an17:Option Addr} {sl17:Array (Option Value)} {oc17 kV17 dc17 pm17 cd17 ct17:Value}
  {f18:Addr} {od18 an18:Option Addr} {sl18:Array (Option Value)} {oc18 kV18 dc18 pm18 cd18 ct18:Value}
  {f19:Addr} {od19 an19:Option Addr} {sl19:Array (Option Value)} {oc19 kV19 dc19 pm19 cd19 ct19:Value}
  {f20:Addr} {od20 an20:Option Addr} {sl20:Array (Option Value)} {oc20 kV20 dc20 pm20 cd20 ct20:Value}
  {f21:Addr} {od21 an21:Option Addr} {sl21:Array (Option Value)} {oc21 kV21 dc21 pm21 cd21 ct21:Value}
  {f22:Addr} {od22 an22:Option Addr} {sl22:Array (Option Value)} {oc22 kV22 dc22 pm22 cd22 ct22:Value}
  {f23:Addr} {od23 an23:Option Addr} {sl23:Array (Option Value)} {oc23 kV23 dc23 pm23 cd23 ct23:Value}
  {f24:Addr} {od24 an24:Option Addr} {sl24:Array (Option Value)} {oc24 kV24 dc24 pm24 cd24 ct24:Value}
  {f25:Addr} {od25 an25:Option Addr} {sl25:Array (Option Value)} {oc25 kV25 dc25 pm25 cd25 ct25:Value}
  {f26:Addr} {od26 an26:Option Addr} {sl26:Array (Option Value)} {oc26 kV26 dc26 pm26 cd26 ct26:Value}
  {f27:Addr} {od27 an27:Option Addr} {sl27:Array (Option Value)} {oc27 kV27 dc27 pm27 cd27 ct27:Value}
  {f28:Addr} {od28 an28:Option Addr} {sl28:Array (Option Value)} {oc28 kV28 dc28 pm28 cd28 ct28:Value}
  {f29:Addr} {od29 an29:Option Addr} {sl29:Array (Option Value)} {oc29 kV29 dc29 pm29 cd29 ct29:Value}
  {f30:Addr} {od30 an30:Option Addr} {sl30:Array (Option Value)} {oc30 kV30 dc30 pm30 cd30 ct30:Value}
  {f31:Addr} {od31 an31:Option Addr} {sl31:Array (Option Value)} {oc31 kV31 dc31 pm31 cd31 ct31:Value}
  {f32:Addr} {od32 an32:Option Addr} {sl32:Array (Option Value)} {oc32 kV32 dc32 pm32 cd32 ct32:Value}
  {f33:Addr} {od33 an33:Option Addr} {sl33:Array (Option Value)} {oc33 kV33 dc33 pm33 cd33 ct33:Value}
  {f34:Addr} {od34 an34:Option Addr} {sl34:Array (Option Value)} {oc34 kV34 dc34 pm34 cd34 ct34:Value}
  {Baa:Tok}
  {Bac:Tok}
  {ZERO:Addr} {BbM:Option Addr} {BbN:Nat} {BbO:Array (Option Value)} {BbI BbJ:Tok}
  (g_NoTie:PySem.W.nsIn K mainGlobals "NoTie" = some (some (.ref NoTie)))
  (g_Tie:PySem.W.nsIn K mainGlobals "Tie" = some (some (.ref Tie)))
  (g_Free:PySem.W.nsIn K mainGlobals "Free" = some (some (.ref Free)))
  (g_AtLeast:PySem.W.nsIn K mainGlobals "AtLeast" = some (some (.ref AtLeast)))
  (g_AtMost:PySem.W.nsIn K mainGlobals "AtMost" = some (some (.ref AtMost)))
  (g_Just:PySem.W.nsIn K mainGlobals "Just" = some (some (.ref Just)))
  (g_Between:PySem.W.nsIn K mainGlobals "Between" = some (some (.ref Between)))
  (Bbu:PySem.W.nsIn K mainGlobals "Scale" = some (some (.ref Scale)))
  (g_Step:PySem.W.nsIn K mainGlobals "Step" = some (some (.ref Step)))
  (a1:PySem.W.nsIn K mainGlobals "common_divisor" = some (some (.ref f1))) (l1:K.lookup f1 = some ⟨oc1,od1, .func (PySem.W.fnOf "common_divisor" "common_divisor" (Jam Bad) (Jal Bad) (Jaf Bad) .none kV1 dc1 pm1 an1 cd1 ct1),sl1⟩) (c1:PySem.W.codeIn K cd1 "common_divisor" = true) (k1:PySem.W.keepIn K (.ref f1) = true)
  (a2:PySem.W.nsIn K mainGlobals "plus" = some (some (.ref f2))) (l2:K.lookup f2 = some ⟨oc2,od2, .func (PySem.W.fnOf "plus" "plus" (Jam Bbl) (Jal Bbl) (Jaf Bbl) .none kV2 dc2 pm2 an2 cd2 ct2),sl2⟩) (c2:PySem.W.codeIn K cd2 "plus" = true) (k2:PySem.W.keepIn K (.ref f2) = true)
  (a3:PySem.W.nsIn K mainGlobals "minus" = some (some (.ref f3))) (l3:K.lookup f3 = some ⟨oc3,od3, .func (PySem.W.fnOf "minus" "minus" (Jam Bba) (Jal Bba) (Jaf Bba) .none kV3 dc3 pm3 an3 cd3 ct3),sl3⟩) (c3:PySem.W.codeIn K cd3 "minus" = true) (k3:PySem.W.keepIn K (.ref f3) = true)
  (a4:PySem.W.nsIn K mainGlobals "under" = some (some (.ref f4))) (l4:K.lookup f4 = some ⟨oc4,od4, .func (PySem.W.fnOf "under" "under" (Jam Bbb) (Jal Bbb) (Jaf Bbb) .none kV4 dc4 pm4 an4 cd4 ct4),sl4⟩) (c4:PySem.W.codeIn K cd4 "under" = true) (k4:PySem.W.keepIn K (.ref f4) = true)
  (a5:PySem.W.nsIn K mainGlobals "is_name" = some (some (.ref f5))) (l5:K.lookup f5 = some ⟨oc5,od5, .func (PySem.W.fnOf "is_name" "is_name" (Jam BaL) (Jal BaL) (Jaf BaL) .none kV5 dc5 pm5 an5 cd5 ct5),sl5⟩) (c5:PySem.W.codeIn K cd5 "is_name" = true) (k5:PySem.W.keepIn K (.ref f5) = true)
  (a6:PySem.W.nsIn K mainGlobals "is_whole" = some (some (.ref f6))) (l6:K.lookup f6 = some ⟨oc6,od6, .func (PySem.W.fnOf "is_whole" "is_whole" (Jam Baz) (Jal Baz) (Jaf Baz) .none kV6 dc6 pm6 an6 cd6 ct6),sl6⟩) (c6:PySem.W.codeIn K cd6 "is_whole" = true) (k6:PySem.W.keepIn K (.ref f6) = true)
  (a7:PySem.W.nsIn K mainGlobals "is_fraction" = some (some (.ref f7))) (l7:K.lookup f7 = some ⟨oc7,od7, .func (PySem.W.fnOf "is_fraction" "is_fraction" (Jam Bal) (Jal Bal) (Jaf Bal) .none kV7 dc7 pm7 an7 cd7 ct7),sl7⟩) (c7:PySem.W.codeIn K cd7 "is_fraction" = true) (k7:PySem.W.keepIn K (.ref f7) = true)
  (a8:PySem.W.nsIn K mainGlobals "is_bound" = some (some (.ref f8))) (l8:K.lookup f8 = some ⟨oc8,od8, .func (PySem.W.fnOf "is_bound" "is_bound" (Jam BaA) (Jal BaA) (Jaf BaA) .none kV8 dc8 pm8 an8 cd8 ct8),sl8⟩) (c8:PySem.W.codeIn K cd8 "is_bound" = true) (k8:PySem.W.keepIn K (.ref f8) = true)
  (a9:PySem.W.nsIn K mainGlobals "are_faces" = some (some (.ref f9))) (l9:K.lookup f9 = some ⟨oc9,od9, .func (PySem.W.fnOf "are_faces" "are_faces" (Jam Bau) (Jal Bau) (Jaf Bau) .none kV9 dc9 pm9 an9 cd9 ct9),sl9⟩) (c9:PySem.W.codeIn K cd9 "are_faces" = true) (k9:PySem.W.keepIn K (.ref f9) = true)
  (a10:PySem.W.nsIn K mainGlobals "are_bounds" = some (some (.ref f10))) (l10:K.lookup f10 = some ⟨oc10,od10, .func (PySem.W.fnOf "are_bounds" "are_bounds" (Jam Bap) (Jal Bap) (Jaf Bap) .none kV10 dc10 pm10 an10 cd10 ct10),sl10⟩) (c10:PySem.W.codeIn K cd10 "are_bounds" = true) (k10:PySem.W.keepIn K (.ref f10) = true)
  (a11:PySem.W.nsIn K mainGlobals "is_tie" = some (some (.ref f11))) (l11:K.lookup f11 = some ⟨oc11,od11, .func (PySem.W.fnOf "is_tie" "is_tie" (Jam Ba2) (Jal Ba2) (Jaf Ba2) .none kV11 dc11 pm11 an11 cd11 ct11),sl11⟩) (c11:PySem.W.codeIn K cd11 "is_tie" = true) (k11:PySem.W.keepIn K (.ref f11) = true)
  (a12:PySem.W.findIn K (.ref Tie) "__init__" = some (some (.ref f12))) (l12:K.lookup f12 = some ⟨oc12,od12, .func (PySem.W.fnOf "__init__" "Tie.__init__" (Jam Baj) (Jal Baj) (Jaf Baj) .none kV12 dc12 pm12 an12 cd12 ct12),sl12⟩) (c12:PySem.W.codeIn K cd12 "Tie.__init__" = true) (k12:PySem.W.keepIn K (.ref f12) = true)
  (a13:PySem.W.nsIn K mainGlobals "tie_of" = some (some (.ref f13))) (l13:K.lookup f13 = some ⟨oc13,od13, .func (PySem.W.fnOf "tie_of" "tie_of" (Jam Ba3) (Jal Ba3) (Jaf Ba3) .none kV13 dc13 pm13 an13 cd13 ct13),sl13⟩) (c13:PySem.W.codeIn K cd13 "tie_of" = true) (k13:PySem.W.keepIn K (.ref f13) = true)
  (a14:PySem.W.findIn K (.ref Tie) "steps" = some (some (.ref f14))) (l14:K.lookup f14 = some ⟨oc14,od14, .func (PySem.W.fnOf "steps" "Tie.steps" (Jam Bav) (Jal Bav) (Jaf Bav) .none kV14 dc14 pm14 an14 cd14 ct14),sl14⟩) (c14:PySem.W.codeIn K cd14 "Tie.steps" = true) (k14:PySem.W.keepIn K (.ref f14) = true)
  (a15:PySem.W.findIn K (.ref Scale) "__init__" = some (some (.ref f15))) (l15:K.lookup f15 = some ⟨oc15,od15, .func (PySem.W.fnOf "__init__" "Scale.__init__" (Jam Bae) (Jal Bae) (Jaf Bae) .none kV15 dc15 pm15 an15 cd15 ct15),sl15⟩) (c15:PySem.W.codeIn K cd15 "Scale.__init__" = true) (k15:PySem.W.keepIn K (.ref f15) = true)
  (a16:PySem.W.findIn K (.ref Scale) "lifted" = some (some (.ref f16))) (l16:K.lookup f16 = some ⟨oc16,od16, .func (PySem.W.fnOf "lifted" "Scale.lifted" (Jam Bak) (Jal Bak) (Jaf Bak) .none kV16 dc16 pm16 an16 cd16 ct16),sl16⟩) (c16:PySem.W.codeIn K cd16 "Scale.lifted" = true) (k16:PySem.W.keepIn K (.ref f16) = true)
  (a17:PySem.W.findIn K (.ref Step) "__init__" = some (some (.ref f17))) (l17:K.lookup f17 = some ⟨oc17,od17, .func (PySem.W.fnOf "__init__" "Step.__init__" (Jam Bah) (Jal Bah) (Jaf Bah) .none kV17 dc17 pm17 an17 cd17 ct17),sl17⟩) (c17:PySem.W.codeIn K cd17 "Step.__init__" = true) (k17:PySem.W.keepIn K (.ref f17) = true)
  (a18:PySem.W.nsIn K mainGlobals "steps_of" = some (some (.ref f18))) (l18:K.lookup f18 = some ⟨oc18,od18, .func (PySem.W.fnOf "steps_of" "steps_of" (Jam BaB) (Jal BaB) (Jaf BaB) .none kV18 dc18 pm18 an18 cd18 ct18),sl18⟩) (c18:PySem.W.codeIn K cd18 "steps_of" = true) (k18:PySem.W.keepIn K (.ref f18) = true)
  (a19:PySem.W.nsIn K mainGlobals "last_steps" = some (some (.ref f19))) (l19:K.lookup f19 = some ⟨oc19,od19, .func (PySem.W.fnOf "last_steps" "last_steps" (Jam Baq) (Jal Baq) (Jaf Baq) .none kV19 dc19 pm19 an19 cd19 ct19),sl19⟩) (c19:PySem.W.codeIn K cd19 "last_steps" = true) (k19:PySem.W.keepIn K (.ref f19) = true)
  (a20:PySem.W.nsIn K mainGlobals "chains_from" = some (some (.ref f20))) (l20:K.lookup f20 = some ⟨oc20,od20, .func (PySem.W.fnOf "chains_from" "chains_from" (Jam Bam) (Jal Bam) (Jaf Bam) .none kV20 dc20 pm20 an20 cd20 ct20),sl20⟩) (c20:PySem.W.codeIn K cd20 "chains_from" = true) (k20:PySem.W.keepIn K (.ref f20) = true)
  (a21:PySem.W.nsIn K mainGlobals "reached" = some (some (.ref f21))) (l21:K.lookup f21 = some ⟨oc21,od21, .func (PySem.W.fnOf "reached" "reached" (Jam BaM) (Jal BaM) (Jaf BaM) .none kV21 dc21 pm21 an21 cd21 ct21),sl21⟩) (c21:PySem.W.codeIn K cd21 "reached" = true) (k21:PySem.W.keepIn K (.ref f21) = true)
  (a22:PySem.W.nsIn K mainGlobals "_law_divisor" = some (some (.ref f22))) (l22:K.lookup f22 = some ⟨oc22,od22, .func (PySem.W.fnOf "_law_divisor" "_law_divisor" (Jam Ban) (Jal Ban) (Jaf Ban) .none kV22 dc22 pm22 an22 cd22 ct22),sl22⟩) (c22:PySem.W.codeIn K cd22 "_law_divisor" = true) (k22:PySem.W.keepIn K (.ref f22) = true)
  (a23:PySem.W.nsIn K mainGlobals "_law_cell_at" = some (some (.ref f23))) (l23:K.lookup f23 = some ⟨oc23,od23, .func (PySem.W.fnOf "_law_cell_at" "_law_cell_at" (Jam Bao) (Jal Bao) (Jaf Bao) .none kV23 dc23 pm23 an23 cd23 ct23),sl23⟩) (c23:PySem.W.codeIn K cd23 "_law_cell_at" = true) (k23:PySem.W.keepIn K (.ref f23) = true)
  (a24:PySem.W.nsIn K mainGlobals "_law_lowest" = some (some (.ref f24))) (l24:K.lookup f24 = some ⟨oc24,od24, .func (PySem.W.fnOf "_law_lowest" "_law_lowest" (Jam Bar) (Jal Bar) (Jaf Bar) .none kV24 dc24 pm24 an24 cd24 ct24),sl24⟩) (c24:PySem.W.codeIn K cd24 "_law_lowest" = true) (k24:PySem.W.keepIn K (.ref f24) = true)
  (a25:PySem.W.nsIn K mainGlobals "_law_plus" = some (some (.ref f25))) (l25:K.lookup f25 = some ⟨oc25,od25, .func (PySem.W.fnOf "_law_plus" "_law_plus" (Jam BaC) (Jal BaC) (Jaf BaC) .none kV25 dc25 pm25 an25 cd25 ct25),sl25⟩) (c25:PySem.W.codeIn K cd25 "_law_plus" = true) (k25:PySem.W.keepIn K (.ref f25) = true)
  (a26:PySem.W.nsIn K mainGlobals "_law_less" = some (some (.ref f26))) (l26:K.lookup f26 = some ⟨oc26,od26, .func (PySem.W.fnOf "_law_less" "_law_less" (Jam BaD) (Jal BaD) (Jaf BaD) .none kV26 dc26 pm26 an26 cd26 ct26),sl26⟩) (c26:PySem.W.codeIn K cd26 "_law_less" = true) (k26:PySem.W.keepIn K (.ref f26) = true)
  (a27:PySem.W.nsIn K mainGlobals "_law_places" = some (some (.ref f27))) (l27:K.lookup f27 = some ⟨oc27,od27, .func (PySem.W.fnOf "_law_places" "_law_places" (Jam Bat) (Jal Bat) (Jaf Bat) .none kV27 dc27 pm27 an27 cd27 ct27),sl27⟩) (c27:PySem.W.codeIn K cd27 "_law_places" = true) (k27:PySem.W.keepIn K (.ref f27) = true)
  (a28:PySem.W.nsIn K mainGlobals "_law_face" = some (some (.ref f28))) (l28:K.lookup f28 = some ⟨oc28,od28, .func (PySem.W.fnOf "_law_face" "_law_face" (Jam BaE) (Jal BaE) (Jaf BaE) .none kV28 dc28 pm28 an28 cd28 ct28),sl28⟩) (c28:PySem.W.codeIn K cd28 "_law_face" = true) (k28:PySem.W.keepIn K (.ref f28) = true)
  (a29:PySem.W.nsIn K mainGlobals "_law_tie" = some (some (.ref f29))) (l29:K.lookup f29 = some ⟨oc29,od29, .func (PySem.W.fnOf "_law_tie" "_law_tie" (Jam BaN) (Jal BaN) (Jaf BaN) .none kV29 dc29 pm29 an29 cd29 ct29),sl29⟩) (c29:PySem.W.codeIn K cd29 "_law_tie" = true) (k29:PySem.W.keepIn K (.ref f29) = true)
  (a30:PySem.W.nsIn K mainGlobals "_law_steps" = some (some (.ref f30))) (l30:K.lookup f30 = some ⟨oc30,od30, .func (PySem.W.fnOf "_law_steps" "_law_steps" (Jam Baw) (Jal Baw) (Jaf Baw) .none kV30 dc30 pm30 an30 cd30 ct30),sl30⟩) (c30:PySem.W.codeIn K cd30 "_law_steps" = true) (k30:PySem.W.keepIn K (.ref f30) = true)
  (a31:PySem.W.nsIn K mainGlobals "_law_chain" = some (some (.ref f31))) (l31:K.lookup f31 = some ⟨oc31,od31, .func (PySem.W.fnOf "_law_chain" "_law_chain" (Jam Bax) (Jal Bax) (Jaf Bax) .none kV31 dc31 pm31 an31 cd31 ct31),sl31⟩) (c31:PySem.W.codeIn K cd31 "_law_chain" = true) (k31:PySem.W.keepIn K (.ref f31) = true)
  (a32:PySem.W.nsIn K mainGlobals "_law_least" = some (some (.ref f32))) (l32:K.lookup f32 = some ⟨oc32,od32, .func (PySem.W.fnOf "_law_least" "_law_least" (Jam Bay) (Jal Bay) (Jaf Bay) .none kV32 dc32 pm32 an32 cd32 ct32),sl32⟩) (c32:PySem.W.codeIn K cd32 "_law_least" = true) (k32:PySem.W.keepIn K (.ref f32) = true)
  (a33:PySem.W.nsIn K mainGlobals "_law_from" = some (some (.ref f33))) (l33:K.lookup f33 = some ⟨oc33,od33, .func (PySem.W.fnOf "_law_from" "_law_from" (Jam BaF) (Jal BaF) (Jaf BaF) .none kV33 dc33 pm33 an33 cd33 ct33),sl33⟩) (c33:PySem.W.codeIn K cd33 "_law_from" = true) (k33:PySem.W.keepIn K (.ref f33) = true)
  (a34:PySem.W.nsIn K mainGlobals "law" = some (some (.ref f34))) (l34:K.lookup f34 = some ⟨oc34,od34, .func (PySem.W.fnOf "law" "law" (Jam Bbt) (Jal Bbt) (Jaf Bbt) .none kV34 dc34 pm34 an34 cd34 ct34),sl34⟩) (c34:PySem.W.codeIn K cd34 "law" = true) (k34:PySem.W.keepIn K (.ref f34) = true)
  (z_abs:PySem.W.nsIn K mainGlobals "abs" = some none)
  (z_isinstance:PySem.W.nsIn K mainGlobals "isinstance" = some none)
  (z_len:PySem.W.nsIn K mainGlobals "len" = some none)
  (z_all:PySem.W.nsIn K mainGlobals "all" = some none)
  (z_int:PySem.W.nsIn K mainGlobals "int" = some none)
  (z_bool:PySem.W.nsIn K mainGlobals "bool" = some none)
  (z_tuple:PySem.W.nsIn K mainGlobals "tuple" = some none)
  (z_str:PySem.W.nsIn K mainGlobals "str" = some none)
  (z_range:PySem.W.nsIn K mainGlobals "range" = some none)
  (z_list:PySem.W.nsIn K mainGlobals "list" = some none)
  (z_reversed:PySem.W.nsIn K mainGlobals "reversed" = some none)
  (z_sorted:PySem.W.nsIn K mainGlobals "sorted" = some none)
  (z_set:PySem.W.nsIn K mainGlobals "set" = some none)
  (BaH:PySem.W.nsIn K mainGlobals "SMALL_LETTERS" = some (some (.str "abcdefghijklmnopqrstuvwxyz" Baa)))
  (BaK:PySem.W.nsIn K mainGlobals "LONGEST_NAME" = some (some (.int 8 Bac)))
  (BbG:PySem.W.nsIn K mainGlobals "ZERO" = some (some (.ref ZERO)))
  (h_ZERO:K.lookup ZERO = some ⟨.type "tuple",BbM, .seq #[.int 0 BbI, .int 1 BbJ] BbN,BbO⟩)
  (x_NoTie:PySem.W.excIn K NoTie [.type "ValueError", .type "Exception", .type "BaseException", .type "object"] "ValueError.__new__" = true)
  (mk_Free:PySem.W.makesIn K Free = true)
  (mi_Free:PySem.W.findIn K (.ref Free) "__init__" = some (some (.ref f12)))
  (mf_Free:PySem.W.isFn K (.ref f12) = true)
  (mp_Free:PySem.W.keepIn K (.ref Free) = true)
  (me_steps_Free:PySem.W.findIn K (.ref Free) "steps" = some (some (.ref f14)))
  (mk_AtLeast:PySem.W.makesIn K AtLeast = true)
  (mi_AtLeast:PySem.W.findIn K (.ref AtLeast) "__init__" = some (some (.ref f12)))
  (mf_AtLeast:PySem.W.isFn K (.ref f12) = true)
  (mp_AtLeast:PySem.W.keepIn K (.ref AtLeast) = true)
  (me_steps_AtLeast:PySem.W.findIn K (.ref AtLeast) "steps" = some (some (.ref f14)))
  (mk_AtMost:PySem.W.makesIn K AtMost = true)
  (mi_AtMost:PySem.W.findIn K (.ref AtMost) "__init__" = some (some (.ref f12)))
  (mf_AtMost:PySem.W.isFn K (.ref f12) = true)
  (mp_AtMost:PySem.W.keepIn K (.ref AtMost) = true)
  (me_steps_AtMost:PySem.W.findIn K (.ref AtMost) "steps" = some (some (.ref f14)))
  (mk_Just:PySem.W.makesIn K Just = true)
  (mi_Just:PySem.W.findIn K (.ref Just) "__init__" = some (some (.ref f12)))
  (mf_Just:PySem.W.isFn K (.ref f12) = true)
  (mp_Just:PySem.W.keepIn K (.ref Just) = true)
  (me_steps_Just:PySem.W.findIn K (.ref Just) "steps" = some (some (.ref f14)))
  (mk_Between:PySem.W.makesIn K Between = true)
  (mi_Between:PySem.W.findIn K (.ref Between) "__init__" = some (some (.ref f12)))
  (mf_Between:PySem.W.isFn K (.ref f12) = true)
  (mp_Between:PySem.W.keepIn K (.ref Between) = true)
  (me_steps_Between:PySem.W.findIn K (.ref Between) "steps" = some (some (.ref f14)))
  (mm_steps:PySem.W.isFn K (.ref f14) = true)
  (Bbv:PySem.W.makesIn K Scale = true)
  (Bbw:PySem.W.findIn K (.ref Scale) "__init__" = some (some (.ref f15)))
  (Bbx:PySem.W.isFn K (.ref f15) = true)
  (Bby:PySem.W.keepIn K (.ref Scale) = true)
  (mk_Step:PySem.W.makesIn K Step = true)
  (mi_Step:PySem.W.findIn K (.ref Step) "__init__" = some (some (.ref f17)))
  (mf_Step:PySem.W.isFn K (.ref f17) = true)
  (mp_Step:PySem.W.keepIn K (.ref Step) = true)
  (BaI:PySem.W.findIn K (.ref Scale) "lifted" = some (some (.ref f16)))
  (BaJ:PySem.W.isFn K (.ref f16) = true)
  (cl1_Free:PySem.W.plainGet K Free Str.empty = true)
  (cl2_Free:PySem.W.hasDictIn K Free = true)
  (cl3_Free:PySem.W.plainOver K Free = true)
  (cl4_Free:PySem.W.findIn K (.ref Free) "__setattr__" = some (some (.builtin "object.__setattr__")))
  (na1_Free:PySem.W.findIn K (.ref Free) "name" = some none)
  (na2_Free:PySem.W.findIn K (.ref Free) "start" = some none)
  (na3_Free:PySem.W.findIn K (.ref Free) "end" = some none)
  (na4_Free:PySem.W.findIn K (.ref Free) "least" = some none)
  (na5_Free:PySem.W.findIn K (.ref Free) "greatest" = some none)
  (cl1_AtLeast:PySem.W.plainGet K AtLeast Str.empty = true)
  (cl2_AtLeast:PySem.W.hasDictIn K AtLeast = true)
  (cl3_AtLeast:PySem.W.plainOver K AtLeast = true)
  (cl4_AtLeast:PySem.W.findIn K (.ref AtLeast) "__setattr__" = some (some (.builtin "object.__setattr__")))
  (na1_AtLeast:PySem.W.findIn K (.ref AtLeast) "name" = some none)
  (na2_AtLeast:PySem.W.findIn K (.ref AtLeast) "start" = some none)
  (na3_AtLeast:PySem.W.findIn K (.ref AtLeast) "end" = some none)
  (na4_AtLeast:PySem.W.findIn K (.ref AtLeast) "least" = some none)
  (na5_AtLeast:PySem.W.findIn K (.ref AtLeast) "greatest" = some none)
  (cl1_AtMost:PySem.W.plainGet K AtMost Str.empty = true)
  (cl2_AtMost:PySem.W.hasDictIn K AtMost = true)
  (cl3_AtMost:PySem.W.plainOver K AtMost = true)
  (cl4_AtMost:PySem.W.findIn K (.ref AtMost) "__setattr__" = some (some (.builtin "object.__setattr__")))
  (na1_AtMost:PySem.W.findIn K (.ref AtMost) "name" = some none)
  (na2_AtMost:PySem.W.findIn K (.ref AtMost) "start" = some none)
  (na3_AtMost:PySem.W.findIn K (.ref AtMost) "end" = some none)
  (na4_AtMost:PySem.W.findIn K (.ref AtMost) "least" = some none)
  (na5_AtMost:PySem.W.findIn K (.ref AtMost) "greatest" = some none)
  (cl1_Just:PySem.W.plainGet K Just Str.empty = true)
  (cl2_Just:PySem.W.hasDictIn K Just = true)
  (cl3_Just:PySem.W.plainOver K Just = true)
  (cl4_Just:PySem.W.findIn K (.ref Just) "__setattr__" = some (some (.builtin "object.__setattr__")))
  (na1_Just:PySem.W.findIn K (.ref Just) "name" = some none)
  (na2_Just:PySem.W.findIn K (.ref Just) "start" = some none)
  (na3_Just:PySem.W.findIn K (.ref Just) "end" = some none)
  (na4_Just:PySem.W.findIn K (.ref Just) "least" = some none)
  (na5_Just:PySem.W.findIn K (.ref Just) "greatest" = some none)
  (cl1_Between:PySem.W.plainGet K Between Str.empty = true)
  (cl2_Between:PySem.W.hasDictIn K Between = true)
  (cl3_Between:PySem.W.plainOver K Between = true)
  (cl4_Between:PySem.W.findIn K (.ref Between) "__setattr__" = some (some (.builtin "object.__setattr__")))
  (na1_Between:PySem.W.findIn K (.ref Between) "name" = some none)
  (na2_Between:PySem.W.findIn K (.ref Between) "start" = some none)
  (na3_Between:PySem.W.findIn K (.ref Between) "end" = some none)
  (na4_Between:PySem.W.findIn K (.ref Between) "least" = some none)
  (na5_Between:PySem.W.findIn K (.ref Between) "greatest" = some none)
  (BaR:PySem.W.plainGet K Scale Str.empty = true)
  (BaS:PySem.W.hasDictIn K Scale = true)
  (BaT:PySem.W.plainOver K Scale = true)
  (BaU:PySem.W.findIn K (.ref Scale) "__setattr__" = some (some (.builtin "object.__setattr__")))
  (BaV:PySem.W.findIn K (.ref Scale) "bottom" = some none)
  (BaW:PySem.W.findIn K (.ref Scale) "factors" = some none)
  (cl1_Step:PySem.W.plainGet K Step Str.empty = true)
  (cl2_Step:PySem.W.hasDictIn K Step = true)
  (cl3_Step:PySem.W.plainOver K Step = true)
  (cl4_Step:PySem.W.findIn K (.ref Step) "__setattr__" = some (some (.builtin "object.__setattr__")))
  (na1_Step:PySem.W.findIn K (.ref Step) "source" = some none)
  (na2_Step:PySem.W.findIn K (.ref Step) "target" = some none)
  (na3_Step:PySem.W.findIn K (.ref Step) "cost" = some none)
  (na4_Step:PySem.W.findIn K (.ref Step) "whole" = some none)
  (na5_Step:PySem.W.findIn K (.ref Step) "pair" = some none)
  : ∃ fd:FuncData,(∀ (s:Shared) (v:Value),BindsTo s fd ⟨[v],[]⟩ [("_law_script",v)])∧∀ base:Heap,K.In base→base.Ns mainGlobals mg→FnOk l.prog w K mg base (CX1 l.prog w) 9 fa fd ["_law_script"] (Bbz K):=by
 have e:=hfa.symm.trans (PySem.W.mg_of X G a34)
 cases e
 have T:Txt K mg ⟨NoTie,Tie,Free,AtLeast,AtMost,Just,Between,Scale,Step,(.str "abcdefghijklmnopqrstuvwxyz" Baa),(.int 8 Bac),ZERO⟩:=⟨PySem.W.mg_none_of X G z_abs,PySem.W.mg_none_of X G z_isinstance,PySem.W.mg_none_of X G z_len,PySem.W.mg_none_of X G z_all,PySem.W.mg_none_of X G z_int,PySem.W.mg_none_of X G z_bool,PySem.W.mg_none_of X G z_tuple,PySem.W.mg_none_of X G z_str,PySem.W.mg_none_of X G z_range,PySem.W.mg_none_of X G z_list,PySem.W.mg_none_of X G z_reversed,PySem.W.mg_none_of X G z_sorted,PySem.W.mg_none_of X G z_set,PySem.W.mg_of X G g_NoTie,PySem.W.mg_of X G g_Tie,PySem.W.mg_of X G g_Free,PySem.W.mg_of X G g_AtLeast,PySem.W.mg_of X G g_AtMost,PySem.W.mg_of X G g_Just,PySem.W.mg_of X G g_Between,PySem.W.mg_of X G Bbu,PySem.W.mg_of X G g_Step,PySem.W.mg_of X G BaH,⟨_,rfl⟩,PySem.W.mg_of X G BaK,⟨_,rfl⟩,PySem.W.mg_of X G BbG,rfl,fun H => .inr ⟨_,_,_,h_ZERO,rfl,rfl,by show 2 ≤ sizeLine; decide, .cons ⟨_,rfl⟩ (.cons ⟨_,rfl⟩ (.nil))⟩,x_NoTie,cl1_Free,cl2_Free,cl3_Free,cl4_Free,na1_Free,na2_Free,na3_Free,na4_Free,na5_Free,cl1_AtLeast,cl2_AtLeast,cl3_AtLeast,cl4_AtLeast,na1_AtLeast,na2_AtLeast,na3_AtLeast,na4_AtLeast,na5_AtLeast,cl1_AtMost,cl2_AtMost,cl3_AtMost,cl4_AtMost,na1_AtMost,na2_AtMost,na3_AtMost,na4_AtMost,na5_AtMost,cl1_Just,cl2_Just,cl3_Just,cl4_Just,na1_Just,na2_Just,na3_Just,na4_Just,na5_Just,cl1_Between,cl2_Between,cl3_Between,cl4_Between,na1_Between,na2_Between,na3_Between,na4_Between,na5_Between,BaR,BaS,BaT,BaU,BaV,BaW,cl1_Step,cl2_Step,cl3_Step,cl4_Step,na1_Step,na2_Step,na3_Step,na4_Step,na5_Step,(fun C hC => by rcases hC with rfl | rfl | rfl | rfl | rfl <;> first | exact ⟨⟨cl1_Free,cl2_Free,cl3_Free,cl4_Free⟩,na1_Free,na2_Free,na3_Free,na4_Free,na5_Free⟩ | exact ⟨⟨cl1_AtLeast,cl2_AtLeast,cl3_AtLeast,cl4_AtLeast⟩,na1_AtLeast,na2_AtLeast,na3_AtLeast,na4_AtLeast,na5_AtLeast⟩ | exact ⟨⟨cl1_AtMost,cl2_AtMost,cl3_AtMost,cl4_AtMost⟩,na1_AtMost,na2_AtMost,na3_AtMost,na4_AtMost,na5_AtMost⟩ | exact ⟨⟨cl1_Just,cl2_Just,cl3_Just,cl4_Just⟩,na1_Just,na2_Just,na3_Just,na4_Just,na5_Just⟩ | exact ⟨⟨cl1_Between,cl2_Between,cl3_Between,cl4_Between⟩,na1_Between,na2_Between,na3_Between,na4_Between,na5_Between⟩),(fun C hC => by cases hC; exact ⟨⟨BaR,BaS,BaT,BaU⟩,BaV,BaW⟩),(fun C hC => by cases hC; exact ⟨⟨cl1_Step,cl2_Step,cl3_Step,cl4_Step⟩,na1_Step,na2_Step,na3_Step,na4_Step,na5_Step⟩)⟩
 have F1:=Jar (st:=Bad) l1 c1 k1
 have b1:=F1.binds (ps:=["one", "other"]) fun _ _ _ _ _ _ us hl => match us,hl with | [_,_],_ => rfl
 have F2:=Jar (st:=Bbl) l2 c2 k2
 have b2:=F2.binds (ps:=["one", "other"]) fun _ _ _ _ _ _ us hl => match us,hl with | [_,_],_ => rfl
 have F3:=Jar (st:=Bba) l3 c3 k3
 have b3:=F3.binds (ps:=["one", "other"]) fun _ _ _ _ _ _ us hl => match us,hl with | [_,_],_ => rfl
 have F4:=Jar (st:=Bbb) l4 c4 k4
 have b4:=F4.binds (ps:=["one", "other"]) fun _ _ _ _ _ _ us hl => match us,hl with | [_,_],_ => rfl
 have F5:=Jar (st:=BaL) l5 c5 k5
 have b5:=F5.binds (ps:=["thing"]) fun _ _ _ _ _ _ us hl => match us,hl with | [_],_ => rfl
 have F6:=Jar (st:=Baz) l6 c6 k6
 have b6:=F6.binds (ps:=["thing"]) fun _ _ _ _ _ _ us hl => match us,hl with | [_],_ => rfl
 have F7:=Jar (st:=Bal) l7 c7 k7
 have b7:=F7.binds (ps:=["thing"]) fun _ _ _ _ _ _ us hl => match us,hl with | [_],_ => rfl
 have F8:=Jar (st:=BaA) l8 c8 k8
 have b8:=F8.binds (ps:=["thing"]) fun _ _ _ _ _ _ us hl => match us,hl with | [_],_ => rfl
 have F9:=Jar (st:=Bau) l9 c9 k9
 have b9:=F9.binds (ps:=["one", "other"]) fun _ _ _ _ _ _ us hl => match us,hl with | [_,_],_ => rfl
 have F10:=Jar (st:=Bap) l10 c10 k10
 have b10:=F10.binds (ps:=["least", "greatest"]) fun _ _ _ _ _ _ us hl => match us,hl with | [_,_],_ => rfl
 have F11:=Jar (st:=Ba2) l11 c11 k11
 have b11:=F11.binds (ps:=["thing"]) fun _ _ _ _ _ _ us hl => match us,hl with | [_],_ => rfl
 have F12:=Jar (st:=Baj) l12 c12 k12
 have b12:=F12.binds (ps:=["self", "row"]) fun _ _ _ _ _ _ us hl => match us,hl with | [_,_],_ => rfl
 have F13:=Jar (st:=Ba3) l13 c13 k13
 have b13:=F13.binds (ps:=["thing"]) fun _ _ _ _ _ _ us hl => match us,hl with | [_],_ => rfl
 have F14:=Jar (st:=Bav) l14 c14 k14
 have b14:=F14.binds (ps:=["self"]) fun _ _ _ _ _ _ us hl => match us,hl with | [_],_ => rfl
 have F15:=Jar (st:=Bae) l15 c15 k15
 have b15:=F15.binds (ps:=["self", "numbers"]) fun _ _ _ _ _ _ us hl => match us,hl with | [_,_],_ => rfl
 have F16:=Jar (st:=Bak) l16 c16 k16
 have b16:=F16.binds (ps:=["self", "number"]) fun _ _ _ _ _ _ us hl => match us,hl with | [_,_],_ => rfl
 have F17:=Jar (st:=Bah) l17 c17 k17
 have b17:=F17.binds (ps:=["self", "name", "row", "scale"]) fun _ _ _ _ _ _ us hl => match us,hl with | [_,_,_,_],_ => rfl
 have F18:=Jar (st:=BaB) l18 c18 k18
 have b18:=F18.binds (ps:=["ties"]) fun _ _ _ _ _ _ us hl => match us,hl with | [_],_ => rfl
 have F19:=Jar (st:=Baq) l19 c19 k19
 have b19:=F19.binds (ps:=["steps", "starts"]) fun _ _ _ _ _ _ us hl => match us,hl with | [_,_],_ => rfl
 have F20:=Jar (st:=Bam) l20 c20 k20
 have b20:=F20.binds (ps:=["steps", "starts"]) fun _ _ _ _ _ _ us hl => match us,hl with | [_,_],_ => rfl
 have F21:=Jar (st:=BaM) l21 c21 k21
 have b21:=F21.binds (ps:=["ties", "face"]) fun _ _ _ _ _ _ us hl => match us,hl with | [_,_],_ => rfl
 have F22:=Jar (st:=Ban) l22 c22 k22
 have b22:=F22.binds (ps:=["_law_one", "_law_other"]) fun _ _ _ _ _ _ us hl => match us,hl with | [_,_],_ => rfl
 have F23:=Jar (st:=Bao) l23 c23 k23
 have b23:=F23.binds (ps:=["_law_script", "_law_k"]) fun _ _ _ _ _ _ us hl => match us,hl with | [_,_],_ => rfl
 have F24:=Jar (st:=Bar) l24 c24 k24
 have b24:=F24.binds (ps:=["_law_top", "_law_bottom"]) fun _ _ _ _ _ _ us hl => match us,hl with | [_,_],_ => rfl
 have F25:=Jar (st:=BaC) l25 c25 k25
 have b25:=F25.binds (ps:=["_law_one", "_law_other"]) fun _ _ _ _ _ _ us hl => match us,hl with | [_,_],_ => rfl
 have F26:=Jar (st:=BaD) l26 c26 k26
 have b26:=F26.binds (ps:=["_law_one", "_law_other"]) fun _ _ _ _ _ _ us hl => match us,hl with | [_,_],_ => rfl
 have F27:=Jar (st:=Bat) l27 c27 k27
 have b27:=F27.binds (ps:=["_law_script", "_law_faces"]) fun _ _ _ _ _ _ us hl => match us,hl with | [_,_],_ => rfl
 have F28:=Jar (st:=BaE) l28 c28 k28
 have b28:=F28.binds (ps:=["_law_k"]) fun _ _ _ _ _ _ us hl => match us,hl with | [_],_ => rfl
 have F29:=Jar (st:=BaN) l29 c29 k29
 have b29:=F29.binds (ps:=["_law_cell", "_law_k", "_law_places_here"]) fun _ _ _ _ _ _ us hl => match us,hl with | [_,_,_],_ => rfl
 have F30:=Jar (st:=Baw) l30 c30 k30
 have b30:=F30.binds (ps:=["_law_ties"]) fun _ _ _ _ _ _ us hl => match us,hl with | [_],_ => rfl
 have F31:=Jar (st:=Bax) l31 c31 k31
 have b31:=F31.binds (ps:=["_law_steps_here", "_law_face_here", "_law_told"]) fun _ _ _ _ _ _ us hl => match us,hl with | [_,_,_],_ => rfl
 have F32:=Jar (st:=Bay) l32 c32 k32
 have b32:=F32.binds (ps:=["_law_steps_here", "_law_found"]) fun _ _ _ _ _ _ us hl => match us,hl with | [_,_],_ => rfl
 have F33:=Jar (st:=BaF) l33 c33 k33
 have b33:=F33.binds (ps:=["_law_ties", "_law_steps_here", "_law_face_here"]) fun _ _ _ _ _ _ us hl => match us,hl with | [_,_,_],_ => rfl
 have F34:=Jar (st:=Bbt) l34 c34 k34
 have b34:=F34.binds (ps:=["_law_script"]) fun _ _ _ _ _ _ us hl => match us,hl with | [_],_ => rfl
 refine ⟨PySem.W.fnOf "law" "law" (Jam Bbt) (Jal Bbt) (Jaf Bbt) .none kV34 dc34 pm34 an34 cd34 ct34,fun s v => .of_eq rfl,fun base _ _ => ?_⟩
 have K1:=Jcg (P:=l.prog) (w:=w) (base:=base) F1 T
 have Bab:Cal l.prog w K mg base 1 "common_divisor" ["one", "other"] [] (JaF):=⟨f1,_,[],K1,PySem.W.mg_of X G a1,k1,b1, .nil⟩
 have K2:=Jic (P:=l.prog) (w:=w) (base:=base) F2 T Bab
 have Bbm:Cal l.prog w K mg base 2 "plus" ["one", "other"] [] (JdO K):=⟨f2,_,[],K2,PySem.W.mg_of X G a2,k2,b2, .nil⟩
 have K3:=Jhd (P:=l.prog) (w:=w) (base:=base) F3 T Bbm
 have BbD:Cal l.prog w K mg base 3 "minus" ["one", "other"] [] (JdN K):=⟨f3,_,[],K3,PySem.W.mg_of X G a3,k3,b3, .nil⟩
 have K4:=Jhe (P:=l.prog) (w:=w) (base:=base) F4 T
 have BbC:Cal l.prog w K mg base 1 "under" ["one", "other"] [] (JdP K):=⟨f4,_,[],K4,PySem.W.mg_of X G a4,k4,b4, .nil⟩
 have K5:=JfA (P:=l.prog) (w:=w) (base:=base) F5 T
 have BaG:Cal l.prog w K mg base 1 "is_name" ["thing"] [] (JbV K):=⟨f5,_,[],K5,PySem.W.mg_of X G a5,k5,b5, .nil⟩
 have K6:=JeG (P:=l.prog) (w:=w) (base:=base) F6 T
 have Ba0:Cal l.prog w K mg base 1 "is_whole" ["thing"] [] (Jb2 K):=⟨f6,_,[],K6,PySem.W.mg_of X G a6,k6,b6, .nil⟩
 have K7:=Jc2 (P:=l.prog) (w:=w) (base:=base) F7 T Ba0 Bab
 have BaO:Cal l.prog w K mg base 2 "is_fraction" ["thing"] [] (Jbk K):=⟨f7,_,[],K7,PySem.W.mg_of X G a7,k7,b7, .nil⟩
 have K8:=JeF (P:=l.prog) (w:=w) (base:=base) F8 T BaO
 have Ba1:Cal l.prog w K mg base 3 "is_bound" ["thing"] [] (Jb1 K):=⟨f8,_,[],K8,PySem.W.mg_of X G a8,k8,b8, .nil⟩
 have K9:=Jd7 (P:=l.prog) (w:=w) (base:=base) F9 T BaG
 have Ba5:Cal l.prog w K mg base 2 "are_faces" ["one", "other"] [] (JbJ K):=⟨f9,_,[],K9,PySem.W.mg_of X G a9,k9,b9, .nil⟩
 have K10:=JdC (P:=l.prog) (w:=w) (base:=base) F10 T Ba1 BbC
 have BaX:Cal l.prog w K mg base 4 "are_bounds" ["least", "greatest"] [] (JbA K):=⟨f10,_,[],K10,PySem.W.mg_of X G a10,k10,b10, .nil⟩
 have K11:=Jgp (P:=l.prog) (w:=w) (base:=base) F11 T BaG Ba5 BaX
 have Bbq:Cal l.prog w K mg base 5 "is_tie" ["thing"] [] (JcU K):=⟨f11,_,[],K11,PySem.W.mg_of X G a11,k11,b11, .nil⟩
 have K12:=JcN (P:=l.prog) (w:=w) (base:=base) F12 T
 have k_Free:KCal l.prog w K mg base 1 "Free" Free ["self", "row"] (Jaq K):=⟨f12,_,K12,PySem.W.mg_of X G g_Free,⟨mk_Free,mi_Free,mf_Free,mp_Free⟩,b12⟩
 have k_AtLeast:KCal l.prog w K mg base 1 "AtLeast" AtLeast ["self", "row"] (Jaq K):=⟨f12,_,K12,PySem.W.mg_of X G g_AtLeast,⟨mk_AtLeast,mi_AtLeast,mf_AtLeast,mp_AtLeast⟩,b12⟩
 have k_AtMost:KCal l.prog w K mg base 1 "AtMost" AtMost ["self", "row"] (Jaq K):=⟨f12,_,K12,PySem.W.mg_of X G g_AtMost,⟨mk_AtMost,mi_AtMost,mf_AtMost,mp_AtMost⟩,b12⟩
 have k_Just:KCal l.prog w K mg base 1 "Just" Just ["self", "row"] (Jaq K):=⟨f12,_,K12,PySem.W.mg_of X G g_Just,⟨mk_Just,mi_Just,mf_Just,mp_Just⟩,b12⟩
 have k_Between:KCal l.prog w K mg base 1 "Between" Between ["self", "row"] (Jaq K):=⟨f12,_,K12,PySem.W.mg_of X G g_Between,⟨mk_Between,mi_Between,mf_Between,mp_Between⟩,b12⟩
 have K13:=Jgq (P:=l.prog) (w:=w) (base:=base) F13 T Bbq k_Free k_AtLeast k_AtMost k_Just k_Between
 have Bbs:Cal l.prog w K mg base 6 "tie_of" ["thing"] [] (JcV K ⟨NoTie,Tie,Free,AtLeast,AtMost,Just,Between,Scale,Step,(.str "abcdefghijklmnopqrstuvwxyz" Baa),(.int 8 Bac),ZERO⟩):=⟨f13,_,[],K13,PySem.W.mg_of X G a13,k13,b13, .nil⟩
 have K14:=Jd6 (P:=l.prog) (w:=w) (base:=base) F14 T BbD
 have m_steps:MCal l.prog w K mg base 4 "steps" (IsTie ⟨NoTie,Tie,Free,AtLeast,AtMost,Just,Between,Scale,Step,(.str "abcdefghijklmnopqrstuvwxyz" Baa),(.int 8 Bac),ZERO⟩) ["self"] (JbI K ⟨NoTie,Tie,Free,AtLeast,AtMost,Just,Between,Scale,Step,(.str "abcdefghijklmnopqrstuvwxyz" Baa),(.int 8 Bac),ZERO⟩):=⟨f14,_,K14,fun C hC => ⟨(T.tie C hC).cls,(by rcases hC with rfl | rfl | rfl | rfl | rfl <;> first | exact ⟨me_steps_Free,mm_steps,k14⟩ | exact ⟨me_steps_AtLeast,mm_steps,k14⟩ | exact ⟨me_steps_AtMost,mm_steps,k14⟩ | exact ⟨me_steps_Just,mm_steps,k14⟩ | exact ⟨me_steps_Between,mm_steps,k14⟩)⟩,k14,b14⟩
 have K15:=Jcf (P:=l.prog) (w:=w) (base:=base) F15 T Bab
 have BbE:KCal l.prog w K mg base 2 "Scale" Scale ["self", "numbers"] (Ja2 K ⟨NoTie,Tie,Free,AtLeast,AtMost,Just,Between,Scale,Step,(.str "abcdefghijklmnopqrstuvwxyz" Baa),(.int 8 Bac),ZERO⟩):=⟨f15,_,K15,PySem.W.mg_of X G Bbu,⟨Bbv,Bbw,Bbx,Bby⟩,b15⟩
 have K16:=JcM (P:=l.prog) (w:=w) (base:=base) F16 T Bab
 have Bbr:MCal l.prog w K mg base 2 "lifted" (Jep ⟨NoTie,Tie,Free,AtLeast,AtMost,Just,Between,Scale,Step,(.str "abcdefghijklmnopqrstuvwxyz" Baa),(.int 8 Bac),ZERO⟩) ["self", "number"] (Jbc K ⟨NoTie,Tie,Free,AtLeast,AtMost,Just,Between,Scale,Step,(.str "abcdefghijklmnopqrstuvwxyz" Baa),(.int 8 Bac),ZERO⟩):=⟨f16,_,K16,fun C hC => ⟨(T.Bbp C hC).cls,(by cases hC; exact ⟨BaI,BaJ,k16⟩)⟩,k16,b16⟩
 have K17:=Jcp (P:=l.prog) (w:=w) (base:=base) F17 T Bbr
 have k_Step:KCal l.prog w K mg base 3 "Step" Step ["self", "name", "row", "scale"] (Ja7 K ⟨NoTie,Tie,Free,AtLeast,AtMost,Just,Between,Scale,Step,(.str "abcdefghijklmnopqrstuvwxyz" Baa),(.int 8 Bac),ZERO⟩):=⟨f17,_,K17,PySem.W.mg_of X G g_Step,⟨mk_Step,mi_Step,mf_Step,mp_Step⟩,b17⟩
 have K18:=JeL (P:=l.prog) (w:=w) (base:=base) F18 T m_steps BbE k_Step
 have Bbc:Cal l.prog w K mg base 6 "steps_of" ["ties"] [] (Jb5 K ⟨NoTie,Tie,Free,AtLeast,AtMost,Just,Between,Scale,Step,(.str "abcdefghijklmnopqrstuvwxyz" Baa),(.int 8 Bac),ZERO⟩):=⟨f18,_,[],K18,PySem.W.mg_of X G a18,k18,b18, .nil⟩
 have K19:=JdD (P:=l.prog) (w:=w) (base:=base) F19 T
 have BaY:Cal l.prog w K mg base 1 "last_steps" ["steps", "starts"] [] (JbB K ⟨NoTie,Tie,Free,AtLeast,AtMost,Just,Between,Scale,Step,(.str "abcdefghijklmnopqrstuvwxyz" Baa),(.int 8 Bac),ZERO⟩):=⟨f19,_,[],K19,PySem.W.mg_of X G a19,k19,b19, .nil⟩
 have K20:=Jc1 (P:=l.prog) (w:=w) (base:=base) F20 T BaY Bbm
 have BaP:Cal l.prog w K mg base 3 "chains_from" ["steps", "starts"] [] (Jbj K ⟨NoTie,Tie,Free,AtLeast,AtMost,Just,Between,Scale,Step,(.str "abcdefghijklmnopqrstuvwxyz" Baa),(.int 8 Bac),ZERO⟩):=⟨f20,_,[],K20,PySem.W.mg_of X G a20,k20,b20, .nil⟩
 have K21:=JfC (P:=l.prog) (w:=w) (base:=base) F21 T Bbs Bbc BaP
 have Ba9:Cal l.prog w K mg base 7 "reached" ["ties", "face"] [] (Jck K ⟨NoTie,Tie,Free,AtLeast,AtMost,Just,Between,Scale,Step,(.str "abcdefghijklmnopqrstuvwxyz" Baa),(.int 8 Bac),ZERO⟩):=⟨f21,_,[],K21,PySem.W.mg_of X G a21,k21,b21, .nil⟩
 have K22:=Jc4 (P:=l.prog) (w:=w) (base:=base) F22 T
 have BaQ:Cal l.prog w K mg base 1 "_law_divisor" ["_law_one", "_law_other"] [] (Jbl):=⟨f22,_,[],K22,PySem.W.mg_of X G a22,k22,b22, .nil⟩
 have K23:=Jc3 (P:=l.prog) (w:=w) (base:=base) F23 T
 have Bag:Cal l.prog w K mg base 1 "_law_cell_at" ["_law_script", "_law_k"] [] (Ja4 K):=⟨f23,_,[],K23,PySem.W.mg_of X G a23,k23,b23, .nil⟩
 have K24:=JdE (P:=l.prog) (w:=w) (base:=base) F24 T BaQ
 have Bas:Cal l.prog w K mg base 2 "_law_lowest" ["_law_top", "_law_bottom"] [] (Ja9):=⟨f24,_,[],K24,PySem.W.mg_of X G a24,k24,b24, .nil⟩
 have K25:=JeK (P:=l.prog) (w:=w) (base:=base) F25 T Bas
 have Bai:Cal l.prog w K mg base 3 "_law_plus" ["_law_one", "_law_other"] [] (Jbe K):=⟨f25,_,[],K25,PySem.W.mg_of X G a25,k25,b25, .nil⟩
 have K26:=JeJ (P:=l.prog) (w:=w) (base:=base) F26 T
 have Bbd:Cal l.prog w K mg base 1 "_law_less" ["_law_one", "_law_other"] [] (Jb4 K):=⟨f26,_,[],K26,PySem.W.mg_of X G a26,k26,b26, .nil⟩
 have K27:=JdF (P:=l.prog) (w:=w) (base:=base) F27 T Bag Bas
 have BaZ:Cal l.prog w K mg base 3 "_law_places" ["_law_script", "_law_faces"] [] (JbC K):=⟨f27,_,[],K27,PySem.W.mg_of X G a27,k27,b27, .nil⟩
 have K28:=JeH (P:=l.prog) (w:=w) (base:=base) F28 T
 have Ba4:Cal l.prog w K mg base 1 "_law_face" ["_law_k"] [] (Jbd K):=⟨f28,_,[],K28,PySem.W.mg_of X G a28,k28,b28, .nil⟩
 have K29:=JfB (P:=l.prog) (w:=w) (base:=base) F29 T Bai Ba4
 have Bbi:Cal l.prog w K mg base 4 "_law_tie" ["_law_cell", "_law_k", "_law_places_here"] [] (Jcj K):=⟨f29,_,[],K29,PySem.W.mg_of X G a29,k29,b29, .nil⟩
 have K30:=Jea (P:=l.prog) (w:=w) (base:=base) F30 T
 have Ba8:Cal l.prog w K mg base 1 "_law_steps" ["_law_ties"] [] (JbM K):=⟨f30,_,[],K30,PySem.W.mg_of X G a30,k30,b30, .nil⟩
 have K31:=Jd8 (P:=l.prog) (w:=w) (base:=base) F31 T Bai
 have Ba6:Cal l.prog w K mg base 4 "_law_chain" ["_law_steps_here", "_law_face_here", "_law_told"] [] (JbK K):=⟨f31,_,[],K31,PySem.W.mg_of X G a31,k31,b31, .nil⟩
 have K32:=Jd9 (P:=l.prog) (w:=w) (base:=base) F32 T Bai Bbd
 have Ba7:Cal l.prog w K mg base 4 "_law_least" ["_law_steps_here", "_law_found"] [] (JbL K):=⟨f32,_,[],K32,PySem.W.mg_of X G a32,k32,b32, .nil⟩
 have K33:=JeI (P:=l.prog) (w:=w) (base:=base) F33 T Ba9 Ba6 Ba7
 have Bbe:Cal l.prog w K mg base 8 "_law_from" ["_law_ties", "_law_steps_here", "_law_face_here"] [] (Jb3 K ⟨NoTie,Tie,Free,AtLeast,AtMost,Just,Between,Scale,Step,(.str "abcdefghijklmnopqrstuvwxyz" Baa),(.int 8 Bac),ZERO⟩):=⟨f33,_,[],K33,PySem.W.mg_of X G a33,k33,b33, .nil⟩
 exact JiW F34 T Bag BaZ Bbi Ba8 Bbe
theorem walk {l:PySem.W.OpenLaw} {q:Program} {loose:List Str} {XP:(Str→Option Value)→Heap→Prop} {YP:World→Heap→Prop} {d:DefRec} {K:Params→PySem.W.Frag} (hn:l.most = some 63) (hdf:d.params.defaults = [])
  (hY:∀ (w:World) (h:Heap),YP w h→(K w.params).In h)
  (F:∀ (w:World) (mg:Str→Option Value) (fa:Addr) (h:Heap),(K w.params).In h→h.Ns mainGlobals mg→mg d.name = some (.ref fa) →
   ∃ fd:FuncData,(∀ (s:Shared) (u:Value),BindsTo s fd ⟨[u],[]⟩ [("_law_script",u)])∧∀ base:Heap,(K w.params).In base→base.Ns mainGlobals mg→FnOk l.prog w (K w.params) mg base (CX1 l.prog w) 9 fa fd ["_law_script"] (Bbz (K w.params))) :
  PySem.W.WalkO q loose XP YP l.row.toRowW d [] (fun f vs => PySem.call f vs) :=
 L2.JgO (n:=63) (k:=9) (x:="_law_script") (CX:=fun w => CX1 l.prog w) (sp:=fun w => Bbz (K w.params)) hn (by decide) hdf ⟨rfl,by decide,by decide⟩ hY F (fun _ _ a ns hl _ hS => ⟨a,ns,rfl,hS,hl,fun _ => rfl⟩) fun _ _ _ _ _ z => by
  obtain ⟨_,_,_,_,_,_,_,_,_,_,_,z⟩:=z
  exact z
end Prg
open PySem PySem.W PyProof.Rows
def PySem.W.Fast.tw1001088061479596966 : Nat := 0
def PySem.W.Fast.tw10016529248955233047 : Nat := 0
def PySem.W.Fast.tw10023892935842450020 : Nat := 0
def PySem.W.Fast.tw10070785579255917679 : Nat := 0
def PySem.W.Fast.tw10119651415760796175 : Nat := 0
def PySem.W.Fast.tw10129931379335514185 : Nat := 0
def PySem.W.Fast.tw10131570282724896443 : Nat := 0
def PySem.W.Fast.tw10131748697593710720 : Nat := 0
def PySem.W.Fast.tw10139545266484981347 : Nat := 0
def PySem.W.Fast.tw10246671715118956633 : Nat := 0
def PySem.W.Fast.tw10279419835258343057 : Nat := 0
def PySem.W.Fast.tw1046633623122716013 : Nat := 0
def PySem.W.Fast.tw10486409446543936157 : Nat := 0
def PySem.W.Fast.tw10560032686717257871 : Nat := 0
def PySem.W.Fast.tw10587881584608252326 : Nat := 0
def PySem.W.Fast.tw10594091350599829066 : Nat := 0
def PySem.W.Fast.tw10637075985599287826 : Nat := 0
def PySem.W.Fast.tw10658791999886462003 : Nat := 0
def PySem.W.Fast.tw10661461069440959007 : Nat := 0
def PySem.W.Fast.tw10676453048203665187 : Nat := 0
def PySem.W.Fast.tw10676783766886758032 : Nat := 0
def PySem.W.Fast.tw10737069656514662356 : Nat := 0
def PySem.W.Fast.tw10816026677004514993 : Nat := 0
def PySem.W.Fast.tw10852596707584005249 : Nat := 0
def PySem.W.Fast.tw10853210930808428493 : Nat := 0
def PySem.W.Fast.tw10903922089289246665 : Nat := 0
def PySem.W.Fast.tw10922803575730138310 : Nat := 0
def PySem.W.Fast.tw11001953559524060336 : Nat := 0
def PySem.W.Fast.tw11029582789516795845 : Nat := 0
def PySem.W.Fast.tw11059417250294657099 : Nat := 0
def PySem.W.Fast.tw11064302951398748971 : Nat := 0
def PySem.W.Fast.tw11096317708530076220 : Nat := 0
def PySem.W.Fast.tw11256989441240879602 : Nat := 0
def PySem.W.Fast.tw11280464936954608643 : Nat := 0
def PySem.W.Fast.tw11346043418272715229 : Nat := 0
def PySem.W.Fast.tw1137568133147625546 : Nat := 0
def PySem.W.Fast.tw1138941060761774445 : Nat := 0
def PySem.W.Fast.tw11415771114414116873 : Nat := 0
def PySem.W.Fast.tw11425187294407144521 : Nat := 0
def PySem.W.Fast.tw11443517356885151847 : Nat := 0
def PySem.W.Fast.tw11461957901474129467 : Nat := 0
def PySem.W.Fast.tw11480609998246859341 : Nat := 0
def PySem.W.Fast.tw11512845496490800843 : Nat := 0
def PySem.W.Fast.tw11529519116508816921 : Nat := 0
def PySem.W.Fast.tw11579741639164702835 : Nat := 0
def PySem.W.Fast.tw11595960437319837169 : Nat := 0
def PySem.W.Fast.tw11604194151331790922 : Nat := 0
def PySem.W.Fast.tw11635879685418610633 : Nat := 0
def PySem.W.Fast.tw11712779820313601585 : Nat := 0
def PySem.W.Fast.tw11731399283404699610 : Nat := 0
def PySem.W.Fast.tw11746108403651411063 : Nat := 0
def PySem.W.Fast.tw11770363177087330831 : Nat := 0
def PySem.W.Fast.tw11780437757805781961 : Nat := 0
def PySem.W.Fast.tw11802304242272167106 : Nat := 0
def PySem.W.Fast.tw11806149526988589771 : Nat := 0
def PySem.W.Fast.tw11810434341580503504 : Nat := 0
def PySem.W.Fast.tw11811709206948584130 : Nat := 0
def PySem.W.Fast.tw11827966300799729641 : Nat := 0
def PySem.W.Fast.tw11838092685550266291 : Nat := 0
def PySem.W.Fast.tw11922343113604401978 : Nat := 0
def PySem.W.Fast.tw11923854893786923784 : Nat := 0
def PySem.W.Fast.tw11959098706053457578 : Nat := 0
def PySem.W.Fast.tw11965431006326164631 : Nat := 0
def PySem.W.Fast.tw12008298421532194576 : Nat := 0
def PySem.W.Fast.tw12008851710751856106 : Nat := 0
def PySem.W.Fast.tw12269351509658494215 : Nat := 0
def PySem.W.Fast.tw12312930452788334156 : Nat := 0
def PySem.W.Fast.tw1231373779474418879 : Nat := 0
def PySem.W.Fast.tw12333595689196907342 : Nat := 0
def PySem.W.Fast.tw12335459628072802466 : Nat := 0
def PySem.W.Fast.tw12339089293690318785 : Nat := 0
def PySem.W.Fast.tw1235187976369277369 : Nat := 0
def PySem.W.Fast.tw12449528718808530912 : Nat := 0
def PySem.W.Fast.tw12452984916077363867 : Nat := 0
def PySem.W.Fast.tw12520995868179695913 : Nat := 0
def PySem.W.Fast.tw12572954714469764480 : Nat := 0
def PySem.W.Fast.tw12601895596142339820 : Nat := 0
def PySem.W.Fast.tw12640212379089604380 : Nat := 0
def PySem.W.Fast.tw12664939081513623295 : Nat := 0
def PySem.W.Fast.tw12709123626461927520 : Nat := 0
def PySem.W.Fast.tw12763618570757626148 : Nat := 0
def PySem.W.Fast.tw12788098406962220385 : Nat := 0
def PySem.W.Fast.tw12799167290741769105 : Nat := 0
def PySem.W.Fast.tw12813322529477538415 : Nat := 0
def PySem.W.Fast.tw12878504261414901601 : Nat := 0
def PySem.W.Fast.tw12887929319740448395 : Nat := 0
def PySem.W.Fast.tw12961526450420246274 : Nat := 0
def PySem.W.Fast.tw12973701261927576428 : Nat := 0
def PySem.W.Fast.tw13035155577041903905 : Nat := 0
def PySem.W.Fast.tw13048547033752550019 : Nat := 0
def PySem.W.Fast.tw13069661109096655980 : Nat := 0
def PySem.W.Fast.tw13076521606370729974 : Nat := 0
def PySem.W.Fast.tw13123417060628077588 : Nat := 0
def PySem.W.Fast.tw13203822297193644472 : Nat := 0
def PySem.W.Fast.tw13225346489370046595 : Nat := 0
def PySem.W.Fast.tw13239851190584949059 : Nat := 0
def PySem.W.Fast.tw13256123958316877724 : Nat := 0
def PySem.W.Fast.tw13292092982316812590 : Nat := 0
def PySem.W.Fast.tw13374848601200070513 : Nat := 0
def PySem.W.Fast.tw13479933978050531727 : Nat := 0
def PySem.W.Fast.tw13496046627915270030 : Nat := 0
def PySem.W.Fast.tw13508693389418151947 : Nat := 0
def PySem.W.Fast.tw13555743741323698668 : Nat := 0
def PySem.W.Fast.tw13570435397814127467 : Nat := 0
def PySem.W.Fast.tw1360849032059567158 : Nat := 0
def PySem.W.Fast.tw13685801442142607349 : Nat := 0
def PySem.W.Fast.tw1369148153427871405 : Nat := 0
def PySem.W.Fast.tw13714481839404309166 : Nat := 0
def PySem.W.Fast.tw13784535114114111926 : Nat := 0
def PySem.W.Fast.tw1378840986075489023 : Nat := 0
def PySem.W.Fast.tw13836431274111630173 : Nat := 0
def PySem.W.Fast.tw1387024512590469751 : Nat := 0
def PySem.W.Fast.tw13929150819484403626 : Nat := 0
def PySem.W.Fast.tw13942353356225334802 : Nat := 0
def PySem.W.Fast.tw13971185204629626476 : Nat := 0
def PySem.W.Fast.tw14001451024141376896 : Nat := 0
def PySem.W.Fast.tw14002691210330749611 : Nat := 0
def PySem.W.Fast.tw14003185298044215795 : Nat := 0
def PySem.W.Fast.tw1401004178592770731 : Nat := 0
def PySem.W.Fast.tw1401452497689916981 : Nat := 0
def PySem.W.Fast.tw14075844376074669800 : Nat := 0
def PySem.W.Fast.tw14080028229388191003 : Nat := 0
def PySem.W.Fast.tw1412655740613455881 : Nat := 0
def PySem.W.Fast.tw14145386252822818830 : Nat := 0
def PySem.W.Fast.tw1416795927061873524 : Nat := 0
def PySem.W.Fast.tw14181702475194446524 : Nat := 0
def PySem.W.Fast.tw14266721487016509483 : Nat := 0
def PySem.W.Fast.tw14310919406806164774 : Nat := 0
def PySem.W.Fast.tw14425678330665083665 : Nat := 0
def PySem.W.Fast.tw14442459648701129206 : Nat := 0
def PySem.W.Fast.tw14466897478019635086 : Nat := 0
def PySem.W.Fast.tw1447385344922513641 : Nat := 0
def PySem.W.Fast.tw14483359833152417747 : Nat := 0
def PySem.W.Fast.tw14484024080996166500 : Nat := 0
def PySem.W.Fast.tw14485020587676507803 : Nat := 0
def PySem.W.Fast.tw14533738871360974570 : Nat := 0
def PySem.W.Fast.tw14595909285781182305 : Nat := 0
def PySem.W.Fast.tw14621156926084866393 : Nat := 0
def PySem.W.Fast.tw14623923160968470584 : Nat := 0
def PySem.W.Fast.tw14627105487899158977 : Nat := 0
def PySem.W.Fast.tw14674786207965231032 : Nat := 0
def PySem.W.Fast.tw14678564108825737340 : Nat := 0
def PySem.W.Fast.tw14717088955415084853 : Nat := 0
def PySem.W.Fast.tw14735297343951720342 : Nat := 0
def PySem.W.Fast.tw14737702331813754857 : Nat := 0
def PySem.W.Fast.tw14745000882346994078 : Nat := 0
def PySem.W.Fast.tw14752212677692564299 : Nat := 0
def PySem.W.Fast.tw14920261522903833678 : Nat := 0
def PySem.W.Fast.tw14942375864996907696 : Nat := 0
def PySem.W.Fast.tw15029862075044040735 : Nat := 0
def PySem.W.Fast.tw15031940768790875803 : Nat := 0
def PySem.W.Fast.tw15034000015727353830 : Nat := 0
def PySem.W.Fast.tw15039180710021029167 : Nat := 0
def PySem.W.Fast.tw15124306709862800744 : Nat := 0
def PySem.W.Fast.tw15126154463514008311 : Nat := 0
def PySem.W.Fast.tw15137030593218454503 : Nat := 0
def PySem.W.Fast.tw15171479380653844362 : Nat := 0
def PySem.W.Fast.tw15193331206574876644 : Nat := 0
def PySem.W.Fast.tw15270689712086094790 : Nat := 0
def PySem.W.Fast.tw15287380885497857062 : Nat := 0
def PySem.W.Fast.tw15373359983449553461 : Nat := 0
def PySem.W.Fast.tw15424503690111205072 : Nat := 0
def PySem.W.Fast.tw15462809045244310216 : Nat := 0
def PySem.W.Fast.tw15497478973812224547 : Nat := 0
def PySem.W.Fast.tw15576874060071298640 : Nat := 0
def PySem.W.Fast.tw15610197723452626914 : Nat := 0
def PySem.W.Fast.tw15822359440858830763 : Nat := 0
def PySem.W.Fast.tw16001035166278406070 : Nat := 0
def PySem.W.Fast.tw16001067754250833707 : Nat := 0
def PySem.W.Fast.tw16037986098933530203 : Nat := 0
def PySem.W.Fast.tw16040573194853444917 : Nat := 0
def PySem.W.Fast.tw16130347408415478294 : Nat := 0
def PySem.W.Fast.tw16160908378433062390 : Nat := 0
def PySem.W.Fast.tw16182566059986630788 : Nat := 0
def PySem.W.Fast.tw16217083494799732875 : Nat := 0
def PySem.W.Fast.tw16470403492183622831 : Nat := 0
def PySem.W.Fast.tw16541758517227362999 : Nat := 0
def PySem.W.Fast.tw16642549378449932690 : Nat := 0
def PySem.W.Fast.tw16684107673259833924 : Nat := 0
def PySem.W.Fast.tw16734068841783726442 : Nat := 0
def PySem.W.Fast.tw16745376016864731633 : Nat := 0
def PySem.W.Fast.tw16814294355348948332 : Nat := 0
def PySem.W.Fast.tw16819867492816418843 : Nat := 0
def PySem.W.Fast.tw16881706091913135560 : Nat := 0
def PySem.W.Fast.tw16954819896878932475 : Nat := 0
def PySem.W.Fast.tw16986748947360573305 : Nat := 0
def PySem.W.Fast.tw17003258078401341587 : Nat := 0
def PySem.W.Fast.tw1703602715868266711 : Nat := 0
def PySem.W.Fast.tw1705050939376383609 : Nat := 0
def PySem.W.Fast.tw17103053567069328086 : Nat := 0
def PySem.W.Fast.tw17106686999408512370 : Nat := 0
def PySem.W.Fast.tw17164833624727298165 : Nat := 0
def PySem.W.Fast.tw17242355393134186269 : Nat := 0
def PySem.W.Fast.tw17265500787705909972 : Nat := 0
def PySem.W.Fast.tw1729866706975506338 : Nat := 0
def PySem.W.Fast.tw17334195863789077397 : Nat := 0
def PySem.W.Fast.tw17413405825147730927 : Nat := 0
def PySem.W.Fast.tw17437743661642024500 : Nat := 0
def PySem.W.Fast.tw17466757579942206636 : Nat := 0
def PySem.W.Fast.tw17475220818241324292 : Nat := 0
def PySem.W.Fast.tw17615570162359377455 : Nat := 0
def PySem.W.Fast.tw17638700342923728815 : Nat := 0
def PySem.W.Fast.tw17639229699884075217 : Nat := 0
def PySem.W.Fast.tw17661605341705897514 : Nat := 0
def PySem.W.Fast.tw17685265811244492555 : Nat := 0
def PySem.W.Fast.tw17696832430288067644 : Nat := 0
def PySem.W.Fast.tw177257034127711434 : Nat := 0
def PySem.W.Fast.tw17840542032392693458 : Nat := 0
def PySem.W.Fast.tw17848594930288093985 : Nat := 0
def PySem.W.Fast.tw17877568923101634199 : Nat := 0
def PySem.W.Fast.tw1791134842637555997 : Nat := 0
def PySem.W.Fast.tw179661184198017180 : Nat := 0
def PySem.W.Fast.tw18001990470446636821 : Nat := 0
def PySem.W.Fast.tw18050942008923951075 : Nat := 0
def PySem.W.Fast.tw18068607201952851382 : Nat := 0
def PySem.W.Fast.tw18099264623283305673 : Nat := 0
def PySem.W.Fast.tw18159192214059880465 : Nat := 0
def PySem.W.Fast.tw18162887101989967339 : Nat := 0
def PySem.W.Fast.tw1817014099105511864 : Nat := 0
def PySem.W.Fast.tw18215830703212263733 : Nat := 0
def PySem.W.Fast.tw18249087765399085038 : Nat := 0
def PySem.W.Fast.tw18333814956918468223 : Nat := 0
def PySem.W.Fast.tw1853748671262916080 : Nat := 0
def PySem.W.Fast.tw1905801172349391293 : Nat := 0
def PySem.W.Fast.tw1939251142666611716 : Nat := 0
def PySem.W.Fast.tw1943835439985319888 : Nat := 0
def PySem.W.Fast.tw1959431630212158730 : Nat := 0
def PySem.W.Fast.tw1966425313533818406 : Nat := 0
def PySem.W.Fast.tw199918936269052181 : Nat := 0
def PySem.W.Fast.tw2000024720150552707 : Nat := 0
def PySem.W.Fast.tw2015172866377688114 : Nat := 0
def PySem.W.Fast.tw2054451659914236384 : Nat := 0
def PySem.W.Fast.tw2057602265300982741 : Nat := 0
def PySem.W.Fast.tw2178463893349100639 : Nat := 0
def PySem.W.Fast.tw2201205588769995106 : Nat := 0
def PySem.W.Fast.tw2226847060322666569 : Nat := 0
def PySem.W.Fast.tw2229875911239961285 : Nat := 0
def PySem.W.Fast.tw2292854079299923453 : Nat := 0
def PySem.W.Fast.tw2299753998953655085 : Nat := 0
def PySem.W.Fast.tw2400892971839587358 : Nat := 0
def PySem.W.Fast.tw2461121545182782284 : Nat := 0
def PySem.W.Fast.tw2477386207799567032 : Nat := 0
def PySem.W.Fast.tw2479993294626519706 : Nat := 0
def PySem.W.Fast.tw2569039819759267673 : Nat := 0
def PySem.W.Fast.tw2600877077731053097 : Nat := 0
def PySem.W.Fast.tw2635081260768776032 : Nat := 0
def PySem.W.Fast.tw2657463341776573192 : Nat := 0
def PySem.W.Fast.tw2686226556764647461 : Nat := 0
def PySem.W.Fast.tw276580694047874055 : Nat := 0
def PySem.W.Fast.tw2820074287834240295 : Nat := 0
def PySem.W.Fast.tw284051833736850352 : Nat := 0
def PySem.W.Fast.tw2862976958933376402 : Nat := 0
def PySem.W.Fast.tw3009786708361645994 : Nat := 0
def PySem.W.Fast.tw3052495787779992052 : Nat := 0
def PySem.W.Fast.tw3063238182488308055 : Nat := 0
def PySem.W.Fast.tw3102772780280076964 : Nat := 0
def PySem.W.Fast.tw3181732267763090440 : Nat := 0
def PySem.W.Fast.tw3184669947896204060 : Nat := 0
def PySem.W.Fast.tw3231150605402061208 : Nat := 0
def PySem.W.Fast.tw3339397867761350977 : Nat := 0
def PySem.W.Fast.tw3380388373422495821 : Nat := 0
def PySem.W.Fast.tw3405366921454918720 : Nat := 0
def PySem.W.Fast.tw3406374867627095606 : Nat := 0
def PySem.W.Fast.tw341443368182314223 : Nat := 0
def PySem.W.Fast.tw3418976858925819204 : Nat := 0
def PySem.W.Fast.tw3455335377076873029 : Nat := 0
def PySem.W.Fast.tw3540441524397119853 : Nat := 0
def PySem.W.Fast.tw3563043543469346344 : Nat := 0
def PySem.W.Fast.tw3634117727882954506 : Nat := 0
def PySem.W.Fast.tw3664156670020195087 : Nat := 0
def PySem.W.Fast.tw3695338059033708271 : Nat := 0
def PySem.W.Fast.tw3784566155916377778 : Nat := 0
def PySem.W.Fast.tw3786876407863162482 : Nat := 0
def PySem.W.Fast.tw3795957818259178674 : Nat := 0
def PySem.W.Fast.tw3833881932044569646 : Nat := 0
def PySem.W.Fast.tw3905964020659104904 : Nat := 0
def PySem.W.Fast.tw4038953488027508396 : Nat := 0
def PySem.W.Fast.tw4085163681295627309 : Nat := 0
def PySem.W.Fast.tw4223458641049510974 : Nat := 0
def PySem.W.Fast.tw4230585420229512985 : Nat := 0
def PySem.W.Fast.tw4243163768093200031 : Nat := 0
def PySem.W.Fast.tw4255256892752513482 : Nat := 0
def PySem.W.Fast.tw4401600314822328580 : Nat := 0
def PySem.W.Fast.tw445875608932724104 : Nat := 0
def PySem.W.Fast.tw4503742486414247489 : Nat := 0
def PySem.W.Fast.tw4530957085079763300 : Nat := 0
def PySem.W.Fast.tw4567250276632584064 : Nat := 0
def PySem.W.Fast.tw4590363005779224833 : Nat := 0
def PySem.W.Fast.tw459801751438294871 : Nat := 0
def PySem.W.Fast.tw4599598146119501346 : Nat := 0
def PySem.W.Fast.tw4618134249613916084 : Nat := 0
def PySem.W.Fast.tw465448771255429807 : Nat := 0
def PySem.W.Fast.tw4726789592073004642 : Nat := 0
def PySem.W.Fast.tw4801631262734772271 : Nat := 0
def PySem.W.Fast.tw481374682931520981 : Nat := 0
def PySem.W.Fast.tw4891744176853692888 : Nat := 0
def PySem.W.Fast.tw4937866274814441891 : Nat := 0
def PySem.W.Fast.tw4968060292153457469 : Nat := 0
def PySem.W.Fast.tw5004132980804861466 : Nat := 0
def PySem.W.Fast.tw5013001801386416080 : Nat := 0
def PySem.W.Fast.tw5102428703061108198 : Nat := 0
def PySem.W.Fast.tw5169024810217873328 : Nat := 0
def PySem.W.Fast.tw517595600577173011 : Nat := 0
def PySem.W.Fast.tw5232495764992553652 : Nat := 0
def PySem.W.Fast.tw5297481823423549070 : Nat := 0
def PySem.W.Fast.tw5436158228586001358 : Nat := 0
def PySem.W.Fast.tw5461699618999434471 : Nat := 0
def PySem.W.Fast.tw547103588730474421 : Nat := 0
def PySem.W.Fast.tw5532988494216888245 : Nat := 0
def PySem.W.Fast.tw56376840631941631 : Nat := 0
def PySem.W.Fast.tw5648027868516404308 : Nat := 0
def PySem.W.Fast.tw5720004937875253557 : Nat := 0
def PySem.W.Fast.tw5744571955719139956 : Nat := 0
def PySem.W.Fast.tw5824262950310989576 : Nat := 0
def PySem.W.Fast.tw5842670820068519597 : Nat := 0
def PySem.W.Fast.tw5846609658751223151 : Nat := 0
def PySem.W.Fast.tw5873960967446109694 : Nat := 0
def PySem.W.Fast.tw5877054856140321144 : Nat := 0
def PySem.W.Fast.tw5925271514024524681 : Nat := 0
def PySem.W.Fast.tw5930097841125096586 : Nat := 0
def PySem.W.Fast.tw5939978408553020476 : Nat := 0
def PySem.W.Fast.tw6012452371585293050 : Nat := 0
def PySem.W.Fast.tw6016042843738366388 : Nat := 0
def PySem.W.Fast.tw6068861911668003784 : Nat := 0
def PySem.W.Fast.tw6130585452565724169 : Nat := 0
def PySem.W.Fast.tw6137174506126811508 : Nat := 0
def PySem.W.Fast.tw6143545171076631129 : Nat := 0
def PySem.W.Fast.tw6155900228456168040 : Nat := 0
def PySem.W.Fast.tw6161448847804081865 : Nat := 0
def PySem.W.Fast.tw6234772757861624005 : Nat := 0
def PySem.W.Fast.tw6335652796988637893 : Nat := 0
def PySem.W.Fast.tw6409585436066890296 : Nat := 0
def PySem.W.Fast.tw6415998380645371299 : Nat := 0
def PySem.W.Fast.tw6450557698767277836 : Nat := 0
def PySem.W.Fast.tw6508764422012681048 : Nat := 0
def PySem.W.Fast.tw6516325111764859943 : Nat := 0
def PySem.W.Fast.tw6588274030968267988 : Nat := 0
def PySem.W.Fast.tw6589857912049627364 : Nat := 0
def PySem.W.Fast.tw6618662028369753384 : Nat := 0
def PySem.W.Fast.tw6635970287281133342 : Nat := 0
def PySem.W.Fast.tw6648254117417027530 : Nat := 0
def PySem.W.Fast.tw6666853870842909323 : Nat := 0
def PySem.W.Fast.tw6689300223333785879 : Nat := 0
def PySem.W.Fast.tw6718644135664329749 : Nat := 0
def PySem.W.Fast.tw6729454806028208575 : Nat := 0
def PySem.W.Fast.tw6777429313582498797 : Nat := 0
def PySem.W.Fast.tw6783333843362851969 : Nat := 0
def PySem.W.Fast.tw6788193616213919686 : Nat := 0
def PySem.W.Fast.tw6851352131311946389 : Nat := 0
def PySem.W.Fast.tw6894981636323969318 : Nat := 0
def PySem.W.Fast.tw6926438445962269963 : Nat := 0
def PySem.W.Fast.tw7020331682297807967 : Nat := 0
def PySem.W.Fast.tw7044458100058738737 : Nat := 0
def PySem.W.Fast.tw7052741715548644380 : Nat := 0
def PySem.W.Fast.tw7084237729210478618 : Nat := 0
def PySem.W.Fast.tw7128436869267551145 : Nat := 0
def PySem.W.Fast.tw717783935494635325 : Nat := 0
def PySem.W.Fast.tw726865872820908026 : Nat := 0
def PySem.W.Fast.tw7286907381462637887 : Nat := 0
def PySem.W.Fast.tw7300535242444078231 : Nat := 0
def PySem.W.Fast.tw7328676472862063668 : Nat := 0
def PySem.W.Fast.tw7447432731508647601 : Nat := 0
def PySem.W.Fast.tw7460798555981819184 : Nat := 0
def PySem.W.Fast.tw7544286466228871960 : Nat := 0
def PySem.W.Fast.tw7548240213908838442 : Nat := 0
def PySem.W.Fast.tw7588663066915460680 : Nat := 0
def PySem.W.Fast.tw7604405666565977263 : Nat := 0
def PySem.W.Fast.tw7653088479111496569 : Nat := 0
def PySem.W.Fast.tw7658518311549952769 : Nat := 0
def PySem.W.Fast.tw7720461466705826343 : Nat := 0
def PySem.W.Fast.tw7756502988078338273 : Nat := 0
def PySem.W.Fast.tw7817353412156427369 : Nat := 0
def PySem.W.Fast.tw7831974389962483512 : Nat := 0
def PySem.W.Fast.tw7985789981761594293 : Nat := 0
def PySem.W.Fast.tw8046063128721864583 : Nat := 0
def PySem.W.Fast.tw8049090732376738148 : Nat := 0
def PySem.W.Fast.tw8096961776379441439 : Nat := 0
def PySem.W.Fast.tw8192301843095459596 : Nat := 0
def PySem.W.Fast.tw8217395271791052151 : Nat := 0
def PySem.W.Fast.tw8240775560226702614 : Nat := 0
def PySem.W.Fast.tw8252408214244969646 : Nat := 0
def PySem.W.Fast.tw8330808492935849941 : Nat := 0
def PySem.W.Fast.tw8331206972460515238 : Nat := 0
def PySem.W.Fast.tw8391020548305438984 : Nat := 0
def PySem.W.Fast.tw8422547841167137940 : Nat := 0
def PySem.W.Fast.tw8455574504872607388 : Nat := 0
def PySem.W.Fast.tw8458361338855187822 : Nat := 0
def PySem.W.Fast.tw8473299778963703337 : Nat := 0
def PySem.W.Fast.tw8502187169560553510 : Nat := 0
def PySem.W.Fast.tw8535335429373801469 : Nat := 0
def PySem.W.Fast.tw8541647106196448073 : Nat := 0
def PySem.W.Fast.tw8619451319303113910 : Nat := 0
def PySem.W.Fast.tw865394449521092217 : Nat := 0
def PySem.W.Fast.tw8706156457048497822 : Nat := 0
def PySem.W.Fast.tw8775268039001458089 : Nat := 0
def PySem.W.Fast.tw8801023269782545897 : Nat := 0
def PySem.W.Fast.tw8816601289263815265 : Nat := 0
def PySem.W.Fast.tw8990733381568761159 : Nat := 0
def PySem.W.Fast.tw8998599798525089408 : Nat := 0
def PySem.W.Fast.tw9074856519259022624 : Nat := 0
def PySem.W.Fast.tw908585588201518044 : Nat := 0
def PySem.W.Fast.tw9115943278270374865 : Nat := 0
def PySem.W.Fast.tw9146797185339677203 : Nat := 0
def PySem.W.Fast.tw9242098400133786455 : Nat := 0
def PySem.W.Fast.tw951283621063614367 : Nat := 0
def PySem.W.Fast.tw9522323698636027328 : Nat := 0
def PySem.W.Fast.tw9541702904109910976 : Nat := 0
def PySem.W.Fast.tw962868556908888373 : Nat := 0
def PySem.W.Fast.tw9638168391020020049 : Nat := 0
def PySem.W.Fast.tw970229362426830986 : Nat := 0
def PySem.W.Fast.tw9718162035668914172 : Nat := 0
def PySem.W.Fast.tw97567685393393781 : Nat := 0
def PySem.W.Fast.tw9775561574197344169 : Nat := 0
def PySem.W.Fast.tw9818773245885216938 : Nat := 0
def PySem.W.Fast.tw9829699790003287503 : Nat := 0
def PySem.W.Fast.tw9956861160298312698 : Nat := 0
def PySem.W.Fast.tw9988624099754880112 : Nat := 0
def PySem.W.Fast.tw9997315507344405938 : Nat := 0
set_option maxRecDepth 100000 in
set_option maxHeartbeats 0 in
theorem PySem.Challenge.cw_slackchain_k23_least_sums_reached_holds : PySem.Challenge.rw_slackchain_k23_least_sums_reached.Holds := by
 w_on; o_law; k_head; (case hw => w_witness2)
 k_fill
 refine Prg.walk (l:=PySem.Challenge.rw_slackchain_k23_least_sums_reached) rfl rfl (fun w h Y => PySem.W.kIn_of Y) ?F
 case F =>
  intro w mg fa h KX G hmg
  refine' Prg.all_mk KX G hmg ?g_NoTie ?g_Tie ?g_Free ?g_AtLeast ?g_AtMost ?g_Just ?g_Between ?Bbu ?g_Step ?a1 ?l1 ?c1 ?k1 ?a2 ?l2 ?c2 ?k2 ?a3 ?l3 ?c3 ?k3 ?a4 ?l4 ?c4 ?k4 ?a5 ?l5 ?c5 ?k5 ?a6 ?l6 ?c6 ?k6 ?a7 ?l7 ?c7 ?k7 ?a8 ?l8 ?c8 ?k8 ?a9 ?l9 ?c9 ?k9 ?a10 ?l10 ?c10 ?k10 ?a11 ?l11 ?c11 ?k11 ?a12 ?l12 ?c12 ?k12 ?a13 ?l13 ?c13 ?k13 ?a14 ?l14 ?c14 ?k14 ?a15 ?l15 ?c15 ?k15 ?a16 ?l16 ?c16 ?k16 ?a17 ?l17 ?c17 ?k17 ?a18 ?l18 ?c18 ?k18 ?a19 ?l19 ?c19 ?k19 ?a20 ?l20 ?c20 ?k20 ?a21 ?l21 ?c21 ?k21 ?a22 ?l22 ?c22 ?k22 ?a23 ?l23 ?c23 ?k23 ?a24 ?l24 ?c24 ?k24 ?a25 ?l25 ?c25 ?k25 ?a26 ?l26 ?c26 ?k26 ?a27 ?l27 ?c27 ?k27 ?a28 ?l28 ?c28 ?k28 ?a29 ?l29 ?c29 ?k29 ?a30 ?l30 ?c30 ?k30 ?a31 ?l31 ?c31 ?k31 ?a32 ?l32 ?c32 ?k32 ?a33 ?l33 ?c33 ?k33 ?a34 ?l34 ?c34 ?k34 ?z_abs ?z_isinstance ?z_len ?z_all ?z_int ?z_bool ?z_tuple ?z_str ?z_range ?z_list ?z_reversed ?z_sorted ?z_set ?BaH ?BaK ?BbG ?h_ZERO ?x_NoTie ?mk_Free ?mi_Free ?mf_Free ?mp_Free ?me_steps_Free ?mk_AtLeast ?mi_AtLeast ?mf_AtLeast ?mp_AtLeast ?me_steps_AtLeast ?mk_AtMost ?mi_AtMost ?mf_AtMost ?mp_AtMost ?me_steps_AtMost ?mk_Just ?mi_Just ?mf_Just ?mp_Just ?me_steps_Just ?mk_Between ?mi_Between ?mf_Between ?mp_Between ?me_steps_Between ?mm_steps ?Bbv ?Bbw ?Bbx ?Bby ?mk_Step ?mi_Step ?mf_Step ?mp_Step ?BaI ?BaJ ?cl1_Free ?cl2_Free ?cl3_Free ?cl4_Free ?na1_Free ?na2_Free ?na3_Free ?na4_Free ?na5_Free ?cl1_AtLeast ?cl2_AtLeast ?cl3_AtLeast ?cl4_AtLeast ?na1_AtLeast ?na2_AtLeast ?na3_AtLeast ?na4_AtLeast ?na5_AtLeast ?cl1_AtMost ?cl2_AtMost ?cl3_AtMost ?cl4_AtMost ?na1_AtMost ?na2_AtMost ?na3_AtMost ?na4_AtMost ?na5_AtMost ?cl1_Just ?cl2_Just ?cl3_Just ?cl4_Just ?na1_Just ?na2_Just ?na3_Just ?na4_Just ?na5_Just ?cl1_Between ?cl2_Between ?cl3_Between ?cl4_Between ?na1_Between ?na2_Between ?na3_Between ?na4_Between ?na5_Between ?BaR ?BaS ?BaT ?BaU ?BaV ?BaW ?cl1_Step ?cl2_Step ?cl3_Step ?cl4_Step ?na1_Step ?na2_Step ?na3_Step ?na4_Step ?na5_Step
  (case g_NoTie => k_is)
  (case g_Tie => k_is)
  (case g_Free => k_is)
  (case g_AtLeast => k_is)
  (case g_AtMost => k_is)
  (case g_Just => k_is)
  (case g_Between => k_is)
  (case Bbu => k_is)
  (case g_Step => k_is)
  (case a1 => k_is)
  (case l1 => k_is)
  (case c1 => k_is)
  (case k1 => k_is)
  (case a2 => k_is)
  (case l2 => k_is)
  (case c2 => k_is)
  (case k2 => k_is)
  (case a3 => k_is)
  (case l3 => k_is)
  (case c3 => k_is)
  (case k3 => k_is)
  (case a4 => k_is)
  (case l4 => k_is)
  (case c4 => k_is)
  (case k4 => k_is)
  (case a5 => k_is)
  (case l5 => k_is)
  (case c5 => k_is)
  (case k5 => k_is)
  (case a6 => k_is)
  (case l6 => k_is)
  (case c6 => k_is)
  (case k6 => k_is)
  (case a7 => k_is)
  (case l7 => k_is)
  (case c7 => k_is)
  (case k7 => k_is)
  (case a8 => k_is)
  (case l8 => k_is)
  (case c8 => k_is)
  (case k8 => k_is)
  (case a9 => k_is)
  (case l9 => k_is)
  (case c9 => k_is)
  (case k9 => k_is)
  (case a10 => k_is)
  (case l10 => k_is)
  (case c10 => k_is)
  (case k10 => k_is)
  (case a11 => k_is)
  (case l11 => k_is)
  (case c11 => k_is)
  (case k11 => k_is)
  (case a12 => k_is)
  (case l12 => k_is)
  (case c12 => k_is)
  (case k12 => k_is)
  (case a13 => k_is)
  (case l13 => k_is)
  (case c13 => k_is)
  (case k13 => k_is)
  (case a14 => k_is)
  (case l14 => k_is)
  (case c14 => k_is)
  (case k14 => k_is)
  (case a15 => k_is)
  (case l15 => k_is)
  (case c15 => k_is)
  (case k15 => k_is)
  (case a16 => k_is)
  (case l16 => k_is)
  (case c16 => k_is)
  (case k16 => k_is)
  (case a17 => k_is)
  (case l17 => k_is)
  (case c17 => k_is)
  (case k17 => k_is)
  (case a18 => k_is)
  (case l18 => k_is)
  (case c18 => k_is)
  (case k18 => k_is)
  (case a19 => k_is)
  (case l19 => k_is)
  (case c19 => k_is)
  (case k19 => k_is)
  (case a20 => k_is)
  (case l20 => k_is)
  (case c20 => k_is)
  (case k20 => k_is)
  (case a21 => k_is)
  (case l21 => k_is)
  (case c21 => k_is)
  (case k21 => k_is)
  (case a22 => k_is)
  (case l22 => k_is)
  (case c22 => k_is)
  (case k22 => k_is)
  (case a23 => k_is)
  (case l23 => k_is)
  (case c23 => k_is)
  (case k23 => k_is)
  (case a24 => k_is)
  (case l24 => k_is)
  (case c24 => k_is)
  (case k24 => k_is)
  (case a25 => k_is)
  (case l25 => k_is)
  (case c25 => k_is)
  (case k25 => k_is)
  (case a26 => k_is)
  (case l26 => k_is)
  (case c26 => k_is)
  (case k26 => k_is)
  (case a27 => k_is)
  (case l27 => k_is)
  (case c27 => k_is)
  (case k27 => k_is)
  (case a28 => k_is)
  (case l28 => k_is)
  (case c28 => k_is)
  (case k28 => k_is)
  (case a29 => k_is)
  (case l29 => k_is)
  (case c29 => k_is)
  (case k29 => k_is)
  (case a30 => k_is)
  (case l30 => k_is)
  (case c30 => k_is)
  (case k30 => k_is)
  (case a31 => k_is)
  (case l31 => k_is)
  (case c31 => k_is)
  (case k31 => k_is)
  (case a32 => k_is)
  (case l32 => k_is)
  (case c32 => k_is)
  (case k32 => k_is)
  (case a33 => k_is)
  (case l33 => k_is)
  (case c33 => k_is)
  (case k33 => k_is)
  (case a34 => k_is)
  (case l34 => k_is)
  (case c34 => k_is)
  (case k34 => k_is)
  (case z_abs => k_is)
  (case z_isinstance => k_is)
  (case z_len => k_is)
  (case z_all => k_is)
  (case z_int => k_is)
  (case z_bool => k_is)
  (case z_tuple => k_is)
  (case z_str => k_is)
  (case z_range => k_is)
  (case z_list => k_is)
  (case z_reversed => k_is)
  (case z_sorted => k_is)
  (case z_set => k_is)
  (case BaH => k_is)
  (case BaK => k_is)
  (case BbG => k_is)
  (case h_ZERO => k_is)
  (case x_NoTie => k_exc)
  (case mk_Free => k_is)
  (case mi_Free => k_is)
  (case mf_Free => k_is)
  (case mp_Free => k_is)
  (case me_steps_Free => k_is)
  (case mk_AtLeast => k_is)
  (case mi_AtLeast => k_is)
  (case mf_AtLeast => k_is)
  (case mp_AtLeast => k_is)
  (case me_steps_AtLeast => k_is)
  (case mk_AtMost => k_is)
  (case mi_AtMost => k_is)
  (case mf_AtMost => k_is)
  (case mp_AtMost => k_is)
  (case me_steps_AtMost => k_is)
  (case mk_Just => k_is)
  (case mi_Just => k_is)
  (case mf_Just => k_is)
  (case mp_Just => k_is)
  (case me_steps_Just => k_is)
  (case mk_Between => k_is)
  (case mi_Between => k_is)
  (case mf_Between => k_is)
  (case mp_Between => k_is)
  (case me_steps_Between => k_is)
  (case mm_steps => k_is)
  (case Bbv => k_is)
  (case Bbw => k_is)
  (case Bbx => k_is)
  (case Bby => k_is)
  (case mk_Step => k_is)
  (case mi_Step => k_is)
  (case mf_Step => k_is)
  (case mp_Step => k_is)
  (case BaI => k_is)
  (case BaJ => k_is)
  (case cl1_Free => k_is)
  (case cl2_Free => k_is)
  (case cl3_Free => k_is)
  (case cl4_Free => k_is)
  (case na1_Free => k_is)
  (case na2_Free => k_is)
  (case na3_Free => k_is)
  (case na4_Free => k_is)
  (case na5_Free => k_is)
  (case cl1_AtLeast => k_is)
  (case cl2_AtLeast => k_is)
  (case cl3_AtLeast => k_is)
  (case cl4_AtLeast => k_is)
  (case na1_AtLeast => k_is)
  (case na2_AtLeast => k_is)
  (case na3_AtLeast => k_is)
  (case na4_AtLeast => k_is)
  (case na5_AtLeast => k_is)
  (case cl1_AtMost => k_is)
  (case cl2_AtMost => k_is)
  (case cl3_AtMost => k_is)
  (case cl4_AtMost => k_is)
  (case na1_AtMost => k_is)
  (case na2_AtMost => k_is)
  (case na3_AtMost => k_is)
  (case na4_AtMost => k_is)
  (case na5_AtMost => k_is)
  (case cl1_Just => k_is)
  (case cl2_Just => k_is)
  (case cl3_Just => k_is)
  (case cl4_Just => k_is)
  (case na1_Just => k_is)
  (case na2_Just => k_is)
  (case na3_Just => k_is)
  (case na4_Just => k_is)
  (case na5_Just => k_is)
  (case cl1_Between => k_is)
  (case cl2_Between => k_is)
  (case cl3_Between => k_is)
  (case cl4_Between => k_is)
  (case na1_Between => k_is)
  (case na2_Between => k_is)
  (case na3_Between => k_is)
  (case na4_Between => k_is)
  (case na5_Between => k_is)
  (case BaR => k_is)
  (case BaS => k_is)
  (case BaT => k_is)
  (case BaU => k_is)
  (case BaV => k_is)
  (case BaW => k_is)
  (case cl1_Step => k_is)
  (case cl2_Step => k_is)
  (case cl3_Step => k_is)
  (case cl4_Step => k_is)
  (case na1_Step => k_is)
  (case na2_Step => k_is)
  (case na3_Step => k_is)
  (case na4_Step => k_is)
  (case na5_Step => k_is)
