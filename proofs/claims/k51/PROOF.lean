import PyProof.Rows.All
import Wide.All
import OpenK.AllK
import Wide.FinOn
import Lean
import PyProof.EqAt
import PyProof.EqKinds
import PyProof.TupleCall
import PyProof.ZipIter
import PyProof.Rows.SetFrom
import PyProof.Rows.SortStr
import KE.KDictList
import PyProof.AttrMissHeap
import KE.KDictOf
import KE.KDictLaws
import KE.KRevIter
import PyProof.CollectIter
import PyProof.FactsAll.range_2
import PyProof.FactsAll.range_iterator_1
import PyProof.WalksEnum
import PyProof.EnumMake
import PyProof.Rows.Range3
import PySem.Challenge.RW_slackchain_k51_what_is_a_sharing
set_option Elab.async false
set_option linter.all false
set_option maxRecDepth 100000
namespace L2
open PySem PySem.Spec PyProof.Rows
abbrev Key:=Sum Bool Str
def isBoolOf:Bool→Value→Bool
 | b, .bool c => b == c
 | _,_ => false
theorem Jdu {b:Bool} {v:Value} (h:isBoolOf b v = true):v = .bool b:=by
 cases v <;> simp_all [isBoolOf]
def keyIs:Key→Value→Bool
 | .inl k,v => isBoolOf k v
 | .inr x,v => Value.isStrOf x v
def keyH (w:World):Key→Int
 | .inl k => hashInt (if k then 1 else 0)
 | .inr x => hashStr w x
theorem JaS:∀ {k:Key} {v:Value},keyIs k v = true→(∃ i,k = Sum.inl i∧v = Value.bool i) ∨ (∃ x t,k = Sum.inr x∧v = Value.str x t)
 | .inl i,v,h => .inl ⟨i,rfl,Jdu h⟩
 | .inr x,v,h => by
  obtain ⟨t,e⟩:=Value.isStrOf_shape (x:=x) (v:=v) h
  exact .inr ⟨x,t,rfl,e⟩
theorem JfZ (i:Bool):keyIs (.inl i) (.bool i) = true:=by simp [keyIs,isBoolOf]
theorem JgJ (x:Str) (t:Tok):keyIs (.inr x) (.str x t) = true:=by simp [keyIs,Value.isStrOf]
theorem Ji2 (a b:Bool):decide ((Sum.inl a:Key) = Sum.inl b) = (a == b):=by cases a <;> cases b <;> rfl
theorem Ji5 (a b:Str):decide ((Sum.inr a:Key) = Sum.inr b) = decide (a = b):=by
 by_cases e:a = b
 ·subst e; simp
 ·have h:¬ (Sum.inr a:Key) = Sum.inr b:=fun q => e (Sum.inr.inj q)
  rw [decide_eq_false h,decide_eq_false e]
theorem Ji3 (a:Bool) (b:Str):decide ((Sum.inl a:Key) = Sum.inr b) = false:=decide_eq_false (fun q => nomatch q)
theorem Ji4 (a:Str) (b:Bool):decide ((Sum.inr a:Key) = Sum.inl b) = false:=decide_eq_false (fun q => nomatch q)
theorem Jfi {prog:Program} {w:World} {A:Around} {E:Value→Shared→Prop} {s:Shared} {b:Bool} {Q:Int→Shared→Prop} (h:Q (hashInt (if b then 1 else 0)) { s with toks:=s.toks + 1 }) :
  wpAny (model prog w) A (pyHash (.bool b)) Q E s:=by
 have hr:=rawHash_range (if b then 1 else 0)
 have hT:s.TypeIs (.bool b) "bool":=rfl
 unfold pyHash
 have hv:[Value.bool b].any Value.onHeap = false:=rfl
 refine wpAny_bind ?_
 rw [cRoomFor,if_neg (by rw [hv]; exact Bool.false_ne_true)]; refine wpAny_pure ?_
 refine wpAny_bind (wpAny_specialOf hT F.slot_bool_hash.lookup ?_)
 show wpAny _ _ (if (some (Value.builtin "int.__hash__") == some Value.none) = true then _ else _) Q E s
 rw [if_neg (by rw [beq_builtin_none]; exact Bool.false_ne_true)]
 refine wpAny_bind (wpAny_specialOf hT F.slot_bool_hash.lookup ?_)
 show wpAny _ _ (callSpecialIfBoundUnlessNone? (.bool b) "__hash__" _ >>= _) Q E s
 refine wpAny_bind (wpAny_callSpecialIfBoundUnlessNone?_slot hT F.slot_bool_hash
  (wpAny_call_entry F.slot_bool_hash hT entry_int_hash
   (show wpAny _ _ (do ret (← mkInt (rawHash (if b then 1 else 0)))) _ _ s from wpAny_ret_mkInt ?_) (args_int_hash _)))
 show wpAny _ _ (if (decide (-(2:Int) ^ 63 ≤ rawHash (if b then 1 else 0)) && decide (rawHash (if b then 1 else 0) < 2 ^ 63)) = true then _ else _) Q E _
 rw [if_pos (by rw [decide_eq_true hr.1,decide_eq_true hr.2]; rfl)]
 exact wpAny_pure h
def JaQ (prog:Program) (w:World):PySem.KeyKind prog w Key where
 is:=keyIs
 hash:=keyH w
 inj:=fun v a b ha hb => by
  rcases JaS ha with ⟨i,rfl,rfl⟩ | ⟨x,t,rfl,rfl⟩
  ·rcases JaS hb with ⟨j,rfl,e⟩ | ⟨y,u,rfl,e⟩
   ·injection e with e1; rw [e1]
   ·exact nomatch e
  ·rcases JaS hb with ⟨j,rfl,e⟩ | ⟨y,u,rfl,e⟩
   ·exact nomatch e
   ·injection e with e1 _; rw [e1]
 byValue:=fun k v h => by
  rcases JaS h with ⟨i,rfl,rfl⟩ | ⟨x,t,rfl,rfl⟩ <;> rfl
 pyHash:=fun hv h => by
  rcases JaS hv with ⟨i,rfl,rfl⟩ | ⟨x,t,rfl,rfl⟩
  ·exact Jfi h
  ·exact wpAny_pyHash_str h
 eqBool:=fun hu hv h => by
  rcases JaS hu with ⟨i,rfl,rfl⟩ | ⟨x,t,rfl,rfl⟩
  ·rcases JaS hv with ⟨j,rfl,rfl⟩ | ⟨y,u,rfl,rfl⟩
   ·rw [Ji2] at h; exact SeqAt.EqAt.bool_bool i j _ _ _ _ h
   ·rw [Ji3] at h; exact SeqAt.EqAt.bool_str i y u _ _ _ _ h
  ·rcases JaS hv with ⟨j,rfl,rfl⟩ | ⟨y,u,rfl,rfl⟩
   ·rw [Ji4] at h; exact SeqAt.EqAt.str_bool x t j _ _ _ _ h
   ·rw [Ji5] at h; exact wpAny_eqBool_str h
 «strs»:=fun k x t v h => by
  rcases JaS h with ⟨i,rfl,e⟩ | ⟨y,u,rfl,e⟩
  ·exact nomatch e
  ·injection e with e1 _
   subst e1
   cases v <;> rfl
theorem JeA (prog:Program) (w:World) (i:Bool):(JaQ prog w).is (.inl i) (.bool i) = true:=JfZ i
theorem Je5 (prog:Program) (w:World) (x:Str) (t:Tok):(JaQ prog w).is (.inr x) (.str x t) = true:=JgJ x t
end L2
namespace L2
open PySem PySem.Spec PyProof.Rows
inductive V where
 | non | bl (b:Bool) | int (i:Int) | str (x:Str) | byt (b:Array UInt8) | flt (b:UInt64) | ref (a:Addr) | ty (n:String)
 deriving DecidableEq
def RelV:V→Value→Prop
 | .non,u => u = Value.none
 | .bl b,u => u = Value.bool b
 | .int i,u => ∃ t,u = Value.int i t
 | .str x,u => ∃ t,u = Value.str x t
 | .byt b,u => ∃ t,u = Value.bytes b t
 | .flt b,u => ∃ t,u = Value.float b t
 | .ref a,u => u = Value.ref a
 | .ty n,u => u = Value.type n
abbrev Vals:List V→List Value→Prop:=Paired RelV
theorem Vals.length {xs:List V} {us:List Value} (r:Vals xs us):xs.length = us.length:=Paired.length r
theorem Vals.get:∀ {xs:List V} {us:List Value} {i:Nat} {x:V},Vals xs us→xs[i]? = some x→∃ u,us[i]? = some u∧RelV x u
 | _,_,_,_, .nil,e => by simp at e
 | _,_,0,_, .cons r _,e => by simp at e; subst e; exact ⟨_,rfl,r⟩
 | _,_,i + 1,x, .cons _ t,e => by
  obtain ⟨u,h1,h2⟩:=Vals.get (i:=i) (x:=x) t (by simpa using e)
  exact ⟨u,by simpa using h1,h2⟩
theorem Vals.set {x:V} {u:Value} (r:RelV x u):∀ {xs:List V} {us:List Value} (i:Nat),Vals xs us→Vals (xs.set i x) (us.set i u)
 | _,_,_, .nil => .nil
 | _,_,0, .cons _ t => .cons r t
 | _,_,i + 1, .cons q t => .cons q (Vals.set r i t)
theorem Vals.append:∀ {xs ys:List V} {us ws:List Value},Vals xs us→Vals ys ws→Vals (xs ++ ys) (us ++ ws)
 | _,_,_,_, .nil,s => s
 | _,_,_,_, .cons r t,s => .cons r (Vals.append t s)
theorem Vals.take:∀ {xs:List V} {us:List Value} (n:Nat),Vals xs us→Vals (xs.take n) (us.take n)
 | _,_,0,_ => .nil
 | _,_,_ + 1, .nil => .nil
 | _,_,n + 1, .cons r t => .cons r (Vals.take n t)
theorem Vals.drop:∀ {xs:List V} {us:List Value} (n:Nat),Vals xs us→Vals (xs.drop n) (us.drop n)
 | _,_,0,r => r
 | _,_,_ + 1, .nil => .nil
 | _,_,n + 1, .cons _ t => Vals.drop n t
def RelO:Option V→Option Value→Prop
 | some v,some u => RelV v u
 | none,none => True
 | _,_ => False
def KV {κ : Type}:List (κ × V)→List (κ × Value)→Prop:=Paired fun (p : κ × V) (q : κ × Value) => p.1 = q.1∧RelV p.2 q.2
def kV:Key→V
 | .inl i => .bl i
 | .inr x => .str x
inductive HO where
 | lst (xs:List V)
 | tup (xs:List V)
 | dK (kvs:List (Key × V)) | dT (kvs:List (List Key × V))
 | set (S:Int→Bool) (n:Nat)
 | ins (C dx:Addr) (fs:List (Str × V))
 | own (x:Addr)
 | xd (fs:List (Str × V))
 | met (f x:Addr)
 | rng (lo hi:Int)
 | frz (o:Obj) (u:HO)
 | tbl (ps:Array Value)
 | ext (φ : Heap→Prop)
abbrev Hp:=Addr→Option HO
def upd (H:Hp) (a:Addr) (o:HO):Hp:=fun b => if b = a then some o else H b
theorem Jak {H:Hp} {a:Addr} {o:HO}:upd H a o a = some o:=by unfold upd; rw [if_pos rfl]
theorem Jah {H:Hp} {a b:Addr} {o:HO} (h:b ≠ a):upd H a o b = H b:=by unfold upd; rw [if_neg h]
theorem ne_of {H:Hp} {a b:Addr} {o u:HO} (h:H a = some o) (h':H b = some u) (d:o ≠ u):a ≠ b:=by
 intro e; subst e; rw [h] at h'; exact d (Option.some.inj h')
theorem Jag {H:Hp} {a b:Addr} {o:HO} (h:H a = some o) (h':H b = none):a ≠ b:=by
 intro e; subst e; rw [h] at h'; cases h'
section
variable (P:Program) (w:World)
def ObjOk (H:Hp) (h:Heap) (a:Addr):HO→Prop
 | .lst xs => xs.length ≤ sizeLine∧∃ (its:List Value) (n:Nat),Vals xs its∧h.get? a = some { cls:=.type "list",data:=.seq its.toArray n }
 | .tup xs => xs.length ≤ sizeLine∧∃ its:List Value,Vals xs its∧IsTup h a its.toArray
 | .dK kvs => kvs.length ≤ sizeLine∧(a == sysModules) = false∧∃ vs,KV kvs vs∧h.DictOf (JaQ P w) a vs
 | .dT kvs => kvs.length ≤ sizeLine∧(a == sysModules) = false∧∃ xs:List (List Key × Addr × Value),
   Paired (fun (p:List Key × V) (q:List Key × Addr × Value) => p.1 = q.1∧H q.2.1 = some (.tup (p.1.map kV))∧RelV p.2 q.2.2) kvs xs ∧
   ∃ o es ep,h.get? a = some o∧o.ExactDict∧o.data = .dict es ep∧es.toList = xs.map (entryOfKey (tupleKind (JaQ P w)))∧(xs.map (·.1)).Nodup
 | .set S n => h.SetOf (intKind P w) a S n
 | .ins C dx fs => H dx = some (.own a)∧fs.length ≤ 1000∧dx ≠ a∧h.get? a = some (PySem.W.instObj C dx) ∧
   ∃ mA,h.Ns1 dx mA∧(∀ f,RelO (fs.lookup f) (mA f))∧PySem.Within mA (fs.map (·.1))
 | .own _ => ∃ o,h.get? a = some o
 | .xd fs => ∃ mA,h.Ns1 a mA∧∀ f,RelO (fs.lookup f) (mA f)
 | .rng lo hi => ∃ t u v,h.get? a = some { cls:=.type "range",data:=.fields #[.int lo t, .int hi u, .int 1 v] }
 | .frz o u => h.get? a = some o∧ObjOk H h a u
 | .tbl ps => h.get? a = some { cls:=.none,data:=.fields ps }
 | .met f x => h.get? a = some (PySem.W.methodObj (.ref f) (.ref x))
 | .ext φ => φ h∧(∃ o,h.get? a = some o)∧∀ h1 h2:Heap, φ h1→(∀ o,h1.get? a = some o→h2.get? a = some o)→φ h2
def HOk (H:Hp) (h:Heap):Prop:=∀ a o,H a = some o→ObjOk P w H h a o
end
section
variable {P:Program} {w:World} {H H':Hp} {h h':Heap} {a:Addr} {o:HO}
theorem ObjOk.lt (x:ObjOk P w H h a o):a < h.objs.size:=by
 cases o with
 | lst xs => obtain ⟨_,_,_,_,e⟩:=x; exact Heap.lt_size e
 | tup xs => obtain ⟨_,_,_,p⟩:=x; exact p.lt
 | dK kvs => obtain ⟨_,_,_,_,o,_,_,e,_⟩:=x; exact Heap.lt_size e
 | dT kvs => obtain ⟨_,_,_,_,o,_,_,e,_⟩:=x; exact Heap.lt_size e
 | set S n => obtain ⟨o,_,_,_,e,_⟩:=x; exact Heap.lt_size e
 | ins C dx fs => obtain ⟨_,_,_,e,_⟩:=x; exact Heap.lt_size e
 | own y => obtain ⟨_,e⟩:=x; exact Heap.lt_size e
 | xd fs => obtain ⟨_,⟨_,_,_,e,_⟩,_⟩:=x; exact Heap.lt_size e
 | rng lo hi => obtain ⟨_,_,_,e⟩:=x; exact Heap.lt_size e
 | frz ob u => obtain ⟨e,_⟩:=x; exact Heap.lt_size e
 | tbl ps => exact Heap.lt_size (show h.get? a = some _ from x)
 | met f y => exact Heap.lt_size (show h.get? a = some _ from x)
 | ext φ => obtain ⟨_,⟨_,e⟩,_⟩:=x; exact Heap.lt_size e
theorem Paired.mapP {α β : Type} {F G : α→β→Prop}:∀ {l₁ : List α} {l₂ : List β},Paired F l₁ l₂→(∀ a b,F a b→G a b)→Paired G l₁ l₂
 | _,_, .nil,_ => .nil
 | _,_, .cons r t,f => .cons (f _ _ r) (Paired.mapP t f)
theorem ObjOk.stay (x:ObjOk P w H h a o) (k:∀ b u,(b = a ∨ H b = some (.own a))→h.get? b = some u→h'.get? b = some u)
  (ho:∀ b,H b = some (.own a)→H' b = some (.own a)) (ht:∀ b xs,H b = some (.tup xs)→H' b = some (.tup xs)):ObjOk P w H' h' a o:=by
 induction o with
 | lst xs => obtain ⟨z,its,n,r,e⟩:=x; exact ⟨z,its,n,r,k _ _ (.inl rfl) e⟩
 | tup xs => obtain ⟨z,its,r,ob,e,c⟩:=x; exact ⟨z,its,r,ob,k _ _ (.inl rfl) e,c⟩
 | dK kvs => obtain ⟨z,y,vs,r,ob,es,ep,e,c⟩:=x; exact ⟨z,y,vs,r,ob,es,ep,k _ _ (.inl rfl) e,c⟩
 | dT kvs =>
  obtain ⟨z,y,xs,r,ob,es,ep,e,c⟩:=x
  exact ⟨z,y,xs,Paired.mapP r fun p q z => ⟨z.1,ht _ _ z.2.1,z.2.2⟩,ob,es,ep,k _ _ (.inl rfl) e,c⟩
 | set S n => obtain ⟨ob,es,ep,t,e,c⟩:=x; exact ⟨ob,es,ep,t,k _ _ (.inl rfl) e,c⟩
 | ins C dx fs =>
  obtain ⟨d,z,ne,e,mA,⟨od,es,ep,e2,c⟩,r⟩:=x
  exact ⟨ho _ d,z,ne,k _ _ (.inl rfl) e,mA,⟨od,es,ep,k _ _ (.inr d) e2,c⟩,r⟩
 | own y => obtain ⟨ob,e⟩:=x; exact ⟨ob,k _ _ (.inl rfl) e⟩
 | xd fs => obtain ⟨mA,⟨od,es,ep,e,c⟩,r⟩:=x; exact ⟨mA,⟨od,es,ep,k _ _ (.inl rfl) e,c⟩,r⟩
 | rng lo hi => obtain ⟨t,u,v,e⟩:=x; exact ⟨t,u,v,k _ _ (.inl rfl) e⟩
 | frz ob u ih => obtain ⟨e,q⟩:=x; exact ⟨k _ _ (.inl rfl) e,ih q⟩
 | tbl ps =>
  have e:h.get? a = some { cls:=.none,data:=.fields ps }:=x
  show h'.get? a = some { cls:=.none,data:=.fields ps }
  exact k a _ (.inl rfl) e
 | met f y =>
  have e:h.get? a = some (PySem.W.methodObj (.ref f) (.ref y)):=x
  show h'.get? a = some (PySem.W.methodObj (.ref f) (.ref y))
  exact k a _ (.inl rfl) e
 | ext φ => obtain ⟨p,⟨o,e⟩,st⟩:=x; exact ⟨st _ _ p fun o q => k _ _ (.inl rfl) q,⟨o,k _ _ (.inl rfl) e⟩,st⟩
theorem HOk.lt (x:HOk P w H h) (e:H a = some o):a < h.objs.size:=(x a o e).lt
theorem HOk.fresh (x:HOk P w H h) (e:h.objs.size ≤ a):H a = none:=by
 cases q:H a with
 | none => rfl
 | some u => exact absurd (Nat.lt_of_lt_of_le (x.lt q) e) (Nat.lt_irrefl _)
theorem HOk.kept (x:HOk P w H h) (k:∀ b u,h.get? b = some u→h'.get? b = some u):HOk P w H h':=fun a o e =>
 (x a o e).stay (fun b u _ q => k b u q) (fun _ q => q) fun _ _ q => q
theorem HOk.laid (x:HOk P w H h) (k:∀ b u,h.get? b = some u→h'.get? b = some u) (hp:h.objs.size ≤ a) (new:ObjOk P w (upd H a o) h' a o):HOk P w (upd H a o) h':=fun b u e => by
 have hn:=x.fresh hp
 by_cases hb:b = a
 ·subst hb; rw [Jak] at e; cases e; exact new
 ·rw [Jah hb] at e
  exact (x b u e).stay (fun c v _ q => k c v q) (fun c q => by rw [Jah (Jag q hn)]; exact q) fun c xs q => by rw [Jah (Jag q hn)]; exact q
end
def Rd (H:Hp) (a:Addr) (u:HO):Prop:=H a = some u ∨ ∃ o,H a = some (.frz o u)
theorem Rd.ok {P:Program} {w:World} {H:Hp} {h:Heap} {a:Addr} {u:HO} (r:Rd H a u) (x:HOk P w H h):ObjOk P w H h a u:=by
 rcases r with r | ⟨o,r⟩
 ·exact x a u r
 ·obtain ⟨_,q⟩:=x a _ r
  exact q
def Mut:Option HO→Prop
 | some (.lst _) => True
 | some (.dK _) => True
 | some (.dT _) => True
 | some (.set _ _) => True
 | some (.ins _ _ _) => True
 | some (.ext _) => True
 | _ => False
section
variable {P:Program} {w:World} {H:Hp} {h h':Heap} {x e:Addr} {o':HO}
theorem HOk.write (ok:HOk P w H h) (mu:Mut (H x)) (he:e = x ∨ H e = some (.own x)) (k:∀ b u,b ≠ e→h.get? b = some u→h'.get? b = some u) (heo:∃ u,h'.get? e = some u)
  (new:ObjOk P w (upd H x o') h' x o'):HOk P w (upd H x o') h':=fun b u q => by
 have nown:∀ c y,H c = some (.own y)→c ≠ x:=fun c y r z => by subst z; rw [r] at mu; exact mu
 have ntup:∀ c xs,H c = some (.tup xs)→c ≠ x:=fun c xs r z => by subst z; rw [r] at mu; exact mu
 by_cases hb:b = x
 ·subst hb; rw [Jak] at q; cases q; exact new
 ·rw [Jah hb] at q
  by_cases hbe:b = e
  ·have q':H b = some (.own x):=by
    rcases he with z | z
    ·exact absurd (hbe.trans z) hb
    ·rw [hbe]; exact z
   rw [q] at q'; cases q'
   obtain ⟨v,hv⟩:=heo
   exact ⟨v,by rw [hbe]; exact hv⟩
  ·refine (ok b u q).stay (fun c v hc r => k c v ?_ r) (fun c r => by rw [Jah (nown c b r)]; exact r) fun c xs r => by rw [Jah (ntup c xs r)]; exact r
   rcases hc with rfl | hc
   ·exact hbe
   ·rintro rfl
    rcases he with z | z
    ·exact nown c b hc z
    ·rw [hc] at z; cases z; exact hb rfl
end
structure Un (fs ex:List Addr) (H H':Hp) (h h':Heap):Prop where
 keep:∀ b o,h.get? b = some o→H b = none→b ∉ fs→b ∉ ex→h'.get? b = some o
 slot:∀ b o,h.get? b = some o→H b = none→b ∈ fs→b ∉ ex→∃ sl,h'.get? b = some { o with slots:=sl }
 free:∀ b o,h.get? b = some o→H b = none→b ∉ ex→H' b = none
 there:∀ b o,h.get? b = some o→b ∉ ex→∃ o',h'.get? b = some o'
 tups:∀ b xs,H b = some (.tup xs)→H' b = some (.tup xs)
 frzs:∀ b o u,H b = some (.frz o u)→H' b = some (.frz o u)
 tbls:∀ b ps,H b = some (.tbl ps)→∃ more,H' b = some (.tbl (ps ++ more))
section
variable {fs fs' ex ex':List Addr} {H H1 H2:Hp} {h h1 h2 h':Heap} {a x e:Addr} {o:HO}
theorem Un.any (u:Un fs ex H H1 h h1) {b:Addr} {ob:Obj} (q:h.get? b = some ob) (n:H b = none) (hx:b ∉ ex):∃ sl,h1.get? b = some { ob with slots:=sl }:=by
 by_cases hb:b ∈ fs
 ·exact u.slot b ob q n hb hx
 ·exact ⟨ob.slots,u.keep b ob q n hb hx⟩
theorem Un.trans (a:Un fs ex H H1 h h1) (b:Un fs ex H1 H2 h1 h2):Un fs ex H H2 h h2 where
 keep:=fun c ob q n hc hx => b.keep c ob (a.keep c ob q n hc hx) (a.free c ob q n hx) hc hx
 slot:=fun c ob q n hc hx => by
  obtain ⟨sl,e1⟩:=a.slot c ob q n hc hx
  obtain ⟨sl',e2⟩:=b.slot c _ e1 (a.free c ob q n hx) hc hx
  exact ⟨sl',e2⟩
 free:=fun c ob q n hx => by
  obtain ⟨o',e1⟩:=a.there c ob q hx
  exact b.free c o' e1 (a.free c ob q n hx) hx
 there:=fun c ob q hx => by
  obtain ⟨o',e1⟩:=a.there c ob q hx
  exact b.there c o' e1 hx
 tups:=fun c xs q => b.tups c xs (a.tups c xs q)
 frzs:=fun c ob xs q => b.frzs c ob xs (a.frzs c ob xs q)
 tbls:=fun c ps q => by
  obtain ⟨m1,e1⟩:=a.tbls c ps q
  obtain ⟨m2,e2⟩:=b.tbls c _ e1
  exact ⟨m1 ++ m2,by rw [e2,Array.append_assoc]⟩
theorem Un.kept (k:∀ b u,h.get? b = some u→h'.get? b = some u):Un fs ex H H h h' :=
 ⟨fun b ob q _ _ _ => k b ob q,fun b ob q _ _ _ => ⟨ob.slots,k b ob q⟩,fun _ _ _ n _ => n,fun b ob q _ => ⟨ob,k b ob q⟩,fun _ _ q => q,fun _ _ _ q => q,fun _ ps q => ⟨#[],by rw [q]; simp⟩⟩
theorem Un.refl:Un fs ex H H h h:=Un.kept fun _ _ q => q
theorem Un.laid (k:∀ b u,h.get? b = some u→h'.get? b = some u) (hp:h.objs.size ≤ a) (hn:H a = none):Un fs ex H (upd H a o) h h' where
 keep:=fun b u q _ _ _ => k b u q
 slot:=fun b u q _ _ _ => ⟨u.slots,k b u q⟩
 free:=fun b u q n _ => by rw [Jah (Nat.ne_of_lt (Nat.lt_of_lt_of_le (Heap.lt_size q) hp))]; exact n
 there:=fun b u q _ => ⟨u,k b u q⟩
 tups:=fun b xs q => by rw [Jah (Jag q hn)]; exact q
 frzs:=fun b u xs q => by rw [Jah (Jag q hn)]; exact q
 tbls:=fun b ps q => ⟨#[],by rw [Jah (Jag q hn),q]; simp⟩
theorem Un.write (mu:Mut (H x)) (he:e = x ∨ H e = some (.own x)) (k:∀ b u,b ≠ e→h.get? b = some u→h'.get? b = some u) (heo:∃ u,h'.get? e = some u):Un fs ex H (upd H x o) h h':=by
 have hx:∀ b,H b = none→b ≠ x:=fun b n z => by subst z; rw [n] at mu; exact mu
 have hb:∀ b,H b = none→b ≠ e:=fun b n z => by
  subst z
  rcases he with r | r
  ·exact hx b n r
  ·rw [n] at r; cases r
 have hm:∀ b u,H b = some u→¬ Mut (some u)→b ≠ x:=fun b u q nm z => by subst z; rw [q] at mu; exact nm mu
 refine ⟨fun b u q n _ _ => k b u (hb b n) q,fun b u q n _ _ => ⟨u.slots,k b u (hb b n) q⟩,fun b u q n _ => by rw [Jah (hx b n)]; exact n,fun b u q _ => ?_,
  fun b xs q => by rw [Jah (hm b _ q fun z => z)]; exact q,fun b u xs q => by rw [Jah (hm b _ q fun z => z)]; exact q,fun b ps q => ⟨#[],by rw [Jah (hm b _ q fun z => z),q]; simp⟩⟩
 by_cases hbe:b = e
 ·subst hbe; exact heo
 ·exact ⟨u,k b u hbe q⟩
end
def trk (h:Heap) (H:Hp):List Addr:=(List.range h.objs.size).filter fun a => (H a).isSome
def hidT (h:Heap) (H:Hp):Heap:=PySem.W.hideAll h (trk h H)
theorem JgG (h:Heap) (H:Hp):(hidT h H).objs.size = h.objs.size:=PySem.W.hideAll_size _ _
theorem Jhq {h:Heap} {H:Hp} {b:Addr} {o:Obj} (e:h.get? b = some o) (n:H b = none):(hidT h H).get? b = some o :=
 PySem.W.hideAll_get _ e fun hm => by
  have q:(H b).isSome = true:=(List.mem_filter.mp hm).2
  rw [n] at q; simp at q
theorem Jir {h:Heap} {H:Hp} {b:Addr} {o:Obj} (e:(hidT h H).get? b = some o):h.get? b = some o∧H b = none:=by
 have e':h.get? b = some o:=PySem.W.of_hideAll (trk h H) e
 refine ⟨e', ?_⟩
 cases q:H b with
 | none => rfl
 | some x =>
  have hm:b ∈ trk h H:=List.mem_filter.mpr ⟨List.mem_range.mpr (Heap.lt_size e'),by simp [q]⟩
  have z:(hidT h H).get? b = none:=PySem.W.hideAll_none (trk h H) hm
  rw [z] at e; cases e
def Jh8 (g h:Heap) (L:Addr):List (Addr × Obj):=(List.range h.objs.size).filterMap fun a => if a = L ∨ (g.get? a).isSome = true then none else (h.get? a).map fun o => (a,o)
def rest (g h:Heap) (L d:Addr):List (Addr × Obj):=(Jh8 g h L).filter fun p => decide (p.1 ≠ d)
end L2
namespace L2
open PySem PySem.Spec PyProof.Rows
structure Mod (K:PySem.W.Frag) (mg:Str→Option Value) (base:Heap):Prop where
 kin:K.In base
 glob:base.Ns mainGlobals mg
 blt:∃ mb,base.Ns builtinsNs mb∧∀ x:Str,x ≠ "__name__"→mb x = bootBuiltins x
 nolimit:base.NoLimit
structure Cx where
 prog:Program
 w:World
 K:PySem.W.Frag
 mg:Str→Option Value
 base:Heap
 A:Around
 N:List Str
 s₀ : Shared
 H₀ : Hp
 env:Env
 outer:List Env
 stack:List Env
 ex:List Addr
 fn:Str→Bool
 calm:Bool
 pn:List (Addr × Obj)
 xe:Value→Shared→Prop
def frs (l:List Env):List Addr:=l.filterMap (·.frame)
abbrev Cx.fs (X:Cx):List Addr:=frs X.outer
def Vis (sc:Scope) (x:Str):Prop:=sc.names.lookup x = some .local ∨ sc.names.lookup x = some .cell ∨ sc.names.lookup x = some .free
def Loc (sc:Scope) (x:Str):Prop:=sc.names.lookup x = some .local ∨ sc.names.lookup x = some .cell
def Look (env:Env) (h:Heap) (m:Str→Option Value) (x:Str) (u:Value):Prop :=
 (env.kindOf x = some .local∧m x = some u) ∨ ((env.kindOf x = some .cell ∨ env.kindOf x = some .free)∧∃ c,env.cells.lookup x = some c∧h.IsCell c (some u))
structure Cx.Ok (X:Cx):Prop where
 mod:Mod X.K X.mg X.base
 kind:X.env.scope.kind = .function
 glob:X.env.globals = mainGlobals
 blt:X.env.builtins = builtinsNs
 above:X.s₀.heap.objs.size ≤ X.env.locals
 inj:∀ x y c,X.env.cells.lookup x = some c→X.env.cells.lookup y = some c→x = y
 has:∀ x,(X.env.kindOf x = some .cell ∨ X.env.kindOf x = some .free)→∃ c,X.env.cells.lookup x = some c
 cab:∀ x c,X.fn x = true→X.env.cells.lookup x = some c→X.s₀.heap.objs.size ≤ c
 hd:X.calm = true→X.A.handled = none
 frames:X.A.frames = some X.stack
 stk:X.stack = X.outer ∨ (X.stack = X.env :: X.outer∧X.env.frame = some X.env.locals)
 exf:∀ b ∈ X.ex,b ≠ X.env.locals∧∀ x c,X.env.cells.lookup x = some c→c ≠ b
 bs:∀ b o,X.base.get? b = some o→X.s₀.heap.get? b = some o∧X.H₀ b = none
 bsz:X.base.objs.size ≤ X.s₀.heap.objs.size
 noex:∀ b o,X.base.get? b = some o→b ∉ X.ex
 exfs:∀ b ∈ X.ex,b ∉ X.fs
 funs:X.s₀.heap.FunFrames X.base X.outer
 frf:∀ b ∈ X.fs,X.H₀ b = none
structure Inv (X:Cx) (pins:List (Addr × Obj)) (σ : List (Option V)) (H:Hp) (s:Shared):Prop where
 ok:X.Ok
 os:s.os = X.s₀.os
 bare:AllBare s.gens
 base:Un X.fs X.ex X.H₀ H X.s₀.heap s.heap
 loc:∃ m,s.heap.Ns X.env.locals m∧∀ (i:Nat) (x:Str) (v:V),X.N[i]? = some x→σ[i]? = some (some v)→Vis X.env.scope x→∃ u,RelV v u∧Look X.env s.heap m x u
 cell:∀ x c,X.env.cells.lookup x = some c→∃ v,s.heap.IsCell c v
 free:H X.env.locals = none
 freeC:∀ x c,X.env.cells.lookup x = some c→H c = none
 pin:∀ p ∈ X.pn ++ pins,s.heap.get? p.1 = some p.2∧H p.1 = none∧p.1 ≠ X.env.locals∧p.1 ∉ X.fs∧∀ v,p.2.data ≠ .cell v
 hok:HOk X.prog X.w H s.heap
 len : σ.length = X.N.length
section
variable {X:Cx} {pins:List (Addr × Obj)} {σ : List (Option V)} {H H':Hp} {s:Shared} {h':Heap}
theorem Cx.Ok.nofr (ok:X.Ok) {b:Addr} {o:Obj} (e:X.base.get? b = some o):b ∉ X.fs:=fun hb => by
 have:=(ok.funs.mem hb).1
 rw [e] at this; cases this
theorem Inv.bs (I:Inv X pins σ H s):∀ b o,X.base.get? b = some o→s.heap.get? b = some o∧H b = none:=fun b o e =>
 ⟨I.base.keep b o (I.ok.bs b o e).1 (I.ok.bs b o e).2 (I.ok.nofr e) (I.ok.noex b o e),I.base.free b o (I.ok.bs b o e).1 (I.ok.bs b o e).2 (I.ok.noex b o e)⟩
theorem Inv.bk (I:Inv X pins σ H s):∀ b o,X.base.get? b = some o→s.heap.get? b = some o:=fun b o e => (I.bs b o e).1
theorem Inv.mod (I:Inv X pins σ H s):Mod X.K X.mg X.base:=I.ok.mod
theorem Inv.kIn (I:Inv X pins σ H s):X.K.In s.heap:=I.ok.mod.kin.keeps I.bk
theorem Inv.fr (I:Inv X pins σ H s):∃ m,Fr X.base X.env.locals s.heap m :=
 let ⟨m,hn,_⟩:=I.loc
 ⟨m,hn,I.bk,Nat.le_trans I.ok.bsz I.ok.above⟩
theorem Inv.lt (I:Inv X pins σ H s):X.env.locals < s.heap.objs.size:=let ⟨_,hn,_⟩:=I.loc; hn.lt
theorem Inv.sz (I:Inv X pins σ H s):X.s₀.heap.objs.size ≤ s.heap.objs.size:=Nat.le_trans I.ok.above (Nat.le_of_lt I.lt)
theorem Inv.nofs (I:Inv X pins σ H s) {a:Addr} (h:s.heap.objs.size ≤ a):a ∉ X.fs:=fun hb => by
 obtain ⟨_,o,ho,_⟩:=I.ok.funs.mem hb
 exact absurd (Nat.lt_of_lt_of_le (Heap.lt_size ho) (Nat.le_trans I.sz h)) (Nat.lt_irrefl _)
theorem Inv.cne (I:Inv X pins σ H s):∀ x c,X.env.cells.lookup x = some c→c ≠ X.env.locals:=fun x c e z => by
 obtain ⟨v,o,ho,hd⟩:=I.cell x c e
 obtain ⟨m,⟨o',es,ep,ho',hd',_⟩,_⟩:=I.loc
 rw [z,ho'] at ho; cases ho; rw [hd'] at hd; cases hd
theorem Inv.funs (I:Inv X pins σ H s):s.heap.FunFrames X.base X.outer:=by
 have all:∀ (l:List Env),(∀ b ∈ frs l,b ∈ X.fs)→X.s₀.heap.FunFrames X.base l→s.heap.FunFrames X.base l:=by
  intro l
  induction l with
  | nil => intro _ _; trivial
  | cons env r ih =>
   intro hs hl
   obtain ⟨hk,⟨L,o,hf,hn,ho,hd⟩,hr⟩:=hl
   have hL:L ∈ X.fs:=hs L (by unfold frs; rw [List.filterMap_cons,hf]; exact List.mem_cons_self)
   obtain ⟨sl,e⟩:=I.base.slot L o ho (I.ok.frf L hL) hL fun z => I.ok.exfs L z hL
   exact ⟨hk,⟨L,_,hf,hn,e,hd⟩,ih (fun b hb => hs b (by unfold frs; rw [List.filterMap_cons,hf]; exact List.mem_cons_of_mem _ hb)) hr⟩
 exact all X.outer (fun _ hb => hb) I.ok.funs
theorem Inv.stack (I:Inv X pins σ H s):s.heap.FunFrames X.base X.stack:=by
 rcases I.ok.stk with e | ⟨e,hf⟩
 ·rw [e]; exact I.funs
 ·rw [e]
  obtain ⟨m,hn,_⟩:=I.loc
  refine .cons (by rw [I.ok.kind]; decide) hf hn ?_ I.funs
  exact Heap.get?_none_of_le (Nat.le_trans I.ok.bsz I.ok.above)
theorem Inv.stkSub (I:Inv X pins σ H s):∀ b ∈ frs X.stack,b ∈ X.env.locals :: X.fs:=fun b hb => by
 rcases I.ok.stk with e | ⟨e,hf⟩
 ·rw [e] at hb; exact List.mem_cons_of_mem _ hb
 ·rw [e] at hb
  unfold frs at hb
  rw [List.filterMap_cons,hf] at hb
  exact hb
theorem Inv.stkFree (I:Inv X pins σ H s):∀ b ∈ frs X.stack,H b = none:=fun b hb => by
 rcases List.mem_cons.mp (I.stkSub b hb) with e | hb
 ·rw [e]; exact I.free
 ·obtain ⟨_,o,ho,_⟩:=I.ok.funs.mem hb
  exact I.base.free b o ho (I.ok.frf b hb) fun z => I.ok.exfs b z hb
theorem Inv.step {g':Array GenState} {t':Nat} {d':Drawn} {ch:List Addr} (I:Inv X pins σ H s)
  (hch:∀ b ∈ ch,(b ∈ X.ex ∨ X.s₀.heap.objs.size ≤ b)∧b ≠ X.env.locals∧(∀ x c,X.env.cells.lookup x = some c→c ≠ b)∧∀ p ∈ X.pn ++ pins,p.1 ≠ b)
  (keep:∀ b o,b ≠ X.env.locals→b ∉ X.fs→b ∉ ch→s.heap.get? b = some o→H b = none→h'.get? b = some o)
  (slot:∀ b o,b ≠ X.env.locals→b ∈ X.fs→b ∉ ch→s.heap.get? b = some o→H b = none→∃ sl,h'.get? b = some { o with slots:=sl }) (free:∀ b o,b ∉ ch→s.heap.get? b = some o→H b = none→H' b = none)
  (there:∀ b o,b ∉ ch→s.heap.get? b = some o→∃ o',h'.get? b = some o')
  (tups:∀ b xs,H b = some (.tup xs)→H' b = some (.tup xs)) (frzs:∀ b o u,H b = some (.frz o u)→H' b = some (.frz o u)) (tbls:∀ b ps,H b = some (.tbl ps)→∃ more,H' b = some (.tbl (ps ++ more)))
  (ns:∀ m,s.heap.Ns X.env.locals m→h'.Ns X.env.locals m) (hok:HOk X.prog X.w H' h') (hg:AllBare g') :
  Inv X pins σ H' { s with heap:=h',gens:=g',drawn:=d',toks:=t' }:=by
 have neL:∀ b o,X.s₀.heap.get? b = some o→b ≠ X.env.locals:=fun b o e => Nat.ne_of_lt (Nat.lt_of_lt_of_le (Heap.lt_size e) I.ok.above)
 have neC:∀ b o,X.s₀.heap.get? b = some o→b ∉ X.ex→b ∉ ch:=fun b o e hx hb => by
  rcases (hch b hb).1 with z | z
  ·exact hx z
  ·exact absurd (Nat.lt_of_lt_of_le (Heap.lt_size e) z) (Nat.lt_irrefl _)
 have cellK:∀ x c,X.env.cells.lookup x = some c→∀ v,s.heap.IsCell c v→h'.IsCell c v:=fun x c e v ⟨o,ho,hd⟩ => by
  have nch:c ∉ ch:=fun z => (hch c z).2.2.1 x c e rfl
  by_cases hc:c ∈ X.fs
  ·obtain ⟨sl,q⟩:=slot c o (I.cne x c e) hc nch ho (I.freeC x c e)
   exact ⟨_,q,hd⟩
  ·exact ⟨o,keep c o (I.cne x c e) hc nch ho (I.freeC x c e),hd⟩
 refine ⟨I.ok,I.os,hg,⟨fun b o e n hb hx => ?_,fun b o e n hb hx => ?_,fun b o e n hx => ?_,fun b o e hx => ?_,fun b xs e => tups b xs (I.base.tups b xs e),fun b o xs e => frzs b o xs (I.base.frzs b o xs e),fun b ps e => ?_⟩, ?_,fun x c e => ?_, ?_,fun x c e => ?_,fun p hp => ?_,hok,I.len⟩
 ·exact keep b o (neL b o e) hb (neC b o e hx) (I.base.keep b o e n hb hx) (I.base.free b o e n hx)
 ·obtain ⟨sl,e1⟩:=I.base.slot b o e n hb hx
  obtain ⟨sl',e2⟩:=slot b _ (neL b o e) hb (neC b o e hx) e1 (I.base.free b o e n hx)
  exact ⟨sl',e2⟩
 ·obtain ⟨o',e1⟩:=I.base.there b o e hx
  exact free b o' (neC b o e hx) e1 (I.base.free b o e n hx)
 ·obtain ⟨o',e1⟩:=I.base.there b o e hx
  exact there b o' (neC b o e hx) e1
 ·obtain ⟨m1,e1⟩:=I.base.tbls b ps e
  obtain ⟨m2,e2⟩:=tbls b _ e1
  exact ⟨m1 ++ m2,by rw [e2,Array.append_assoc]⟩
 ·obtain ⟨m,hn,hl⟩:=I.loc
  refine ⟨m,ns m hn,fun i x v e1 e2 e3 => ?_⟩
  obtain ⟨u,r,l⟩:=hl i x v e1 e2 e3
  refine ⟨u,r, ?_⟩
  rcases l with l | ⟨k,c,e,z⟩
  ·exact .inl l
  ·exact .inr ⟨k,c,e,cellK x c e _ z⟩
 ·obtain ⟨v,z⟩:=I.cell x c e
  exact ⟨v,cellK x c e v z⟩
 ·obtain ⟨m,⟨o,_,_,ho,_⟩,_⟩:=I.loc
  exact free _ o (fun z => (hch _ z).2.1 rfl) ho I.free
 ·obtain ⟨v,o,ho,hd⟩:=I.cell x c e
  exact free c o (fun z => (hch c z).2.2.1 x c e rfl) ho (I.freeC x c e)
 ·obtain ⟨e,n,ne,nf,d⟩:=I.pin p hp
  have nch:p.1 ∉ ch:=fun z => (hch p.1 z).2.2.2 p hp rfl
  exact ⟨keep p.1 p.2 ne nf nch e n,free p.1 p.2 nch e n,ne,nf,d⟩
theorem Inv.un {t':Nat} (I:Inv X pins σ H s) (u:Un X.fs [] H H' s.heap h') (hok:HOk X.prog X.w H' h'):Inv X pins σ H' { s with heap:=h',toks:=t' }:=by
 obtain ⟨m,⟨o,es,ep,ho,r⟩,_⟩:=id I.loc
 obtain ⟨sl,hL⟩:=u.any ho I.free (by simp)
 exact I.step (g':=s.gens) (d':=s.drawn) (ch:=[]) (fun _ z => nomatch z) (fun b o _ hb _ e n => u.keep b o e n hb (by simp)) (fun b o _ hb _ e n => u.slot b o e n hb (by simp)) (fun b o _ e n => u.free b o e n (by simp)) (fun b o _ e => u.there b o e (by simp)) u.tups u.frzs u.tbls (fun m' hm => by
  obtain ⟨o',es',ep',ho',r'⟩:=hm
  rw [ho] at ho'; cases ho'
  exact ⟨_,es',ep',hL,r'⟩) hok I.bare
theorem Inv.call {g':Array GenState} {t':Nat} {d':Drawn} {ch:List Addr} (I:Inv X pins σ H s) (u:Un (frs X.stack) ch H H' s.heap h') (hok:HOk X.prog X.w H' h') (hg:AllBare g')
  (hch:∀ b ∈ ch,(b ∈ X.ex ∨ X.s₀.heap.objs.size ≤ b)∧b ≠ X.env.locals∧(∀ x c,X.env.cells.lookup x = some c→c ≠ b)∧∀ p ∈ X.pn ++ pins,p.1 ≠ b) :
  Inv X pins σ H' { s with heap:=h',gens:=g',drawn:=d',toks:=t' }:=by
 obtain ⟨m,⟨o,es,ep,ho,r⟩,_⟩:=id I.loc
 obtain ⟨sl,hL⟩:=u.any ho I.free fun z => (hch _ z).2.1 rfl
 exact I.step (ch:=ch) hch (fun b o hL hb hc e n => u.keep b o e n (fun z => (List.mem_cons.mp (I.stkSub b z)).elim hL hb) hc) (fun b o _ _ hc e n => u.any e n hc) (fun b o hc e n => u.free b o e n hc) (fun b o hc e => u.there b o e hc) u.tups u.frzs u.tbls (fun m' hm => by
  obtain ⟨o',es',ep',ho',r'⟩:=hm
  rw [ho] at ho'; cases ho'
  exact ⟨_,es',ep',hL,r'⟩) hok hg
theorem Inv.turned {t':Nat} {it:Addr} (I:Inv X pins σ H s) (k:∀ b o,b ≠ it→s.heap.get? b = some o→h'.get? b = some o) (hn:H it = none) (hL:it ≠ X.env.locals)
  (h1:it ∈ X.ex ∨ X.s₀.heap.objs.size ≤ it) (h2:∀ x c,X.env.cells.lookup x = some c→c ≠ it) (h3:∀ p ∈ X.pn ++ pins,p.1 ≠ it):Inv X pins σ H { s with heap:=h',toks:=t' }:=by
 have nit:∀ b u,H b = some u→b ≠ it:=fun b u e z => by rw [z,hn] at e; cases e
 refine I.step (g':=s.gens) (d':=s.drawn) (ch:=[it]) (fun b hb => ?_) (fun b o _ _ hc e _ => k b o (fun z => hc (by simp [z])) e) (fun b o _ _ hc e _ => ⟨o.slots,k b o (fun z => hc (by simp [z])) e⟩) (fun _ _ _ _ n => n)
  (fun b o hc e => ⟨o,k b o (fun z => hc (by simp [z])) e⟩) (fun _ _ e => e) (fun _ _ _ e => e) (fun b ps e => ⟨#[],by rw [e]; simp⟩) (fun m hm => ?_) (fun b u e => ?_) I.bare
 ·have e:b = it:=by simpa using hb
  subst e
  exact ⟨h1,hL,h2,h3⟩
 ·obtain ⟨o,es,ep,ho,r⟩:=hm
  exact ⟨o,es,ep,k _ o (Ne.symm hL) ho,r⟩
 ·refine (I.hok b u e).stay (fun c v hc q => k c v ?_ q) (fun _ q => q) fun _ _ q => q
  rcases hc with z | z
  ·rw [z]; exact nit b u e
  ·exact nit c _ z
theorem Inv.tok (I:Inv X pins σ H s) (t:Nat):Inv X pins σ H { s with toks:=t }:=I.un (h':=s.heap) (t':=t) Un.refl I.hok
theorem Inv.kept {t':Nat} (I:Inv X pins σ H s) (k:∀ b u,s.heap.get? b = some u→h'.get? b = some u):Inv X pins σ H { s with heap:=h',toks:=t' }:=I.un (Un.kept k) (I.hok.kept k)
theorem Inv.laid {a:Addr} {o:HO} {t':Nat} (I:Inv X pins σ H s) (k:∀ b u,s.heap.get? b = some u→h'.get? b = some u) (hp:s.heap.objs.size ≤ a) (new:ObjOk X.prog X.w (upd H a o) h' a o) :
  Inv X pins σ (upd H a o) { s with heap:=h',toks:=t' }:=I.un (Un.laid k hp (I.hok.fresh hp)) (I.hok.laid k hp new)
theorem Inv.write {x e:Addr} {o:HO} {t':Nat} (I:Inv X pins σ H s) (mu:Mut (H x)) (he:e = x ∨ H e = some (.own x)) (k:∀ b u,b ≠ e→s.heap.get? b = some u→h'.get? b = some u) (heo:∃ u,h'.get? e = some u)
  (new:ObjOk X.prog X.w (upd H x o) h' x o):Inv X pins σ (upd H x o) { s with heap:=h',toks:=t' }:=I.un (Un.write mu he k heo) (I.hok.write mu he k heo new)
theorem Inv.pins_of {pins':List (Addr × Obj)} (I:Inv X pins σ H s) (h:∀ p ∈ pins',s.heap.get? p.1 = some p.2∧H p.1 = none∧p.1 ≠ X.env.locals∧p.1 ∉ X.fs∧∀ v,p.2.data ≠ .cell v):Inv X pins' σ H s :=
 ⟨I.ok,I.os,I.bare,I.base,I.loc,I.cell,I.free,I.freeC,fun p hp => (List.mem_append.mp hp).elim (fun z => I.pin p (List.mem_append_left _ z)) (h p),I.hok,I.len⟩
theorem JfF {N:List Str} (hN:N.Nodup) {i j:Nat} {x:Str} (a:N[i]? = some x) (b:N[j]? = some x):i = j:=by
 obtain ⟨h1,e1⟩:=List.getElem?_eq_some_iff.mp a
 obtain ⟨h2,e2⟩:=List.getElem?_eq_some_iff.mp b
 exact (List.getElem_inj hN).mp (e1.trans e2.symm)
theorem Jdt {M:Model} {A:Around} {E:Value→Shared→Prop} {i:Nat} {x:Str} {v:V} {u:Value} {Q:Unit→Shared→Prop} (I:Inv X pins σ H s) (hN:X.N.Nodup) (hi:X.N[i]? = some x) (hx:Loc X.env.scope x) (r:RelV v u)
  (h:∀ s',Inv X pins (σ.set i (some v)) H s'→(∃ a,Heap.SameBut a s.heap s'.heap∧(a = X.env.locals ∨ X.env.cells.lookup x = some a))→Q () s') (hf:X.fn x = true ∨ X.env.scope.names.lookup x = some .local:=by first | exact .inl rfl | exact .inr rfl | assumption):wpAny M A (storeName X.env x u) Q E s:=by
 obtain ⟨m,hn,hl⟩:=id I.loc
 have hcls:(X.env.scope.kind == .class || (X.env.scope.kind == .module && X.env.locals != X.env.globals)) = false:=by rw [I.ok.kind]; rfl
 have hiσ : i < σ.length:=by rw [I.len]; exact (List.getElem?_eq_some_iff.mp hi).1
 have cne:=I.cne
 have tracked:∀ {a:Addr} {h':Heap},(∃ o,s.heap.get? a = some o∧H a = none)→Heap.SameBut a s.heap h'→HOk X.prog X.w H h':=fun {a h'} ha hs b ob e => by
  obtain ⟨_,_,hfree⟩:=ha
  refine (I.hok b ob e).stay (fun c w' hc q => (hs.2 c ?_).trans q) (fun _ q => q) fun _ _ q => q
  rintro rfl
  rcases hc with rfl | hc
  ·rw [hfree] at e; cases e
  ·rw [hfree] at hc; cases hc
 rcases hx with hk | hk
 ·refine wpAny_storeName_local hk hn (fun h' hn' hs => ?_) hcls
  obtain ⟨oL,_,_,hoL,_⟩:=id hn
  refine h _ ⟨I.ok,I.os,I.bare,⟨fun b o e n hb hx => ?_,fun b o e n hb hx => ?_,I.base.free,fun b o e hx => ?_,I.base.tups,I.base.frzs,I.base.tbls⟩,⟨_,hn',fun j y v' e1 e2 e3 => ?_⟩,fun y c e => ?_,I.free,I.freeC,fun p hp => ?_,tracked ⟨oL,hoL,I.free⟩ hs,by simpa using I.len⟩ ⟨_,hs, .inl rfl⟩
  ·exact (hs.2 b (Nat.ne_of_lt (Nat.lt_of_lt_of_le (Heap.lt_size e) I.ok.above))).trans (I.base.keep b o e n hb hx)
  ·obtain ⟨sl,e1⟩:=I.base.slot b o e n hb hx
   exact ⟨sl,(hs.2 b (Nat.ne_of_lt (Nat.lt_of_lt_of_le (Heap.lt_size e) I.ok.above))).trans e1⟩
  ·obtain ⟨o',e1⟩:=I.base.there b o e hx
   exact ⟨o',(hs.2 b (Nat.ne_of_lt (Nat.lt_of_lt_of_le (Heap.lt_size e) I.ok.above))).trans e1⟩
  ·by_cases hj:j = i
   ·subst hj
    rw [hi] at e1; cases e1
    rw [List.getElem?_set_self hiσ] at e2
    cases e2
    exact ⟨u,r, .inl ⟨hk,by simp⟩⟩
   ·rw [List.getElem?_set_ne (Ne.symm hj)] at e2
    obtain ⟨u',r',q⟩:=hl j y v' e1 e2 e3
    refine ⟨u',r', ?_⟩
    rcases q with ⟨k,e⟩ | ⟨k,c,e,z⟩
    ·refine .inl ⟨k, ?_⟩
     have : y ≠ x:=fun e => hj (JfF hN e1 (e ▸ hi))
     simp [this,e]
    ·exact .inr ⟨k,c,e,z.sameBut hs (cne y c e)⟩
  ·obtain ⟨w',z⟩:=I.cell y c e
   exact ⟨w',z.sameBut hs (cne y c e)⟩
  ·obtain ⟨e,n,ne,nf,d⟩:=I.pin p hp
   exact ⟨(hs.2 p.1 ne).trans e,n,ne,nf,d⟩
 ·have hfn:X.fn x = true:=by
   rcases hf with z | z
   ·exact z
   ·rw [z] at hk; cases hk
  obtain ⟨c,hc⟩:=I.ok.has x (.inl hk)
  obtain ⟨w',z⟩:=I.cell x c hc
  refine wpAny_storeName_cell I.ok.kind hk hc z (fun h' hc' hs => ?_)
  obtain ⟨oc,hoc,hocd⟩:=id z
  refine h { s with heap:=h' } ⟨I.ok,I.os,I.bare,⟨fun b o e n hb hx => ?_,fun b o e n hb hx => ?_,I.base.free,fun b o e hx => ?_,I.base.tups,I.base.frzs,I.base.tbls⟩,⟨m,hn.sameBut hs (Ne.symm (cne x c hc)),fun j y v' e1 e2 e3 => ?_⟩,fun y c' e => ?_,I.free,I.freeC,fun p hp => ?_,tracked ⟨oc,hoc,I.freeC x c hc⟩ hs,by simpa using I.len⟩ ⟨c,hs, .inr hc⟩
  ·exact (hs.2 b (Nat.ne_of_lt (Nat.lt_of_lt_of_le (Heap.lt_size e) (I.ok.cab x c hfn hc)))).trans (I.base.keep b o e n hb hx)
  ·obtain ⟨sl,e1⟩:=I.base.slot b o e n hb hx
   exact ⟨sl,(hs.2 b (Nat.ne_of_lt (Nat.lt_of_lt_of_le (Heap.lt_size e) (I.ok.cab x c hfn hc)))).trans e1⟩
  ·obtain ⟨o',e1⟩:=I.base.there b o e hx
   exact ⟨o',(hs.2 b (Nat.ne_of_lt (Nat.lt_of_lt_of_le (Heap.lt_size e) (I.ok.cab x c hfn hc)))).trans e1⟩
  ·by_cases hj:j = i
   ·subst hj
    rw [hi] at e1; cases e1
    rw [List.getElem?_set_self hiσ] at e2
    cases e2
    exact ⟨u,r, .inr ⟨.inl hk,c,hc,hc'⟩⟩
   ·rw [List.getElem?_set_ne (Ne.symm hj)] at e2
    obtain ⟨u',r',q⟩:=hl j y v' e1 e2 e3
    refine ⟨u',r', ?_⟩
    rcases q with q | ⟨k,c',e,z'⟩
    ·exact .inl q
    ·refine .inr ⟨k,c',e,z'.sameBut hs ?_⟩
     rintro rfl
     exact hj (JfF hN e1 (I.ok.inj _ _ _ e hc ▸ hi))
  ·by_cases hcc:c' = c
   ·subst hcc; exact ⟨_,hc'⟩
   ·obtain ⟨w2,z2⟩:=I.cell y c' e
    exact ⟨w2,z2.sameBut hs hcc⟩
  ·obtain ⟨e,n,ne,nf,d⟩:=I.pin p hp
   refine ⟨(hs.2 p.1 ?_).trans e,n,ne,nf,d⟩
   intro q
   rw [q,hoc] at e
   have q':oc = p.2:=Option.some.inj e
   exact d w' (by rw [← q']; exact hocd)
theorem JfP {M:Model} {A:Around} {E:Value→Shared→Prop} {i:Nat} {x:Str} {v:V} {u:Value} {Q:Unit→Shared→Prop} (I:Inv X pins σ H s) (hN:X.N.Nodup) (hi:X.N[i]? = some x) (hx:Loc X.env.scope x) (r:RelV v u)
  (h:∀ s',Inv X pins (σ.set i (some v)) H s'→Q () s') (hf:X.fn x = true ∨ X.env.scope.names.lookup x = some .local:=by first | exact .inl rfl | exact .inr rfl | assumption):wpAny M A (storeName X.env x u) Q E s :=
 Jdt I hN hi hx r (fun s' I' _ => h s' I') hf
theorem Inv.call' {s':Shared} {ch:List Addr} (I:Inv X pins σ H s) (ho:s'.os = s.os) (u:Un (frs X.stack) ch H H' s.heap s'.heap) (hok:HOk X.prog X.w H' s'.heap) (hg:AllBare s'.gens)
  (hch:∀ b ∈ ch,(b ∈ X.ex ∨ X.s₀.heap.objs.size ≤ b)∧b ≠ X.env.locals∧(∀ x c,X.env.cells.lookup x = some c→c ≠ b)∧∀ p ∈ X.pn ++ pins,p.1 ≠ b):Inv X pins σ H' s':=by
 obtain ⟨h',g',d',t',o'⟩:=s'
 have e:o' = s.os:=ho
 subst e
 exact I.call (g':=g') (t':=t') (d':=d') u hok hg hch
end
abbrev XK:=Value→Option Addr→Hp→Prop
abbrev St:=List (Option V)
abbrev VK:=V→Hp→Prop
abbrev TE:=St→Hp→VK→Prop
abbrev TT:=St→Hp→(Bool→Hp→Prop)→Prop
abbrev TA:=St→Hp→(List V→Hp→Prop)→Prop
structure Ends where
 nx:St→Hp→Prop
 rt:VK
 bk:St→Hp→Prop:=fun _ _ => False
 ct:St→Hp→Prop:=fun _ _ => False
abbrev TS:=Ends→St→Hp→Prop
def EP (X:Cx) (pins:List (Addr × Obj)) (σ : St) (Q:VK) (u:Value) (s':Shared):Prop:=∃ v H',Inv X pins σ H' s'∧RelV v u∧Q v H'
def TP (X:Cx) (pins:List (Addr × Obj)) (σ : St) (Q:Bool→Hp→Prop) (b:Bool) (s':Shared):Prop:=∃ H',Inv X pins σ H' s'∧Q b H'
def AP (X:Cx) (pins:List (Addr × Obj)) (σ : St) (Q:List V→Hp→Prop) (us:List Value) (s':Shared):Prop:=∃ vs H',Inv X pins σ H' s'∧Vals vs us∧Q vs H'
def SP (X:Cx) (pins:List (Addr × Obj)) (D:Ends) (f:Flow) (s':Shared):Prop :=
 match f with
 | .next => ∃ σ' H',Inv X pins σ' H' s'∧D.nx σ' H'
 | .brk => ∃ σ' H',Inv X pins σ' H' s'∧D.bk σ' H'
 | .cont => ∃ σ' H',Inv X pins σ' H' s'∧D.ct σ' H'
 | .ret u => ∃ v σ' H',Inv X pins σ' H' s'∧RelV v u∧D.rt v H'
def PE (X:Cx) (e:Expr) (t:TE):Prop :=
 ∀ (pins:List (Addr × Obj)) (s:Shared) (σ : St) (H:Hp) (Q:VK),Inv X pins σ H s→t σ H Q→wpAny (model X.prog X.w) X.A (eval e X.env) (EP X pins σ Q) X.xe s
def PT (X:Cx) (e:Expr) (t:TT):Prop :=
 ∀ (pins:List (Addr × Obj)) (s:Shared) (σ : St) (H:Hp) (Q:Bool→Hp→Prop),Inv X pins σ H s→t σ H Q→wpAny (model X.prog X.w) X.A (isTrue e X.env (eval e X.env)) (TP X pins σ Q) X.xe s
def PW (X:Cx) (e:Expr) (t:TT):Prop :=
 ∀ (whole:Sem Value) (pins:List (Addr × Obj)) (s:Shared) (σ : St) (H:Hp) (Q:Bool→Hp→Prop),Inv X pins σ H s→t σ H Q→wpAny (model X.prog X.w) X.A (isTrue e X.env whole) (TP X pins σ Q) X.xe s
theorem PW.pt {X:Cx} {e:Expr} {t:TT} (h:PW X e t):PT X e t:=h _
def PA (X:Cx) (es:List Expr) (t:TA):Prop :=
 ∀ (pos:Pos) (pins:List (Addr × Obj)) (s:Shared) (σ : St) (H:Hp) (Q:List V→Hp→Prop),Inv X pins σ H s→t σ H Q→wpAny (model X.prog X.w) X.A (spliced (backTo pos (starEach es X.env))) (AP X pins σ Q) X.xe s
def PS (X:Cx) (st:Stmt) (t:TS):Prop :=
 ∀ (pins:List (Addr × Obj)) (s:Shared) (σ : St) (H:Hp) (D:Ends),Inv X pins σ H s→t D σ H→wpAny (model X.prog X.w) X.A (exec st X.env) (SP X pins D) X.xe s
def PSs (X:Cx) (st:List Stmt) (t:TS):Prop :=
 ∀ (pins:List (Addr × Obj)) (s:Shared) (σ : St) (H:Hp) (D:Ends),Inv X pins σ H s→t D σ H→wpAny (model X.prog X.w) X.A (execs st X.env) (SP X pins D) X.xe s
theorem thn {α : Type} {t:Sem α} {Q Q' : α→Shared→Prop} {M:Model} {A:Around} {E:Value→Shared→Prop} {s:Shared} (h:wpAny M A t Q E s) (hQ:∀ a s,Q a s→Q' a s):wpAny M A t Q' E s:=wpAny_mono h hQ fun _ _ x => x
end L2
namespace L2
open PySem PySem.Spec PyProof.Rows
section
variable {X:Cx}
def tVar (i:Nat):TE:=fun σ H Q => ∃ v, σ[i]? = some (some v)∧Q v H
def tC (v:V):TE:=fun _ H Q => Q v H
theorem Jjj {i:Nat} {x:Str} {pos:Pos} (hN:X.N[i]? = some x) (hv:Vis X.env.scope x) (hd:(x == ("__debug__" : Str)) = false:=by decide) (hcd:(x == ("__classdict__" : Str)) = false:=by decide):PE X (.Name x pos) (tVar i):=by
 intro pins s σ H Q I h
 obtain ⟨v,e,h⟩:=h
 obtain ⟨m,hn,hl⟩:=I.loc
 obtain ⟨u,r,l⟩:=hl i x v hN e hv
 have fin:EP X pins σ Q u s:=⟨v,H,I,r,h⟩
 rcases l with ⟨hk,hm⟩ | ⟨hk,c,hc,hcell⟩
 ·exact wpAny_Name (wpAny_loadName_local I.ok.kind hk hn hm fin) hd
 ·rcases hk with hk | hk
  ·exact wpAny_Name (wpAny_loadName_cell I.ok.kind hk hc hcell fin) hd
  ·exact wpAny_Name (wpAny_loadName_free I.ok.kind hk hc hcell fin hcd) hd
theorem Jac {i j pos}:PE X (.Constant (.int i) j pos) (tC (.int i)):=fun _ _ _ H _ I h => wpAny_Constant_int ⟨.int i,H,I.tok _,⟨_,rfl⟩,h⟩
theorem pe_bl {b j pos}:PE X (.Constant (.bool b) j pos) (tC (.bl b)):=fun _ _ _ H _ I h => Constant_bool ⟨.bl b,H,I,rfl,h⟩
theorem Jdm {j pos}:PE X (.Constant .none j pos) (tC .non):=fun _ _ _ H _ I h => Constant_none ⟨.non,H,I,rfl,h⟩
theorem Jb1 {x j pos}:PE X (.Constant (.str x) j pos) (tC (.str x)):=fun _ _ _ H _ I h => Calls.Constant_str ⟨.str x,H,I.tok _,⟨_,rfl⟩,h⟩
def Gl (X:Cx) (x:Str):Prop:=X.env.kindOf x = some .globalImplicit
theorem JcD {E:Value→Shared→Prop} {pins:List (Addr × Obj)} {s:Shared} {σ : St} {H:Hp} {x:Str} {u:Value} {pos:Pos} {Q:Value→Shared→Prop} (I:Inv X pins σ H s) (hg:Gl X x) (hm:X.mg x = some u) (h:Q u s)
  (hd:(x == ("__debug__" : Str)) = false:=by decide):wpAny (model X.prog X.w) X.A (eval (.Name x pos) X.env) Q E s :=
 Calls.Name_function_global I.ok.kind hg (Calls.loadGlobal_global (by rw [I.ok.glob]; exact I.mod.glob.keeps I.bk) hm h) hd
theorem JdK {E:Value→Shared→Prop} {pins:List (Addr × Obj)} {s:Shared} {σ : St} {H:Hp} {x:Str} {u:Value} {pos:Pos} {Q:Value→Shared→Prop} (I:Inv X pins σ H s) (hg:Gl X x) (hm:X.mg x = none) (hv:bootBuiltins x = some u) (h:Q u s)
  (hn:x ≠ "__name__":=by decide) (hd:(x == ("__debug__" : Str)) = false:=by decide):wpAny (model X.prog X.w) X.A (eval (.Name x pos) X.env) Q E s:=by
 obtain ⟨mb,h1,h2⟩:=I.mod.blt
 exact Calls.Name_function_global I.ok.kind hg (Calls.loadGlobal_builtin (by rw [I.ok.glob]; exact I.mod.glob.keeps I.bk) hm (by rw [I.ok.blt]; exact h1.keeps I.bk) ((h2 x hn).trans hv) h) hd
theorem JcI {x:Str} {v:V} {u:Value} {pos:Pos} (hg:Gl X x) (hm:X.mg x = some u) (r:RelV v u) (hd:(x == ("__debug__" : Str)) = false:=by decide):PE X (.Name x pos) (tC v) :=
 fun _ _ _ H _ I h => JcD I hg hm ⟨v,H,I,r,h⟩ hd
theorem Jck {x:Str} {v:V} {u:Value} {pos:Pos} (hg:Gl X x) (hm:X.mg x = none) (hv:bootBuiltins x = some u) (r:RelV v u) (hn:x ≠ "__name__":=by decide) (hd:(x == ("__debug__" : Str)) = false:=by decide):PE X (.Name x pos) (tC v) :=
 fun _ _ _ H _ I h => JdK I hg hm hv ⟨v,H,I,r,h⟩ hn hd
variable {a b:Expr} {ta tb:TE} {pos:Pos}
def PC (X:Cx) (op:CmpOp) (a b:Expr) (t:TE):Prop :=
 ∀ (pins:List (Addr × Obj)) (s:Shared) (σ : St) (H:Hp) (Q:VK),Inv X pins σ H s→t σ H Q →
  wpAny (model X.prog X.w) X.A (eval a X.env) (fun v s₁ => wpAny (model X.prog X.w) X.A (eval b X.env) (fun u s₂ => wpAny (model X.prog X.w) X.A (compareOp op v u) (EP X pins σ Q) X.xe s₂) X.xe s₁) X.xe s
theorem Jhv (b:Expr) {op:CmpOp} (h:op ≠ .In) (h2:op ≠ .NotIn):behindInMarks op b = false:=by
 have e1:(op == CmpOp.In) = false:=by cases op <;> first | rfl | exact absurd rfl h
 have e2:(op == CmpOp.NotIn) = false:=by cases op <;> first | rfl | exact absurd rfl h2
 cases b <;> simp [behindInMarks,e1,e2]
def tB (t:TE):TT:=fun σ H Q => t σ H fun x H1 => ∃ c,x = .bl c∧Q c H1
theorem JfM {op:CmpOp} {t:TE} (h:PC X op a b t) (h1:behindInMarks op b = false:=by first | exact Jhv _ (by decide) (by decide) | rfl):PT X (.Compare a [op] [b] pos) (tB t):=by
 intro pins s σ H Q I hw
 refine wpAny_isTrue_Compare1 (thn (h pins s σ H _ I hw) fun v s1 h1 => thn h1 fun u s2 h2 => thn h2 fun c s3 ⟨x,H1,I1,r1,q1⟩ => ?_) h1
 obtain ⟨d,rfl,q⟩:=q1
 cases r1
 exact wpAny_truthy_bool ⟨H1,I1,q⟩
theorem Ja4 {e:Expr} {t:TE} (h:PE X e t) (he:∀ whole,isTrue e X.env whole = (do let v ← whole; standAt e.pos; holding [v] (truthy v)):=by intro _; rfl):PT X e (tB t):=by
 intro pins s σ H Q I hw
 refine isTrue_plain (thn (h pins s σ H _ I hw) fun v s1 ⟨x,H1,I1,r1,q1⟩ => ?_) (he _)
 obtain ⟨d,rfl,q⟩:=q1
 cases r1
 exact wpAny_truthy_bool ⟨H1,I1,q⟩
variable {tA tB':TT} {rest:List Expr}
def tAnd (t u:TT):TT:=fun σ H Q => t σ H fun c H1 => if c = true then u σ H1 Q else Q false H1
def tOr (t u:TT):TT:=fun σ H Q => t σ H fun c H1 => if c = true then Q true H1 else u σ H1 Q
def tNot (t:TT):TT:=fun σ H Q => t σ H fun c H1 => Q (!c) H1
theorem Jfh (ha:PT X a tA):PW X (.BoolOp .And [a] pos) tA:=by
 intro wh pins s σ H Q I h
 refine isTrue_and (thn (ha pins s σ H Q I h) fun c s1 e => ?_)
 cases c with
 | true => exact isTrue_and_nil e
 | false => exact e
theorem JbH (ha:PT X a tA):PW X (.BoolOp .Or [a] pos) tA:=by
 intro wh pins s σ H Q I h
 refine isTrue_or (thn (ha pins s σ H Q I h) fun c s1 e => ?_)
 cases c with
 | false => exact isTrue_or_nil e
 | true => exact e
theorem Jg6 (ha:PT X a tA) (hb:PW X (.BoolOp .And (b :: rest) pos) tB'):PW X (.BoolOp .And (a :: b :: rest) pos) (tAnd tA tB'):=by
 intro wh pins s σ H Q I h
 refine isTrue_and (thn (ha pins s σ H _ I h) fun c s1 ⟨H1,I1,q1⟩ => ?_)
 cases c with
 | true => exact hb wh pins s1 σ H1 Q I1 q1
 | false => exact ⟨H1,I1,q1⟩
theorem pw_or (ha:PT X a tA) (hb:PW X (.BoolOp .Or (b :: rest) pos) tB'):PW X (.BoolOp .Or (a :: b :: rest) pos) (tOr tA tB'):=by
 intro wh pins s σ H Q I h
 refine isTrue_or (thn (ha pins s σ H _ I h) fun c s1 ⟨H1,I1,q1⟩ => ?_)
 cases c with
 | true => exact ⟨H1,I1,q1⟩
 | false => exact hb wh pins s1 σ H1 Q I1 q1
theorem Jbs (ha:PT X a tA):PT X (.UnaryOp .Not a pos) (tNot tA):=by
 intro pins s σ H Q I h
 exact isTrue_not (ha pins s σ H (fun c H1 => Q (!c) H1) I h)
def tAndV (ta tb:TE):TE:=fun σ H Q => ta σ H fun x H1 => ∃ c,x = .bl c∧if c = true then tb σ H1 Q else Q (.bl false) H1
def tOrV (ta tb:TE):TE:=fun σ H Q => ta σ H fun x H1 => ∃ c,x = .bl c∧if c = true then Q (.bl true) H1 else tb σ H1 Q
def tNotV (ta:TE):TE:=fun σ H Q => ta σ H fun x H1 => ∃ c,x = .bl c∧Q (.bl (!c)) H1
theorem JcO {op} {t:TE} (h:PE X a t):PE X (.BoolOp op [a] pos) t:=fun pins s σ H Q I hw => BoolOp_one (h pins s σ H Q I hw)
theorem Jcj (ha:PE X a ta) (hb:PE X (.BoolOp .And (b :: rest) pos) tb):PE X (.BoolOp .And (a :: b :: rest) pos) (tAndV ta tb):=by
 intro pins s σ H Q I h
 refine BoolOp_and (thn (ha pins s σ H _ I h) fun v s1 ⟨x,H1,I1,r1,q1⟩ => ?_)
 obtain ⟨c,rfl,q1⟩:=q1
 cases r1
 refine wpAny_truthy_bool ?_
 cases c with
 | true => exact hb pins s1 σ H1 Q I1 q1
 | false => exact ⟨.bl false,H1,I1,rfl,q1⟩
theorem pe_or (ha:PE X a ta) (hb:PE X (.BoolOp .Or (b :: rest) pos) tb):PE X (.BoolOp .Or (a :: b :: rest) pos) (tOrV ta tb):=by
 intro pins s σ H Q I h
 refine BoolOp_or (thn (ha pins s σ H _ I h) fun v s1 ⟨x,H1,I1,r1,q1⟩ => ?_)
 obtain ⟨c,rfl,q1⟩:=q1
 cases r1
 refine wpAny_truthy_bool ?_
 cases c with
 | false => exact hb pins s1 σ H1 Q I1 q1
 | true => exact ⟨.bl true,H1,I1,rfl,q1⟩
theorem JfJ (ha:PE X a ta):PE X (.UnaryOp .Not a pos) (tNotV ta):=by
 intro pins s σ H Q I h
 refine UnaryOp_ (thn (ha pins s σ H _ I h) fun v s1 ⟨x,H1,I1,r1,q1⟩ => ?_)
 obtain ⟨c,rfl,q1⟩:=q1
 cases r1
 exact not_of (wpAny_truthy_bool ⟨.bl (!c),H1,I1,rfl,q1⟩)
def tIf (t:TT) (ta tb:TE):TE:=fun σ H Q => t σ H fun c H1 => if c = true then ta σ H1 Q else tb σ H1 Q
theorem JfI {c:Expr} (hc:PT X c tA) (ha:PE X a ta) (hb:PE X b tb):PE X (.IfExp c a b pos) (tIf tA ta tb):=by
 intro pins s σ H Q I h
 refine wpAny_IfExp (thn (hc pins s σ H _ I h) fun d s1 ⟨H1,I1,q1⟩ => ?_)
 cases d with
 | true => exact ha pins s1 σ H1 Q I1 q1
 | false => exact hb pins s1 σ H1 Q I1 q1
end
end L2
namespace L2
open PySem PySem.Spec PyProof.Rows
def SqL (K:PySem.W.Frag) (H:Hp) (a:Addr) (xs:List V):Prop :=
 Rd H a (.lst xs) ∨
  ∃ (o:Obj) (its:Array Value) (n:Nat),K.lookup a = some o∧o.cls = .type "list"∧o.dict = none∧o.data = .seq its n∧its.size ≤ sizeLine∧Vals xs its.toList
def SqT (K:PySem.W.Frag) (H:Hp) (a:Addr) (xs:List V):Prop :=
 Rd H a (.tup xs) ∨
  ∃ (o:Obj) (its:Array Value) (n:Nat),K.lookup a = some o∧o.cls = .type "tuple"∧o.data = .seq its n∧its.size ≤ sizeLine∧Vals xs its.toList
def absV:Value→Option V
 | .none => some .non
 | .bool b => some (.bl b)
 | .int i _ => some (.int i)
 | .str x _ => some (.str x)
 | .bytes b _ => some (.byt b)
 | .float b _ => some (.flt b)
 | .ref a => some (.ref a)
 | .type n => some (.ty n)
 | _ => none
theorem RelV.abs {x:V} {u:Value} (r:RelV x u):absV u = some x:=by
 cases x with
 | non => cases r; rfl
 | bl _ => cases r; rfl
 | int _ => obtain ⟨t,rfl⟩:=r; rfl
 | str _ => obtain ⟨t,rfl⟩:=r; rfl
 | byt _ => obtain ⟨t,rfl⟩:=r; rfl
 | flt _ => obtain ⟨t,rfl⟩:=r; rfl
 | ref _ => cases r; rfl
 | ty _ => cases r; rfl
theorem RelV.inj {x y:V} {u:Value} (r:RelV x u) (q:RelV y u):x = y:=Option.some.inj (r.abs.symm.trans q.abs)
theorem Vals.inj:∀ {xs ys:List V} {us:List Value},Vals xs us→Vals ys us→xs = ys
 | _,_,_, .nil, .nil => rfl
 | _,_,_, .cons r t, .cons r' t' => by rw [r.inj r',Vals.inj t t']
section
variable {X:Cx} {pins:List (Addr × Obj)} {σ : St} {H:Hp} {s:Shared} {a:Addr} {xs ys:List V}
theorem SqL.of {K:PySem.W.Frag} (h:H a = some (.lst xs)):SqL K H a xs:=.inl (.inl h)
theorem SqT.of {K:PySem.W.Frag} (h:H a = some (.tup xs)):SqT K H a xs:=.inl (.inl h)
theorem Inv.list (I:Inv X pins σ H s) (h:SqL X.K H a xs):∃ its:List Value,Vals xs its∧PlainL s.heap a its.toArray∧xs.length ≤ sizeLine:=by
 rcases h with h | ⟨o,its,n,hk,hc,hd,hs,hz,r⟩
 ·obtain ⟨z,its,n,r,e⟩:=h.ok I.hok
  exact ⟨its,r,⟨_,n,e,rfl,rfl,rfl⟩,z⟩
 ·refine ⟨its.toList,r,⟨o,n,I.kIn a o hk,hc,hd,by simpa using hs⟩, ?_⟩
  have e:=r.length
  simp only [Array.length_toList] at e
  omega
theorem Inv.tuple (I:Inv X pins σ H s) (h:SqT X.K H a xs):∃ its:List Value,Vals xs its∧IsTup s.heap a its.toArray∧xs.length ≤ sizeLine:=by
 rcases h with h | ⟨o,its,n,hk,hc,hs,hz,r⟩
 ·obtain ⟨z,its,r,p⟩:=h.ok I.hok
  exact ⟨its,r,p,z⟩
 ·refine ⟨its.toList,r,⟨o,I.kIn a o hk,hc,n,by simpa using hs⟩, ?_⟩
  have e:=r.length
  simp only [Array.length_toList] at e
  omega
theorem Inv.list_inj (I:Inv X pins σ H s) (h:SqL X.K H a xs) (h':SqL X.K H a ys):xs = ys:=by
 obtain ⟨its,r,⟨o,n,e,_,_,d⟩,_⟩:=I.list h
 obtain ⟨its',r',⟨o',n',e',_,_,d'⟩,_⟩:=I.list h'
 rw [e] at e'; cases e'
 rw [d] at d'
 injection d' with d1 _
 have : its = its':=by simpa using congrArg Array.toList d1
 subst this
 exact r.inj r'
theorem Inv.tuple_inj (I:Inv X pins σ H s) (h:SqT X.K H a xs) (h':SqT X.K H a ys):xs = ys:=by
 obtain ⟨its,r,⟨o,e,_,n,d⟩,_⟩:=I.tuple h
 obtain ⟨its',r',⟨o',e',_,n',d'⟩,_⟩:=I.tuple h'
 rw [e] at e'; cases e'
 rw [d] at d'
 injection d' with d1 _
 have : its = its':=by simpa using congrArg Array.toList d1
 subst this
 exact r.inj r'
end
abbrev Cx.wish (X:Cx) (E:Value→Shared→Prop):Cx:={ X with xe:=E }
abbrev Cx.nox (X:Cx):Cx:=X.wish fun _ _ => False
theorem Cx.Ok.wish {X:Cx} (ok:X.Ok) (E:Value→Shared→Prop):(X.wish E).Ok :=
 ⟨ok.mod,ok.kind,ok.glob,ok.blt,ok.above,ok.inj,ok.has,ok.cab,ok.hd,ok.frames,ok.stk,ok.exf,ok.bs,ok.bsz,ok.noex,ok.exfs,ok.funs,ok.frf⟩
theorem Cx.Ok.unwish {X:Cx} {E:Value→Shared→Prop} (ok:(X.wish E).Ok):X.Ok :=
 ⟨ok.mod,ok.kind,ok.glob,ok.blt,ok.above,ok.inj,ok.has,ok.cab,ok.hd,ok.frames,ok.stk,ok.exf,ok.bs,ok.bsz,ok.noex,ok.exfs,ok.funs,ok.frf⟩
section
variable {X:Cx} {pins:List (Addr × Obj)} {σ : St} {H:Hp} {s:Shared} {E:Value→Shared→Prop}
theorem Inv.wish (I:Inv X pins σ H s) (E:Value→Shared→Prop):Inv (X.wish E) pins σ H s:=⟨I.ok.wish E,I.os,I.bare,I.base,I.loc,I.cell,I.free,I.freeC,I.pin,I.hok,I.len⟩
theorem Inv.unwish (I:Inv (X.wish E) pins σ H s):Inv X pins σ H s:=⟨I.ok.unwish,I.os,I.bare,I.base,I.loc,I.cell,I.free,I.freeC,I.pin,I.hok,I.len⟩
theorem SP.unwish {D:Ends} {f:Flow} {s':Shared} (h:SP (X.wish E) pins D f s'):SP X pins D f s':=by
 cases f with
 | next => obtain ⟨σ',H',I,q⟩:=h; exact ⟨σ',H',I.unwish,q⟩
 | brk => obtain ⟨σ',H',I,q⟩:=h; exact ⟨σ',H',I.unwish,q⟩
 | cont => obtain ⟨σ',H',I,q⟩:=h; exact ⟨σ',H',I.unwish,q⟩
 | ret u => obtain ⟨v, σ',H',I,r,q⟩:=h; exact ⟨v, σ',H',I.unwish,r,q⟩
theorem PSs.nox {st:List Stmt} {t:TS} (h:PSs X.nox st t):PSs X st t:=fun pins s σ H D I hw =>
 wpAny_mono (h pins s σ H D (I.wish _) hw) (fun _ _ q => q.unwish) fun _ _ z => False.elim z
end
section
variable {X:Cx} {st:Stmt} {rest:List Stmt} {t u:TS} {e:Expr} {te:TE} {pos:Pos}
def tNext:TS:=fun D σ H => D.nx σ H
def tSeq (t u:TS):TS:=fun D σ H => t { D with nx:=u D } σ H
theorem JaB:PSs X [] tNext:=fun _ _ σ H _ I h => wpAny_execs_nil ⟨σ,H,I,h⟩
theorem Jab (h1:PS X st t) (h2:PSs X rest u):PSs X (st :: rest) (tSeq t u):=by
 intro pins s σ H D I h
 refine wpAny_execs_cons (thn (h1 pins s σ H { D with nx:=u D } I h) fun f s1 q => ?_)
 cases f with
 | next =>
  obtain ⟨σ',H',I',q⟩:=q
  exact h2 pins s1 σ' H' D I' q
 | ret v => exact q
 | brk => exact q
 | cont => exact q
theorem Jai (h1:PS X st t):PSs X [st] t:=by
 intro pins s σ H D I h
 refine wpAny_execs_cons (thn (h1 pins s σ H D I h) fun f s1 q => ?_)
 cases f with
 | next => exact wpAny_execs_nil q
 | ret v => exact q
 | brk => exact q
 | cont => exact q
theorem Inv.quiet {pins:List (Addr × Obj)} {σ : St} {H:Hp} {s:Shared} (I:Inv X pins σ H s):interactive X.env = false:=by simp [interactive,I.ok.kind]
def tDrop (te:TE):TS:=fun D σ H => te σ H fun _ H1 => D.nx σ H1
theorem Jbt (he:PE X e te) (hs:swapsWith e none pos.line X.env = pure false:=by rfl):PS X (.Expr e pos) (tDrop te):=by
 intro pins s σ H D I h
 exact wpAny_Expr_any (thn (he pins s σ H _ I h) fun v s1 ⟨x,H1,I1,r1,q1⟩ => ⟨σ,H1,I1,q1⟩) I.quiet hs
def tRet (te:TE):TS:=fun D σ H => te σ H D.rt
theorem Jas (he:PE X e te):PS X (.Return (some e) pos) (tRet te):=by
 intro pins s σ H D I h
 exact wpAny_Return_some (thn (he pins s σ H _ I h) fun v s1 ⟨x,H1,I1,r1,q1⟩ => ⟨x, σ,H1,I1,r1,q1⟩)
def tRetN:TS:=fun D _ H => D.rt .non H
def tIfS (c:TT) (t u:TS):TS:=fun D σ H => c σ H fun b H1 => if b = true then t D σ H1 else u D σ H1
theorem ps_if {c:Expr} {a b:List Stmt} {tc:TT} (hc:PT X c tc) (ha:PSs X a t) (hb:PSs X b u):PS X (.If c a b pos) (tIfS tc t u):=by
 intro pins s σ H D I h
 refine wpAny_If (thn (hc pins s σ H _ I h) fun d s1 ⟨H1,I1,q1⟩ => ?_)
 cases d with
 | true => exact ha pins s1 σ H1 D I1 q1
 | false => exact hb pins s1 σ H1 D I1 q1
end
abbrev TG:=V→St→Hp→(St→Hp→Prop)→Prop
abbrev TGs:=List V→St→Hp→(St→Hp→Prop)→Prop
def PG (X:Cx) (target:Expr) (t:TG):Prop :=
 ∀ (pins:List (Addr × Obj)) (s:Shared) (σ : St) (H:Hp) (v:V) (u:Value) (Q:St→Hp→Prop),Inv X pins σ H s→RelV v u→t v σ H Q →
  wpAny (model X.prog X.w) X.A (assign target X.env u) (fun _ s' => ∃ σ' H',Inv X pins σ' H' s'∧Q σ' H') X.xe s
def PGs (X:Cx) (ts:List Expr) (t:TGs):Prop :=
 ∀ (pins:List (Addr × Obj)) (s:Shared) (σ : St) (H:Hp) (vs:List V) (us:List Value) (Q:St→Hp→Prop),Inv X pins σ H s→Vals vs us→t vs σ H Q →
  wpAny (model X.prog X.w) X.A (assignInOrder ((assignEach ts X.env).map (·.2)) us) (fun _ s' => ∃ σ' H',Inv X pins σ' H' s'∧Q σ' H') X.xe s
abbrev TSet:=V→V→V→Hp→(Hp→Prop)→Prop
def PSet (X:Cx) (t:TSet):Prop :=
 ∀ (pins:List (Addr × Obj)) (s:Shared) (σ : St) (H:Hp) (o i v:V) (ov iv u:Value) (Q:Hp→Prop),Inv X pins σ H s→RelV o ov→RelV i iv→RelV v u→t o i v H Q →
  wpAny (model X.prog X.w) X.A (setItem ov iv u) (fun _ s' => ∃ H',Inv X pins σ H' s'∧Q H') X.xe s
section
variable {X:Cx} {pos:Pos}
def gName (i:Nat):TG:=fun v σ H Q => Q (σ.set i (some v)) H
theorem Jav {i:Nat} {x:Str} (hN:X.N.Nodup) (hi:X.N[i]? = some x) (hx:Loc X.env.scope x) (hf:X.fn x = true ∨ X.env.scope.names.lookup x = some .local:=by first | exact .inl rfl | exact .inr rfl | assumption):PG X (.Name x pos) (gName i):=by
 intro pins s σ H v u Q I r h
 exact wpAny_assign_Name (JfP I hN hi hx r (fun s' I' => ⟨_,H,I',h⟩) hf)
def gNil:TGs:=fun vs σ H Q => vs = []∧Q σ H
def gCons (t:TG) (u:TGs):TGs:=fun vs σ H Q => ∃ v r,vs = v :: r∧t v σ H fun σ' H' => u r σ' H' Q
theorem JcJ:PGs X [] gNil:=by
 intro pins s σ H vs us Q I r h
 obtain ⟨e,h⟩:=h
 subst e
 cases r
 exact assignInOrder_nil ⟨σ,H,I,h⟩
theorem Ja6 {e:Expr} {es:List Expr} {t:TG} {u:TGs} (h1:PG X e t) (h2:PGs X es u)
  (hs:(assignEach (e :: es) X.env).map (·.2) = assign e X.env :: (assignEach es X.env).map (·.2):=by rfl):PGs X (e :: es) (gCons t u):=by
 intro pins s σ H vs us Q I r h
 obtain ⟨v,vr,e1,h⟩:=h
 subst e1
 cases r with
 | cons r rr =>
  rw [hs]
  refine assignInOrder_cons (thn (h1 pins s σ H _ _ _ I r h) fun _ s1 ⟨σ1,H1,I1,q1⟩ => ?_)
  exact h2 pins s1 σ1 H1 _ _ Q I1 rr q1
def gTup (K:PySem.W.Frag) (n:Nat) (t:TGs):TG:=fun v σ H Q => ∃ a xs,v = .ref a∧SqT K H a xs∧xs.length = n∧t xs σ H Q
theorem JdP {es:List Expr} {k:Nat} {t:TGs} {n:Nat} (hc:X.calm = true) (h:PGs X es t)
  (hn:(assignEach es X.env).length = n:=by rfl) (hst:(assignEach es X.env).findIdx? (·.1) = none:=by rfl):PG X (.Tuple es k pos) (gTup X.K n t):=by
 intro pins s σ H v u Q I r hw
 obtain ⟨a,xs,e1,hq,hl,hw⟩:=hw
 subst e1
 cases r
 obtain ⟨its,rv,ht,hz⟩:=I.tuple hq
 refine assign_Tuple_tuple (I.ok.hd hc) ht (by simp [hn, ← hl,rv.length]) hst fun h' hx => ?_
 have I1:Inv X pins σ H { s with heap:=h' }:=I.kept (t':=s.toks) fun b o e => hx b o (Nat.ne_of_lt (Heap.lt_size e)) e
 exact h pins _ σ H xs _ Q I1 (by simpa using rv) hw
def gSub (to ti:TE) (t:TSet):TG:=fun v σ H Q => to σ H fun o H1 => ti σ H1 fun i H2 => t o i v H2 fun H3 => Q σ H3
theorem JfK {o i:Expr} {to ti:TE} {t:TSet} (ho:PE X o to) (hi:PE X i ti) (hs:PSet X t)
  (ha:∀ v,assign (.Subscript o i pos) X.env v = (do
   let ov ← holding [v] (eval o X.env)
   let iv ← holding [v,ov] (eval i X.env)
   standAt pos
   holding [v,ov,iv] (setItem ov iv v)
   release [v,ov,iv] []):=by intro _; rfl):PG X (.Subscript o i pos) (gSub to ti t):=by
 intro pins s σ H v u Q I r h
 rw [ha]
 refine wpAny_bind (wpAny_holding (thn (ho pins s σ H _ I h) fun ov s1 ⟨x,H1,I1,r1,q1⟩ => ?_))
 refine wpAny_bind (wpAny_holding (thn (hi pins s1 σ H1 _ I1 q1) fun iv s2 ⟨y,H2,I2,r2,q2⟩ => ?_))
 refine wpAny_bind (wpAny_standAt (wpAny_bind (wpAny_holding (thn (hs pins s2 σ H2 x y v ov iv u _ I2 r1 r2 r q2) fun _ s3 ⟨H3,I3,q3⟩ => ?_))))
 exact wpAny_release ⟨σ,H3,I3,q3⟩
def tAsg (te:TE) (g:TG):TS:=fun D σ H => te σ H fun x H1 => g x σ H1 D.nx
theorem JdQ {tg e:Expr} {te:TE} {g:TG} (he:PE X e te) (hg:PG X tg g) (hs:swapsWithSole [tg] e pos.line X.env = pure false:=by rfl) (hw:swappedStores [tg] e X.env = pure none:=by rfl)
  (h1:(assignEach [tg] X.env).map (·.2) = [assign tg X.env]:=by rfl):PS X (.Assign [tg] e pos) (tAsg te g):=by
 intro pins s σ H D I h
 refine wpAny_Assign_stores (thn (he pins s σ H _ I h) fun v s1 ⟨x,H1,I1,r1,q1⟩ => ?_) hs hw
 rw [h1]
 exact thn (hg pins s1 σ H1 x v _ I1 r1 q1) fun _ s2 q => q
theorem Jaj {i:Nat} {x:Str} {e:Expr} {te:TE} {pos':Pos} (hN:X.N.Nodup) (hi:X.N[i]? = some x) (hx:Loc X.env.scope x) (he:PE X e te) (hs:swapsWith e (some (.Name x pos')) pos.line X.env = pure false:=by rfl) (hf:X.fn x = true ∨ X.env.scope.names.lookup x = some .local:=by first | exact .inl rfl | exact .inr rfl | assumption) :
  PS X (.Assign [.Name x pos'] e pos) (tAsg te (gName i)):=by
 intro pins s σ H D I h
 refine wpAny_Assign_Name (thn (he pins s σ H _ I h) fun v s1 ⟨y,H1,I1,r1,q1⟩ => ?_) hs
 exact JfP I1 hN hi hx r1 (fun s2 I2 => ⟨_,H1,I2,q1⟩) hf
end
section
variable {X:Cx} {pos:Pos}
def Jjv (c:TT) (tb:TS):TS:=fun D σ H => ∃ W:Nat→St→Hp→Prop,(∃ m,W m σ H)∧∀ m σ H,W m σ H →
 c σ H fun b H1 => if b = true then ∃ N:St→Hp→Prop,(∀ σ' H',N σ' H'→∃ m',m' < m∧W m' σ' H')∧tb { D with nx:=N,ct:=N,bk:=D.nx } σ H1 else D.nx σ H1
theorem Jee {c:Expr} {body:List Stmt} {tc:TT} {tb:TS} (hp:PassesOwn (model X.prog X.w) X.A X.env X.xe) (hc:PT X c tc) (hb:PSs X body tb):PS X (.While c body [] pos) (Jjv tc tb):=by
 intro pins s σ H D I h
 obtain ⟨W,⟨m0,w0⟩,turn⟩:=h
 refine wpAny_While (codeAny_whileLoop (fun n s' => ∃ σ' H',Inv X pins σ' H' s'∧W n σ' H') ?_ m0 ⟨σ,H,I,w0⟩)
 rintro n s1 ⟨σ1,H1,I1,w1⟩
 refine wpAny_passesOwn hp (thn (hc pins s1 σ1 H1 _ I1 (turn n σ1 H1 w1)) fun b s2 ⟨H2,I2,q2⟩ => ?_)
 cases b with
 | true =>
  obtain ⟨N,hN,q2⟩:=q2
  rw [if_pos rfl]
  refine wpAny_passesOwn hp (thn (hb pins s2 σ1 H2 _ I2 q2) fun f s3 q3 => ?_)
  cases f with
  | next =>
   obtain ⟨σ3,H3,I3,n3⟩:=q3
   obtain ⟨m',hm,w3⟩:=hN σ3 H3 n3
   exact ⟨m',hm, σ3,H3,I3,w3⟩
  | cont =>
   obtain ⟨σ3,H3,I3,n3⟩:=q3
   obtain ⟨m',hm,w3⟩:=hN σ3 H3 n3
   exact ⟨m',hm, σ3,H3,I3,w3⟩
  | brk => exact q3
  | ret v => exact q3
 | false =>
  rw [if_neg Bool.false_ne_true]
  exact wpAny_execs_nil ⟨σ1,H2,I2,q2⟩
end
structure It where
 go:Nat→Hp→Prop
 yld:Nat→Hp→V→Hp→Prop
 stop:Nat→Hp→Prop
def FpOk (X:Cx) (pins:List (Addr × Obj)) (H:Hp) (b:Addr):Prop :=
 H b = none∧b ≠ X.env.locals∧b ∉ X.fs∧(b ∈ X.ex ∨ X.s₀.heap.objs.size ≤ b)∧(∀ x c,X.env.cells.lookup x = some c→c ≠ b)∧∀ p ∈ X.pn ++ pins,p.1 ≠ b
theorem Inv.fpOk {X:Cx} {pins:List (Addr × Obj)} {σ : St} {H H':Hp} {s:Shared} {b:Addr} (I:Inv X pins σ H s) (hb:s.heap.objs.size ≤ b) (hn:H' b = none):FpOk X pins H' b:=by
 refine ⟨hn,Nat.ne_of_gt (Nat.lt_of_lt_of_le I.lt hb),I.nofs hb, .inr (Nat.le_trans I.sz hb),fun x c e z => ?_,fun p hp z => ?_⟩
 ·obtain ⟨v,q⟩:=I.cell x c e
  exact absurd (Nat.lt_of_lt_of_le q.lt (by rw [z]; exact hb)) (Nat.lt_irrefl _)
 ·exact absurd (Nat.lt_of_lt_of_le (Heap.lt_size (I.pin p hp).1) (by rw [z]; exact hb)) (Nat.lt_irrefl _)
structure Turn (P:Program) (w:World) (K:PySem.W.Frag) (tg:Expr) (J:It) (fp:List Addr) (it:Addr) (tn:Nat→Heap→Prop):Prop where
 mem:it ∈ fp
 obj:∀ i h,tn i h→∀ b ∈ fp, ∃ o,h.get? b = some o∧∀ v,o.data ≠ .cell v
 keep:∀ i h h',tn i h→(∀ b ∈ fp, ∀ o,h.get? b = some o→h'.get? b = some o)→tn i h'
 item:∀ (X:Cx),X.prog = P→X.w = w→X.K = K→X.calm = true→∀ (i:Nat) (pins:List (Addr × Obj)) (s:Shared) (σ : St) (H:Hp) (E:Value→Shared→Prop),Inv X pins σ H s→(∀ b ∈ fp,FpOk X pins H b)→tn i s.heap→J.go i H →
  wpAny (model P w) X.A (pyNext (.ref it)) (fun r s1 => ∃ u,r = some u ∧
   wpAny (model P w) X.A (letOwnedTupleGo tg (.ref it) u) (fun _ s2 => ∃ x H',Inv X pins σ H' s2∧RelV x u∧J.yld i H x H'∧tn (i + 1) s2.heap∧∀ b ∈ fp,H' b = none) E s1) E s
 done:∀ (X:Cx),X.prog = P→X.w = w→X.K = K→X.calm = true→∀ (i:Nat) (pins:List (Addr × Obj)) (s:Shared) (σ : St) (H:Hp) (E:Value→Shared→Prop),Inv X pins σ H s→(∀ b ∈ fp,FpOk X pins H b)→tn i s.heap→J.stop i H →
  wpAny (model P w) X.A (pyNext (.ref it)) (fun r s1 => r = none∧Inv X pins σ H s1) E s
 self:∀ (A:Around) (i:Nat) (s:Shared) (Q:Value→Shared→Prop) (E:Value→Shared→Prop),tn i s.heap→Q (.ref it) s→wpAny (model P w) A (pyIter (.ref it)) Q E s
abbrev TI:=St→Hp→(It→Hp→Prop)→Prop
def PIE (X:Cx) (pins:List (Addr × Obj)) (σ : St) (tg:Expr) (R:It→Hp→Prop) (itv:Value) (s2:Shared):Prop :=
 ∃ (it:Addr) (fp:List Addr) (tn:Nat→Heap→Prop) (J:It) (H':Hp),itv = .ref it∧Inv X pins σ H' s2∧Turn X.prog X.w X.K tg J fp it tn∧tn 0 s2.heap∧(∀ b ∈ fp,FpOk X pins H' b)∧R J H'
def PI (X:Cx) (tg iter:Expr) (wi:TI):Prop :=
 ∀ (pins:List (Addr × Obj)) (s:Shared) (σ : St) (H:Hp) (R:It→Hp→Prop),Inv X pins σ H s→wi σ H R →
  wpAny (model X.prog X.w) X.A (eval iter X.env) (fun v s1 => wpAny (model X.prog X.w) X.A (pyIter v) (PIE X pins σ tg R) X.xe s1) X.xe s
theorem go_of {M:Model} {A:Around} {E:Value→Shared→Prop} {s:Shared} {tg:Expr} {it:Addr} {u:Value} {o:Obj} {n:String} {vs:Array Value} {Q:Unit→Shared→Prop} (ho:s.heap.get? it = some o) (hc:o.cls = .type n) (hd:o.data = .fields vs)
    (hn:["enumerate", "zip", "dict_itemiterator", "dict_reverseitemiterator", "odict_iterator", "itertools.zip_longest", "itertools.pairwise"].contains n = false) (hQ:Q () s):wpAny M A (letOwnedTupleGo tg (.ref it) u) Q E s:=by
  unfold letOwnedTupleGo
  cases tg <;> first
    | exact wpAny_pure hQ
    | (cases u <;> first
        | exact wpAny_pure hQ
        | (refine wpAny_bind (wpAny_load ho ?_)
           rw [hc,hd]
           show wpAny M A (if (["enumerate", "zip", "dict_itemiterator", "dict_reverseitemiterator", "odict_iterator", "itertools.zip_longest", "itertools.pairwise"].contains n && vs[0]? == some (rawInt _)) = true then _ else _) Q E s
           rw [if_neg (by intro h; rw [hn,Bool.false_and] at h; cases h)]
           exact wpAny_pure hQ))
def Itl (K:PySem.W.Frag) (a:Addr):It :=
 ⟨fun i H => ∃ xs x,SqL K H a xs∧xs[i]? = some x,fun i H x H' => H' = H∧∀ xs,SqL K H a xs→xs[i]? = some x,fun i H => ∃ xs,SqL K H a xs∧xs.length ≤ i⟩
def Itt (K:PySem.W.Frag) (a:Addr):It :=
 ⟨fun i H => ∃ xs x,SqT K H a xs∧xs[i]? = some x,fun i H x H' => H' = H∧∀ xs,SqT K H a xs→xs[i]? = some x,fun i H => ∃ xs,SqT K H a xs∧xs.length ≤ i⟩
def Itr (lo:Int) (n:Nat):It:=⟨fun i _ => i < n,fun i H x H' => H' = H∧x = .int (lo + i),fun i _ => n ≤ i⟩
theorem Jhg {P:Program} {w:World} {K:PySem.W.Frag} {tg:Expr} (a it:Addr):Turn P w K tg (Itl K a) [it] it (fun i h => h.IsListIter it a i) where
 mem:=by simp
 obj:=fun i h st b hb => by
  have e:b = it:=by simpa using hb
  subst e
  obtain ⟨o,e,c,d⟩:=st
  exact ⟨o,e,fun v z => by rw [d] at z; cases z⟩
 keep:=fun i h h' st k => st.at fun o e => k it (by simp) o e
 item:=by
  intro X hP hw hK hc i pins s σ H E I hf st hg
  subst hP hw hK
  obtain ⟨xs,x,hq,hx⟩:=hg
  obtain ⟨its,rv,p,hz⟩:=I.list hq
  obtain ⟨u,hu,ru⟩:=rv.get hx
  obtain ⟨f0,f1,f2,f3,f4,f5⟩:=hf it (by simp)
  refine wpAny_pyNext_list_item st p.isList (x:=u) (by simpa using hu) fun h' st' sb => ?_
  have I1:Inv X pins σ H { s with heap:=h' }:=I.turned (t':=s.toks) (fun b o hb e => (sb.2 b hb).trans e) f0 f1 f3 f4 f5
  obtain ⟨o,e,c,d⟩:=id st'
  exact ⟨u,rfl,go_of (s:={ s with heap:=h' }) e c d (by decide) ⟨x,H,I1,ru,⟨rfl,fun ys hy => by rw [I.list_inj hy hq]; exact hx⟩,st',fun b hb => (hf b hb).1⟩⟩
 done:=by
  intro X hP hw hK hc i pins s σ H E I hf st hg
  subst hP hw hK
  obtain ⟨xs,hq,hx⟩:=hg
  obtain ⟨its,rv,p,hz⟩:=I.list hq
  obtain ⟨f0,f1,f2,f3,f4,f5⟩:=hf it (by simp)
  have hl:=rv.length
  exact wpAny_pyNext_list_end (I.ok.hd hc) st p.isList (by simp; omega) fun h' eb => ⟨rfl,I.turned (t':=s.toks) (fun b o hb e => eb b o hb e) f0 f1 f3 f4 f5⟩
 self:=fun _ _ _ _ _ st h => wpAny_pyIter_listiter st h
theorem Jgj {P:Program} {w:World} {K:PySem.W.Frag} {tg:Expr} (a it:Addr):Turn P w K tg (Itt K a) [it] it (fun i h => h.IsTupleIter it a i) where
 mem:=by simp
 obj:=fun i h st b hb => by
  have e:b = it:=by simpa using hb
  subst e
  obtain ⟨o,e,c,d⟩:=st
  exact ⟨o,e,fun v z => by rw [d] at z; cases z⟩
 keep:=fun i h h' st k => st.at fun o e => k it (by simp) o e
 item:=by
  intro X hP hw hK hc i pins s σ H E I hf st hg
  subst hP hw hK
  obtain ⟨xs,x,hq,hx⟩:=hg
  obtain ⟨its,rv,p,hz⟩:=I.tuple hq
  obtain ⟨u,hu,ru⟩:=rv.get hx
  obtain ⟨f0,f1,f2,f3,f4,f5⟩:=hf it (by simp)
  refine wpAny_pyNext_tuple_item st (show s.heap.IsTuple a its.toArray from p) (x:=u) (by simpa using hu) fun h' st' sb => ?_
  have I1:Inv X pins σ H { s with heap:=h' }:=I.turned (t':=s.toks) (fun b o hb e => (sb.2 b hb).trans e) f0 f1 f3 f4 f5
  obtain ⟨o,e,c,d⟩:=id st'
  exact ⟨u,rfl,go_of (s:={ s with heap:=h' }) e c d (by decide) ⟨x,H,I1,ru,⟨rfl,fun ys hy => by rw [I.tuple_inj hy hq]; exact hx⟩,st',fun b hb => (hf b hb).1⟩⟩
 done:=by
  intro X hP hw hK hc i pins s σ H E I hf st hg
  subst hP hw hK
  obtain ⟨xs,hq,hx⟩:=hg
  obtain ⟨its,rv,p,hz⟩:=I.tuple hq
  obtain ⟨f0,f1,f2,f3,f4,f5⟩:=hf it (by simp)
  have hl:=rv.length
  exact wpAny_pyNext_tuple_end (I.ok.hd hc) st (show s.heap.IsTuple a its.toArray from p) (by simp; omega) fun h' eb => ⟨rfl,I.turned (t':=s.toks) (fun b o hb e => eb b o hb e) f0 f1 f3 f4 f5⟩
 self:=fun _ _ _ _ _ st h => wpAny_pyIter_tupleiter st h
theorem Jgi {P:Program} {w:World} {K:PySem.W.Frag} {tg:Expr} (it:Addr) (lo:Int) (n:Nat):Turn P w K tg (Itr lo n) [it] it (fun i h => IsRangeIter h it (lo + (i:Nat) * 1) ((n:Int) - (i:Nat)) 1) where
 mem:=by simp
 obj:=fun i h st b hb => by
  have e:b = it:=by simpa using hb
  subst e
  exact ⟨_,st,fun v z => by
   have z':Data.fields _ = Data.cell v:=z
   cases z'⟩
 keep:=fun i h h' st k => k it (by simp) _ st
 item:=by
  intro X hP hw hK hc i pins s σ H E I hf st hg
  subst hP hw hK
  obtain ⟨f0,f1,f2,f3,f4,f5⟩:=hf it (by simp)
  have W:=Walks.range (prog:=X.prog) (w:=X.w) (I.ok.hd hc) it lo 1 n
  refine W.item i s _ _ hg st fun v h' tk hv st' kk => ?_
  obtain ⟨t,rfl⟩:=hv
  have I1:Inv X pins σ H { s with heap:=h',toks:=tk }:=I.turned (fun b o hb e => kk b o (by simpa using hb) e) f0 f1 f3 f4 f5
  refine ⟨_,rfl,go_of (s:={ s with heap:=h',toks:=tk }) (n:="range_iterator") st' rfl rfl (by decide) ⟨.int (lo + i),H,I1,⟨t, ?_⟩,⟨rfl,rfl⟩,st',fun b hb => (hf b hb).1⟩⟩
  rw [Int.mul_one]
 done:=by
  intro X hP hw hK hc i pins s σ H E I hf st hg
  subst hP hw hK
  obtain ⟨f0,f1,f2,f3,f4,f5⟩:=hf it (by simp)
  exact wpAny_pyNext_range_end (I.ok.hd hc) st (by have : n ≤ i:=hg; omega) fun h' eb => ⟨rfl,I.turned (t':=s.toks) (fun b o hb e => eb b o hb e) f0 f1 f3 f4 f5⟩
 self:=fun _ _ _ _ _ st h => wpAny_pyIter_rangeiter st h
end L2
namespace L2
open PySem PySem.Spec PyProof.Rows
section
variable {X:Cx} {tg:Expr}
theorem JhG {pins:List (Addr × Obj)} {σ : St} {H:Hp} {s:Shared} {R:It→Hp→Prop} {E:Value→Shared→Prop} {lo hi:Int} {t u v:Tok} {tk:Nat} (I:Inv X pins σ H s) (h1 : -(2 ^ 62) ≤ lo) (h2:lo < 2 ^ 62) (h3 : -(2 ^ 62) ≤ hi) (h4:hi < 2 ^ 62)
  (q:R (Itr lo (hi - lo).toNat) H):wpAny (model X.prog X.w) X.A (pyIter (.ref s.heap.objs.size)) (PIE X pins σ tg R) E { s with heap:=s.heap.push { cls:=.type "range",data:=.fields #[.int lo t, .int hi u, .int 1 v] },toks:=tk }:=by
 refine wpAny_pyIter_range (IsRange.new ..) (small_one h1 h2 h3 h4) ?_
 have I1:Inv X pins σ H { s with heap:=s.heap.push { cls:=.type "range",data:=.fields #[.int lo t, .int hi u, .int 1 v] },toks:=tk }:=I.kept fun b o e => Heap.get?_push_of_some _ e
 refine ⟨(s.heap.push { cls:=.type "range",data:=.fields #[.int lo t, .int hi u, .int 1 v] }).objs.size,[(s.heap.push { cls:=.type "range",data:=.fields #[.int lo t, .int hi u, .int 1 v] }).objs.size],_,_,H,rfl,
  I1.kept (t':=tk) fun b o e => Heap.get?_push_of_some _ e,Jgi _ lo (hi - lo).toNat, ?_,fun b hb => ?_,q⟩
 ·have e1:lo + ((0:Nat):Int) * 1 = lo:=by simp
  have e2:(((hi - lo).toNat:Nat):Int) - ((0:Nat):Int) = Builtin.Range.rangeSize lo hi 1:=by rw [rangeSize_one]; split <;> omega
  show IsRangeIter _ _ (lo + ((0:Nat):Int) * 1) ((((hi - lo).toNat:Nat):Int) - ((0:Nat):Int)) 1
  rw [e1,e2]
  exact Heap.get?_push_size _ rfl
 ·have e:b = (s.heap.push { cls:=.type "range",data:=.fields #[.int lo t, .int hi u, .int 1 v] }).objs.size:=by simpa using hb
  subst e
  exact I1.fpOk (Nat.le_refl _) (I1.hok.fresh (Nat.le_refl _))
def iRng1 (ta:TA):TI:=fun σ H R => ta σ H fun vs H1 => ∃ j:Int,vs = [.int j]∧-(2 ^ 62) ≤ j∧j < 2 ^ 62∧R (Itr 0 j.toNat) H1
def iRng2 (ta:TA):TI:=fun σ H R => ta σ H fun vs H1 => ∃ i j:Int,vs = [.int i, .int j]∧(-(2 ^ 62) ≤ i∧i < 2 ^ 62∧-(2 ^ 62) ≤ j∧j < 2 ^ 62)∧R (Itr i (j - i).toNat) H1
theorem Jby {a:Expr} {ta:TA} {p pos:Pos} (hg:Gl X "range") (hm:X.mg "range" = none) (ha:PA X [a] ta) (hs:starEach [a] X.env = [(false,eval a X.env)]:=by rfl):PI X tg (.Call (.Name "range" p) [a] [] pos) (iRng1 ta):=by
 intro pins s σ H R I h
 refine Call_ (JdK I hg hm boot_range (PyProof.Rows.callWith_type1 (thn (ha pos pins s σ H _ I h) fun us s1 ⟨vs,H1,I1,r1,q1⟩ => ?_) hs rfl))
 obtain ⟨j,e,q1,q2,q⟩:=q1
 subst e
 cases r1 with
 | cons r rr =>
  cases rr
  obtain ⟨t,rfl⟩:=r
  exact call_range_1 (JhG I1 (by omega) (by omega) q1 q2 (by simpa using q))
def tFor (wi:TI) (g:TG) (tb:TS):TS:=fun D σ H => wi σ H fun J H1 => ∃ W:Nat→Nat→St→Hp→Prop,(∃ m,W 0 m σ H1)∧∀ i m σ H,W i m σ H →
 (J.stop i H∧D.nx σ H) ∨ (J.go i H∧∃ N:St→Hp→Prop,(∀ σ' H',N σ' H'→∃ m',m' < m∧W (i + 1) m' σ' H')∧∀ x H',J.yld i H x H'→g x σ H' fun σ2 H2 => tb { D with nx:=N,ct:=N,bk:=D.nx } σ2 H2)
def JfL (fp:List Addr) (h:Heap):List (Addr × Obj):=fp.filterMap fun b => (h.get? b).map fun o => (b,o)
theorem Jbv {fp:List Addr} {h:Heap} {b:Addr} {o:Obj} (hb:b ∈ fp) (e:h.get? b = some o):(b,o) ∈ JfL fp h:=List.mem_filterMap.mpr ⟨b,hb,by rw [e]; rfl⟩
theorem JgQ {fp:List Addr} {h:Heap} {p:Addr × Obj} (hp:p ∈ JfL fp h):p.1 ∈ fp∧h.get? p.1 = some p.2:=by
 obtain ⟨b,hb,e⟩:=List.mem_filterMap.mp hp
 cases q:h.get? b with
 | none => rw [q] at e; cases e
 | some o =>
  rw [q] at e
  have e':(b,o) = p:=Option.some.inj e
  subst e'
  exact ⟨hb,q⟩
theorem Inv.pinned {pins:List (Addr × Obj)} {σ : St} {H:Hp} {s:Shared} {fp:List Addr} (I:Inv X pins σ H s) (hf:∀ b ∈ fp,FpOk X pins H b) (ho:∀ b ∈ fp, ∃ o,s.heap.get? b = some o∧∀ v,o.data ≠ .cell v):Inv X (pins ++ JfL fp s.heap) σ H s :=
 I.pins_of fun p hp => (List.mem_append.mp hp).elim (fun z => I.pin p (List.mem_append_right _ z)) fun z => by
  obtain ⟨hb,e⟩:=JgQ z
  obtain ⟨f0,f1,f2,_⟩:=hf p.1 hb
  obtain ⟨o,e',d⟩:=ho p.1 hb
  rw [e] at e'; cases e'
  exact ⟨e,f0,f1,f2,d⟩
theorem Inv.unpinned {pins pl:List (Addr × Obj)} {σ : St} {H:Hp} {s:Shared} (I:Inv X (pins ++ pl) σ H s):Inv X pins σ H s:=I.pins_of fun p hp => I.pin p (List.mem_append_right _ (List.mem_append_left _ hp))
theorem Ja2 {iter:Expr} {body:List Stmt} {wi:TI} {g:TG} {tb:TS} {pos:Pos} (hp:PassesOwn (model X.prog X.w) X.A X.env X.xe) (hc:X.calm = true) (hi:PI X tg iter wi) (hg:PG X tg g) (hb:PSs X body tb)
  (hs:∀ x,foldedSetIterable iter X.env x = pure x:=by intro _; rfl):PS X (.For tg iter body [] pos) (tFor wi g tb):=by
 intro pins s σ H D I h
 refine wpAny_For (thn (hi pins s σ H _ I h) fun v s1 h1 => thn h1 fun itv s2 h2 => ?_) hs
 obtain ⟨it,fp,tn,J,H2,e,I2,T,st2,f2,W,⟨m0,w0⟩,turn⟩:=h2
 subst e
 have stat:∀ {H':Hp},(∀ b ∈ fp,H' b = none)→∀ b ∈ fp,FpOk X pins H' b:=fun hn b hb => ⟨hn b hb,(f2 b hb).2⟩
 refine codeAny_forLoop_any (fun n s' => ∃ i σ' H',Inv X pins σ' H' s'∧tn i s'.heap∧(∀ b ∈ fp,H' b = none)∧W i n σ' H') ?_ m0 ⟨0, σ,H2,I2,st2,fun b hb => (f2 b hb).1,w0⟩
 rintro n s3 ⟨i, σ3,H3,I3,st3,fr3,w3⟩
 rcases turn i n σ3 H3 w3 with ⟨stop,qn⟩ | ⟨go,N,hN,step⟩
 ·refine wpAny_passesOwn hp (thn (T.done X rfl rfl rfl hc i pins s3 σ3 H3 X.xe I3 (stat fr3) st3 stop) fun r s4 ⟨hr,I4⟩ => ?_)
  subst hr
  exact wpAny_execs_nil ⟨σ3,H3,I4,qn⟩
 ·refine wpAny_passesOwn hp (thn (T.item X rfl rfl rfl hc i pins s3 σ3 H3 X.xe I3 (stat fr3) st3 go) fun r s4 ⟨u,hr,h4⟩ => ?_)
  subst hr
  refine wpAny_passesOwn hp (thn h4 fun _ s5 ⟨x,H5,I5,r5,y5,st5,fr5⟩ => ?_)
  have I5':=I5.pinned (stat fr5) (T.obj _ _ st5)
  refine wpAny_passesOwn hp (thn (hg _ s5 σ3 H5 x u _ I5' r5 (step x H5 y5)) fun _ s6 ⟨σ6,H6,I6,q6⟩ => ?_)
  refine wpAny_passesOwn hp (thn (hb _ s6 σ6 H6 _ I6 q6) fun f s7 q7 => ?_)
  have again:∀ {σ7:St} {H7:Hp},Inv X (pins ++ JfL fp s5.heap) σ7 H7 s7→N σ7 H7→∃ m,m < n∧∃ i σ' H',Inv X pins σ' H' s7∧tn i s7.heap∧(∀ b ∈ fp,H' b = none)∧W i m σ' H':=fun {σ7 H7} I7 n7 => by
   obtain ⟨m',hm,w7⟩:=hN σ7 H7 n7
   refine ⟨m',hm,i + 1, σ7,H7,I7.unpinned,T.keep _ _ _ st5 fun b hb o e => (I7.pin (b,o) (List.mem_append_right _ (List.mem_append_right _ (Jbv hb e)))).1,fun b hb => ?_,w7⟩
   obtain ⟨o,e,d⟩:=T.obj _ _ st5 b hb
   exact (I7.pin (b,o) (List.mem_append_right _ (List.mem_append_right _ (Jbv hb e)))).2.1
  cases f with
  | next => obtain ⟨σ7,H7,I7,n7⟩:=q7; exact again I7 n7
  | cont => obtain ⟨σ7,H7,I7,n7⟩:=q7; exact again I7 n7
  | brk => obtain ⟨σ7,H7,I7,q7⟩:=q7; exact ⟨σ7,H7,I7.unpinned,q7⟩
  | ret v => obtain ⟨x7, σ7,H7,I7,r7,q7⟩:=q7; exact ⟨x7, σ7,H7,I7.unpinned,r7,q7⟩
end
theorem Jho {K:PySem.W.Frag} {a:Addr} {xs:List V} {g:TG} {tb:TS} {D:Ends} {σ : St} {H:Hp} (Pv:Nat→St→Hp→Prop) (h0:Pv 0 σ H) (hl:∀ i σ H,i ≤ xs.length→Pv i σ H→SqL K H a xs)
  (hs:∀ i x σ H,xs[i]? = some x→Pv i σ H→g x σ H fun σ2 H2 => tb { D with nx:=Pv (i + 1),ct:=Pv (i + 1),bk:=D.nx } σ2 H2) (hd:∀ σ H,Pv xs.length σ H→D.nx σ H) :
  ∃ W:Nat→Nat→St→Hp→Prop,(∃ m,W 0 m σ H)∧∀ i m σ H,W i m σ H →
   ((Itl K a).stop i H∧D.nx σ H) ∨ ((Itl K a).go i H∧∃ N:St→Hp→Prop,(∀ σ' H',N σ' H'→∃ m',m' < m∧W (i + 1) m' σ' H')∧∀ x H',(Itl K a).yld i H x H'→g x σ H' fun σ2 H2 => tb { D with nx:=N,ct:=N,bk:=D.nx } σ2 H2):=by
 refine ⟨fun i m σ H => m = xs.length - i∧i ≤ xs.length∧Pv i σ H,⟨xs.length,by simp,Nat.zero_le _,h0⟩, ?_⟩
 rintro i m σ H ⟨rfl,hi,p⟩
 have q:=hl i σ H hi p
 by_cases hlt:i < xs.length
 ·refine .inr ⟨⟨xs,xs[i],q,by simp [hlt]⟩,Pv (i + 1),fun σ' H' p' => ⟨xs.length - (i + 1),by omega,rfl,hlt,p'⟩,fun x H' y => ?_⟩
  obtain ⟨e,y⟩:=y
  subst e
  exact hs i x σ _ (y xs q) p
 ·have e:i = xs.length:=by omega
  subst e
  exact .inl ⟨⟨xs,q,Nat.le_refl _⟩,hd σ H p⟩
theorem Jik {K:PySem.W.Frag} {a:Addr} {xs:List V} {g:TG} {tb:TS} {D:Ends} {σ : St} {H:Hp} (Pv:Nat→St→Hp→Prop) (h0:Pv 0 σ H) (hl:∀ i σ H,i ≤ xs.length→Pv i σ H→SqT K H a xs)
  (hs:∀ i x σ H,xs[i]? = some x→Pv i σ H→g x σ H fun σ2 H2 => tb { D with nx:=Pv (i + 1),ct:=Pv (i + 1),bk:=D.nx } σ2 H2) (hd:∀ σ H,Pv xs.length σ H→D.nx σ H) :
  ∃ W:Nat→Nat→St→Hp→Prop,(∃ m,W 0 m σ H)∧∀ i m σ H,W i m σ H →
   ((Itt K a).stop i H∧D.nx σ H) ∨ ((Itt K a).go i H∧∃ N:St→Hp→Prop,(∀ σ' H',N σ' H'→∃ m',m' < m∧W (i + 1) m' σ' H')∧∀ x H',(Itt K a).yld i H x H'→g x σ H' fun σ2 H2 => tb { D with nx:=N,ct:=N,bk:=D.nx } σ2 H2):=by
 refine ⟨fun i m σ H => m = xs.length - i∧i ≤ xs.length∧Pv i σ H,⟨xs.length,by simp,Nat.zero_le _,h0⟩, ?_⟩
 rintro i m σ H ⟨rfl,hi,p⟩
 have q:=hl i σ H hi p
 by_cases hlt:i < xs.length
 ·refine .inr ⟨⟨xs,xs[i],q,by simp [hlt]⟩,Pv (i + 1),fun σ' H' p' => ⟨xs.length - (i + 1),by omega,rfl,hlt,p'⟩,fun x H' y => ?_⟩
  obtain ⟨e,y⟩:=y
  subst e
  exact hs i x σ _ (y xs q) p
 ·have e:i = xs.length:=by omega
  subst e
  exact .inl ⟨⟨xs,q,Nat.le_refl _⟩,hd σ H p⟩
theorem JgA {lo:Int} {n:Nat} {g:TG} {tb:TS} {D:Ends} {σ : St} {H:Hp} (Pv:Nat→St→Hp→Prop) (h0:Pv 0 σ H)
  (hs:∀ i σ H,i < n→Pv i σ H→g (.int (lo + i)) σ H fun σ2 H2 => tb { D with nx:=Pv (i + 1),ct:=Pv (i + 1),bk:=D.nx } σ2 H2) (hd:∀ σ H,Pv n σ H→D.nx σ H) :
  ∃ W:Nat→Nat→St→Hp→Prop,(∃ m,W 0 m σ H)∧∀ i m σ H,W i m σ H →
   ((Itr lo n).stop i H∧D.nx σ H) ∨ ((Itr lo n).go i H∧∃ N:St→Hp→Prop,(∀ σ' H',N σ' H'→∃ m',m' < m∧W (i + 1) m' σ' H')∧∀ x H',(Itr lo n).yld i H x H'→g x σ H' fun σ2 H2 => tb { D with nx:=N,ct:=N,bk:=D.nx } σ2 H2):=by
 refine ⟨fun i m σ H => m = n - i∧i ≤ n∧Pv i σ H,⟨n,by simp,Nat.zero_le _,h0⟩, ?_⟩
 rintro i m σ H ⟨rfl,hi,p⟩
 by_cases hlt:i < n
 ·refine .inr ⟨hlt,Pv (i + 1),fun σ' H' p' => ⟨n - (i + 1),by omega,rfl,hlt,p'⟩,fun x H' y => ?_⟩
  obtain ⟨e,y⟩:=y
  subst e y
  exact hs i σ _ hlt p
 ·have e:i = n:=by omega
  subst e
  exact .inl ⟨Nat.le_refl _,hd σ H p⟩
end L2
namespace L2
open PySem PySem.Spec PyProof.Rows
abbrev R2:=V→V→Hp→VK→Prop
def OpR (X:Cx) (f:Value→Value→Sem Value) (r:R2):Prop :=
 ∀ (pins:List (Addr × Obj)) (s:Shared) (σ : St) (H:Hp) (x y:V) (v u:Value) (Q:VK),Inv X pins σ H s→RelV x v→RelV y u→r x y H Q →
  wpAny (model X.prog X.w) X.A (f v u) (EP X pins σ Q) X.xe s
def UnR (X:Cx) (f:Value→Sem Value) (r:V→Hp→VK→Prop):Prop :=
 ∀ (pins:List (Addr × Obj)) (s:Shared) (σ : St) (H:Hp) (x:V) (v:Value) (Q:VK),Inv X pins σ H s→RelV x v→r x H Q →
  wpAny (model X.prog X.w) X.A (f v) (EP X pins σ Q) X.xe s
def CallR (X:Cx) (f:Value) (r:List V→Hp→VK→Prop):Prop :=
 ∀ (pins:List (Addr × Obj)) (s:Shared) (σ : St) (H:Hp) (xs:List V) (us:List Value) (Q:VK),Inv X pins σ H s→Vals xs us→r xs H Q →
  wpAny (model X.prog X.w) X.A (call f us) (EP X pins σ Q) X.xe s
def tOp (r:R2) (ta tb:TE):TE:=fun σ H Q => ta σ H fun x H1 => tb σ H1 fun y H2 => r x y H2 Q
def tUn (r:V→Hp→VK→Prop) (ta:TE):TE:=fun σ H Q => ta σ H fun x H1 => r x H1 Q
def rI (C:Int→Int→Prop) (g:Int→Int→V):R2:=fun x y H Q => ∃ i j,x = .int i∧y = .int j∧C i j∧Q (g i j) H
def rI0 (g:Int→Int→V):R2:=fun x y H Q => ∃ i j,x = .int i∧y = .int j∧Q (g i j) H
def rU (g:Int→V):V→Hp→VK→Prop:=fun x H Q => ∃ i,x = .int i∧Q (g i) H
section
variable {X:Cx} {a b c:Expr} {ta tb tc:TE} {pos:Pos}
theorem binT (ha:PE X a ta) (hb:PE X b tb) {pins:List (Addr × Obj)} {s:Shared} {σ : St} {H:Hp} {R:V→V→Hp→Prop} (I:Inv X pins σ H s)
  (h:ta σ H fun x H1 => tb σ H1 fun y H2 => R x y H2) {Q:Value→Shared→Prop} {f:Value→Value→Sem Value}
  (hf:∀ v u s2 x y H2,Inv X pins σ H2 s2→RelV x v→RelV y u→R x y H2→wpAny (model X.prog X.w) X.A (f v u) Q X.xe s2) :
  wpAny (model X.prog X.w) X.A (eval a X.env) (fun v s₁ => wpAny (model X.prog X.w) X.A (eval b X.env) (fun u s₂ => wpAny (model X.prog X.w) X.A (f v u) Q X.xe s₂) X.xe s₁) X.xe s:=by
 refine thn (ha pins s σ H _ I h) fun v s1 ⟨x,H1,I1,r1,q1⟩ => ?_
 refine thn (hb pins s1 σ H1 _ I1 q1) fun u s2 ⟨y,H2,I2,r2,q2⟩ => ?_
 exact hf v u s2 x y H2 I2 r1 r2 q2
theorem pe_op {op:Operator} {r:R2} (ho:OpR X (binaryOp op) r) (ha:PE X a ta) (hb:PE X b tb):PE X (.BinOp a op b pos) (tOp r ta tb):=by
 intro pins s σ H Q I h
 exact wpAny_BinOp (binT ha hb I h fun v u s2 x y H2 I2 rx ry q => ho pins s2 σ H2 x y v u Q I2 rx ry q)
theorem pe_un {op:UnaryOp} {r:V→Hp→VK→Prop} (ho:UnR X (unaryOp op) r) (ha:PE X a ta):PE X (.UnaryOp op a pos) (tUn r ta):=by
 intro pins s σ H Q I h
 exact UnaryOp_ (thn (ha pins s σ H _ I h) fun v s1 ⟨x,H1,I1,r1,q1⟩ => ho pins s1 σ H1 x v Q I1 r1 q1)
theorem opI {f:Value→Value→Sem Value} {C:Int→Int→Prop} {g:Int→Int→Int}
  (rule:∀ (i j:Int) (t u:Tok) (s:Shared) (Q:Value→Shared→Prop) (E:Value→Shared→Prop),C i j→Q (.int (g i j) s.toks) { s with toks:=s.toks + 1 }→wpAny (model X.prog X.w) X.A (f (.int i t) (.int j u)) Q E s) :
  OpR X f (rI C fun i j => .int (g i j)):=by
 intro pins s σ H x y v u Q I rx ry h
 obtain ⟨i,j,rfl,rfl,hc,q⟩:=h
 obtain ⟨t,rfl⟩:=rx
 obtain ⟨t',rfl⟩:=ry
 exact rule i j t t' s _ _ hc ⟨.int (g i j),H,I.tok _,⟨_,rfl⟩,q⟩
theorem opI0 {f:Value→Value→Sem Value} {g:Int→Int→Int}
  (rule:∀ (i j:Int) (t u:Tok) (s:Shared) (Q:Value→Shared→Prop) (E:Value→Shared→Prop),Q (.int (g i j) s.toks) { s with toks:=s.toks + 1 }→wpAny (model X.prog X.w) X.A (f (.int i t) (.int j u)) Q E s) :
  OpR X f (rI0 fun i j => .int (g i j)):=by
 intro pins s σ H x y v u Q I rx ry h
 obtain ⟨i,j,rfl,rfl,q⟩:=h
 obtain ⟨t,rfl⟩:=rx
 obtain ⟨t',rfl⟩:=ry
 exact rule i j t t' s _ _ ⟨.int (g i j),H,I.tok _,⟨_,rfl⟩,q⟩
theorem opB0 {f:Value→Value→Sem Value} {g:Int→Int→Bool}
  (rule:∀ (i j:Int) (t u:Tok) (s:Shared) (Q:Value→Shared→Prop) (E:Value→Shared→Prop),Q (.bool (g i j)) s→wpAny (model X.prog X.w) X.A (f (.int i t) (.int j u)) Q E s) :
  OpR X f (rI0 fun i j => .bl (g i j)):=by
 intro pins s σ H x y v u Q I rx ry h
 obtain ⟨i,j,rfl,rfl,q⟩:=h
 obtain ⟨t,rfl⟩:=rx
 obtain ⟨t',rfl⟩:=ry
 exact rule i j t t' s _ _ ⟨.bl (g i j),H,I,rfl,q⟩
def CPow (i j:Int):Prop:=0 ≤ j∧j ≤ 1000000∧i.natAbs < 2 ^ 64
theorem Jjb:OpR X (binaryOp .Add) (rI0 fun i j => .int (i + j)):=opI0 fun _ _ _ _ _ _ _ q => add_int q
theorem JfH:OpR X (binaryOp .Sub) (rI0 fun i j => .int (i - j)):=opI0 fun _ _ _ _ _ _ _ q => sub_int q
theorem Jiv:OpR X (binaryOp .Mod) (rI (fun _ j => j ≠ 0) fun i j => .int (i.fmod j)):=opI fun _ _ _ _ _ _ _ hc q => mod_int' hc q
theorem Jjh:OpR X (binaryOp .Pow) (rI CPow fun i j => .int (i ^ j.toNat)):=opI fun _ _ _ _ _ _ _ hc q => pow_int_small hc.1 hc.2.1 hc.2.2 q
theorem unI {f:Value→Sem Value} {g:Int→Int}
  (rule:∀ (i:Int) (t:Tok) (s:Shared) (Q:Value→Shared→Prop) (E:Value→Shared→Prop),Q (.int (g i) s.toks) { s with toks:=s.toks + 1 }→wpAny (model X.prog X.w) X.A (f (.int i t)) Q E s) :
  UnR X f (rU fun i => .int (g i)):=by
 intro pins s σ H x v Q I rx h
 obtain ⟨i,rfl,q⟩:=h
 obtain ⟨t,rfl⟩:=rx
 exact rule i t s _ _ ⟨.int (g i),H,I.tok _,⟨_,rfl⟩,q⟩
theorem JfQ:UnR X (unaryOp .USub) (rU fun i => .int (-i)):=unI fun _ _ _ _ _ q => neg_int q
end
def scal:V→V→Bool
 | .non, .non => true | .non, .int _ => true | .int _, .non => true | .non, .bl _ => true | .bl _, .non => true | .non, .str _ => true | .str _, .non => true
 | .int _, .int _ => true | .bl _, .bl _ => true | .str _, .str _ => true | .byt _, .byt _ => true
 | .int _, .str _ => true | .str _, .int _ => true | .bl _, .str _ => true | .str _, .bl _ => true
 | _,_ => false
def rEq:R2:=fun x y H Q => scal x y = true∧Q (.bl (decide (x = y))) H
def rNe:R2:=fun x y H Q => scal x y = true∧Q (.bl (!decide (x = y))) H
theorem Jgx {i j:Int}:decide (V.int i = V.int j) = (i == j):=by
 rw [Bool.eq_iff_iff]
 simp
theorem JhQ {i j:Bool}:decide (V.bl i = V.bl j) = (i == j):=by
 rw [Bool.eq_iff_iff]
 simp
theorem Jgy {i j:Str}:decide (V.str i = V.str j) = (i == j):=by
 rw [Bool.eq_iff_iff]
 simp
theorem Jgw {i j:Array UInt8}:decide (V.byt i = V.byt j) = (i.toList == j.toList):=by
 rw [Bool.eq_iff_iff]
 cases i
 cases j
 simp
section
variable {X:Cx} {a b c:Expr} {ta tb tc:TE} {pos:Pos}
theorem JaN {pins:List (Addr × Obj)} {σ : St} {H:Hp} {s:Shared} {Q:VK} {k k':Bool} (I:Inv X pins σ H s) (q:Q (.bl k) H) (e:k = k'):EP X pins σ Q (.bool k') s:=by
 subst e
 exact ⟨.bl k,H,I,rfl,q⟩
theorem op_eq:OpR X (compareOp .Eq) rEq:=by
 intro pins s σ H x y v u Q I rx ry h
 obtain ⟨hs,q⟩:=h
 cases x with
 | non =>
  cases rx
  cases y with
  | non => cases ry; exact PySem.EqNone.eq_none_none (JaN I q (by simp))
  | bl j => cases ry; exact PySem.EqNone.eq_none_bool (JaN I q (by simp))
  | int j => obtain ⟨t',rfl⟩:=ry; exact PySem.EqNone.eq_none_int (JaN I q (by simp))
  | str j => obtain ⟨t',rfl⟩:=ry; exact PySem.EqNone.eq_none_str (JaN I q (by simp))
  | _ => exact absurd (show false = true from hs) Bool.false_ne_true
 | bl i =>
  cases rx
  cases y with
  | non => cases ry; exact PySem.EqNone.eq_bool_none (JaN I q (by simp))
  | bl j => cases ry; exact eq_bool (JaN I q JhQ)
  | str j => obtain ⟨t',rfl⟩:=ry; exact PySem.EqMixed.eq_bool_str (JaN I q (by simp))
  | _ => exact absurd (show false = true from hs) Bool.false_ne_true
 | int i =>
  obtain ⟨t,rfl⟩:=rx
  cases y with
  | non => cases ry; exact PySem.EqNone.eq_int_none (JaN I q (by simp))
  | int j => obtain ⟨t',rfl⟩:=ry; exact eq_int (JaN I q Jgx)
  | str j => obtain ⟨t',rfl⟩:=ry; exact PySem.EqMixed.eq_int_str (JaN I q (by simp))
  | _ => exact absurd (show false = true from hs) Bool.false_ne_true
 | str i =>
  obtain ⟨t,rfl⟩:=rx
  cases y with
  | non => cases ry; exact PySem.EqNone.eq_str_none (JaN I q (by simp))
  | bl j => cases ry; exact PySem.EqMixed.eq_str_bool (JaN I q (by simp))
  | int j => obtain ⟨t',rfl⟩:=ry; exact PySem.EqMixed.eq_str_int (JaN I q (by simp))
  | str j => obtain ⟨t',rfl⟩:=ry; exact eq_str (JaN I q Jgy)
  | _ => exact absurd (show false = true from hs) Bool.false_ne_true
 | byt i =>
  obtain ⟨t,rfl⟩:=rx
  cases y with
  | byt j => obtain ⟨t',rfl⟩:=ry; exact PySem.W.eq_bytes (JaN I q Jgw)
  | _ => exact absurd (show false = true from hs) Bool.false_ne_true
 | _ => cases y <;> exact absurd (show false = true from hs) Bool.false_ne_true
theorem op_ne:OpR X (compareOp .NotEq) rNe:=by
 intro pins s σ H x y v u Q I rx ry h
 obtain ⟨hs,q⟩:=h
 cases x with
 | non =>
  cases rx
  cases y with
  | non => cases ry; exact PySem.EqNone.ne_none_none (JaN I q (by simp))
  | bl j => cases ry; exact PySem.EqNone.ne_none_bool (JaN I q (by simp))
  | int j => obtain ⟨t',rfl⟩:=ry; exact PySem.EqNone.ne_none_int (JaN I q (by simp))
  | str j => obtain ⟨t',rfl⟩:=ry; exact PySem.EqNone.ne_none_str (JaN I q (by simp))
  | _ => exact absurd (show false = true from hs) Bool.false_ne_true
 | bl i =>
  cases rx
  cases y with
  | non => cases ry; exact PySem.EqNone.ne_bool_none (JaN I q (by simp))
  | bl j => cases ry; exact ne_bool (JaN I q (congrArg not JhQ))
  | str j => obtain ⟨t',rfl⟩:=ry; exact PySem.EqMixed.ne_bool_str (JaN I q (by simp))
  | _ => exact absurd (show false = true from hs) Bool.false_ne_true
 | int i =>
  obtain ⟨t,rfl⟩:=rx
  cases y with
  | non => cases ry; exact PySem.EqNone.ne_int_none (JaN I q (by simp))
  | int j => obtain ⟨t',rfl⟩:=ry; exact ne_int (JaN I q (congrArg not Jgx))
  | str j => obtain ⟨t',rfl⟩:=ry; exact PySem.EqMixed.ne_int_str (JaN I q (by simp))
  | _ => exact absurd (show false = true from hs) Bool.false_ne_true
 | str i =>
  obtain ⟨t,rfl⟩:=rx
  cases y with
  | non => cases ry; exact PySem.EqNone.ne_str_none (JaN I q (by simp))
  | bl j => cases ry; exact PySem.EqMixed.ne_str_bool (JaN I q (by simp))
  | int j => obtain ⟨t',rfl⟩:=ry; exact PySem.EqMixed.ne_str_int (JaN I q (by simp))
  | str j => obtain ⟨t',rfl⟩:=ry; exact ne_str (JaN I q (congrArg not Jgy))
  | _ => exact absurd (show false = true from hs) Bool.false_ne_true
 | byt i =>
  obtain ⟨t,rfl⟩:=rx
  cases y with
  | byt j => obtain ⟨t',rfl⟩:=ry; exact PySem.W.ne_bytes (JaN I q (congrArg not Jgw))
  | _ => exact absurd (show false = true from hs) Bool.false_ne_true
 | _ => cases y <;> exact absurd (show false = true from hs) Bool.false_ne_true
theorem op_lt:OpR X (compareOp .Lt) (rI0 fun i j => .bl (decide (i < j))):=opB0 fun _ _ _ _ _ _ _ q => lt_int q
theorem op_gt:OpR X (compareOp .Gt) (rI0 fun i j => .bl (decide (j < i))):=opB0 fun _ _ _ _ _ _ _ q => gt_int q
theorem op_ge:OpR X (compareOp .GtE) (rI0 fun i j => .bl (decide (j ≤ i))):=opB0 fun _ _ _ _ _ _ _ q => ge_int q
theorem JgV:OpR X (compareOp .In) (fun x y H Q => ∃ i j,x = .str i∧y = .str j∧Q (.bl (!(Builtin.Str.occurrences j i 0 j.length 1).isEmpty)) H):=by
 intro pins s σ H x y v u Q I rx ry h
 obtain ⟨i,j,rfl,rfl,q⟩:=h
 obtain ⟨t,rfl⟩:=rx
 obtain ⟨t',rfl⟩:=ry
 exact in_str (JaN I q rfl)
theorem Jjf:OpR X (compareOp .Is) (fun x y H Q => y = .non∧Q (.bl (decide (x = .non))) H):=by
 intro pins s σ H x y v u Q I rx ry h
 obtain ⟨rfl,q⟩:=h
 cases ry
 refine is_none_gen (JaN I q ?_)
 cases x <;> first
  | (cases rx; rfl)
  | (obtain ⟨t,rfl⟩:=rx; rfl)
theorem Jiy:OpR X (compareOp .IsNot) (fun x y H Q => y = .non∧Q (.bl (!decide (x = .non))) H):=by
 intro pins s σ H x y v u Q I rx ry h
 obtain ⟨rfl,q⟩:=h
 cases ry
 refine isnot_none_gen (JaN I q ?_)
 cases x <;> first
  | (cases rx; rfl)
  | (obtain ⟨t,rfl⟩:=rx; rfl)
theorem JaD (b:Expr) {op:CmpOp} (h:op ≠ .In:=by decide) (h2:op ≠ .NotIn:=by decide):behindInMarks op b = false:=by
 have e1:(op == CmpOp.In) = false:=by cases op <;> first | rfl | exact absurd rfl h
 have e2:(op == CmpOp.NotIn) = false:=by cases op <;> first | rfl | exact absurd rfl h2
 cases b <;> simp [behindInMarks,e1,e2]
theorem Jbl {op:CmpOp} {r:R2} (ho:OpR X (compareOp op) r) (ha:PE X a ta) (hb:PE X b tb) (hm:behindInMarks op b = false):PE X (.Compare a [op] [b] pos) (tOp r ta tb):=by
 intro pins s σ H Q I h
 exact wpAny_Compare1 (binT ha hb I h fun v u s2 x y H2 I2 rx ry q => ho pins s2 σ H2 x y v u Q I2 rx ry q) hm
def tTest (t:TE):TT:=fun σ H Q => t σ H fun x H' => ∃ k,x = .bl k∧Q k H'
theorem Jaz {op:CmpOp} {r:R2} (ho:OpR X (compareOp op) r) (ha:PE X a ta) (hb:PE X b tb) (hm:behindInMarks op b = false):PT X (.Compare a [op] [b] pos) (tTest (tOp r ta tb)):=by
 intro pins s σ H Q I h
 refine wpAny_isTrue_Compare1 (thn (ha pins s σ H _ I h) fun v s1 ⟨x,H1,I1,r1,q1⟩ => thn (hb pins s1 σ H1 _ I1 q1) fun u s2 ⟨y,H2,I2,r2,q2⟩ =>
  thn (ho pins s2 σ H2 x y v u _ I2 r1 r2 q2) fun c s3 ⟨z,H3,I3,r3,k,e,q3⟩ => ?_) hm
 subst e
 cases r3
 exact wpAny_truthy_bool ⟨H3,I3,q3⟩
def Jjs (r r':R2) (ta tb tc:TE):TE:=fun σ H Q => ta σ H fun x H1 => tb σ H1 fun y H2 => r x y H2 fun z H3 => ∃ k,z = .bl k ∧
 (if k = true then tc σ H3 fun w' H4 => r' y w' H4 Q else Q (.bl false) H3)
theorem Jde:(sizeLine:Nat) < 2 ^ 63:=by rw [sizeLine_eq]; decide
theorem Jf9:OpR X (binaryOp .Add) (fun x y H Q => ∃ i j,x = .str i∧y = .str j∧i.length + j.length ≤ sizeLine∧Q (.str (i ++ j)) H):=by
 intro pins s σ H x y v u Q I rx ry h
 obtain ⟨i,j,rfl,rfl,hz,q⟩:=h
 obtain ⟨t,rfl⟩:=rx
 obtain ⟨t',rfl⟩:=ry
 exact add_str (fun t' tk => ⟨.str (i ++ j),H,I.tok _,⟨_,rfl⟩,q⟩) hz
theorem vals1 {x:V} {us:List Value} (r:Vals [x] us):∃ u,us = [u]∧RelV x u:=by
 cases r with
 | cons r1 r2 => cases r2; exact ⟨_,rfl,r1⟩
theorem vals2 {x y:V} {us:List Value} (r:Vals [x,y] us):∃ u w',us = [u,w']∧RelV x u∧RelV y w':=by
 cases r with
 | cons r1 r2 =>
  cases r2 with
  | cons r3 r4 => cases r4; exact ⟨_,_,rfl,r1,r3⟩
theorem Jhl:CallR X (.builtin "abs") (fun xs H Q => ∃ i,xs = [.int i]∧Q (.int (if i < 0 then -i else i)) H):=by
 intro pins s σ H xs us Q I r h
 obtain ⟨i,rfl,q⟩:=h
 obtain ⟨u,rfl,t,rfl⟩:=vals1 r
 exact call_abs_int fun u tk => ⟨.int (if i < 0 then -i else i),H,I.tok _,⟨_,rfl⟩,q⟩
theorem Jgq (hc:X.calm = true):CallR X (.builtin "min") (fun xs H Q => ∃ i j,xs = [.int i, .int j]∧Q (.int (if j < i then j else i)) H):=by
 intro pins s σ H xs us Q I r h
 obtain ⟨i,j,rfl,q⟩:=h
 obtain ⟨u,w',rfl,⟨t,rfl⟩,⟨t',rfl⟩⟩:=vals2 r
 refine min_two_ints (I.ok.hd hc) fun h' tk k => ⟨_,H,I.kept k, ?_,q⟩
 by_cases hj:j < i
 ·rw [if_pos hj,if_pos hj]; exact ⟨_,rfl⟩
 ·rw [if_neg hj,if_neg hj]; exact ⟨_,rfl⟩
theorem Jet:CallR X (.type "int") (fun xs H Q => (∃ i,xs = [.int i]∧Q (.int i) H) ∨ ∃ k,xs = [.bl k]∧Q (.int (if k then 1 else 0)) H):=by
 intro pins s σ H xs us Q I r h
 rcases h with ⟨i,rfl,q⟩ | ⟨k,rfl,q⟩
 ·obtain ⟨u,rfl,t,rfl⟩:=vals1 r
  exact call_int_int ⟨.int i,H,I,⟨_,rfl⟩,q⟩
 ·obtain ⟨u,rfl,r1⟩:=vals1 r
  cases r1
  exact call_int_bool ⟨.int (if k then 1 else 0),H,I.tok _,⟨_,rfl⟩,q⟩
end
end L2
namespace L2
open PySem PySem.Spec PyProof.Rows
structure ObjM (h:Heap) (x dx C:Addr) (mA:Str→Option Value):Prop where
 obj:h.get? x = some (PySem.W.instObj C dx)
 ns:h.Ns1 dx mA
 ne:dx ≠ x
theorem Jez {h:Heap} {dx:Addr} {mA:Str→Option Value} (n:h.Ns1 dx mA):∃ od,h.get? dx = some od∧∀ name,PySem.W.lookIn name od = some (mA name):=by
 obtain ⟨o,es,ep,ho,hd,hk,_,hm⟩:=n
 refine ⟨o,ho,fun name => ?_⟩
 have e:=hm name
 unfold nsFind findBy at e
 rw [← Array.find?_toList] at e
 unfold PySem.W.lookIn
 rw [hd]
 dsimp only
 split
 ·rename_i y q
  rw [q] at e
  exact congrArg some e
 ·rename_i q
  rw [q] at e
  have a:es.toList.any (·.refKey) = false:=by
   rw [List.any_eq_false]
   intro y hy
   obtain ⟨z,t,hkey⟩:=hk y (Array.mem_toList_iff.mp hy)
   simp [DictEntry.refKey,hkey]
  have a':¬ es.toList.any (·.refKey) = true:=by rw [a]; exact Bool.false_ne_true
  rw [if_neg a']
  exact congrArg some e
theorem ObjM.look {h:Heap} {x dx C:Addr} {mA:Str→Option Value} (I:ObjM h x dx C mA):∃ od,PySem.W.InstAt h x (PySem.W.instObj C dx) C (some od)∧∀ name,PySem.W.lookIn name od = some (mA name) :=
 let ⟨od,ho,hl⟩:=Jez I.ns
 ⟨od,⟨I.obj,rfl,rfl,ho⟩,hl⟩
section
variable {prog:Program} {w:World} {A:Around} {E:Value→Shared→Prop} {s:Shared} {K:PySem.W.Frag} {x dx C f:Addr} {mA:Str→Option Value} {name:Str} {v:Value}
theorem get_map {expr:Bool} {Q:Value→Shared→Prop} (X:K.In s.heap) (I:ObjM s.heap x dx C mA) (hg:PySem.W.plainGet K C name = true) (hh:PySem.W.hasDictIn K C = true)
  (ha:PySem.W.findIn K (.ref C) name = some none) (hv:mA name = some v) (hv':PySem.W.handedIn v = true) (h:Q v { s with toks:=s.toks + 1 }) :
  wpAny (model prog w) A (getAttr (.ref x) name expr) Q E s:=by
 obtain ⟨od,J,hl⟩:=I.look
 exact PySem.W.get_value X J (PySem.W.plainGet_of hg).1 (PySem.W.findObj_own hh ha rfl (by rw [hl,hv])) hv' h
theorem Jhp {pl:Sem Bool} {Q:Value × List Value→Shared→Prop} (X:K.In s.heap) (I:ObjM s.heap x dx C mA) (hg:PySem.W.plainGet K C name = true)
  (hf:PySem.W.findIn K (.ref C) name = some (some (.ref f))) (ht:PySem.W.isFn K (.ref f) = true) (hv:mA name = none) (h:Q (.ref f,[.ref x]) s) :
  wpAny (model prog w) A (getMethod (.ref x) name pl) Q E s:=by
 obtain ⟨od,J,hl⟩:=I.look
 exact PySem.W.method_fn X J (PySem.W.plainGet_of hg).1 (PySem.W.plainGet_of hg).2 hf (beq_iff_eq.mp ht) (by show (PySem.W.lookIn name od).map (·.isSome) = some false; rw [hl,hv]; rfl) h
theorem JiJ {ns:List Str} {Q:Unit→Shared→Prop} (X:K.In s.heap) (I:ObjM s.heap x dx C mA)
  (hs:PySem.W.findIn K (.ref C) "__setattr__" = some (some (.builtin "object.__setattr__"))) (hp:PySem.W.plainOver K C = true) (ht:PySem.W.takerIn K C name = some none) (hh:PySem.W.hasDictIn K C = true)
  (hw:PySem.Within mA ns) (hsz:ns.length ≤ sizeLine)
  (h:∀ h',ObjM h' x dx C (fun y => if y = name then some v else mA y)→Heap.SameBut dx s.heap h'→Q () { s with heap:=h',toks:=s.toks + 2 }) :
  wpAny (model prog w) A (setAttr (.ref x) name v) Q E s:=by
 obtain ⟨od,J,hl⟩:=I.look
 refine PySem.W.set_plain X J hs (PySem.W.osa_open (s:={ s with toks:=s.toks + 1 }) (r:=none) X J hp ht fun b => ?_)
 obtain ⟨cd,hc,hd'⟩:=PySem.W.any_some hh
 have hx:s.heap.get? x = some ⟨.ref C,some dx, .plain, #[]⟩:=I.obj
 refine wpAny_bind (wpAny_pure (wpAny_bind (wpAny_bind (wpAny_loadPart hx (wpAny_bind (PySem.W.Looks.here (s:={ s with toks:=s.toks + 1 }) (PySem.W.looks_clsIn X hc) ?_))))))
 rw [hd']
 refine wpAny_pure (a:=some dx) (wpAny_bind (wpAny_pure (wpAny_bind ?_)))
 refine wpAny_nsSet1 (s:={ s with toks:=s.toks + 1 }) I.ns fun h' hn2 hs2 => ?_
 obtain ⟨oD,esD,epD,hoD,hdD,hcD⟩:=hn2.count (PySem.Within.cons name v hw)
 refine wpAny_bind (wpAny_lookBehind hoD (by rw [hdD]; exact pastItsLine_dict (Nat.le_trans hcD (by rw [List.length_cons]; omega))) ?_)
 exact wpAny_pure (h _ ⟨(hs2.2 _ (Ne.symm I.ne)).trans I.obj,hn2,I.ne⟩ hs2)
theorem Jht {R:Result→Shared→Prop} {vs:List Value} {kw:List (Str × Value)} (X:K.In s.heap) (hm:PySem.W.makesIn K C = true)
  (hi:PySem.W.findIn K (.ref C) "__init__" = some (some (.ref f))) (hf:PySem.W.typeIn K (.ref f) = some (.type "function"))
  (h:codeAny (model prog w) (A.under (.builtin "type.__call__" ⟨.ref C :: vs,kw⟩)) (.call (.ref f) ⟨.ref (s.heap.objs.size + 1) :: vs,kw⟩) (PySem.W.InitBack (s.heap.objs.size + 1) R)
   { s with heap:=(s.heap.push PySem.W.emptyDict).push (PySem.W.instObj C s.heap.objs.size) }) :
  codeAny (model prog w) A (.call (.ref C) ⟨vs,kw⟩) R s:=by
 obtain ⟨hh,g,d,t,os⟩:=s
 exact PySem.W.make_core (PySem.W.makes_of X hm) (PySem.W.looks_findIn X hi) (fun self => PySem.W.bind_fn X self hf) (.inl rfl) h
end
def putF (f:Str) (v:V):List (Str × V)→List (Str × V)
 | [] => [(f,v)]
 | (g,x) :: r => if g = f then (g,v) :: r else (g,x) :: putF f v r
theorem Jdf (f g:Str) (v:V):∀ fs:List (Str × V),(putF f v fs).lookup g = if g = f then some v else fs.lookup g
 | [] => by
  show List.lookup g [(f,v)] = _
  by_cases h:g = f
  ·have hb:(g == f) = true:=beq_iff_eq.mpr h
   simp only [List.lookup,hb,if_pos h]
  ·have hb:(g == f) = false:=beq_eq_false_iff_ne.mpr h
   simp only [List.lookup,hb,if_neg h]
 | (k,x) :: r => by
  have ih:=Jdf f g v r
  rw [show putF f v ((k,x) :: r) = (if k = f then (k,v) :: r else (k,x) :: putF f v r) from rfl]
  by_cases hk:k = f
  ·rw [if_pos hk]
   by_cases h:g = k
   ·have hb:(g == k) = true:=beq_iff_eq.mpr h
    simp only [List.lookup,hb,if_pos (h.trans hk)]
   ·have hb:(g == k) = false:=beq_eq_false_iff_ne.mpr h
    simp only [List.lookup,hb,if_neg (fun e:g = f => h (e.trans hk.symm))]
  ·rw [if_neg hk]
   by_cases h:g = k
   ·have hb:(g == k) = true:=beq_iff_eq.mpr h
    simp only [List.lookup,hb,if_neg (fun e:g = f => hk (h.symm.trans e))]
   ·have hb:(g == k) = false:=beq_eq_false_iff_ne.mpr h
    simp only [List.lookup,hb]
    exact ih
theorem Jdb (f:Str) (v:V):∀ fs:List (Str × V),f ∈ (putF f v fs).map (·.1)∧∀ g,g ∈ fs.map (·.1)→g ∈ (putF f v fs).map (·.1)
 | [] => ⟨by simp [putF],fun g h => by simp at h⟩
 | (k,x) :: r => by
  obtain ⟨i1,i2⟩:=Jdb f v r
  rw [show putF f v ((k,x) :: r) = (if k = f then (k,v) :: r else (k,x) :: putF f v r) from rfl]
  by_cases hk:k = f
  ·rw [if_pos hk]
   subst hk
   exact ⟨by simp,fun g h => by simpa using h⟩
  ·rw [if_neg hk]
   refine ⟨?_,fun g h => ?_⟩
   ·rw [List.map_cons]
    exact List.mem_cons_of_mem _ i1
   ·rw [List.map_cons] at h ⊢
    rcases List.mem_cons.mp h with e | e
    ·exact List.mem_cons.mpr (.inl e)
    ·exact List.mem_cons_of_mem _ (i2 g e)
theorem Jdd (f:Str) (v:V):∀ fs:List (Str × V),(putF f v fs).length ≤ fs.length + 1
 | [] => by simp [putF]
 | (k,x) :: r => by
  have ih:=Jdd f v r
  rw [show putF f v ((k,x) :: r) = (if k = f then (k,v) :: r else (k,x) :: putF f v r) from rfl]
  by_cases hk:k = f
  ·rw [if_pos hk,List.length_cons,List.length_cons]; omega
  ·rw [if_neg hk,List.length_cons,List.length_cons]; omega
theorem RelO.some_of {v:V} {o:Option Value} (r:RelO (some v) o):∃ u,o = some u∧RelV v u:=by
 cases o with
 | none => exact (show False from r).elim
 | some u => exact ⟨u,rfl,r⟩
theorem RelO.none_of {o:Option Value} (r:RelO none o):o = none:=by
 cases o with
 | none => rfl
 | some u => exact (show False from r).elim
theorem JgF {v:V} {u:Value} (r:RelV v u):PySem.W.handedIn u = true:=by
 cases v with
 | non => cases (show u = Value.none from r); rfl
 | bl b => cases (show u = Value.bool b from r); rfl
 | int i => obtain ⟨t,e⟩:=(show ∃ t,u = Value.int i t from r); cases e; rfl
 | str x => obtain ⟨t,e⟩:=(show ∃ t,u = Value.str x t from r); cases e; rfl
 | byt b => obtain ⟨t,e⟩:=(show ∃ t,u = Value.bytes b t from r); cases e; rfl
 | flt b => obtain ⟨t,e⟩:=(show ∃ t,u = Value.float b t from r); cases e; rfl
 | ref a => cases (show u = Value.ref a from r); rfl
 | ty n => cases (show u = Value.type n from r); rfl
section
variable {P:Program} {w:World} {H H':Hp} {h h':Heap} {a C dx:Addr} {fs fs':List (Str × V)}
theorem Je4 (hok:HOk P w H h) (e:H a = some (.ins C dx fs)):∃ mA,ObjM h a dx C mA∧(∀ f,RelO (fs.lookup f) (mA f))∧PySem.Within mA (fs.map (·.1))∧fs.length ≤ 1000∧H dx = some (.own a):=by
 obtain ⟨d,z,ne,ob,mA,n,r,q⟩:=(show ObjOk P w H h a (.ins C dx fs) from hok a _ e)
 exact ⟨mA,⟨ob,n,ne⟩,r,q,z,d⟩
end
structure Cls (K:PySem.W.Frag) (C:Addr):Prop where
 pg:PySem.W.plainGet K C Str.empty = true
 hd:PySem.W.hasDictIn K C = true
 po:PySem.W.plainOver K C = true
 sa:PySem.W.findIn K (.ref C) "__setattr__" = some (some (.builtin "object.__setattr__"))
theorem Cls.get {K:PySem.W.Frag} {C:Addr} (c:Cls K C) (f:Str):PySem.W.plainGet K C f = true:=c.pg
def JaW (K:PySem.W.Frag) (C:Addr) (f:Str):Prop:=PySem.W.findIn K (.ref C) f = some none
theorem JaW.taker {K:PySem.W.Frag} {C:Addr} {f:Str} (n:JaW K C f):PySem.W.takerIn K C f = some none:=by
 unfold PySem.W.takerIn
 rw [show PySem.W.findIn K (.ref C) f = some none from n]
 rfl
structure Meth (K:PySem.W.Frag) (C:Addr) (m:Str) (f:Addr):Prop where
 at_:PySem.W.findIn K (.ref C) m = some (some (.ref f))
 fn:PySem.W.isFn K (.ref f) = true
 kp:PySem.W.keepIn K (.ref f) = true
section
variable {X:Cx} {pins:List (Addr × Obj)} {σ : St} {H:Hp} {s:Shared} {a C dx:Addr} {fs:List (Str × V)} {f:Str} {v:V} {A:Around} {E:Value→Shared→Prop}
theorem JfX {b:Bool} {Q:Value→Shared→Prop} (I:Inv X pins σ H s) (e:H a = some (.ins C dx fs)) (c:Cls X.K C) (n:JaW X.K C f) (l:fs.lookup f = some v)
  (h:∀ u s',Inv X pins σ H s'→RelV v u→Q u s'):wpAny (model X.prog X.w) A (getAttr (.ref a) f b) Q E s:=by
 obtain ⟨mA,O,r,_,_,_⟩:=Je4 I.hok e
 obtain ⟨u,hu,ru⟩:=RelO.some_of (v:=v) (o:=mA f) (by rw [← l]; exact r f)
 exact get_map I.kIn O (c.get f) c.hd n hu (JgF ru) (h u _ (I.tok _) ru)
theorem JdJ {m:Str} {g:Addr} {pl:Sem Bool} {Q:Value × List Value→Shared→Prop} (I:Inv X pins σ H s) (e:H a = some (.ins C dx fs)) (c:Cls X.K C) (k:Meth X.K C m g) (l:fs.lookup m = none)
  (h:Q (.ref g,[.ref a]) s):wpAny (model X.prog X.w) A (getMethod (.ref a) m pl) Q E s:=by
 obtain ⟨mA,O,r,_,_,_⟩:=Je4 I.hok e
 have hn:mA m = none:=RelO.none_of (by rw [← l]; exact r m)
 exact Jhp I.kIn O (c.get m) k.at_ k.fn hn h
theorem Jgg {y:V} {u:Value} {Q:Unit→Shared→Prop} (I:Inv X pins σ H s) (e:H a = some (.ins C dx fs)) (c:Cls X.K C) (n:JaW X.K C f) (hl:fs.length < 1000) (ry:RelV y u)
  (h:∀ s',Inv X pins σ (upd H a (.ins C dx (putF f y fs))) s'→Q () s'):wpAny (model X.prog X.w) A (setAttr (.ref a) f u) Q E s:=by
 obtain ⟨mA,O,r,wi,_,ho⟩:=Je4 I.hok e
 have hz:(fs.map (·.1)).length ≤ sizeLine:=by rw [List.length_map,sizeLine_eq]; omega
 refine JiJ I.kIn O c.sa c.po n.taker c.hd wi hz fun h' O' sb => h _ ?_
 have hd:∃ o,h'.get? dx = some o:=let ⟨o,_,_,e',_⟩:=O'.ns; ⟨o,e'⟩
 refine I.write (x:=a) (e:=dx) (by rw [e]; exact True.intro) (.inr ho) (fun b q hb z => (sb.2 b hb).trans z) hd ?_
 refine ⟨by rw [Jah O.ne]; exact ho, ?_,O.ne,O'.obj,_,O'.ns,fun g => ?_,fun g hg => ?_⟩
 ·have:=Jdd f y fs; omega
 ·show RelO ((putF f y fs).lookup g) (if g = f then some u else mA g)
  rw [Jdf]
  by_cases q:g = f
  ·rw [if_pos q,if_pos q]; exact ry
  ·rw [if_neg q,if_neg q]; exact r g
 ·by_cases q:g = f
  ·rw [q]; exact (Jdb f y fs).1
  ·refine (Jdb f y fs).2 g (wi g fun z => hg ?_)
   show (if g = f then some u else mA g) = none
   rw [if_neg q]; exact z
theorem Inv.made (I:Inv X pins σ H s):Inv X pins σ (upd (upd H s.heap.objs.size (.own (s.heap.objs.size + 1))) (s.heap.objs.size + 1) (.ins C s.heap.objs.size []))
  { s with heap:=(s.heap.push PySem.W.emptyDict).push (PySem.W.instObj C s.heap.objs.size) }:=by
 have e1:(s.heap.push PySem.W.emptyDict).get? s.heap.objs.size = some PySem.W.emptyDict:=Heap.get?_push_size s.heap rfl
 have e2:((s.heap.push PySem.W.emptyDict).push (PySem.W.instObj C s.heap.objs.size)).get? (s.heap.objs.size + 1) = some (PySem.W.instObj C s.heap.objs.size):=by
  have:=Heap.get?_push_size (s.heap.push PySem.W.emptyDict) (o:=PySem.W.instObj C s.heap.objs.size) rfl
  rwa [Heap.size_push] at this
 have e3:(s.heap.push PySem.W.emptyDict).Ns s.heap.objs.size (fun _ => none):=⟨PySem.W.emptyDict, #[],_,e1,rfl,(fun e he => absurd he (by simp)),fun _ => rfl⟩
 have I1:=I.laid (a:=s.heap.objs.size) (o:=.own (s.heap.objs.size + 1)) (h':=s.heap.push PySem.W.emptyDict) (t':=s.toks) (fun b u q => Heap.get?_push_of_some _ q) (Nat.le_refl _) ⟨_,e1⟩
 refine I1.laid (a:=s.heap.objs.size + 1) (o:=.ins C s.heap.objs.size []) (t':=s.toks) (fun b u q => Heap.get?_push_of_some _ q) (Nat.le_of_eq (Heap.size_push _ _)) ?_
 have ne:s.heap.objs.size ≠ s.heap.objs.size + 1:=Nat.ne_of_lt (Nat.lt_succ_self _)
 refine ⟨by rw [Jah ne,Jak],Nat.zero_le _,ne,e2,fun _ => none,(Heap.Ns1.of_empty e3).at fun o q => Heap.get?_push_of_some _ q,fun _ => True.intro,fun y hy => absurd rfl hy⟩
theorem Jh9 {prog:Program} {w:World} {env:Env} {e:Expr} {f:Str} {pos:Pos} {s:Shared} {Q:Value→Shared→Prop} (hb:attributeBase e f env (eval e env) = eval e env)
  (h:wpAny (model prog w) A (eval e env) (fun o s₁ => wpAny (model prog w) A (getAttr o f true) Q E s₁) E s):wpAny (model prog w) A (eval (.Attribute e f pos) env) Q E s :=
 Attribute_any_ h (by rw [arm_eval_Attribute,hb])
end
def tFld (K:PySem.W.Frag) (ta:TE) (f:Str):TE:=fun σ H Q => ta σ H fun x H1 => ∃ a C dx fs v,x = .ref a∧H1 a = some (.ins C dx fs)∧Cls K C∧JaW K C f∧fs.lookup f = some v∧Q v H1
def sFld (K:PySem.W.Frag) (ta tv:TE) (f:Str):TS:=fun D σ H => tv σ H fun y H1 => ta σ H1 fun x H2 => ∃ a C dx fs,x = .ref a∧H2 a = some (.ins C dx fs)∧Cls K C∧JaW K C f∧fs.length < 1000 ∧
 D.nx σ (upd H2 a (.ins C dx (putF f y fs)))
section
variable {X:Cx} {o e value:Expr} {f:Str} {pos pos' tpos:Pos} {ta tv:TE}
theorem Jax (he:PE X e ta) (hb:attributeBase e f X.env (eval e X.env) = eval e X.env):PE X (.Attribute e f pos) (tFld X.K ta f):=by
 intro pins s σ H Q I h
 refine Jh9 hb (thn (he pins s σ H _ I h) fun u s1 ⟨x,H1,I1,rx,a,C,dx,fs,v,ex,ea,c,n,l,q⟩ => ?_)
 subst ex
 obtain rfl:u = Value.ref a:=rx
 exact JfX I1 ea c n l fun u' s2 I2 ru => ⟨v,H1,I2,ru,q⟩
theorem Jbk (ha:PE X o ta) (hv:PE X value tv) (hs:swapsWith value (some (.Attribute o f pos')) pos.line X.env = pure false):PS X (.Assign [.Attribute o f pos'] value pos) (sFld X.K ta tv f):=by
 intro pins s σ H D I h
 refine plainObj_wpAny_Assign_Attribute (thn (hv pins s σ H _ I h) fun u s1 ⟨y,H1,I1,ry,q⟩ => thn (ha pins s1 σ H1 _ I1 q) fun ov s2 ⟨x,H2,I2,rx,a,C,dx,fs,ex,ea,c,n,l,q2⟩ => ?_) hs
 subst ex
 obtain rfl:ov = Value.ref a:=rx
 exact Jgg I2 ea c n l ry fun s3 I3 => ⟨σ,_,I3,q2⟩
end
section
variable {X:Cx} {pins:List (Addr × Obj)} {σ : St} {H:Hp} {s:Shared} {A:Around} {E:Value→Shared→Prop} {Q:Value→Shared→Prop} {c:Value} {b:Bool}
end
end L2
namespace L2
open PySem PySem.Spec PyProof.Rows
structure Room (k:Nat) (A:Around):Prop where
 hd:A.handled = none
 dp:A.depth + 3 * k + 5 < recursionLimit
 un:A.units + 16 * k + 200 < cLine
theorem Room.mono {j k:Nat} {A:Around} (r:Room k A) (h:j ≤ k):Room j A:=⟨r.hd,by have:=r.dp; omega,by have:=r.un; omega⟩
theorem Room.deeper {k:Nat} {A:Around} (r:Room (k + 1) A) (env:Env):Room k (A.deeper env) :=
 ⟨r.hd,by have:=r.dp; show A.depth + 1 + 3 * k + 5 < _; omega,by have:=r.un; show A.units + 3 + 16 * k + 200 < _; omega⟩
theorem Jf1 {A:Around} {C:Addr} {us:List Value} {kw:List (Str × Value)}:(A.under (.builtin "type.__call__" ⟨.ref C :: us,kw⟩)).depth = A.depth + 1:=by
 first | rfl | simp [Around.under,Code.weight,Code.isCreation,Code.isGuard,Code.isCaller,Code.frames,Code.isFrame,guardIds]
theorem Jf2 {A:Around} {C:Addr} {us:List Value} {kw:List (Str × Value)}:(A.under (.builtin "type.__call__" ⟨.ref C :: us,kw⟩)).units = A.units + 1:=by
 first | rfl | simp [Around.under,Code.cUnits,Code.frames,Code.isFrame]
theorem Room.make {k:Nat} {A:Around} (r:Room (k + 1) A) (C:Addr) (us:List Value) (kw:List (Str × Value)):Room k (A.under (.builtin "type.__call__" ⟨.ref C :: us,kw⟩)) :=
 ⟨r.hd,by have:=r.dp; rw [Jf1]; omega,by have:=r.un; rw [Jf2]; omega⟩
theorem Room.depth {k:Nat} {A:Around} (r:Room k A):A.depth < recursionLimit:=by have:=r.dp; omega
theorem Room.units {k:Nat} {A:Around} (r:Room k A):A.units + 64 < cLine:=by have:=r.un; omega
def tNil:TA:=fun _ H Q => Q [] H
def tCons (ta:TE) (tr:TA):TA:=fun σ H Q => ta σ H fun x H1 => tr σ H1 fun xs H2 => Q (x :: xs) H2
section
variable {X:Cx} {e:Expr} {es:List Expr} {te:TE} {t:TA} {pos:Pos}
theorem Jad:PA X [] tNil:=fun _ _ _ _ H Q I h => Calls.spliced_nil ⟨[],H,I, .nil,h⟩
theorem JgY (ha:PE X e te) (hr:PA X es t) (hs:starEach (e :: es) X.env = (false,eval e X.env) :: starEach es X.env:=by rfl):PA X (e :: es) (tCons te t):=by
 intro pos pins s σ H Q I h
 rw [hs]
 show wpAny _ _ (spliced ((false,eval e X.env) :: backTo pos (starEach es X.env))) _ _ s
 refine Calls.spliced_cons (thn (ha pins s σ H _ I h) fun u s1 ⟨x,H1,I1,r1,q1⟩ => ?_)
 exact thn (hr pos pins s1 σ H1 _ I1 q1) fun us s2 ⟨xs,H2,I2,r2,q2⟩ => ⟨x :: xs,H2,I2, .cons r1 r2,q2⟩
def tTup (t:TA):TE:=fun σ H Q => t σ H fun xs H1 => xs.length ≤ sizeLine∧∀ p,H1 p = none→Q (.ref p) (upd H1 p (.tup xs))
def tLst (t:TA):TE:=fun σ H Q => t σ H fun xs H1 => xs.length ≤ sizeLine∧∀ p,H1 p = none→Q (.ref p) (upd H1 p (.lst xs))
theorem Ja0 {x1} (h:PA X es t):PE X (.Tuple es x1 pos) (tTup t):=by
 intro pins s σ H Q I hq
 refine wpAny_Tuple_spliced (thn (h pos pins s σ H _ I hq) fun us s1 ⟨xs,H1,I1,r,z,q⟩ => ⟨by rw [← r.length]; exact z, ?_⟩)
 have hf:H1 s1.heap.objs.size = none:=I1.hok.fresh (Nat.le_refl _)
 refine ⟨.ref s1.heap.objs.size,upd H1 s1.heap.objs.size (.tup xs),I1.laid (t':=s1.toks) (fun b u e => Heap.get?_push_of_some _ e) (Nat.le_refl _) ?_,rfl,q _ hf⟩
 exact ⟨z,us,r,⟨_,Heap.get?_push_size _ rfl,rfl,_,rfl⟩⟩
theorem JaX (h:PA X es t):PE X (.List es pos) (tLst t):=by
 intro pins s σ H Q I hq
 refine wpAny_List_spliced (thn (h pos pins s σ H _ I hq) fun us s1 ⟨xs,H1,I1,r,z,q⟩ => ⟨by rw [← r.length]; exact z, ?_⟩)
 have hf:H1 s1.heap.objs.size = none:=I1.hok.fresh (Nat.le_refl _)
 refine ⟨.ref s1.heap.objs.size,upd H1 s1.heap.objs.size (.lst xs),I1.laid (t':=s1.toks) (fun b u e => Heap.get?_push_of_some _ e) (Nat.le_refl _) ?_,rfl,q _ hf⟩
 exact ⟨z,us,0,r,Heap.get?_push_size _ rfl⟩
end
abbrev Sp:=List V→Hp→VK→XK→Prop
abbrev CXT:=List Env→Hp→Shared→XK→Value→Shared→Prop
structure Env0 (P:Program) (w:World) (K:PySem.W.Frag) (mg:Str→Option Value) (base:Heap) (A:Around) (outer:List Env) (s:Shared) (H:Hp):Prop where
 frames:A.frames = some outer
 mod:Mod K mg base
 bs:∀ b o,base.get? b = some o→s.heap.get? b = some o∧H b = none
 bsz:base.objs.size ≤ s.heap.objs.size
 funs:s.heap.FunFrames base outer
 frf:∀ b ∈ frs outer,H b = none
 hok:HOk P w H s.heap
 bare:AllBare s.gens
def CE (outer:List Env) (P:Program) (w:World) (H:Hp) (s:Shared) (Q:VK) (u:Value) (s':Shared):Prop :=
 ∃ v H',s'.os = s.os∧AllBare s'.gens∧Un (frs outer) [] H H' s.heap s'.heap∧HOk P w H' s'.heap∧RelV v u∧Q v H'
def CR (CX:CXT) (outer:List Env) (P:Program) (w:World) (H:Hp) (s:Shared) (Q:VK) (E:XK) (r:Result) (s':Shared):Prop :=
 match r with
 | .ok (.ret u) => CE outer P w H s Q u s'
 | .ok _ => False
 | .error e => CX outer H s E e s'
structure FnOk (P:Program) (w:World) (K:PySem.W.Frag) (mg:Str→Option Value) (base:Heap) (CX:CXT) (k:Nat) (f:Addr) (fd:FuncData) (ps:List Str) (sp:Sp):Prop where
 len:∀ vs H Q E,sp vs H Q E→vs.length = ps.length
 run:∀ (A:Around) (outer:List Env) (s:Shared) (H:Hp) (args:Args) (us:List Value) (vs:List V) (Q:VK) (E:XK),Room k A→Env0 P w K mg base A outer s H→BindsTo s fd args (ps.zip us)→Vals vs us→sp vs H Q E →
  codeAny (model P w) A (.call (.ref f) args) (CR CX outer P w H s Q E) s
theorem Env0.make {P:Program} {w:World} {K:PySem.W.Frag} {mg:Str→Option Value} {base:Heap} {A:Around} {outer:List Env} {s:Shared} {H:Hp} (e:Env0 P w K mg base A outer s H) (C:Addr) (us:List Value) (kw:List (Str × Value)) :
  Env0 P w K mg base (A.under (.builtin "type.__call__" ⟨.ref C :: us,kw⟩)) outer s H:=⟨by first | exact e.frames | (simpa [Around.under,Code.envs,Code.isFrame,pushEnvs] using e.frames),e.mod,e.bs,e.bsz,e.funs,e.frf,e.hok,e.bare⟩
section
variable {X:Cx} {pins:List (Addr × Obj)} {σ : St} {H:Hp} {s s':Shared}
theorem Inv.env0 (I:Inv X pins σ H s):Env0 X.prog X.w X.K X.mg X.base X.A X.stack s H :=
 ⟨I.ok.frames,I.ok.mod,I.bs,Nat.le_trans I.ok.bsz I.sz,I.stack,I.stkFree,I.hok,I.bare⟩
theorem Inv.after {Q:VK} {u:Value} (I:Inv X pins σ H s) (h:CE X.stack X.prog X.w H s Q u s'):EP X pins σ Q u s':=by
 obtain ⟨v,H',os,bare,un,hok,r,q⟩:=h
 obtain ⟨hh,g,d,t,os'⟩:=s'
 obtain rfl:os' = s.os:=os
 exact ⟨v,H',I.call (h':=hh) (g':=g) (d':=d) (t':=t) (ch:=[]) un hok bare (fun b z => absurd z (by simp)),r,q⟩
end
def tCall (sp:Sp) (dvs:List V) (E:XK) (t:TA):TE:=fun σ H Q => t σ H fun vs H1 => sp (vs ++ dvs) H1 Q E
def tMake (C:Addr) (sp:Sp) (dvs:List V) (E:XK) (t:TA):TE:=fun σ H Q => t σ H fun vs H1 => ∀ x dx,H1 x = none→H1 dx = none→dx ≠ x →
 sp (.ref x :: (vs ++ dvs)) (upd (upd H1 dx (.own x)) x (.ins C dx [])) (fun v H2 => v = .non∧Q (.ref x) H2) E
def Binds (K:PySem.W.Frag) (fd:FuncData) (ps:List Str) (ds:List Value):Prop :=
 ∀ (s:Shared) (us:List Value),K.In s.heap→(us ++ ds).length = ps.length→BindsTo s fd ⟨us,[]⟩ (ps.zip (us ++ ds))
theorem Binds.all {K:PySem.W.Frag} {fd:FuncData} {ps:List Str} (h:∀ us:List Value,us.length = ps.length→bindArgs fd ⟨us,[]⟩ = pure (ps.zip us)):Binds K fd ps []:=fun s us _ hl => by
 rw [List.append_nil] at hl ⊢
 exact .of_eq (h us hl)
def JbC (CX:CXT) (X:Cx) (E:XK):Prop:=∀ (pins:List (Addr × Obj)) (σ : St) (H:Hp) (s:Shared) (e:Value) (s':Shared),Inv X pins σ H s→CX X.stack H s E e s'→X.xe e s'
section
variable {X:Cx} {CX:CXT} {k:Nat} {f C:Addr} {fd:FuncData} {ps:List Str} {sp:Sp} {dvs:List V} {ds:List Value} {E:XK} {x m:Str} {p pos apos:Pos} {e o:Expr} {es:List Expr} {ta:TE} {t:TA}
theorem JfN {pins:List (Addr × Obj)} {σ : St} {H:Hp} {s:Shared} {Q:VK} {us:List Value} {vs:List V} (F:FnOk X.prog X.w X.K X.mg X.base CX k f fd ps sp) (hr:Room k X.A) (hb:Binds X.K fd ps ds) (hd:Vals dvs ds) (hx:JbC CX X E)
  (I:Inv X pins σ H s) (r:Vals vs us) (h:sp (vs ++ dvs) H Q E):wpAny (model X.prog X.w) X.A (call (.ref f) us) (EP X pins σ Q) X.xe s:=by
 have r2:Vals (vs ++ dvs) (us ++ ds):=r.append hd
 have hl:(us ++ ds).length = ps.length:=by rw [← r2.length]; exact F.len _ _ _ _ h
 refine wpAny_call (codeAny_mono (F.run X.A X.stack s H ⟨us,[]⟩ (us ++ ds) (vs ++ dvs) Q E hr I.env0 (hb s us I.kIn hl) r2 h) fun r s' hq => ?_)
 cases r with
 | error e => exact hx pins σ H s e s' I hq
 | ok fl =>
  cases fl with
  | ret u => exact I.after hq
  | next => exact False.elim hq
  | brk => exact False.elim hq
  | cont => exact False.elim hq
theorem JiA (F:FnOk X.prog X.w X.K X.mg X.base CX k f fd ps sp) (hr:Room k X.A) (hg:Gl X x) (hm:X.mg x = some (.ref f)) (hk:PySem.W.keepIn X.K (.ref f) = true) (hb:Binds X.K fd ps ds) (hd:Vals dvs ds) (hx:JbC CX X E)
  (ha:PA X (e :: es) t) (hdb:(x == ("__debug__" : Str)) = false:=by decide) (he:starEach (e :: es) X.env = (false,eval e X.env) :: starEach es X.env:=by rfl) (hpl:(backTo pos (starEach es X.env)).any (·.1) = false:=by rfl) :
  PE X (.Call (.Name x p) (e :: es) [] pos) (tCall sp dvs E t):=by
 intro pins s σ H Q I h
 refine wpAny_Call_Name_kw (JcD I hg hm ?_ hdb)
 refine PySem.W.callWith_K (h₀:=X.base) I.ok.mod.kin hk (thn (ha pos pins s σ H _ I h) fun us s1 ⟨vs,H1,I1,r,q⟩ => ⟨I1.kIn, ?_⟩) he hpl
 exact JfN F hr hb hd hx I1 r q
theorem JhB (F:FnOk X.prog X.w X.K X.mg X.base CX k f fd ps sp) (hr:Room k X.A) (hg:Gl X x) (hm:X.mg x = some (.ref f)) (hk:PySem.W.keepIn X.K (.ref f) = true) (hb:Binds X.K fd ps ds) (hd:Vals dvs ds) (hx:JbC CX X E)
  (hdb:(x == ("__debug__" : Str)) = false:=by decide):PE X (.Call (.Name x p) [] [] pos) (tCall sp dvs E tNil):=by
 intro pins s σ H Q I h
 refine wpAny_Call_Name_kw (JcD I hg hm ?_ hdb)
 exact PySem.W.callWith_K0 I.kIn hk (JfN (us:=[]) F hr hb hd hx I .nil h)
structure Mk (K:PySem.W.Frag) (C f:Addr):Prop where
 makes:PySem.W.makesIn K C = true
 init:PySem.W.findIn K (.ref C) "__init__" = some (some (.ref f))
 fn:PySem.W.isFn K (.ref f) = true
 kp:PySem.W.keepIn K (.ref C) = true
theorem JfO {pins:List (Addr × Obj)} {σ : St} {H:Hp} {s:Shared} {Q:VK} {us:List Value} {vs:List V} (M:Mk X.K C f) (F:FnOk X.prog X.w X.K X.mg X.base CX k f fd ps sp) (hr:Room (k + 1) X.A) (hb:Binds X.K fd ps ds) (hd:Vals dvs ds)
  (hx:JbC CX X E) (I:Inv X pins σ H s) (r:Vals vs us)
  (h:∀ x dx,H x = none→H dx = none→dx ≠ x→sp (.ref x :: (vs ++ dvs)) (upd (upd H dx (.own x)) x (.ins C dx [])) (fun v H2 => v = .non∧Q (.ref x) H2) E) :
  wpAny (model X.prog X.w) X.A (call (.ref C) us) (EP X pins σ Q) X.xe s:=by
 have hq:=h (s.heap.objs.size + 1) s.heap.objs.size (I.hok.fresh (Nat.le_succ _)) (I.hok.fresh (Nat.le_refl _)) (Nat.ne_of_lt (Nat.lt_succ_self _))
 have I2:=Inv.made (C:=C) I
 have r2:Vals (V.ref (s.heap.objs.size + 1) :: (vs ++ dvs)) (Value.ref (s.heap.objs.size + 1) :: (us ++ ds)):=.cons rfl (r.append hd)
 have hl:(Value.ref (s.heap.objs.size + 1) :: us ++ ds).length = ps.length:=by
  have e:=r2.length
  rw [F.len _ _ _ _ hq] at e
  exact e.symm
 refine wpAny_call (Jht (f:=f) I.kIn M.makes M.init (beq_iff_eq.mp M.fn) (codeAny_mono (F.run _ X.stack _ _ ⟨Value.ref (s.heap.objs.size + 1) :: us,[]⟩ (Value.ref (s.heap.objs.size + 1) :: (us ++ ds)) _ _ E (hr.make C us [])
  (I2.env0.make C us []) (hb _ (Value.ref (s.heap.objs.size + 1) :: us) I2.kIn hl) r2 hq) fun r s' hq' => ?_))
 cases r with
 | error e => exact hx pins σ _ _ e s' I2 hq'
 | ok fl =>
  cases fl with
  | ret u =>
   obtain ⟨v,H',I3,rv,ev,q3⟩:=I2.after hq'
   subst ev
   exact ⟨rv,⟨V.ref (s.heap.objs.size + 1),H',I3,rfl,q3⟩⟩
  | next => exact False.elim hq'
  | brk => exact False.elim hq'
  | cont => exact False.elim hq'
theorem JiC (M:Mk X.K C f) (F:FnOk X.prog X.w X.K X.mg X.base CX k f fd ps sp) (hr:Room (k + 1) X.A) (hg:Gl X x) (hm:X.mg x = some (.ref C)) (hb:Binds X.K fd ps ds) (hd:Vals dvs ds) (hx:JbC CX X E)
  (ha:PA X (e :: es) t) (hdb:(x == ("__debug__" : Str)) = false:=by decide) (he:starEach (e :: es) X.env = (false,eval e X.env) :: starEach es X.env:=by rfl) (hpl:(backTo pos (starEach es X.env)).any (·.1) = false:=by rfl) :
  PE X (.Call (.Name x p) (e :: es) [] pos) (tMake C sp dvs E t):=by
 intro pins s σ H Q I h
 refine wpAny_Call_Name_kw (JcD I hg hm ?_ hdb)
 refine PySem.W.callWith_K (h₀:=X.base) I.ok.mod.kin M.kp (thn (ha pos pins s σ H _ I h) fun us s1 ⟨vs,H1,I1,r,q⟩ => ⟨I1.kIn, ?_⟩) he hpl
 exact JfO M F hr hb hd hx I1 r q
theorem JhE (M:Mk X.K C f) (F:FnOk X.prog X.w X.K X.mg X.base CX k f fd ps sp) (hr:Room (k + 1) X.A) (hg:Gl X x) (hm:X.mg x = some (.ref C)) (hb:Binds X.K fd ps ds) (hd:Vals dvs ds) (hx:JbC CX X E)
  (hdb:(x == ("__debug__" : Str)) = false:=by decide):PE X (.Call (.Name x p) [] [] pos) (tMake C sp dvs E tNil):=by
 intro pins s σ H Q I h
 refine wpAny_Call_Name_kw (JcD I hg hm ?_ hdb)
 exact PySem.W.callWith_K0 I.kIn M.kp (JfO (us:=[]) M F hr hb hd hx I .nil h)
end
section
variable {X:Cx} {CX:CXT} {k:Nat} {f C:Addr} {fd:FuncData} {ps ks:List Str} {sp:Sp} {E:XK} {x m:Str} {p pos apos kpos:Pos} {e o:Expr} {es:List Expr} {kws:List Keyword} {te ta:TE} {t tk:TA} {nm:Option Str}
variable {g:List Value→List Value→List Value} {gV:List V→List V→List V}
end
structure Jan (N P:List Str) (sc:Scope):Prop where
 kind:sc.kind = .function
 co:sc.isCoroutine = false
 gen:sc.isGenerator = false
 nd:N.Nodup
 pre:N.take P.length = P
 par:∀ x ∈ P,sc.names.lookup x = some .local ∨ sc.names.lookup x = some .cell
 nofree:∀ y ∈ sc.names,y.2 ≠ .free
theorem Jer {kindOf:Str→Option NameKind} {x:Str}:∀ {binds:List (Str × Value)} {m:Str→Option Value},(∀ v,(x,v) ∉ binds)→bindL kindOf binds m x = m x
 | [],_,_ => rfl
 | (n,v) :: r,m,h => by
  unfold bindL
  rw [Jer fun w hw => h w (List.mem_cons_of_mem _ hw)]
  split
  ·have : x ≠ n:=by rintro rfl; exact h v List.mem_cons_self
   simp [this]
  ·rfl
theorem Jep {kindOf:Str→Option NameKind} {x:Str}:∀ {binds:List (Str × Value)} {m:Str→Option Value},(∀ v,(x,v) ∉ binds)→bindC kindOf binds m x = m x
 | [],_,_ => rfl
 | (n,v) :: r,m,h => by
  unfold bindC
  rw [Jep fun w hw => h w (List.mem_cons_of_mem _ hw)]
  split
  ·rfl
  ·have : x ≠ n:=by rintro rfl; exact h v List.mem_cons_self
   simp [this]
theorem Jeq {kindOf:Str→Option NameKind} {x:Str} {v:Value}:∀ {P:List Str} {vs:List Value} {i:Nat} {m:Str→Option Value},P.Nodup→P[i]? = some x→vs[i]? = some v→kindOf x = some .local →
  bindL kindOf (P.zip vs) m x = some v
 | [],_,_,_,_,h,_,_ => by simp at h
 | _ :: _,[],_,_,_,_,h,_ => by simp at h
 | p :: P,w :: vs,0,m,nd,h1,h2,hk => by
  simp at h1 h2; subst h1; subst h2
  show bindL kindOf ((p,w) :: P.zip vs) m p = _
  unfold bindL
  rw [Jer fun v hv => (List.nodup_cons.mp nd).1 (List.of_mem_zip hv).1,if_pos hk]
  simp
 | p :: P,w :: vs,i + 1,m,nd,h1,h2,hk => by
  show bindL kindOf ((p,w) :: P.zip vs) m x = _
  unfold bindL
  exact Jeq (i:=i) (List.nodup_cons.mp nd).2 (by simpa using h1) (by simpa using h2) hk
theorem Jeo {kindOf:Str→Option NameKind} {x:Str} {v:Value}:∀ {P:List Str} {vs:List Value} {i:Nat} {m:Str→Option Value},P.Nodup→P[i]? = some x→vs[i]? = some v→kindOf x ≠ some .local →
  bindC kindOf (P.zip vs) m x = some v
 | [],_,_,_,_,h,_,_ => by simp at h
 | _ :: _,[],_,_,_,_,h,_ => by simp at h
 | p :: P,w :: vs,0,m,nd,h1,h2,hk => by
  simp at h1 h2; subst h1; subst h2
  show bindC kindOf ((p,w) :: P.zip vs) m p = _
  unfold bindC
  rw [Jep fun v hv => (List.nodup_cons.mp nd).1 (List.of_mem_zip hv).1,if_neg hk]
  simp
 | p :: P,w :: vs,i + 1,m,nd,h1,h2,hk => by
  show bindC kindOf ((p,w) :: P.zip vs) m x = _
  unfold bindC
  exact Jeo (i:=i) (List.nodup_cons.mp nd).2 (by simpa using h1) (by simpa using h2) hk
def start (N:List Str) (vs:List V):St:=vs.map some ++ List.replicate (N.length - vs.length) none
def cxOf (CX:CXT) (P:Program) (w:World) (K:PySem.W.Frag) (mg:Str→Option Value) (base:Heap) (N:List Str) (qual:Str) (scope:Scope) (f:Addr) (cd:Value) (A:Around) (outer:List Env) (s:Shared) (H:Hp) (E:XK):Cx where
 prog:=P
 w:=w
 K:=K
 mg:=mg
 base:=base
 A:=A.deeper (envOfC qual scope s.heap.objs.size f cd)
 N:=N
 s₀:=s
 H₀:=H
 env:=envOfC qual scope s.heap.objs.size f cd
 outer:=outer
 stack:=envOfC qual scope s.heap.objs.size f cd :: outer
 ex:=[]
 calm:=true
 fn:=fun _ => true
 pn:=[]
 xe:=fun e s' => wpAny (model P w) (A.deeper (envOfC qual scope s.heap.objs.size f cd)) (leaving (envOfC qual scope s.heap.objs.size f cd) e) (fun _ s'' => CX outer H s E e s'') (fun e' s'' => CX outer H s E e' s'') s'
theorem Jfu {sc:Scope} {n:Nat} {x:Str} (h:sc.names.lookup x = some .cell):∃ c,(cellsFrom n sc.names []).lookup x = some c:=by
 have q:=PySem.W.cellsFrom_some sc.names n [] (.inl h)
 exact Option.isSome_iff_exists.mp q
theorem JgH {CX:CXT} {P:Program} {w:World} {K:PySem.W.Frag} {mg:Str→Option Value} {base:Heap} {N ps:List Str} {qual:Str} {scope:Scope} {f:Addr} {cd:Value} {A:Around} {outer:List Env} {s s1:Shared} {H:Hp} {E:XK} {us:List Value} {vs:List V}
  (S:Jan N ps scope) (hd:A.handled = none) (e0:Env0 P w K mg base A outer s H) (hl:vs.length = ps.length) (r:Vals vs us)
  (x:InCallC s s.heap.objs.size (bindL (envOfC qual scope s.heap.objs.size f cd).kindOf (ps.zip us) fun _ => none) (cellsFrom (s.heap.objs.size + 1) scope.names []) (bindC (envOfC qual scope s.heap.objs.size f cd).kindOf (ps.zip us) fun _ => none) s1) :
  Inv (cxOf CX P w K mg base N qual scope f cd A outer s H E) [] (start N vs) H s1:=by
 have hpl:ps.length ≤ N.length:=by have:=congrArg List.length S.pre; rw [List.length_take] at this; omega
 obtain ⟨h1,tk,rfl,hk⟩:=x.done
 have noA:∀ b:Addr,b ∉ (cxOf CX P w K mg base N qual scope f cd A outer s H E).ex:=fun b z => absurd (show b ∈ ([]:List Addr) from z) (by simp)
 refine ⟨⟨e0.mod,S.kind,rfl,rfl,Nat.le_refl _,fun y z c h1 h2 => ?_,fun y hy => ?_,fun y c _ h => ?_,fun _ => hd,Around.frames_deeper e0.frames, .inr ⟨rfl,rfl⟩,fun b z => absurd z (noA b),e0.bs,e0.bsz,fun b _ _ => noA b,fun b z => absurd z (noA b),e0.funs,e0.frf⟩,
  rfl,e0.bare,Un.kept hk,⟨_,x.toInCall.ns,fun i y v h1 h2 h3 => ?_⟩,fun y c h => ⟨_,x.cell y c h⟩,e0.hok.fresh (Nat.le_refl _),fun y c h => ?_,fun p hp => absurd (show p ∈ ([]:List (Addr × Obj)) from hp) (by simp),e0.hok.kept hk, ?_⟩
 ·exact name_of_addr x.apart (PySem.mem_of_lookup h1) (PySem.mem_of_lookup h2)
 ·have hy:scope.names.lookup y = some .cell ∨ scope.names.lookup y = some .free:=hy
  rcases hy with hy | hy
  ·exact Jfu hy
  ·exact absurd rfl (S.nofree _ (PySem.mem_of_lookup hy))
 ·exact Nat.le_of_lt (x.above y c (PySem.mem_of_lookup h))
 ·have hi:i < vs.length:=by
   unfold start at h2
   by_cases hi:i < vs.length
   ·exact hi
   ·rw [List.getElem?_append_right (by simpa using hi)] at h2
    rw [List.getElem?_replicate] at h2
    split at h2 <;> cases h2
  have ha:vs[i]? = some v:=by
   unfold start at h2
   rw [List.getElem?_append_left (by simpa using hi),List.getElem?_map] at h2
   cases e:vs[i]? with
   | none => rw [e] at h2; cases h2
   | some a => rw [e] at h2; cases h2; rfl
  obtain ⟨u,hu,rv⟩:=r.get ha
  have hp:ps[i]? = some y:=by
   rw [← S.pre,List.getElem?_take_of_lt (by omega)]; exact h1
  have ndP:ps.Nodup:=by rw [← S.pre]; exact S.nd.sublist (List.take_sublist _ _)
  refine ⟨u,rv, ?_⟩
  rcases S.par y (List.mem_of_getElem? hp) with k | k
  ·exact .inl ⟨k,Jeq ndP hp hu k⟩
  ·obtain ⟨c,e⟩:=Jfu (n:=s.heap.objs.size + 1) k
   refine .inr ⟨.inl k,c,e, ?_⟩
   have q:=x.cell y c e
   rw [Jeo ndP hp hu (by show scope.names.lookup y ≠ _; rw [k]; decide)] at q
   exact q
 ·exact e0.hok.fresh (Nat.le_of_lt (x.above y c (PySem.mem_of_lookup h)))
 ·unfold start
  show _ = N.length
  rw [List.length_append,List.length_map,List.length_replicate]
  omega
theorem fn_of {CX:CXT} {P:Program} {w:World} {K:PySem.W.Frag} {mg:Str→Option Value} {base:Heap} {k:Nat} {f:Addr} {name qual:Str} {params:Arguments} {body:List Stmt} {scope:Scope} {dV kV doc pm cdv ct oc:Value} {an od:Option Addr}
  {osl:Array (Option Value)} {N ps:List Str} {sp:Sp} (lk:K.lookup f = some ⟨oc,od, .func (PySem.W.fnOf name qual params body scope dV kV doc pm an cdv ct),osl⟩) (hcd:PySem.W.codeIn K cdv qual = true) (S:Jan N ps scope)
  (len:∀ vs H Q E,sp vs H Q E→vs.length = ps.length)
  (hbody:∀ (A:Around) (outer:List Env) (s:Shared) (H:Hp) (vs:List V) (Q:VK) (E:XK),Room k (A.deeper (envOfC qual scope s.heap.objs.size f cdv))→sp vs H Q E →
   ∃ t,PSs (cxOf CX P w K mg base N qual scope f cdv A outer s H E) body t∧t { nx:=fun _ H' => Q .non H',rt:=Q } (start N vs) H) :
  FnOk P w K mg base CX (k + 1) f (PySem.W.fnOf name qual params body scope dV kV doc pm an cdv ct) ps sp:=by
 refine ⟨len,fun A outer s H args us vs Q E hr e0 hb r hsp => ?_⟩
 have hl:=len _ _ _ _ hsp
 have KX:K.In s.heap:=e0.mod.kin.keeps fun b o e => (e0.bs b o e).1
 have lim:s.heap.NoLimit:=e0.mod.nolimit.keeps fun b o e => (e0.bs b o e).1
 have hkind:∀ y ∈ ps.zip us,scope.names.lookup y.1 = some .local ∨ (scope.names.lookup y.1 = some .cell∧((cellsFrom (s.heap.objs.size + 1) scope.names []).lookup y.1).isSome = true):=fun ⟨n,v⟩ hy => by
  rcases S.par n (List.of_mem_zip hy).1 with q | q
  ·exact .inl q
  ·exact .inr ⟨q,PySem.W.cellsFrom_some _ _ _ (.inl q)⟩
 refine codeAny_call_function hr.depth (KX _ _ lk) rfl S.co S.gen rfl (PySem.W.codeRec_of KX hcd) (hb _ _ _ _ ?_)
 refine wpAny_newFunctionEnv_cells S.kind hkind fun env he s1 x => ?_
 subst he
 refine ⟨lim.keeps x.toInCall.keep,codeAny_func ?_⟩
 obtain ⟨t,ht,hq⟩:=hbody A outer s H vs Q E (hr.deeper _) hsp
 have I:Inv (cxOf CX P w K mg base N qual scope f cdv A outer s H E) [] (start N vs) H s1:=JgH S hr.hd e0 hl r x
 refine wpAny_mono (ht [] s1 (start N vs) H _ I hq) (fun fl s' hs => ?_) fun e s' hs => hs
 have fin:∀ {σ':St} {H':Hp} {v:V} {u:Value},Inv (cxOf CX P w K mg base N qual scope f cdv A outer s H E) [] σ' H' s'→RelV v u→Q v H'→CE outer P w H s Q u s' :=
  fun {σ' H' v u} J rv q => ⟨v,H',J.os,J.bare,J.base,J.hok,rv,q⟩
 cases fl with
 | ret u =>
  obtain ⟨v, σ',H',J,rv,q⟩:=hs
  exact fin J rv q
 | next =>
  obtain ⟨σ',H',J,q⟩:=hs
  exact fin (v:=V.non) (u:=Value.none) J rfl q
 | brk =>
  obtain ⟨_,_,_,q⟩:=hs
  exact False.elim q
 | cont =>
  obtain ⟨_,_,_,q⟩:=hs
  exact False.elim q
end L2
namespace L2
open PySem PySem.Spec PyProof.Rows
section
variable {X:Cx} {x:Str} {p pos:Pos} {e:Expr} {es:List Expr} {t:TA} {id T:String} {r:List V→Hp→VK→Prop}
def tCB (r:List V→Hp→VK→Prop) (t:TA):TE:=fun σ H Q => t σ H fun vs H1 => r vs H1 Q
theorem Jaq (hc:CallR X (.builtin id) r) (hg:Gl X x) (hm:X.mg x = none) (hv:bootBuiltins x = some (.builtin id)) (ha:PA X (e :: es) t) (hn:x ≠ "__name__":=by decide) (hdb:(x == ("__debug__" : Str)) = false:=by decide)
  (he:starEach (e :: es) X.env = (false,eval e X.env) :: starEach es X.env:=by rfl) (hpl:(backTo pos (starEach es X.env)).any (·.1) = false:=by rfl):PE X (.Call (.Name x p) (e :: es) [] pos) (tCB r t):=by
 intro pins s σ H Q I h
 refine wpAny_Call_Name_kw (JdK I hg hm hv ?_ hn hdb)
 exact PyProof.Rows.callWith_builtin1 (thn (ha pos pins s σ H _ I h) fun us s1 ⟨vs,H1,I1,r1,q1⟩ => hc pins s1 σ H1 vs us Q I1 r1 q1) he hpl
theorem Jcz (hc:CallR X (.type T) r) (hg:Gl X x) (hm:X.mg x = none) (hv:bootBuiltins x = some (.type T)) (ha:PA X (e :: es) t) (hn:x ≠ "__name__":=by decide) (hdb:(x == ("__debug__" : Str)) = false:=by decide)
  (he:starEach (e :: es) X.env = (false,eval e X.env) :: starEach es X.env:=by rfl) (hpl:(backTo pos (starEach es X.env)).any (·.1) = false:=by rfl):PE X (.Call (.Name x p) (e :: es) [] pos) (tCB r t):=by
 intro pins s σ H Q I h
 refine wpAny_Call_Name_kw (JdK I hg hm hv ?_ hn hdb)
 exact PyProof.Rows.callWith_type1 (thn (ha pos pins s σ H _ I h) fun us s1 ⟨vs,H1,I1,r1,q1⟩ => hc pins s1 σ H1 vs us Q I1 r1 q1) he hpl
end
end L2
namespace HT
open PySem PyProof.Rows
section
open PySem.SeqAt
open PySem.AutoSeq1 (wpAny_loadPart')
open PySem.MeetsSeq PySem.MeetsSeq2 PySem.MeetsSeq3
end
section
variable {prog:Program} {w:World} {A:Around} {E:Value→Shared→Prop} {s:Shared}
theorem cat_tup {t b:Addr} {vs ws:List Value} {Q:Value→Shared→Prop} (ht:IsTup s.heap t vs.toArray) (hb:IsTup s.heap b ws.toArray) (hv:vs ≠ [])
  (h1:ws = []→Q (.ref t) s) (h2:ws ≠ []→Q (.ref s.heap.objs.size) { s with heap:=s.heap.push { cls:=.type "tuple",data:=.seq (vs ++ ws).toArray } })
  (hsz:vs.length + ws.length ≤ sizeLine):wpAny (model prog w) A (binaryOp .Add (.ref t) (.ref b)) Q E s:=by
 obtain ⟨⟨cls,dd,data,sl⟩,ho,hc,n,hd⟩:=id ht
 obtain ⟨⟨cls2,dd2,data2,sl2⟩,ho2,hc2,n2,hd2⟩:=id hb
 simp only at hc hd hc2 hd2
 subst hc hd hc2 hd2
 have e:vs.toArray ++ ws.toArray = (vs ++ ws).toArray:=by simp
 by_cases hw:ws = []
 ·exact concat_meets ⟨_,ho,rfl⟩ ⟨_,ho2,rfl⟩ noFill_tuple_add seq_tuple_add PySem.F.slot_tuple_add PySem.F.entry_tuple_add (PySem.F.args_tuple_add_2 _ _)
   (tuple_addW1 t b vs.toArray ws.toArray n n2 dd dd2 sl sl2 (by simpa using hv) (by simp [hw])) ⟨ho,ho2,h1 hw⟩
 ·refine concat_meets ⟨_,ho,rfl⟩ ⟨_,ho2,rfl⟩ noFill_tuple_add seq_tuple_add PySem.F.slot_tuple_add PySem.F.entry_tuple_add (PySem.F.args_tuple_add_2 _ _)
   (tuple_addW2 t b vs.toArray ws.toArray n n2 dd dd2 sl sl2 (by simpa using hv) (by simpa using hw) (by rw [List.size_toArray,List.size_toArray]; exact hsz)) ⟨ho,ho2, ?_⟩
  rw [e]
  exact h2 hw
end
end HT
namespace L2
open PySem PySem.Spec PyProof.Rows
abbrev TO:=St→Hp→(Option Int→Hp→Prop)→Prop
def PO (X:Cx) (e:Option Expr) (t:TO):Prop :=
 ∀ (pins:List (Addr × Obj)) (s:Shared) (σ : St) (H:Hp) (Q:Option Int→Hp→Prop),Inv X pins σ H s→t σ H Q →
  wpAny (model X.prog X.w) X.A (evalPart e X.env) (fun u s' => ∃ o H',Inv X pins σ H' s'∧IsPart u o∧Q o H') X.xe s
def JiN:TO:=fun _ H Q => Q none H
def tPart (t:TE):TO:=fun σ H Q => t σ H fun x H1 => ∃ i,x = .int i∧Q (some i) H1
section
variable {X:Cx} {e:Expr} {te:TE} {lo hi:Option Expr} {tl th:TO} {pos p2:Pos}
def tSl (r:V→Option Int→Option Int→Hp→VK→Prop) (te:TE) (tl th:TO):TE:=fun σ H Q => te σ H fun x H1 => tl σ H1 fun l H2 => th σ H2 fun u H3 => r x l u H3 Q
def rCatT (K:PySem.W.Frag):R2:=fun x y H Q => ∃ a b xs ys,x = .ref a∧y = .ref b∧SqT K H a xs∧SqT K H b ys∧xs ≠ []∧xs.length + ys.length ≤ sizeLine ∧
 (ys = []→Q (.ref a) H)∧(ys ≠ []→∀ p,H p = none→Q (.ref p) (upd H p (.tup (xs ++ ys))))
theorem Vals.nil_iff {xs:List V} {us:List Value} (r:Vals xs us):us = [] ↔ xs = []:=by
 cases r with
 | nil => simp
 | cons _ _ => simp
theorem Jiu:OpR X (binaryOp .Add) (rCatT X.K):=by
 intro pins s σ H x y v u Q I rx ry h
 obtain ⟨a,b,xs,ys,rfl,rfl,ha,hb,hx,hz,q1,q2⟩:=h
 cases rx
 cases ry
 obtain ⟨its,r1,p1,_⟩:=I.tuple ha
 obtain ⟨its2,r2,p2,_⟩:=I.tuple hb
 refine HT.cat_tup p1 p2 (fun z => hx (r1.nil_iff.mp z)) (fun z => ⟨.ref a,H,I,rfl,q1 (r2.nil_iff.mp z)⟩) (fun z => ?_) (by rw [← r1.length, ← r2.length]; exact hz)
 refine ⟨.ref s.heap.objs.size,_,I.laid (t':=s.toks) (o:=.tup (xs ++ ys)) (fun b ob q => Heap.get?_push_of_some _ q) (Nat.le_refl _) ?_,rfl,q2 (fun w => z (r2.nil_iff.mpr w)) _ (I.hok.fresh (Nat.le_refl _))⟩
 exact ⟨by rw [List.length_append]; exact hz,_,r1.append r2,IsTup.new _ _⟩
end
end L2
namespace L2
open PySem PySem.Spec PyProof.Rows
def ixN (n:Nat) (i:Int):Option Nat:=if 0 ≤ i then (if i < n then some i.toNat else none) else if -(n:Int) ≤ i then some (i + n).toNat else none
def atI {α : Type} (xs:List α) (i:Int):Option α:=(ixN xs.length i).bind fun j => xs[j]?
theorem JgI {n:Nat} {i:Int} {j:Nat} (h:ixN n i = some j):seqIndex? i n = some j∧j < n∧-(n:Int) ≤ i∧i < n:=by
 unfold ixN at h
 by_cases h0:0 ≤ i
 ·rw [if_pos h0] at h
  by_cases h1:i < n
  ·rw [if_pos h1] at h
   have e:i.toNat = j:=Option.some.inj h
   exact ⟨by rw [seqIndex_of h0 h1,e],by omega,by omega,h1⟩
  ·rw [if_neg h1] at h; cases h
 ·rw [if_neg h0] at h
  by_cases h1 : -(n:Int) ≤ i
  ·rw [if_pos h1] at h
   have e:(i + n).toNat = j:=Option.some.inj h
   exact ⟨by rw [seqIndex_neg (by omega) h1,e],by omega,h1,by omega⟩
  ·rw [if_neg h1] at h; cases h
theorem JeV {α : Type} {xs:List α} {i:Int} {v : α} (h:atI xs i = some v):∃ j,seqIndex? i xs.length = some j∧xs[j]? = some v∧j < xs.length∧-(xs.length:Int) ≤ i∧i < xs.length:=by
 unfold atI at h
 cases e:ixN xs.length i with
 | none => rw [e] at h; cases h
 | some j =>
  rw [e] at h
  obtain ⟨h1,h2,h3,h4⟩:=JgI e
  exact ⟨j,h1,h,h2,h3,h4⟩
theorem Jc3 {α : Type} {xs:List α} {j:Nat} {v : α} (h:xs[j]? = some v):atI xs (j:Int) = some v:=by
 have hj:j < xs.length:=(List.getElem?_eq_some_iff.mp h).1
 have e:ixN xs.length (j:Int) = some j:=by
  unfold ixN
  rw [if_pos (by omega),if_pos (by omega)]; simp
 unfold atI; rw [e]; exact h
def Jh7 (b:Expr):Prop:=∀ o i,subscripted b false o i = operate [o,i] (getItem o i)
def IxR (X:Cx) (r:R2):Prop :=
 ∀ (value slice:Expr) (pins:List (Addr × Obj)) (s:Shared) (σ : St) (H:Hp) (x y:V) (v u:Value) (Q:VK),Inv X pins σ H s→RelV x v→RelV y u→r x y H Q →
  subscripted slice false v u = operate [v,u] (getItem v u)→wpAny (model X.prog X.w) X.A (subscriptTail value slice v u) (EP X pins σ Q) X.xe s
def MtR (X:Cx) (id:String) (r:V→List V→Hp→VK→Prop):Prop :=
 ∀ (pins:List (Addr × Obj)) (s:Shared) (σ : St) (H:Hp) (x:V) (xs:List V) (v:Value) (us:List Value) (Q:VK),Inv X pins σ H s→RelV x v→Vals xs us→r x xs H Q →
  wpAny (model X.prog X.w) X.A (call (.builtin id) (v :: us)) (EP X pins σ Q) X.xe s
section
variable {X:Cx} {a b:Expr} {ta tb:TE} {pos:Pos}
theorem pe_ix {r:R2} (hr:IxR X r) (ha:PE X a ta) (hb:PE X b tb) (hs:Jh7 b):PE X (.Subscript a b pos) (tOp r ta tb):=by
 intro pins s σ H Q I h
 exact Subscript_ (binT ha hb I h fun v u s2 x y H2 I2 rx ry q => hr a b pins s2 σ H2 x y v u Q I2 rx ry q (hs _ _))
def rIxL (K:PySem.W.Frag):R2:=fun x y H Q => ∃ p xs i v,x = .ref p∧y = .int i∧SqL K H p xs∧atI xs i = some v∧Q v H
def rIxT (K:PySem.W.Frag):R2:=fun x y H Q => ∃ p xs i v,x = .ref p∧y = .int i∧SqT K H p xs∧atI xs i = some v∧Q v H
def rIxS:R2:=fun x y H Q => ∃ z i c,x = .str z∧y = .int i∧z.length ≤ sizeLine∧atI z.cps.toList i = some c∧Q (.str ⟨#[c]⟩) H
theorem Jim:IxR X (rIxL X.K):=by
 intro value slice pins s σ H x y v u Q I rx ry h hs
 obtain ⟨p,xs,i,z,rfl,rfl,hq,he,q⟩:=h
 cases rx
 obtain ⟨t,rfl⟩:=ry
 obtain ⟨its,r,pl,hz⟩:=I.list hq
 obtain ⟨j,h1,h2,h3,h4,h5⟩:=JeV he
 obtain ⟨w,ew,rw'⟩:=r.get h2
 have hl:=r.length
 have hn:=Jde
 have fin:EP X pins σ Q w s:=⟨z,H,I,rw',q⟩
 by_cases h0:0 ≤ i
 ·have hj:i.toNat = j:=by
   rw [seqIndex_of h0 h5] at h1
   exact Option.some.inj h1
  exact item_listR pl.isList h0 (by omega) (by rw [hj]; simpa using ew) fin hs
 ·have hj:(i + (its.toArray.size:Int)).toNat = j:=by
   rw [seqIndex_neg (by omega) h4] at h1
   rw [List.size_toArray, ← hl]
   exact Option.some.inj h1
  exact subscriptTail_builtinR (x:=w) pl.isList.typeIs slot_list_getitem.lookup
   (wpAny_getItem_list_neg (Q:=fun r s' => r = w∧EP X pins σ Q r s') pl.isList (by omega) (by rw [List.size_toArray] <;> omega) (by omega) (by rw [hj]; simpa using ew) ⟨rfl,fin⟩) hs
theorem Ji1:IxR X (rIxT X.K):=by
 intro value slice pins s σ H x y v u Q I rx ry h hs
 obtain ⟨p,xs,i,z,rfl,rfl,hq,he,q⟩:=h
 cases rx
 obtain ⟨t,rfl⟩:=ry
 obtain ⟨its,r,pl,hz⟩:=I.tuple hq
 obtain ⟨j,h1,h2,h3,h4,h5⟩:=JeV he
 obtain ⟨w,ew,rw'⟩:=r.get h2
 have hl:=r.length
 have hn:=Jde
 have fin:EP X pins σ Q w s:=⟨z,H,I,rw',q⟩
 exact subscriptTail_builtinR (x:=w) pl.typeIs slot_tuple_getitem.lookup
  (getItem_tuple (j:=j) (Q:=fun r s' => r = w∧EP X pins σ Q r s') pl (by omega) (by omega) (by rw [List.size_toArray, ← hl]; exact h1) (by simpa using ew) ⟨rfl,fin⟩) hs
theorem Ji0:IxR X rIxS:=by
 intro value slice pins s σ H x y v u Q I rx ry h hs
 obtain ⟨z,i,c,rfl,rfl,hz,he,q⟩:=h
 obtain ⟨t,rfl⟩:=rx
 obtain ⟨t',rfl⟩:=ry
 obtain ⟨j,h1,h2,h3,h4,h5⟩:=JeV he
 have hl:z.cps.toList.length = z.length:=by simp [Str.length]
 rw [hl] at h1 h4 h5
 have hn:=Jde
 exact tail_any (typeIs_str s z t) slot_str_getitem.lookup (getItem_str (c:=c) (by
  have e1:decide (i < -(2 ^ 63:Int)) = false:=decide_eq_false (by omega)
  have e2:decide (i ≥ 2 ^ 63) = false:=decide_eq_false (by omega)
  rw [e1,e2,Bool.or_false]) (by rw [h1]; simpa using h2) ⟨.str ⟨#[c]⟩,H,I.tok _,⟨_,rfl⟩,q⟩) hs
theorem Jf3 (its:List Value) (n j:Nat) (u:Value):Obj.mapSeq (·.setIfInBounds j u) { cls:=.type "list",data:=.seq its.toArray n } = { cls:=.type "list",data:=.seq (its.set j u).toArray n }:=by
 simp [Obj.mapSeq]
theorem Inv.lst {pins:List (Addr × Obj)} {σ : St} {H:Hp} {s:Shared} {p:Addr} {xs:List V} (I:Inv X pins σ H s) (h:H p = some (.lst xs)) :
  ∃ (its:List Value) (n:Nat),Vals xs its∧s.heap.get? p = some { cls:=.type "list",data:=.seq its.toArray n }∧xs.length ≤ sizeLine:=by
 obtain ⟨z,its,n,r,e⟩:=I.hok p _ h
 exact ⟨its,n,r,e,z⟩
theorem Inv.lstUpd {pins:List (Addr × Obj)} {σ : St} {H:Hp} {s:Shared} {p:Addr} {xs ys:List V} {its its':List Value} {n n':Nat} {f:Obj→Obj} (I:Inv X pins σ H s) (h:H p = some (.lst xs))
  (ho:s.heap.get? p = some { cls:=.type "list",data:=.seq its.toArray n }) (hf:f { cls:=.type "list",data:=.seq its.toArray n } = { cls:=.type "list",data:=.seq its'.toArray n' }) (r:Vals ys its') (hz:ys.length ≤ sizeLine) (t:Nat) :
  Inv X pins σ (upd H p (.lst ys)) { s with heap:=s.heap.update p f,toks:=t }:=by
 have e:(s.heap.update p f).get? p = some { cls:=.type "list",data:=.seq its'.toArray n' }:=by
  rw [Heap.get?_update_self f ho (by rw [hf] <;> rfl),hf]
 refine I.write (x:=p) (e:=p) (by rw [h]; trivial) (.inl rfl) (fun b u hb q => (Heap.get?_update_other _ _ (Ne.symm hb)).trans q) ⟨_,e⟩ ?_
 exact ⟨hz,its',n',r,e⟩
def rSetL:V→V→V→Hp→(Hp→Prop)→Prop:=fun o i v H Q => ∃ p xs k j,o = .ref p∧i = .int k∧H p = some (.lst xs)∧ixN xs.length k = some j∧Q (upd H p (.lst (xs.set j v)))
theorem set_list:PSet X rSetL:=by
 intro pins s σ H o i v ov iv u Q I ro ri rv h
 obtain ⟨p,xs,k,j,rfl,rfl,hp,hj,q⟩:=h
 cases ro
 obtain ⟨t,rfl⟩:=ri
 obtain ⟨its,n,r,ho,hz⟩:=I.lst hp
 obtain ⟨h1,h2,h3,h4⟩:=JgI hj
 have hl:=r.length
 have hn:=Jde
 have I':Inv X pins σ (upd H p (.lst (xs.set j v))) { s with heap:=s.heap.update p (Obj.mapSeq (·.setIfInBounds j u)) } :=
  I.lstUpd hp ho (Jf3 its n j u) (r.set rv j) (by rw [List.length_set]; exact hz) s.toks
 by_cases h0:0 ≤ k
 ·have hk:k.toNat = j:=by
   rw [seqIndex_of h0 h4] at h1
   exact Option.some.inj h1
  exact PySem.W.ki_setAt ho h0 (by omega) (by rw [List.size_toArray, ← hl]; exact h4) (by rw [hk]; exact ⟨_,I',q⟩)
 ·have hk:(k + (its.toArray.size:Int)).toNat = j:=by
   rw [seqIndex_neg (by omega) h3] at h1
   rw [List.size_toArray, ← hl]
   exact Option.some.inj h1
  exact PySem.W.ki_setBack ho (by omega) (by rw [List.size_toArray, ← hl]; exact h3) (by omega) (by rw [hk]; exact ⟨_,I',q⟩)
def flatV:V→Bool
 | .non => true
 | .bl _ => true
 | .int _ => true
 | .str _ => true
 | _ => false
def eqV:V→V→Bool
 | .non, .non => true
 | .bl a, .bl b => a == b
 | .bl a, .int b => (if a then 1 else 0) == b
 | .int a, .bl b => a == (if b then 1 else 0)
 | .int a, .int b => a == b
 | .str a, .str b => a == b
 | _,_ => false
theorem JhR {A:Around} {s:Shared} {y x:V} {u v:Value} (ry:RelV y u) (rx:RelV x v) (fy:flatV y = true) (fx:flatV x = true):SeqAt.EqAt A s u v (eqV y x):=by
 cases y with
 | non =>
  cases ry
  cases x with
  | non => cases rx; exact SeqAt.EqAt.same _
  | bl b => cases rx; exact SeqAt.EqAt.none_bool b
  | int b => obtain ⟨t,rfl⟩:=rx; exact SeqAt.EqAt.none_int b t
  | str b => obtain ⟨t,rfl⟩:=rx; exact SeqAt.EqAt.none_str b t
  | _ => exact absurd (show false = true from fx) Bool.false_ne_true
 | bl a =>
  cases ry
  cases x with
  | non => cases rx; exact SeqAt.EqAt.bool_none a
  | bl b => cases rx; exact SeqAt.EqAt.bool_bool a b
  | int b => obtain ⟨t,rfl⟩:=rx; exact SeqAt.EqAt.bool_int a b t
  | str b => obtain ⟨t,rfl⟩:=rx; exact SeqAt.EqAt.bool_str a b t
  | _ => exact absurd (show false = true from fx) Bool.false_ne_true
 | int a =>
  obtain ⟨t',rfl⟩:=ry
  cases x with
  | non => cases rx; exact SeqAt.EqAt.int_none a t'
  | bl b => cases rx; exact SeqAt.EqAt.int_bool a t' b
  | int b => obtain ⟨t,rfl⟩:=rx; exact SeqAt.EqAt.int_int a t' b t
  | str b => obtain ⟨t,rfl⟩:=rx; exact SeqAt.EqAt.int_str a t' b t
  | _ => exact absurd (show false = true from fx) Bool.false_ne_true
 | str a =>
  obtain ⟨t',rfl⟩:=ry
  cases x with
  | non => cases rx; exact SeqAt.EqAt.str_none a t'
  | bl b => cases rx; exact SeqAt.EqAt.str_bool a t' b
  | int b => obtain ⟨t,rfl⟩:=rx; exact SeqAt.EqAt.str_int a t' b t
  | str b => obtain ⟨t,rfl⟩:=rx; exact SeqAt.EqAt.str_str a t' b t
  | _ => exact absurd (show false = true from fx) Bool.false_ne_true
 | _ => exact absurd (show false = true from fy) Bool.false_ne_true
def eqU (x:V) (u:Value):Bool:=match u with
 | .none => eqV .non x
 | .bool b => eqV (.bl b) x
 | .int i _ => eqV (.int i) x
 | .str z _ => eqV (.str z) x
 | _ => false
theorem JhS {x y:V} {u:Value} (r:RelV y u) (f:flatV y = true):eqU x u = eqV y x:=by
 cases y with
 | non => cases r; rfl
 | bl b => cases r; rfl
 | int i => obtain ⟨t,rfl⟩:=r; rfl
 | str z => obtain ⟨t,rfl⟩:=r; rfl
 | _ => exact absurd (show false = true from f) Bool.false_ne_true
theorem Jc2 {x:V}:∀ {xs:List V} {us:List Value},Vals xs us→xs.all flatV = true→us.any (eqU x) = xs.any fun y => eqV y x
 | _,_, .nil,_ => rfl
 | y :: xs,u :: us, .cons r t,f => by
  rw [List.all_cons,Bool.and_eq_true] at f
  rw [List.any_cons,List.any_cons,JhS r f.1,Jc2 t f.2]
theorem Jcw {A:Around} {s:Shared} {x:V} {v:Value} (rx:RelV x v) (fx:flatV x = true):∀ {xs:List V} {us:List Value},Vals xs us→xs.all flatV = true→∀ u ∈ us,SeqAt.EqAt A s u v (eqU x u)
 | _,_, .nil,_ => fun u hu => by cases hu
 | y :: xs,u :: us, .cons r t,f => fun u' hu => by
  rw [List.all_cons,Bool.and_eq_true] at f
  rcases List.mem_cons.mp hu with rfl | hu
  ·rw [JhS r f.1]; exact JhR r rx f.1 fx
  ·exact Jcw rx fx t f.2 u' hu
def inV (x:V) (xs:List V):Bool:=xs.any fun y => eqV y x
def rIn (K:PySem.W.Frag) (neg:Bool):R2:=fun x y H Q => ∃ p xs,y = .ref p∧(SqL K H p xs ∨ SqT K H p xs)∧flatV x = true∧xs.all flatV = true∧Q (.bl (if neg then !inV x xs else inV x xs)) H
theorem JgU:OpR X (compareOp .In) (rIn X.K false):=by
 intro pins s σ H x y v u Q I rx ry h
 obtain ⟨p,xs,rfl,hq,fx,fs,q⟩:=h
 cases ry
 rcases hq with hq | hq
 ·obtain ⟨its,r,pl,hz⟩:=I.list hq
  refine SeqAt.in_listAt (eqU x) pl.isList (fun w hw => Jcw rx fx r fs w (by simpa using hw)) ⟨.bl _,H,I,rfl, ?_⟩
  rw [show its.toArray.any (eqU x) = its.any (eqU x) by simp,Jc2 r fs]
  exact q
 ·obtain ⟨its,r,pl,hz⟩:=I.tuple hq
  refine SeqAt.in_tupleAt (eqU x) pl (fun w hw => Jcw rx fx r fs w (by simpa using hw)) ⟨.bl _,H,I,rfl, ?_⟩
  rw [show its.toArray.any (eqU x) = its.any (eqU x) by simp,Jc2 r fs]
  exact q
theorem JeH:OpR X (compareOp .NotIn) (rIn X.K true):=by
 intro pins s σ H x y v u Q I rx ry h
 obtain ⟨p,xs,rfl,hq,fx,fs,q⟩:=h
 cases ry
 rcases hq with hq | hq
 ·obtain ⟨its,r,pl,hz⟩:=I.list hq
  refine SeqAt.notIn_listAt (eqU x) pl.isList (fun w hw => Jcw rx fx r fs w (by simpa using hw)) ⟨.bl _,H,I,rfl, ?_⟩
  rw [show its.toArray.any (eqU x) = its.any (eqU x) by simp,Jc2 r fs]
  exact q
 ·obtain ⟨its,r,pl,hz⟩:=I.tuple hq
  refine SeqAt.notIn_tupleAt (eqU x) pl (fun w hw => Jcw rx fx r fs w (by simpa using hw)) ⟨.bl _,H,I,rfl, ?_⟩
  rw [show its.toArray.any (eqU x) = its.any (eqU x) by simp,Jc2 r fs]
  exact q
theorem Jeu:CallR X (.builtin "len") (fun xs H Q => ∃ p ys,xs = [.ref p]∧(SqL X.K H p ys ∨ SqT X.K H p ys)∧Q (.int ys.length) H):=by
 intro pins s σ H xs us Q I r h
 obtain ⟨p,ys,rfl,hq,q⟩:=h
 obtain ⟨u,rfl,rx⟩:=vals1 r
 cases rx
 have hn:=Jde
 rcases hq with hq | hq
 ·obtain ⟨its,r',pl,hz⟩:=I.list hq
  have hlen:=r'.length
  exact Calls.call_len_list pl.isList (by simp only [List.size_toArray] <;> omega) ⟨.int ys.length,H,I.tok _,⟨s.toks + 1,by rw [List.size_toArray,hlen]⟩,q⟩
 ·obtain ⟨its,r',pl,hz⟩:=I.tuple hq
  have hlen:=r'.length
  exact len_tuple pl (by simp only [List.size_toArray] <;> omega) ⟨.int ys.length,H,I.tok _,⟨s.toks + 1,by rw [List.size_toArray,hlen]⟩,q⟩
theorem Jev:CallR X (.builtin "len") (fun xs H Q => ∃ z,xs = [.str z]∧z.length ≤ sizeLine∧Q (.int z.length) H):=by
 intro pins s σ H xs us Q I r h
 obtain ⟨z,rfl,hz,q⟩:=h
 obtain ⟨u,rfl,t,rfl⟩:=vals1 r
 have hn:=Jde
 exact len_str (by omega) ⟨.int z.length,H,I.tok _,⟨_,rfl⟩,q⟩
theorem Jew:CallR X (.type "list") (fun xs H Q => ∃ p ys,xs = [.ref p]∧(SqL X.K H p ys ∨ SqT X.K H p ys)∧∀ l,H l = none→Q (.ref l) (upd H l (.lst ys))):=by
 intro pins s σ H xs us Q I r h
 obtain ⟨p,ys,rfl,hq,q⟩:=h
 obtain ⟨u,rfl,rx⟩:=vals1 r
 cases rx
 have fin:∀ (its:List Value),Vals ys its→ys.length ≤ sizeLine→∀ (h':Heap) (c':Nat),(∀ b o',s.heap.get? b = some o'→h'.get? b = some o') →
   h'.get? s.heap.objs.size = some { cls:=.type "list",dict:=none,data:=.seq its.toArray c',slots:=#[] }→EP X pins σ Q (.ref s.heap.objs.size) { s with heap:=h' }:=fun its r' hz h' c' kp e =>
  ⟨.ref s.heap.objs.size,_,I.laid (t':=s.toks) kp (Nat.le_refl _) (show ObjOk X.prog X.w _ h' _ (.lst ys) from ⟨hz,its,c',r',e⟩),rfl,q _ (I.hok.fresh (Nat.le_refl _))⟩
 rcases hq with hq | hq
 ·obtain ⟨its,r',pl,hz⟩:=I.list hq
  have hlen:=r'.length
  obtain ⟨o,ho,hc,n,hd⟩:=pl.isList
  exact call_list_seq p (.inl rfl) ho hc hd (fun h' c' kp e => fin its r' hz h' c' kp e) (by simp only [List.size_toArray] <;> omega)
 ·obtain ⟨its,r',pl,hz⟩:=I.tuple hq
  have hlen:=r'.length
  obtain ⟨o,ho,hc,n,hd⟩:=pl
  exact call_list_seq p (.inr rfl) ho hc hd (fun h' c' kp e => fin its r' hz h' c' kp e) (by simp only [List.size_toArray] <;> omega)
def tyV (K:PySem.W.Frag) (T:String) (x:V) (H:Hp):Prop:=match x with
 | .str _ => T = "str"
 | .int _ => T = "int"
 | .ref p => (T = "list"∧∃ xs,SqL K H p xs) ∨ (T = "tuple"∧∃ o,K.lookup p = some o∧o.cls = .type "tuple"∧o.dict = none) ∨
   (T = "dict"∧((∃ kvs,H p = some (.dK kvs)) ∨ ∃ kvs,H p = some (.dT kvs))) ∨ (T = "set"∧∃ S n,H p = some (.set S n))
 | _ => False
theorem Jh3 {pins:List (Addr × Obj)} {σ : St} {H:Hp} {s:Shared} {T:String} {x:V} {v:Value} (I:Inv X pins σ H s) (r:RelV x v) (ty:tyV X.K T x H) :
  s.TypeIs v T∧∀ a,v = .ref a→∃ ob,s.heap.get? a = some ob∧ob.dict = none:=by
 cases x with
 | str z =>
  obtain ⟨t,rfl⟩:=r
  cases (show T = "str" from ty)
  exact ⟨typeIs_str s z t,fun _ e => nomatch e⟩
 | int i =>
  obtain ⟨t,rfl⟩:=r
  cases (show T = "int" from ty)
  exact ⟨typeIs_int s i t,fun _ e => nomatch e⟩
 | ref p =>
  cases r
  rcases ty with ⟨rfl,xs,hq⟩ | ⟨rfl,o,hk,hc,hd⟩ | ⟨rfl,hk⟩ | ⟨rfl,S,n,hk⟩
  ·obtain ⟨its,_,pl,_⟩:=I.list hq
   refine ⟨pl.isList.typeIs,fun a e => ?_⟩
   cases e
   obtain ⟨o,n,e,c,hd,_⟩:=pl
   exact ⟨o,e,hd⟩
  ·refine ⟨⟨o,I.kIn p o hk,hc⟩,fun a e => ?_⟩
   cases e
   exact ⟨o,I.kIn _ o hk,hd⟩
  ·have z:∃ o,s.heap.get? p = some o∧o.ExactDict:=by
    rcases hk with ⟨kvs,hk⟩ | ⟨kvs,hk⟩
    ·obtain ⟨_,_,_,_,o,_,_,e,ex,_⟩:=I.hok p _ hk
     exact ⟨o,e,ex⟩
    ·obtain ⟨_,_,_,_,o,_,_,e,ex,_⟩:=I.hok p _ hk
     exact ⟨o,e,ex⟩
   obtain ⟨o,e,ex⟩:=z
   refine ⟨⟨o,e,ex.1⟩,fun a e2 => ?_⟩
   cases e2
   exact ⟨o,e,ex.2.1⟩
  ·obtain ⟨o,_,_,_,e,ex,_⟩:=I.hok p _ hk
   refine ⟨⟨o,e,ex.1⟩,fun a e2 => ?_⟩
   cases e2
   exact ⟨o,e,ex.2.1⟩
 | _ => exact False.elim ty
def tBM0 (K:PySem.W.Frag) (T:String) (r:V→List V→Hp→VK→Prop) (to:TE):TE:=fun σ H Q => to σ H fun x H1 => tyV K T x H1∧r x [] H1 Q
def tBM (K:PySem.W.Frag) (T:String) (r:V→List V→Hp→VK→Prop) (to:TE) (t:TA):TE:=fun σ H Q => to σ H fun x H1 => tyV K T x H1∧t σ H1 fun xs H2 => r x xs H2 Q
variable {o e:Expr} {es:List Expr} {to:TE} {t:TA} {name:Str} {apos cpos:Pos} {T id:String} {r:V→List V→Hp→VK→Prop}
theorem Jji (pa:PlainAttrs T) (slot:Slot T name id) (hty:typeOf (.builtin id) = pure (.type "method_descriptor")) (hm:MtR X id r) (ho:PE X o to)
  (hbase:attributeBase o name X.env (eval o X.env) = eval o X.env:=by rfl) (hline:(apos.endLine == cpos.line) = true:=by rfl):PE X (.Call (.Attribute o name apos) [] [] cpos) (tBM0 X.K T r to):=by
 intro pins s σ H Q I h
 refine wpAny_Call_method0_late hbase hline (thn (ho pins s σ H _ I h) fun v s1 ⟨x,H1,I1,r1,ty,q1⟩ => ?_)
 obtain ⟨h1,h2⟩:=Jh3 I1 r1 ty
 exact ⟨T,id,pa,slot,hty,h1,h2,Calls.callWith_builtin rfl (PySem.evalArgs_none (hm pins s1 σ H1 x [] v [] Q I1 r1 .nil q1))⟩
theorem pe_bm (pa:PlainAttrs T) (slot:Slot T name id) (hty:typeOf (.builtin id) = pure (.type "method_descriptor")) (hm:MtR X id r) (ho:PE X o to) (ha:PA X (e :: es) t)
  (hbase:attributeBase o name X.env (eval o X.env) = eval o X.env:=by rfl)
  (hfew:((backTo cpos (starEach (e :: es) X.env)).all (fun x => !x.1) && (backToKw cpos (keywordEach [] X.env)).all (fun x => x.1.isSome)
   && decide ((e :: es).length + ([]:List Keyword).length + (if ([]:List Keyword).isEmpty then 0 else 1) < 30)) = true:=by rfl)
  (hline:(apos.endLine == cpos.line) = true:=by rfl) (hs:starEach (e :: es) X.env = (false,eval e X.env) :: starEach es X.env:=by rfl) (hplain:(backTo cpos (starEach es X.env)).any (·.1) = false:=by rfl) :
  PE X (.Call (.Attribute o name apos) (e :: es) [] cpos) (tBM X.K T r to t):=by
 intro pins s σ H Q I h
 refine wpAny_Call_method_late hbase hfew hline rfl (thn (ho pins s σ H _ I h) fun v s1 ⟨x,H1,I1,r1,ty,q1⟩ => ?_)
 obtain ⟨h1,h2⟩:=Jh3 I1 r1 ty
 refine ⟨T,id,pa,slot,hty,h1,h2, ?_⟩
 have hA:=ha cpos pins s1 σ H1 _ I1 q1
 rw [hs] at hA ⊢
 refine Calls.callWith_builtin (by show (false || (backTo cpos (starEach es X.env)).any (·.1)) = false; rw [hplain] <;> rfl) (Calls.evalArgs_plain ?_)
 exact thn hA fun us s2 ⟨vs,H2,I2,r2,q2⟩ => hm pins s2 σ H2 x vs v us Q I2 r1 r2 q2
/- xs.append(e),list.index on a module's tuple .. are MtR facts of 06m -/
end
end L2
namespace L2
open PySem PySem.Spec PyProof.Rows
def MtM (X:Cx) (id:String) (r:V→List V→Hp→VK→Prop):Prop :=
 ∀ (pins:List (Addr × Obj)) (s:Shared) (σ : St) (H:Hp) (x:V) (xs:List V) (v:Value) (us:List Value) (Q:VK),Inv X pins σ H s→RelV x v→Vals xs us→r x xs H Q →
  wpAny (model X.prog X.w) X.A (call (.builtin id) (v :: us)) (EP X pins σ Q) X.xe s
theorem Vals.one:∀ {x:V} {us:List Value},Vals [x] us→∃ u,us = [u]∧RelV x u
 | _,_, .cons r .nil => ⟨_,rfl,r⟩
theorem Vals.zero:∀ {us:List Value},Vals [] us→us = []
 | _, .nil => rfl
theorem Vals.dropLast {xs:List V} {us:List Value} (h:Vals xs us):Vals xs.dropLast us.dropLast:=by
 induction h with
 | nil => exact .nil
 | cons r t ih =>
  cases t with
  | nil => exact .nil
  | cons q t' => exact .cons r ih
theorem JfW {α : Type} (l:List α):l.eraseIdx (l.length - 1) = l.dropLast:=by
 induction l with
 | nil => rfl
 | cons a r ih =>
  cases r with
  | nil => rfl
  | cons b r =>
   have e:(a :: b :: r).length - 1 = ((b :: r).length - 1) + 1:=by
    have h1:(a :: b :: r).length = r.length + 2:=rfl
    have h2:(b :: r).length = r.length + 1:=rfl
    omega
   rw [e,List.eraseIdx_cons_succ,ih]
   all_goals rfl
section
variable {X:Cx} {pins:List (Addr × Obj)} {σ : St} {H:Hp} {s:Shared} {l b:Addr} {xs ys zs:List V}
theorem Inv.lset {its its':List Value} {n:Nat} {f:Array Value→Array Value} {t':Nat} (I:Inv X pins σ H s) (hH:H l = some (.lst xs))
  (e:s.heap.get? l = some { cls:=.type "list",data:=.seq its.toArray n }) (hf:f its.toArray = its'.toArray) (hv:Vals ys its') (hz:ys.length ≤ sizeLine) :
  Inv X pins σ (upd H l (.lst ys)) { s with heap:=s.heap.update l (Obj.mapSeq f),toks:=t' }:=by
 have q:=PySem.IsL.update e f
 rw [hf] at q
 refine I.write (x:=l) (e:=l) (by rw [hH]; exact trivial) (.inl rfl) (fun b' u hb hu => (Heap.get?_update_other s.heap (Obj.mapSeq f) (Ne.symm hb)).trans hu) ⟨_,q⟩ ?_
 exact ⟨hz,its',_,hv,q⟩
theorem Inv.lnew {its:List Value} {t':Nat} (I:Inv X pins σ H s) (hv:Vals ys its) (hz:ys.length ≤ sizeLine) :
  Inv X pins σ (upd H s.heap.objs.size (.lst ys)) { s with heap:=s.heap.push { cls:=.type "list",data:=.seq its.toArray },toks:=t' } :=
 I.laid (fun _ _ q => Heap.get?_push_of_some _ q) (Nat.le_refl _) ⟨hz,its,0,hv,Heap.get?_push_size _ rfl⟩
theorem Inv.fresh (I:Inv X pins σ H s):H s.heap.objs.size = none:=I.hok.fresh (Nat.le_refl _)
theorem Inv.lstM (I:Inv X pins σ H s) (hH:H l = some (.lst xs)):xs.length ≤ sizeLine∧∃ (its:List Value) (n:Nat),Vals xs its∧xs.length = its.length∧s.heap.get? l = some { cls:=.type "list",data:=.seq its.toArray n }:=by
 obtain ⟨z,its,n,r,e⟩:=I.hok l _ hH
 exact ⟨z,its,n,r,r.length,e⟩
theorem Jhw {n:Nat} (h:n ≤ sizeLine):Builtin.List.listTooLong n = false:=by
 unfold Builtin.List.listTooLong
 exact decide_eq_false (by omega)
end
section
variable {X:Cx}
def JiG:V→List V→Hp→VK→Prop:=fun x vs H Q => ∃ l xs y,x = .ref l∧vs = [y]∧H l = some (.lst xs)∧xs.length < sizeLine∧Q .non (upd H l (.lst (xs ++ [y])))
theorem Jbr:MtM X "list.append" JiG:=by
 intro pins s σ H x vs v us Q I rx rv h
 obtain ⟨l,xs,y,rfl,rfl,hH,hz,q⟩:=h
 cases rx
 obtain ⟨u,rfl,ru⟩:=rv.one
 obtain ⟨z,its,n,r,hl,e⟩:=I.lstM hH
 refine call_meets F.slot_list_append ⟨_,e,rfl⟩ F.entry_list_append (F.args_list_append_2 _ _) (PySem.list_append l its.toArray n u (by rw [List.size_toArray]; omega)) ⟨e, ?_⟩
 refine ⟨.non,_,I.lset (its':=its ++ [u]) hH e (by simp) (r.append (.cons ru .nil)) ?_,rfl,q⟩
 rw [List.length_append,List.length_singleton]
 omega
def JiH:V→List V→Hp→VK→Prop:=fun x vs H Q => ∃ l b xs zs,x = .ref l∧vs = [.ref b]∧H l = some (.lst xs)∧H b = some (.lst zs)∧xs.length + zs.length ≤ sizeLine∧Q .non (upd H l (.lst (xs ++ zs)))
theorem JeB:MtM X "list.extend" JiH:=by
 intro pins s σ H x vs v us Q I rx rv h
 obtain ⟨l,b,xs,zs,rfl,rfl,hH,hB,hz,q⟩:=h
 cases rx
 obtain ⟨u,rfl,ru⟩:=rv.one
 cases ru
 obtain ⟨z,its,n,r,hl,e⟩:=I.lstM hH
 obtain ⟨z2,its2,n2,r2,hl2,e2⟩:=I.lstM hB
 have hsz:its.toArray.size + its2.toArray.size ≤ sizeLine:=by rw [List.size_toArray,List.size_toArray]; omega
 have hlong:¬ (!its.toArray.isEmpty && Builtin.List.listTooLong (its.toArray.size + its2.toArray.size)) = true:=by
  rw [Jhw hsz,Bool.and_false]
  exact Bool.false_ne_true
 refine call_meets F.slot_list_extend ⟨_,e,rfl⟩ F.entry_list_extend (F.args_list_extend_2 _ _)
  (AutoSeq1.list_extend_list_list_0 l its.toArray n b its2.toArray n2 hlong (by rw [List.size_toArray]; omega) (by omega)) ⟨e,e2, ?_⟩
 refine ⟨.non,_,I.lset (its':=its ++ its2) hH e (by simp) (r.append r2) ?_,rfl,q⟩
 rw [List.length_append]
 omega
def rPop:V→List V→Hp→VK→Prop:=fun x vs H Q => ∃ l xs y,x = .ref l∧vs = []∧H l = some (.lst xs)∧xs[xs.length - 1]? = some y∧Q y (upd H l (.lst xs.dropLast))
theorem Ji9:MtM X "list.pop" rPop:=by
 intro pins s σ H x vs v us Q I rx rv h
 obtain ⟨l,xs,y,rfl,rfl,hH,hy,q⟩:=h
 cases rx
 have hus:=rv.zero
 subst hus
 obtain ⟨z,its,n,r,hl,e⟩:=I.lstM hH
 obtain ⟨u,hu,ru⟩:=r.get hy
 have hy':its.toArray[its.toArray.size - 1]? = some u:=by
  show its.toArray[its.length - 1]? = some u
  rw [← Array.getElem?_toList, ← hl]
  exact hu
 refine call_meets F.slot_list_pop ⟨_,e,rfl⟩ F.entry_list_pop (F.args_list_pop_1 _) (MeetsSeq.list_pop_last l its.toArray n u hy' (by rw [List.size_toArray]; omega)) ⟨e, ?_⟩
 refine ⟨y,_,I.lset (its':=its.dropLast) hH e ?_ r.dropLast ?_,ru,q⟩
 ·show its.toArray.eraseIdxIfInBounds (its.toArray.size - 1) = its.dropLast.toArray
  rw [List.size_toArray,List.eraseIdxIfInBounds_toArray,JfW]
 ·rw [List.length_dropLast]
  omega
def rCat:R2:=fun x y H Q => ∃ l b xs zs,x = .ref l∧y = .ref b∧H l = some (.lst xs)∧H b = some (.lst zs)∧xs.length + zs.length ≤ sizeLine∧∀ p,H p = none→Q (.ref p) (upd H p (.lst (xs ++ zs)))
theorem Jjc:OpR X (binaryOp .Add) rCat:=by
 intro pins s σ H x y v u Q I rx ry h
 obtain ⟨l,b,xs,zs,rfl,rfl,hH,hB,hz,q⟩:=h
 cases rx
 cases ry
 obtain ⟨z,its,n,r,hl,e⟩:=I.lstM hH
 obtain ⟨z2,its2,n2,r2,hl2,e2⟩:=I.lstM hB
 refine PySem.P.add_list e e2 ?_ (by rw [List.size_toArray,List.size_toArray]; omega)
 have ea:its.toArray ++ its2.toArray = (its ++ its2).toArray:=by simp
 rw [ea]
 exact ⟨.ref _,_,I.lnew (t':=s.toks) (r.append r2) (by rw [List.length_append]; omega),rfl,q _ I.fresh⟩
end
section
variable {prog:Program} {w:World} {A:Around} {E:Value→Shared→Prop} {s:Shared}
set_option maxRecDepth 100000 in
end
section
variable {X:Cx}
end
end L2
namespace Att
open PySem PySem.W PySem.Calls PyProof.Rows
theorem Jc9 {P:Params} {h:Heap}:∀ (ns:List Int) (vs:List Value),WellAll P h vs (ns.map WData.int)→IntsAre vs ns:=by
 intro ns
 induction ns with
 | nil =>
  intro vs w
  rw [List.map_nil] at w
  cases w
  exact .nil
 | cons n ns ih =>
  intro vs w
  rw [List.map_cons] at w
  cases w with
  | cons a b =>
   cases a
   exact .cons _ _ (ih _ b)
theorem Jhb {l:OpenLaw} {n:Nat} (hn:l.most = some n) {P:Params} {h:Heap} {args:List WData} {vals:List Value}
  (hpre:l.row.toRowW.claim.pre args = true) (hwl:WellAll P h vals args) :
  ∃ a vs ns,vals = [Value.ref a]∧args = [WData.list (ns.map WData.int)]∧h.get? a = some { cls:=.type "list",data:=.seq vs.toArray }∧IntsAre vs ns∧ns.length ≤ n:=by
 have hsh:WShape.hasAll [] args [.list .int] = true:=(pre_splitW hpre).1
 have hc:l.pre.holds [] { args:=args } = true:=(pre_splitW hpre).2
 obtain ⟨d,r,rfl,h1,h2⟩:=hasAllW_cons hsh
 obtain rfl:=hasAllW_nil h2
 obtain ⟨xs,rfl,h3⟩:=hasW_list h1
 obtain ⟨ns,rfl⟩:=items_int h3
 have hlen:ns.length ≤ n:=by
  unfold OpenLaw.pre at hc
  have h4:(WTm.not (.lt (.lit (.int (n:Int))) (.len (.arg 0)))).holds [] { args:=[.list (ns.map .int)] } = true:=by
   have h4:=(holds_andW hc).1
   rw [hn] at h4
   exact h4
  have h5:=condW_of h4 (w_not (w_lt w_lit (w_len_list (w_arg rfl))))
  rw [List.length_map] at h5
  refine Nat.le_of_not_lt fun q => ?_
  have q':(n:Int) < ((ns.length:Nat):Int):=by omega
  first
   | (rw [decide_eq_true q'] at h5; exact absurd h5 (by decide))
   | (simp at h5; omega)
 cases hwl with
 | cons w1 w2 =>
  cases w2
  cases w1 with
  | list ho hall => exact ⟨_,_,ns,rfl,rfl,ho,Jc9 ns _ hall,hlen⟩
theorem Jg4 (l:OpenLaw) (args:List WData):l.row.toRowW.claim.post args (.bool true) args = true :=
 postW_of (r:=l.row.toRowW) (X:=(true == true))
  (show WShape.has [] (.bool true) .bool = true by first | rfl | decide | simp [WShape.has,WShape.arms,WShape.armsAll])
  (show (WTm.eq .res (.lit (.bool true))).value [] { args:=args,res:=some (.bool true),after:=args } = some (.bool (true == true)) from w_eq_bool (w_res rfl) w_lit) rfl
theorem attach_call {l:OpenLaw} {n:Nat} {q:Program} {loose:List Str} {XP:(Str→Option Value)→Heap→Prop} {YP:World→Heap→Prop} {d:DefRec}
  (hn:l.most = some n) (hdf:d.params.defaults = [])
  (call:∀ (w:World) (s₀ s₁ : Shared) (mg mb:Str→Option Value) (fa:Addr) (o:Obj) (pm cd doc:Value) (a:Addr) (vs:List Value) (ns:List Int),
   Ground q loose [] XP w s₀ mg mb s₁.heap→YP w s₁.heap →
   s₁.heap.get? fa = some o→o.data = .func (docDef d.name d.params d.body d.scope pm cd doc)→s₁.heap.CodeRec cd d.name→mg d.name = some (.ref fa) →
   s₁.heap.get? a = some { cls:=.type "list",data:=.seq vs.toArray }→IntsAre vs ns→ns.length ≤ n→s₁.gens = #[] →
   codeAny (model l.prog w) callerA (.call (.ref fa) ⟨[.ref a],[]⟩) (fun r s' => r = .ok (.ret (.bool true))∧OldK s₁.heap s'.heap∧s'.os = s₁.os∧AllBare s'.gens) s₁) :
  WalkO q loose XP YP l.row.toRowW d [] (fun f vs => PySem.call f vs):=by
 intro w s₀ s₁ mg mb G Y fa o pm cd doc dV kV ho hd hcd hD hmg hg args vals as hpre hlay hrd hwl hlo
 obtain rfl:dV = .none:=Dflts.none hD hdf
 obtain rfl:kV = .none:=Dflts.noKw hD
 obtain ⟨a,vs,ns,rfl,rfl,hobj,hints,hlen⟩:=Jhb hn hpre hwl
 refine enter_call (codeAny_mono (call w s₀ s₁ mg mb fa o pm cd doc a vs ns G Y ho (fd_plain hd) hcd hmg hobj hints hlen hg) fun r s' hq => ?_)
 obtain ⟨rfl,h2,h3,h4⟩:=hq
 exact ⟨.inl ⟨.bool true, .bool true,[],rfl,fun _ => rfl, .bool true,Jg4 l _,fun _ => ⟨List.Pairwise.nil,fun _ hm => (nomatch hm)⟩⟩,h2,h3,h4⟩
section
variable {prog:Program} {w:World} {A:Around} {E:Value→Shared→Prop} {s:Shared} {K:Frag}
end
end Att
namespace L2
open PySem PySem.Spec PyProof.Rows
theorem JeS:∀ {vs:List Value} {ns:List Int},IntsAre vs ns→Vals (ns.map V.int) vs
 | _,_, .nil => .nil
 | _,_, .cons n t h => .cons ⟨t,rfl⟩ (JeS h)
def Only (H:Hp):Prop:=∀ b,H b = none ∨ ∃ o xs,H b = some (.frz o (.lst xs))
theorem Jhr {P:Program} {w:World} {K:PySem.W.Frag} {mg mb:Str→Option Value} {CX:CXT} {k:Nat} {fa a:Addr} {fd:FuncData} {x:Str} {sp:Sp} {s₁ : Shared} {vs:List Value} {ns:List Int}
  (KX:K.In s₁.heap) (hns:s₁.heap.Ns mainGlobals mg) (hb:s₁.heap.Ns builtinsNs mb) (hbb:∀ x:Str,x ≠ "__name__"→mb x = bootBuiltins x) (hlim:s₁.heap.NoLimit) (hg:s₁.gens = #[])
  (ha:s₁.heap.get? a = some { cls:=.type "list",data:=.seq vs.toArray }) (hi:IntsAre vs ns) (hl:ns.length ≤ sizeLine) (hr:Room k callerA)
  (F:∀ base:Heap,K.In base→base.Ns mainGlobals mg→FnOk P w K mg base CX k fa fd [x] sp) (hbind:∀ (s:Shared) (u:Value),BindsTo s fd ⟨[u],[]⟩ [(x,u)])
  (hsp:∀ H:Hp,Only H→SqL K H a (ns.map V.int)→sp [.ref a] H (fun v _ => v = .bl true) fun _ _ _ => False)
  (hCX:∀ H e s',CX [] H s₁ (fun _ _ _ => False) e s'→False) :
  codeAny (model P w) callerA (.call (.ref fa) ⟨[.ref a],[]⟩) (fun r s' => r = .ok (.ret (.bool true))∧OldK s₁.heap s'.heap∧s'.os = s₁.os∧AllBare s'.gens) s₁:=by
 have rv:=JeS hi
 have lenV:=hi.length
 have core:∀ H:Hp,Only H→SqL K H a (ns.map V.int)→HOk P w H s₁.heap→(∀ b,H b ≠ none→b = a)→(H a ≠ none→K.lookup a = none) →
   codeAny (model P w) callerA (.call (.ref fa) ⟨[.ref a],[]⟩) (fun r s' => r = .ok (.ret (.bool true))∧OldK s₁.heap s'.heap∧s'.os = s₁.os∧AllBare s'.gens) s₁:=by
  intro H hO hS hok hA hK
  have base_of:∀ {b:Addr} {o:Obj},s₁.heap.get? b = some o→H b = none→(hidT s₁.heap H).get? b = some o:=fun e n => Jhq e n
  have noA:∀ {b:Addr} {o:Obj} {es:Array DictEntry} {ep:Nat},s₁.heap.get? b = some o→o.data = .dict es ep→H b = none:=fun {b o es ep} e d => by
   cases q:H b with
   | none => rfl
   | some u =>
    have e':b = a:=hA b (by rw [q]; simp)
    subst e'
    rw [ha] at e; cases e
    have d':Data.seq vs.toArray _ = Data.dict es ep:=d
    cases d'
  have nsK:∀ {b:Addr} {m:Str→Option Value},s₁.heap.Ns b m→(hidT s₁.heap H).Ns b m:=fun {b m} ⟨o,es,ep,e,d,r⟩ => ⟨o,es,ep,base_of e (noA e d),d,r⟩
  have hKb:K.In (hidT s₁.heap H):=fun b o e => base_of (KX b o e) (by
   cases q:H b with
   | none => rfl
   | some u =>
    have e':b = a:=hA b (by rw [q]; simp)
    subst e'
    rw [hK (by rw [q]; simp)] at e; cases e)
  have hM:Mod K mg (hidT s₁.heap H):=⟨hKb,nsK hns,⟨mb,nsK hb,hbb⟩,let ⟨mc,h1,h2⟩:=hlim; ⟨mc,nsK h1,h2⟩⟩
  have e0:Env0 P w K mg (hidT s₁.heap H) callerA [] s₁ H:=⟨rfl,hM,fun b o e => Jir e,Nat.le_of_eq (JgG _ _),trivial,fun b hb => absurd (show b ∈ ([]:List Addr) from hb) (by simp),hok, .of_eq hg⟩
  refine codeAny_mono ((F _ hKb (nsK hns)).run callerA [] s₁ H ⟨[.ref a],[]⟩ [.ref a] [.ref a] _ _ hr e0 (hbind s₁ (.ref a)) (.cons rfl .nil) (hsp H hO hS)) fun r s' h => ?_
  cases r with
  | error e => exact (hCX H e s' h).elim
  | ok fl =>
   cases fl with
   | next => exact False.elim h
   | brk => exact False.elim h
   | cont => exact False.elim h
   | ret u =>
    obtain ⟨v,H',os,bare,un,hok',r',q⟩:=h
    have q':v = .bl true:=q
    subst q'
    obtain rfl:u = Value.bool true:=r'
    refine ⟨rfl,OldK.of_keep fun b o e => ?_,os,bare⟩
    cases q:H b with
    | none => exact un.keep b o e q (by intro z; exact absurd (show b ∈ ([]:List Addr) from z) (by simp)) (by simp)
    | some u =>
     rcases hO b with z | ⟨ob,xs,z⟩
     ·rw [q] at z; cases z
     ·have z2:=un.frzs b ob _ z
      obtain ⟨e1,_⟩:=hok b _ z
      obtain ⟨e2,_⟩:=hok' b _ z2
      rw [e] at e1; cases e1
      exact e2
 cases hk:K.lookup a with
 | some o =>
  have e:=KX a o hk
  rw [ha] at e
  cases e
  refine core (fun _ => none) (fun _ => .inl rfl) (.inr ⟨_,vs.toArray,_,hk,rfl,rfl,rfl,by rw [List.size_toArray,lenV]; exact hl,by simpa using rv⟩) (fun b u z => by have z':(none:Option HO) = some u:=z; cases z') (fun b z => absurd rfl z) fun z => absurd rfl z
 | none =>
  refine core (fun b => if b = a then some (.frz { cls:=.type "list",data:=.seq vs.toArray } (.lst (ns.map V.int))) else none) (fun b => ?_) (.inl (.inr ⟨{ cls:=.type "list",data:=.seq vs.toArray },if_pos rfl⟩)) (fun b u z => ?_) (fun b z => ?_) fun _ => hk
  ·by_cases hb:b = a
   ·exact .inr ⟨_,_,if_pos hb⟩
   ·exact .inl (if_neg hb)
  ·by_cases hb:b = a
   ·have z':=(if_pos hb).symm.trans z
    cases z'
    subst hb
    exact ⟨ha,by rw [List.length_map]; exact hl,vs,_,rv,ha⟩
   ·have z':=(if_neg hb).symm.trans z
    cases z'
  ·by_cases hb:b = a
   ·exact hb
   ·exact absurd (if_neg hb) z
end L2
namespace L2
open PySem PySem.Spec PyProof.Rows
abbrev KOf {K:PySem.W.Frag} {h:Heap} (_:K.In h):PySem.W.Frag:=K
theorem Jhi {l:PySem.W.OpenLaw} {n k:Nat} {q:Program} {loose:List Str} {XP:(Str→Option Value)→Heap→Prop} {YP:World→Heap→Prop} {d:DefRec} {K:Params→PySem.W.Frag} {CX:World→CXT} {sp:World→Sp} {x:Str}
  (hn:l.most = some n) (hn2:n ≤ sizeLine) (hdf:d.params.defaults = []) (hr:Room k callerA)
  (hY:∀ (w:World) (h:Heap),YP w h→(K w.params).In h)
  (F:∀ (w:World) (mg:Str→Option Value) (fa:Addr) (h:Heap),(K w.params).In h→h.Ns mainGlobals mg→mg d.name = some (.ref fa) →
   ∃ fd:FuncData,(∀ (s:Shared) (u:Value),BindsTo s fd ⟨[u],[]⟩ [(x,u)]) ∧
    ∀ base:Heap,(K w.params).In base→base.Ns mainGlobals mg→FnOk l.prog w (K w.params) mg base (CX w) k fa fd [x] (sp w))
  (hsp:∀ (w:World) (H:Hp) (a:Addr) (ns:List Int),ns.length ≤ n→Only H→SqL (K w.params) H a (ns.map V.int)→sp w [.ref a] H (fun v _ => v = .bl true) fun _ _ _ => False)
  (hCX:∀ (w:World) (H:Hp) (s:Shared) (e:Value) (s':Shared),CX w [] H s (fun _ _ _ => False) e s'→False) :
  PySem.W.WalkO q loose XP YP l.row.toRowW d [] (fun f vs => PySem.call f vs):=by
 refine Att.attach_call hn hdf fun w s₀ s₁ mg mb fa o pm cd doc a vs ns G Y ho hd hcd hmg hobj hints hlen hg => ?_
 have KX:=hY w _ Y
 obtain ⟨fd,hb,hF⟩:=F w mg fa _ KX G.T.g hmg
 exact Jhr KX G.T.g G.T.b G.T.builtins G.T.nolimit hg hobj hints (Nat.le_trans hlen hn2) hr hF hb (fun H hO hS => hsp w H a ns hlen hO hS) fun H e s' => hCX w H s₁ e s'
end L2
/- THE LAST THEOREM (shape; LID,My.* are yours):
   My.Adr: a structure of the addresses that your layer names (classes,functions); My.Txt K t: a structure (Prop) of the equations over K;
   My.txt_mk:{K} {implicit addresses ..} (e1:nsIn K mainGlobals "law" = some (some (.ref f))) (e2:K.lookup f = some ⟨oc,od, .func (fnOf "law" "law" params body scope dV kV doc pm an cdv ct),sl⟩) (e3:codeIn K cdv "law" = true) .. : ∃ t,My.Txt K t
set_option maxRecDepth 100000 in
set_option maxHeartbeats 0 in
theorem PySem.Challenge.cw_LID_holds : PySem.Challenge.rw_LID.Holds := by
 w_on; o_law; k_head; (case hw => w_witness2)
 k_fill
 refine L2.Jhi (l:=PySem.Challenge.rw_LID) (n:=63) (k:=40) (x:="script") (CX:=fun w => ..) (sp:=fun _ => My.BcX) rfl (by decide) rfl ⟨rfl,by decide,by decide⟩ (fun w h Y => PySem.W.kIn_of Y) ?F ?S ?C
 case F =>
  intro w mg fa h KX G hmg
  have T:∃ t,My.Txt (L2.KOf KX) t:=by
   dsimp only [L2.KOf]                          -- K must stand as «<heap const> w.params» for k_is
   refine' My.txt_mk ?e1 ?e2 ?e3 ..
   (case e1 => PySem.W.k_is)                    -- in the order: a name -> its address -> its object -> its parts
   (case e2 => PySem.W.k_is)
   ..
  obtain ⟨t,T⟩:=T
  have e0:=hmg.symm.trans (PySem.W.mg_of KX G T.law)
  cases e0                                       -- fa is the law's own address
  exact ⟨_,fun s u => .of_eq rfl,fun base kb nb => My.law_fn T kb nb⟩     -- if «.of_eq rfl» comes too early: refine' ⟨_, ?b,fun base kb nb => My.law_fn T kb nb⟩; exact fun s u => .of_eq rfl
 case S => exact fun w H a ns hl hO hS => ..
 case C => exact ..
(the tactic k_is has no namespace: write k_is) -/
namespace L2
open PySem PySem.Spec PyProof.Rows
def inClass (s:Stmt) (j:Nat):Stmt:=match s with
 | .ClassDef _ _ _ body _ _ _ _ _ _ _ => body.getD j (.Pass ⟨0,0,0,0⟩)
 | _ => .Pass ⟨0,0,0,0⟩
def Jam (s:Stmt):Arguments:=match s with
 | .FunctionDef _ a _ _ _ _ _ _ _ _ => a
 | _ => { posonlyargs:=[],args:=[],vararg:=none,kwonlyargs:=[],kw_defaults:=[],kwarg:=none,defaults:=[] }
def Jal (s:Stmt):List Stmt:=match s with
 | .FunctionDef _ _ b _ _ _ _ _ _ _ => b
 | _ => []
def Jae (s:Stmt):Scope:=match s with
 | .FunctionDef _ _ _ _ _ _ sc _ _ _ => sc
 | _ => { kind:=.function,names:=[],isGenerator:=false,isCoroutine:=false }
abbrev E0:XK:=fun _ _ _ => False
structure Fun (K:PySem.W.Frag) (x qual:Str) (st:Stmt) (f:Addr) (fd:FuncData):Prop where
 ex:∃ (oc:Value) (od:Option Addr) (kV doc pm:Value) (an:Option Addr) (cdv ct:Value) (osl:Array (Option Value)),
  fd = PySem.W.fnOf x qual (Jam st) (Jal st) (Jae st) .none kV doc pm an cdv ct∧K.lookup f = some ⟨oc,od, .func fd,osl⟩∧PySem.W.codeIn K cdv qual = true
 kp:PySem.W.keepIn K (.ref f) = true
section
variable {P:Program} {w:World} {K:PySem.W.Frag} {mg:Str→Option Value} {base:Heap}
theorem Fun.binds {x qual:Str} {st:Stmt} {f:Addr} {fd:FuncData} {ps:List Str} (F:Fun K x qual st f fd)
  (h:∀ (kV doc pm:Value) (an:Option Addr) (cdv ct:Value) (us:List Value),us.length = ps.length→bindArgs (PySem.W.fnOf x qual (Jam st) (Jal st) (Jae st) .none kV doc pm an cdv ct) ⟨us,[]⟩ = pure (ps.zip us)):Binds K fd ps []:=by
 obtain ⟨oc,od,kV,doc,pm,an,cdv,ct,osl,rfl,lk,hcd⟩:=F.ex
 exact .all (h kV doc pm an cdv ct)
end
section
variable {X:Cx}
theorem pv (i:Nat) {x:Str} {pos:Pos} (hN:X.N[i]? = some x:=by rfl) (hv:Vis X.env.scope x:=by first | exact Or.inl rfl | exact Or.inr (Or.inl rfl) | exact Or.inr (Or.inr rfl)) (hd:(x == ("__debug__" : Str)) = false:=by decide)
  (hcd:(x == ("__classdict__" : Str)) = false:=by decide):PE X (.Name x pos) (tVar i):=Jjj hN hv hd hcd
end
def Same (H H':Hp):Prop:=∀ b o,H b = some o→H' b = some o
theorem Same.refl (H:Hp):Same H H:=fun _ _ h => h
theorem Same.trans {H H1 H2:Hp} (a:Same H H1) (b:Same H1 H2):Same H H2:=fun c o h => b c o (a c o h)
theorem Same.seq {K:PySem.W.Frag} {H H':Hp} {a:Addr} {xs:List V} (e:Same H H') (h:SqL K H a xs):SqL K H' a xs:=by
 rcases h with (h | ⟨o,h⟩) | h
 ·exact .inl (.inl (e _ _ h))
 ·exact .inl (.inr ⟨o,e _ _ h⟩)
 ·exact .inr h
end L2
set_option maxHeartbeats 4000000
namespace L2
open PySem PySem.Spec PyProof.Rows
section
variable {κ : Type} [DecidableEq κ]
def valV (kvs:List (κ × V)) (k : κ):Option V:=(kvs.find? fun kv => decide (kv.1 = k)).map (·.2)
def putK (kvs:List (κ × V)) (k : κ) (v:V):List (κ × V) :=
 if (kvs.any fun kv => decide (kv.1 = k)) = true then kvs.map (fun kv => if kv.1 = k then (kv.1,v) else kv) else kvs ++ [(k,v)]
theorem Ja7 {p : κ × V} {r:List (κ × V)} {k : κ} (e:p.1 = k):valV (p :: r) k = some p.2:=by simp [valV,List.find?_cons,e]
theorem Jbi {p : κ × V} {r:List (κ × V)} {k : κ} (e:¬ p.1 = k):valV (p :: r) k = valV r k:=by simp [valV,List.find?_cons,e]
theorem Jc0 (k : κ):∀ kvs:List (κ × V),(kvs.any fun kv => decide (kv.1 = k)) = (valV kvs k).isSome
 | [] => rfl
 | p :: r => by
  rw [List.any_cons]
  by_cases e:p.1 = k
  ·simp only [Ja7 e,decide_eq_true e,Bool.true_or,Option.isSome_some]
  ·rw [Jbi e,decide_eq_false e,Bool.false_or]; exact Jc0 k r
theorem JfR (k j : κ) (y:V):∀ kvs:List (κ × V),valV (kvs.map fun kv => if kv.1 = k then (kv.1,y) else kv) j = (valV kvs j).map fun x => if j = k then y else x
 | [] => rfl
 | p :: r => by
  have ih:=JfR k j y r
  rw [List.map_cons]
  by_cases h:p.1 = k
  ·rw [if_pos h]
   by_cases e:p.1 = j
   ·rw [Ja7 (p:=(p.1,y)) e,Ja7 e,Option.map_some,if_pos (e.symm.trans h)]
   ·rw [Jbi (p:=(p.1,y)) e,Jbi e,ih]
  ·rw [if_neg h]
   by_cases e:p.1 = j
   ·rw [Ja7 (p:=p) e,Ja7 e,Option.map_some,if_neg (fun z => h (e.trans z))]
   ·rw [Jbi (p:=p) e,Jbi e,ih]
theorem JeR (k j : κ) (y:V):∀ kvs:List (κ × V),valV kvs k = none→valV (kvs ++ [(k,y)]) j = if j = k then some y else valV kvs j
 | [],_ => by
  by_cases e:k = j
  ·rw [if_pos e.symm]; exact Ja7 (p:=(k,y)) e
  ·rw [if_neg (fun z => e z.symm)]; exact Jbi (p:=(k,y)) e
 | p :: r,hn => by
  rw [List.cons_append]
  have hk:¬ p.1 = k:=fun z => by rw [Ja7 z] at hn; cases hn
  rw [Jbi hk] at hn
  have ih:=JeR k j y r hn
  by_cases e:p.1 = j
  ·rw [Ja7 e,Ja7 e,if_neg (fun z => hk (e.trans z))]
  ·rw [Jbi e,Jbi e,ih]
theorem JfS (kvs:List (κ × V)) (k j : κ) (y:V):valV (putK kvs k y) j = if j = k then some y else valV kvs j:=by
 unfold putK
 by_cases a:(kvs.any fun kv => decide (kv.1 = k)) = true
 ·rw [if_pos a,JfR]
  rw [Jc0] at a
  by_cases e:j = k
  ·obtain ⟨x,hx⟩:=Option.isSome_iff_exists.mp a
   rw [if_pos e,e,hx,Option.map_some,if_pos rfl]
  ·rw [if_neg e]
   cases valV kvs j with
   | none => rfl
   | some x => rw [Option.map_some,if_neg e]
 ·rw [if_neg a]
  refine JeR k j y kvs ?_
  rw [Jc0] at a
  cases q:valV kvs k with
  | none => rfl
  | some x => rw [q] at a; exact (a rfl).elim
theorem Ja8 (kvs:List (κ × V)) (k : κ) (v:V):(putK kvs k v).length ≤ kvs.length + 1:=by
 unfold putK
 split
 ·rw [List.length_map]; omega
 ·rw [List.length_append,List.length_cons,List.length_nil]; omega
theorem RelO.isSome_eq {o:Option V} {u:Option Value} (r:RelO o u):o.isSome = u.isSome:=by
 cases o with
 | none => cases u with
  | none => rfl
  | some _ => exact (show False from r).elim
 | some _ => cases u with
  | none => exact (show False from r).elim
  | some _ => rfl
theorem RelO.getD {o:Option V} {u:Option Value} {d:V} {d':Value} (r:RelO o u) (rd:RelV d d'):RelV (o.getD d) (u.getD d'):=by
 cases o with
 | none => cases u with
  | none => exact rd
  | some _ => exact (show False from r).elim
 | some _ => cases u with
  | none => exact (show False from r).elim
  | some _ => exact r
theorem KV.val {kvs:List (κ × V)} {vs:List (κ × Value)} (r:KV kvs vs) (k : κ):RelO (valV kvs k) (valueAt vs k):=by
 unfold KV at r
 induction r with
 | nil => exact True.intro
 | @cons p q ps qs h t ih =>
  obtain ⟨h1,h2⟩:=h
  by_cases e:p.1 = k
  ·have e':q.1 = k:=h1.symm.trans e
   have b:valueAt (q :: qs) k = some q.2:=by simp [valueAt,List.find?_cons,e']
   rw [Ja7 e,b]; exact h2
  ·have e':¬ q.1 = k:=fun z => e (h1.trans z)
   have b:valueAt (q :: qs) k = valueAt qs k:=by simp [valueAt,List.find?_cons,e']
   rw [Jbi e,b]; exact ih
theorem KV.any {kvs:List (κ × V)} {vs:List (κ × Value)} (r:KV kvs vs) (k : κ):(kvs.any fun kv => decide (kv.1 = k)) = vs.any fun kv => decide (kv.1 = k):=by
 unfold KV at r
 induction r with
 | nil => rfl
 | cons h t ih => rw [List.any_cons,List.any_cons,ih,h.1]
theorem KV.repl {kvs:List (κ × V)} {vs:List (κ × Value)} (r:KV kvs vs) (k : κ) {y:V} {u:Value} (ry:RelV y u) :
  KV (kvs.map fun kv => if kv.1 = k then (kv.1,y) else kv) (vs.map fun kv => if kv.1 = k then (kv.1,u) else kv):=by
 unfold KV at r ⊢
 induction r with
 | nil => exact .nil
 | @cons p q ps qs h t ih =>
  rw [List.map_cons,List.map_cons]
  refine .cons ?_ ih
  obtain ⟨h1,h2⟩:=h
  by_cases e:p.1 = k
  ·rw [if_pos e,if_pos (h1.symm.trans e)]; exact ⟨h1,ry⟩
  ·rw [if_neg e,if_neg (fun z => e (h1.trans z))]; exact ⟨h1,h2⟩
theorem KV.put {kvs:List (κ × V)} {vs:List (κ × Value)} (r:KV kvs vs) (k : κ) {y:V} {u:Value} (ry:RelV y u):KV (putK kvs k y) (stored vs k u):=by
 unfold putK stored
 rw [r.any k]
 by_cases e:(vs.any fun kv => decide (kv.1 = k)) = true
 ·rw [if_pos e,if_pos e]; exact r.repl k ry
 ·rw [if_neg e,if_neg e]; exact Paired.snoc r ⟨rfl,ry⟩
theorem KV.length {kvs:List (κ × V)} {vs:List (κ × Value)} (r:KV kvs vs):kvs.length = vs.length:=Paired.length r
end
theorem kV_is {P:Program} {w:World} {k:Key} {u:Value} (r:RelV (kV k) u):(JaQ P w).is k u = true:=by
 cases k with
 | inl i => have e:=(show u = Value.bool i from r); subst e; exact JeA P w i
 | inr x => obtain ⟨t,e⟩:=(show ∃ t,u = Value.str x t from r); subst e; exact Je5 P w x t
theorem Jey {P:Program} {w:World}:∀ {ks:List Key} {us:List Value},Vals (ks.map kV) us→ItemsAre (JaQ P w) ks us
 | [],_,r => by rw [List.map_nil] at r; cases r; exact .nil
 | k :: ks,_,r => by
  rw [List.map_cons] at r
  cases r with
  | cons h t => exact .cons (kV_is h) (Jey t)
abbrev KT (H:Hp):List (List Key × V)→List (List Key × Addr × Value)→Prop:=Paired fun p q => p.1 = q.1∧H q.2.1 = some (.tup (p.1.map kV))∧RelV p.2 q.2.2
theorem KT.val {H:Hp} {kvs:List (List Key × V)} {xs:List (List Key × Addr × Value)} (r:KT H kvs xs) (k:List Key):RelO (valV kvs k) ((atKey xs k).map (·.2)):=by
 induction r with
 | nil => exact True.intro
 | @cons p q ps qs h t ih =>
  obtain ⟨h1,_,h2⟩:=h
  by_cases e:p.1 = k
  ·have e':q.1 = k:=h1.symm.trans e
   have b:atKey (q :: qs) k = some q.2:=by simp [atKey,List.find?_cons,e']
   rw [Ja7 e,b]; exact h2
  ·have e':¬ q.1 = k:=fun z => e (h1.trans z)
   have b:atKey (q :: qs) k = atKey qs k:=by simp [atKey,List.find?_cons,e']
   rw [Jbi e,b]; exact ih
theorem KT.repl {H:Hp} {kvs:List (List Key × V)} {xs:List (List Key × Addr × Value)} (r:KT H kvs xs) (k:List Key) {y:V} {u:Value} (ry:RelV y u) :
  KT H (kvs.map fun kv => if kv.1 = k then (kv.1,y) else kv) (xs.map (putAt k u)):=by
 induction r with
 | nil => exact .nil
 | @cons p q ps qs h t ih =>
  rw [List.map_cons,List.map_cons]
  refine .cons ?_ ih
  obtain ⟨h1,h2,h3⟩:=h
  unfold putAt
  by_cases e:p.1 = k
  ·rw [if_pos e,if_pos (h1.symm.trans e)]; exact ⟨h1,h2,ry⟩
  ·rw [if_neg e,if_neg (fun z => e (h1.trans z))]; exact ⟨h1,h2,h3⟩
theorem KT.put {H:Hp} {kvs:List (List Key × V)} {xs:List (List Key × Addr × Value)} (r:KT H kvs xs) (k:List Key) {b:Addr} {y:V} {u:Value} (hb:H b = some (.tup (k.map kV))) (ry:RelV y u) :
  KT H (putK kvs k y) (storedH xs k b u):=by
 have e:(kvs.any fun kv => decide (kv.1 = k)) = (atKey xs k).isSome:=by
  rw [Jc0,(r.val k).isSome_eq,Option.isSome_map]
 unfold putK storedH
 rw [e]
 by_cases q:(atKey xs k).isSome = true
 ·rw [if_pos q,if_pos q]; exact r.repl k ry
 ·rw [if_neg q,if_neg q]; exact Paired.snoc r ⟨rfl,hb,ry⟩
theorem KT.keeps {H H':Hp} {kvs:List (List Key × V)} {xs:List (List Key × Addr × Value)} (r:KT H kvs xs) (ht:∀ b ys,H b = some (.tup ys)→H' b = some (.tup ys)):KT H' kvs xs :=
 Paired.mapP r fun _ _ z => ⟨z.1,ht _ _ z.2.1,z.2.2⟩
section
variable {P:Program} {w:World} {H:Hp} {h:Heap} {a:Addr}
theorem y75y {u:HO} (ok:HOk P w H h) (e:Rd H a u):ObjOk P w H h a u:=e.ok ok
theorem dk_rd {kvs:List (Key × V)} (ok:HOk P w H h) (e:Rd H a (.dK kvs)):kvs.length ≤ sizeLine∧(a == sysModules) = false∧∃ vs,KV kvs vs∧h.DictOf (JaQ P w) a vs :=
 show ObjOk P w H h a (.dK kvs) from y75y ok e
theorem dk_of {kvs:List (Key × V)} (ok:HOk P w H h) (e:H a = some (.dK kvs)):kvs.length ≤ sizeLine∧(a == sysModules) = false∧∃ vs,KV kvs vs∧h.DictOf (JaQ P w) a vs:=dk_rd ok (.inl e)
theorem Jda {ks:List Key} (ok:HOk P w H h) (e:H a = some (.tup (ks.map kV))):(tupleKind (JaQ P w)).is h ks a:=by
 obtain ⟨_,its,r,o,h1,h2,n,h3⟩:=(show ObjOk P w H h a (.tup (ks.map kV)) from ok a _ e)
 exact ⟨o,its.toArray,n,h1,h2,h3,by simpa using Jey r⟩
theorem dt_rd {kvs:List (List Key × V)} (ok:HOk P w H h) (e:Rd H a (.dT kvs)):kvs.length ≤ sizeLine∧(a == sysModules) = false ∧
  ∃ xs,KT H kvs xs∧h.DictOfH (tupleKind (JaQ P w)) a xs:=by
 obtain ⟨z,y,xs,r,o,es,ep,h1,h2,h3,h4,h5⟩:=(show ObjOk P w H h a (.dT kvs) from y75y ok e)
 refine ⟨z,y,xs,r,o,es,ep,h1,h2,h3,h4,fun x hx => ?_,h5⟩
 have all:∀ {l:List (List Key × V)} {m:List (List Key × Addr × Value)},KT H l m→∀ x ∈ m,(tupleKind (JaQ P w)).is h x.1 x.2.1:=by
  intro l m q
  induction q with
  | nil => intro x hx; exact nomatch hx
  | @cons p q ps qs hq t ih =>
   intro x hx
   rcases List.mem_cons.mp hx with e | hx
   ·subst e
    exact Jda ok (by rw [← hq.1]; exact hq.2.1)
   ·exact ih x hx
 exact all r x hx
theorem dt_of {kvs:List (List Key × V)} (ok:HOk P w H h) (e:H a = some (.dT kvs)):kvs.length ≤ sizeLine∧(a == sysModules) = false ∧
  ∃ xs,KT H kvs xs∧h.DictOfH (tupleKind (JaQ P w)) a xs:=dt_rd ok (.inl e)
end
def DGet (H:Hp) (a:Addr) (y:V) (r:Option V):Prop :=
 (∃ kvs k,Rd H a (.dK kvs)∧y = kV k∧r = valV kvs k) ∨ ∃ kvs k b,Rd H a (.dT kvs)∧y = .ref b∧H b = some (.tup (k.map kV))∧r = valV kvs k
def DPut (H:Hp) (a:Addr) (y v:V) (H':Hp):Prop :=
 (∃ kvs k,H a = some (.dK kvs)∧y = kV k∧kvs.length < sizeLine∧H' = upd H a (.dK (putK kvs k v))) ∨
 ∃ kvs k b,H a = some (.dT kvs)∧y = .ref b∧H b = some (.tup (k.map kV))∧kvs.length < sizeLine∧H' = upd H a (.dT (putK kvs k v))
theorem DGet.k {H:Hp} {a:Addr} {kvs:List (Key × V)} {k:Key} (e:H a = some (.dK kvs)):DGet H a (kV k) (valV kvs k):=.inl ⟨kvs,k, .inl e,rfl,rfl⟩
theorem DPut.k {H:Hp} {a:Addr} {kvs:List (Key × V)} {k:Key} {v:V} (e:H a = some (.dK kvs)) (hl:kvs.length < sizeLine):DPut H a (kV k) v (upd H a (.dK (putK kvs k v))):=.inl ⟨kvs,k,e,rfl,hl,rfl⟩
section
variable {X:Cx} {pins:List (Addr × Obj)} {σ : St} {H:Hp} {s:Shared} {a:Addr} {y v:V} {u r:Value} {o:Option V} {A:Around} {E:Value→Shared→Prop}
theorem Inv.big (I:Inv X pins σ H s):sysModules < s.heap.objs.size:=by
 have h:mainGlobals < s.heap.objs.size:=(I.mod.glob.keeps I.bk).lt
 exact Nat.lt_trans (by decide) h
theorem Jgu {Q:Value→Shared→Prop} (hu:A.units + 1 < cLine) (I:Inv X pins σ H s) (g:DGet H a y (some v)) (ry:RelV y u) (h:∀ w' s',Inv X pins σ H s'→RelV v w'→Q w' s') :
  wpAny (model X.prog X.w) A (getItem (.ref a) u) Q E s:=by
 rcases g with ⟨kvs,k,e,ey,l⟩ | ⟨kvs,k,b,e,ey,eb,l⟩
 ·subst ey
  obtain ⟨z,hd,vs,rel,dd⟩:=dk_rd I.hok e
  obtain ⟨w',hw,rw'⟩:=RelO.some_of (v:=v) (o:=valueAt vs k) (by rw [l]; exact rel.val k)
  exact wpAny_getItem_of (kV_is ry) dd.mapOf hw (h w' _ (I.tok _) rw')
 ·subst ey
  cases (show u = Value.ref b from ry)
  obtain ⟨z,hd,xs,rel,dd⟩:=dt_rd I.hok e
  obtain ⟨w',hw,rw'⟩:=RelO.some_of (v:=v) (o:=(atKey xs k).map (·.2)) (by rw [l]; exact rel.val k)
  obtain ⟨p,hp,hp2⟩:=Option.map_eq_some_iff.mp hw
  refine wpAny_getItem_heap (tupleKind_room_in1 hu) (Jda I.hok eb) dd hp ?_
  rw [hp2]
  exact h w' _ (I.tok _) rw'
theorem d_in {Q:Value→Shared→Prop} (hu:A.units + 1 < cLine) (I:Inv X pins σ H s) (g:DGet H a y o) (ry:RelV y u) (h:∀ s',Inv X pins σ H s'→Q (.bool o.isSome) s') :
  wpAny (model X.prog X.w) A (compareOp .In u (.ref a)) Q E s:=by
 rcases g with ⟨kvs,k,e,ey,l⟩ | ⟨kvs,k,b,e,ey,eb,l⟩
 ·subst ey
  obtain ⟨z,hd,vs,rel,dd⟩:=dk_rd I.hok e
  refine wpAny_in_of (kV_is ry) hd dd.mapOf ?_
  rw [← (rel.val k).isSome_eq, ← l]
  exact h _ (I.tok _)
 ·subst ey
  cases (show u = Value.ref b from ry)
  obtain ⟨z,hd,xs,rel,dd⟩:=dt_rd I.hok e
  refine wpAny_in_heap (tupleKind_room_in1 hu) (Jda I.hok eb) hd dd ?_
  have q:=(rel.val k).isSome_eq
  rw [Option.isSome_map] at q
  rw [← q, ← l]
  exact h _ (I.tok _)
theorem Jif {Q:Value→Shared→Prop} (hu:A.units + 1 < cLine) (I:Inv X pins σ H s) (g:DGet H a y o) (ry:RelV y u) (h:∀ s',Inv X pins σ H s'→Q (.bool (!o.isSome)) s') :
  wpAny (model X.prog X.w) A (compareOp .NotIn u (.ref a)) Q E s:=by
 rcases g with ⟨kvs,k,e,ey,l⟩ | ⟨kvs,k,b,e,ey,eb,l⟩
 ·subst ey
  obtain ⟨z,hd,vs,rel,dd⟩:=dk_rd I.hok e
  refine wpAny_notIn_of (kV_is ry) hd dd.mapOf ?_
  rw [← (rel.val k).isSome_eq, ← l]
  exact h _ (I.tok _)
 ·subst ey
  cases (show u = Value.ref b from ry)
  obtain ⟨z,hd,xs,rel,dd⟩:=dt_rd I.hok e
  refine wpAny_notIn_heap (tupleKind_room_in1 hu) (Jda I.hok eb) hd dd ?_
  have q:=(rel.val k).isSome_eq
  rw [Option.isSome_map] at q
  rw [← q, ← l]
  exact h _ (I.tok _)
theorem JdY {h':Heap} {t':Nat} {ob:HO} (I:Inv X pins σ H s) (mu:Mut (H a)) (hs:Heap.SameBut a s.heap h') (he:∃ q,h'.get? a = some q) (new:ObjOk X.prog X.w (upd H a ob) h' a ob) :
  Inv X pins σ (upd H a ob) { s with heap:=h',toks:=t' } :=
 I.write (x:=a) (e:=a) mu (.inl rfl) (fun b q hb z => (hs.2 b hb).trans z) he new
theorem Jgz {P:Program} {w:World} {H':Hp} {h':Heap} {kvs:List (Key × V)} {vs:List (Key × Value)} (z:kvs.length ≤ sizeLine) (hd:(a == sysModules) = false) (rel:KV kvs vs) (dd:h'.DictOf (JaQ P w) a vs) :
  ObjOk P w H' h' a (.dK kvs):=⟨z,hd,vs,rel,dd⟩
theorem Jgv {H':Hp} {Q:Unit→Shared→Prop} (hu:A.units + 1 < cLine) (I:Inv X pins σ H s) (g:DPut H a y v H') (ry:RelV y u) (rv:RelV v r) (h:∀ s',Inv X pins σ H' s'→Q () s') :
  wpAny (model X.prog X.w) A (setItem (.ref a) u r) Q E s:=by
 rcases g with ⟨kvs,k,e,ey,l,eH⟩ | ⟨kvs,k,b,e,ey,eb,l,eH⟩
 ·subst ey eH
  obtain ⟨z,hd,vs,rel,dd⟩:=dk_of I.hok e
  have hz:vs.length ≤ sizeLine:=by rw [← rel.length]; exact z
  have hl:(putK kvs k v).length ≤ sizeLine:=by have:=Ja8 kvs k v; omega
  refine wpAny_setItem_pairs (hsz:=hz) (kV_is ry) dd fun h' dd' hs => h _ ?_
  have he:∃ q,h'.get? a = some q:=let ⟨q,_,_,hq,_⟩:=dd'; ⟨q,hq⟩
  exact JdY I (by rw [e]; exact True.intro) hs he (Jgz hl hd (rel.put k rv) dd')
 ·subst ey eH
  cases (show u = Value.ref b from ry)
  obtain ⟨z,hd,xs,rel,dd⟩:=dt_of I.hok e
  have hz:xs.length ≤ sizeLine:=by rw [← Paired.length rel]; exact z
  have hl:(putK kvs k v).length ≤ sizeLine:=by have:=Ja8 kvs k v; omega
  refine wpAny_setItem_heap (hsz:=hz) (tupleKind_room_in1 hu) (Jda I.hok eb) dd fun h' dd' hs => h _ ?_
  obtain ⟨q,es,ep,hq,h2,h3,h4,_,h5⟩:=dd'
  refine JdY I (by rw [e]; exact True.intro) hs ⟨q,hq⟩ ⟨hl,hd,_,(rel.put k eb rv).keeps fun c ys ec => ?_,q,es,ep,hq,h2,h3,h4,h5⟩
  rw [Jah (ne_of ec e (fun z => nomatch z))]
  exact ec
end
section
variable {X:Cx} {pins:List (Addr × Obj)} {σ : St} {H:Hp} {s:Shared} {a:Addr} {kvs:List (Key × V)} {k:Key} {u:Value} {A:Around} {E:Value→Shared→Prop}
end
def NoSl (i:Expr):Prop:=∀ ov iv,subscripted i false ov iv = operate [ov,iv] (getItem ov iv)
theorem JiL {prog:Program} {w:World} {A:Around} {E:Value→Shared→Prop} {s:Shared} {env:Env} {value slice:Expr} {pos:Pos} {T id:String} {Q:Value→Shared→Prop}
  (hl:typeLookup (.type T) "__getitem__" = pure (some (.builtin id))) (hs:NoSl slice)
  (h:wpAny (model prog w) A (eval value env) (fun o s₁ => wpAny (model prog w) A (eval slice env) (fun i s₂ => s₂.TypeIs o T∧wpAny (model prog w) A (getItem o i) Q E s₂) E s₁) E s) :
  wpAny (model prog w) A (eval (.Subscript value slice pos) env) Q E s:=by
 refine Subscript_ (wpAny_mono h (fun o s₁ h₁ => wpAny_mono h₁ (fun i s₂ h₂ => ?_) fun _ _ x => x) fun _ _ x => x)
 obtain ⟨hT,h₂⟩:=h₂
 unfold subscriptTail
 refine wpAny_bind ?_
 rw [getitemInPython_of_ne hT.not_modules]
 refine wpAny_bind (wpAny_specialOf hT hl ?_)
 have fin:wpAny (model prog w) A (subscripted slice false o i) (fun r s₃ => wpAny (model prog w) A (letTemporaryGo value o r >>= fun _ => pure r) Q E s₃) E s₂:=by
  rw [hs o i]
  exact wpAny_operating (wpAny_mono h₂ (fun r s₃ h₃ => wpAny_bind (wpAny_letTemporaryGo (wpAny_pure h₃))) fun _ _ x => x)
 first
  | exact wpAny_pure (wpAny_bind fin)
  | exact wpAny_bind (wpAny_pure (wpAny_bind fin))
  | exact wpAny_bind fin
theorem JeZ {X:Cx} {pins:List (Addr × Obj)} {σ : St} {H:Hp} {s:Shared} {a:Addr} {y:V} {o:Option V} (I:Inv X pins σ H s) (g:DGet H a y o):s.TypeIs (.ref a) "dict":=by
 rcases g with ⟨kvs,k,e,_,_⟩ | ⟨kvs,k,b,e,_,_,_⟩
 ·obtain ⟨_,_,vs,_,dd⟩:=dk_rd I.hok e
  exact dd.typeIs
 ·obtain ⟨_,_,xs,_,dd⟩:=dt_rd I.hok e
  exact dd.typeIs
def tDGet (td ty:TE):TE:=fun σ H Q => td σ H fun x H1 => ty σ H1 fun y H2 => ∃ a v,x = .ref a∧DGet H2 a y (some v)∧Q v H2
def tDIn (ty td:TE):TE:=fun σ H Q => ty σ H fun y H1 => td σ H1 fun x H2 => ∃ a o,x = .ref a∧DGet H2 a y o∧Q (.bl o.isSome) H2
def Jhe (ty td:TE):TE:=fun σ H Q => ty σ H fun y H1 => td σ H1 fun x H2 => ∃ a o,x = .ref a∧DGet H2 a y o∧Q (.bl (!o.isSome)) H2
def sDPut (td ty tv:TE):TS:=fun D σ H => tv σ H fun v H1 => td σ H1 fun x H2 => ty σ H2 fun y H3 => ∃ a H4,x = .ref a∧DPut H3 a y v H4∧D.nx σ H4
section
variable {X:Cx} {o i e value:Expr} {pos pos' tpos:Pos} {td ty tv:TE}
theorem Ja9 (hu:X.A.units + 1 < cLine) (ho:PE X o td) (hi:PE X i ty) (hs:NoSl i):PE X (.Subscript o i pos) (tDGet td ty):=by
 intro pins s σ H Q I h
 refine JiL PySem.F.slot_dict_getitem.lookup hs (thn (ho pins s σ H _ I h) fun u s1 ⟨x,H1,I1,rx,q1⟩ => thn (hi pins s1 σ H1 _ I1 q1) fun iv s2 ⟨y,H2,I2,ry,a,v,ex,g,q2⟩ => ?_)
 subst ex
 obtain rfl:u = Value.ref a:=rx
 exact ⟨JeZ I2 g,Jgu hu I2 g ry fun w' s3 I3 rw' => ⟨v,H2,I3,rw',q2⟩⟩
theorem JhX (hu:X.A.units + 1 < cLine) (hi:PE X i ty) (ho:PE X o td):PC X .In i o (tDIn ty td):=by
 intro pins s σ H Q I h
 refine thn (hi pins s σ H _ I h) fun iv s1 ⟨y,H1,I1,ry,q1⟩ => thn (ho pins s1 σ H1 _ I1 q1) fun u s2 ⟨x,H2,I2,rx,a,ov,ex,g,q2⟩ => ?_
 subst ex
 obtain rfl:u = Value.ref a:=rx
 exact d_in hu I2 g ry fun s3 I3 => ⟨.bl ov.isSome,H2,I3,rfl,q2⟩
theorem JeJ (hu:X.A.units + 1 < cLine) (hi:PE X i ty) (ho:PE X o td):PC X .NotIn i o (Jhe ty td):=by
 intro pins s σ H Q I h
 refine thn (hi pins s σ H _ I h) fun iv s1 ⟨y,H1,I1,ry,q1⟩ => thn (ho pins s1 σ H1 _ I1 q1) fun u s2 ⟨x,H2,I2,rx,a,ov,ex,g,q2⟩ => ?_
 subst ex
 obtain rfl:u = Value.ref a:=rx
 exact Jif hu I2 g ry fun s3 I3 => ⟨.bl (!ov.isSome),H2,I3,rfl,q2⟩
theorem Jb5 (hu:X.A.units + 1 < cLine) (ho:PE X o td) (hi:PE X i ty) (hv:PE X value tv) (hs:swapsWith value (some (.Subscript o i pos')) pos.line X.env = pure false) :
  PS X (.Assign [.Subscript o i pos'] value pos) (sDPut td ty tv):=by
 intro pins s σ H D I h
 refine wpAny_Assign_Subscript (thn (hv pins s σ H _ I h) fun r s1 ⟨v,H1,I1,rv,q1⟩ => thn (ho pins s1 σ H1 _ I1 q1) fun u s2 ⟨x,H2,I2,rx,q2⟩ => thn (hi pins s2 σ H2 _ I2 q2) fun iv s3 ⟨y,H3,I3,ry,a,H4,ex,g,q3⟩ => ?_) hs
 subst ex
 obtain rfl:u = Value.ref a:=rx
 exact Jgv hu I3 g ry rv fun s4 I4 => ⟨σ,H4,I4,q3⟩
end
theorem Jfw {P:Program} {w:World} {H:Hp} (h:Heap) (hb:sysModules < h.objs.size):ObjOk P w H (h.push { cls:=.type "dict",data:=.dict #[] }) h.objs.size (.dK []) :=
 ⟨Nat.zero_le _,beq_eq_false_iff_ne.mpr (Ne.symm (Nat.ne_of_lt hb)),[], .nil,Heap.DictOf.new h⟩
def Jh1:TE:=fun _ H Q => ∀ p,H p = none→Q (.ref p) (upd H p (.dK []))
def Jjt:TE:=fun _ H Q => ∀ p,H p = none→Q (.ref p) (upd H p (.dT []))
section
variable {X:Cx} {pos:Pos}
theorem JbK:PE X (.Dict [] [] pos) Jh1:=fun pins s σ H Q I h =>
 wpAny_Dict_empty ⟨.ref s.heap.objs.size,_,I.laid (a:=s.heap.objs.size) (o:=.dK []) (t':=s.toks) (fun _ _ q => Heap.get?_push_of_some _ q) (Nat.le_refl _) (Jfw s.heap I.big),rfl,h _ (I.hok.fresh (Nat.le_refl _))⟩
end
def JeP:List (TE × TE)→St→Hp→(List (V × V)→Hp→Prop)→Prop
 | [],_,H,Q => Q [] H
 | (tk,tv) :: r, σ,H,Q => tk σ H fun x H1 => tv σ H1 fun y H2 => JeP r σ H2 fun ps H3 => Q ((x,y) :: ps) H3
abbrev VV:List (V × V)→List (Value × Value)→Prop:=Paired fun p q => RelV p.1 q.1∧RelV p.2 q.2
def PPs (X:Cx) (pos:Pos) (keys:List (Option Expr)) (values:List Expr) (trs:List (TE × TE)):Prop :=
 ∀ (pins:List (Addr × Obj)) (s:Shared) (σ : St) (H:Hp) (Q:List (V × V)→Hp→Prop),Inv X pins σ H s→JeP trs σ H Q →
  wpAny (model X.prog X.w) X.A (evalPairs (pairTrees keys values X.env pos)) (fun vs s' => ∃ ps H',Inv X pins σ H' s'∧VV ps vs∧Q ps H') X.xe s
theorem JiF {X:Cx} {pos:Pos}:PPs X pos [] [] []:=fun pins s σ H Q I h => pairTrees_nil_walk ⟨[],H,I, .nil,h⟩
theorem JhF {X:Cx} {pos:Pos} {k v:Expr} {ks:List (Option Expr)} {vs:List Expr} {tk tv:TE} {trs:List (TE × TE)} (hk:PE X k tk) (hv:PE X v tv) (hr:PPs X pos ks vs trs) :
  PPs X pos (some k :: ks) (v :: vs) ((tk,tv) :: trs):=fun pins s σ H Q I h =>
 pairTrees_cons_walk (thn (hk pins s σ H _ I h) fun u s1 ⟨x,H1,I1,rx,q1⟩ => thn (hv pins s1 σ H1 _ I1 q1) fun w2 s2 ⟨y,H2,I2,ry,q2⟩ =>
  thn (hr pins s2 σ H2 _ I2 q2) fun ws s3 ⟨ps,H3,I3,rel,q3⟩ => ⟨(x,y) :: ps,H3,I3, .cons ⟨rx,ry⟩ rel,q3⟩)
def JdM (kvs more:List (Key × V)):List (Key × V):=more.foldl (fun acc kv => putK acc kv.1 kv.2) kvs
theorem KV.merge:∀ {more:List (Key × V)} {rs:List (Key × Value)} {kvs:List (Key × V)} {vs:List (Key × Value)},KV more rs→KV kvs vs→KV (JdM kvs more) (merged vs rs):=by
 intro more rs kvs vs r
 unfold KV at r
 induction r generalizing kvs vs with
 | nil => intro q; exact q
 | @cons p q ps qs h t ih =>
  intro r0
  have e:KV (putK kvs p.1 p.2) (stored vs q.1 q.2):=by
   have:=r0.put p.1 h.2
   rw [← h.1]; exact this
  exact ih e
theorem Jcv:∀ (more kvs:List (Key × V)),(JdM kvs more).length ≤ kvs.length + more.length
 | [],kvs => by show kvs.length ≤ kvs.length + 0; omega
 | p :: r,kvs => by
  have h1:=Jcv r (putK kvs p.1 p.2)
  have h2:=Ja8 kvs p.1 p.2
  show (JdM (putK kvs p.1 p.2) r).length ≤ _
  rw [List.length_cons]; omega
theorem JdD {P:Program} {w:World}:∀ {kvs:List (Key × V)} {ws:List (Value × Value)},VV (kvs.map fun kv => (kV kv.1,kv.2)) ws→∃ rs,Carries (JaQ P w) ws rs∧KV kvs rs
 | [],_,r => by rw [List.map_nil] at r; cases r; exact ⟨[],True.intro, .nil⟩
 | p :: kvs,_,r => by
  rw [List.map_cons] at r
  cases r with
  | @cons a b as bs h t =>
   obtain ⟨rs,c,q⟩:=JdD (P:=P) (w:=w) t
   obtain ⟨b1,b2⟩:=b
   exact ⟨(p.1,b2) :: rs,⟨kV_is h.1,rfl,c⟩, .cons ⟨rfl,h.2⟩ q⟩
def tDisp (trs:List (TE × TE)):TE:=fun σ H Q => ∀ p,H p = none→JeP trs σ (upd H p (.dK [])) fun ps H2 => H2 p = some (.dK [])∧∃ kvs:List (Key × V),ps = kvs.map (fun kv => (kV kv.1,kv.2))∧kvs.length ≤ 15∧Q (.ref p) (upd H2 p (.dK (JdM [] kvs)))
theorem JiB {X:Cx} {pos:Pos} {keys:List (Option Expr)} {values:List Expr} {trs:List (TE × TE)} (h:PPs X pos keys values trs) (hall:keys.all (·.isSome) = true) (hl:keys.length = values.length) (h0:keys ≠ [])
  (h15:keys.length ≤ 15):PE X (.Dict keys values pos) (tDisp trs):=by
 intro pins s σ H Q I q
 have hn:=I.hok.fresh (Nat.le_refl s.heap.objs.size)
 have I1:=I.laid (a:=s.heap.objs.size) (o:=.dK []) (h':=s.heap.push { cls:=.type "dict",data:=.dict #[] }) (t':=s.toks) (fun _ _ q => Heap.get?_push_of_some _ q) (Nat.le_refl _) (Jfw s.heap I.big)
 refine wpAny_Dict_walk (knd:=JaQ X.prog X.w) hall hl h0 h15 (thn (h pins _ σ _ _ I1 (q _ hn)) fun ws s2 ⟨ps,H2,I2,rel,e,kvs,ep,lk,q2⟩ => ?_)
 subst ep
 obtain ⟨rs,c,rk⟩:=JdD (P:=X.prog) (w:=X.w) rel
 obtain ⟨z,hd,vs0,r0,dd⟩:=dk_of I2.hok e
 cases r0
 refine ⟨rs,c,dd,fun h' dd' hs => ⟨.ref s.heap.objs.size,_, ?_,rfl,q2⟩⟩
 have hz:(JdM [] kvs).length ≤ sizeLine:=by
  have h1:=Jcv kvs []
  rw [List.length_nil] at h1
  rw [sizeLine_eq]; omega
 have he:∃ q,h'.get? s.heap.objs.size = some q:=let ⟨q,_,_,hq,_⟩:=dd'; ⟨q,hq⟩
 exact JdY I2 (by rw [e]; exact True.intro) hs he (Jgz hz hd (rk.merge .nil) dd')
structure M1 (X:Cx) (o:Expr) (m:Str) (apos:Pos) (e:Expr) (cpos:Pos):Prop where
 base:attributeBase o m X.env (eval o X.env) = eval o X.env
 few:((backTo cpos (starEach [e] X.env)).all (fun x => !x.1) && (backToKw cpos (keywordEach [] X.env)).all (fun x => x.1.isSome)
  && decide (([e]:List Expr).length + ([]:List Keyword).length + (if ([]:List Keyword).isEmpty then 0 else 1) < 30)) = true
 line:(apos.endLine == cpos.line) = true
 trees:backTo cpos (starEach [e] X.env) = [(false,eval e X.env)]
structure M2 (X:Cx) (o:Expr) (m:Str) (apos:Pos) (e f:Expr) (cpos:Pos):Prop where
 base:attributeBase o m X.env (eval o X.env) = eval o X.env
 few:((backTo cpos (starEach [e,f] X.env)).all (fun x => !x.1) && (backToKw cpos (keywordEach [] X.env)).all (fun x => x.1.isSome)
  && decide (([e,f]:List Expr).length + ([]:List Keyword).length + (if ([]:List Keyword).isEmpty then 0 else 1) < 30)) = true
 line:(apos.endLine == cpos.line) = true
 trees:backTo cpos (starEach [e,f] X.env) = [(false,eval e X.env),(false,eval f X.env)]
def IsD (H:Hp) (a:Addr):Prop:=(∃ kvs,Rd H a (.dK kvs)) ∨ ∃ kvs,Rd H a (.dT kvs)
theorem JfC {X:Cx} {pins:List (Addr × Obj)} {σ : St} {H:Hp} {s:Shared} {a:Addr} (I:Inv X pins σ H s) (d:IsD H a) :
  s.TypeIs (.ref a) "dict"∧(∀ b,Value.ref a = .ref b→∃ ob,s.heap.get? b = some ob∧ob.dict = none)∧(a == sysModules) = false:=by
 rcases d with ⟨kvs,e⟩ | ⟨kvs,e⟩
 ·obtain ⟨_,hd,vs,_,dd⟩:=dk_rd I.hok e
  refine ⟨dd.typeIs,fun b q => ?_,hd⟩
  cases q
  obtain ⟨ob,_,_,h1,h2,_⟩:=dd
  exact ⟨ob,h1,h2.2.1⟩
 ·obtain ⟨_,hd,xs,_,dd⟩:=dt_rd I.hok e
  refine ⟨dd.typeIs,fun b q => ?_,hd⟩
  cases q
  obtain ⟨ob,_,_,h1,h2,_⟩:=dd
  exact ⟨ob,h1,h2.2.1⟩
section
variable {X:Cx} {pins:List (Addr × Obj)} {σ : St} {H:Hp} {s:Shared} {a:Addr} {y d:V} {u r:Value} {o:Option V} {A:Around} {E:Value→Shared→Prop}
theorem JiW {Q:Value→Shared→Prop} (hu:A.units + 1 < cLine) (I:Inv X pins σ H s) (g:DGet H a y o) (ry:RelV y u) (h:∀ w' s',Inv X pins σ H s'→RelV (o.getD .non) w'→Q w' s') :
  wpAny (model X.prog X.w) A (call (.builtin "dict.get") [.ref a,u]) Q E s:=by
 rcases g with ⟨kvs,k,e,ey,l⟩ | ⟨kvs,k,b,e,ey,eb,l⟩
 ·subst ey
  obtain ⟨z,hd,vs,rel,dd⟩:=dk_rd I.hok e
  refine call_meetsIn PySem.F.slot_dict_get dd.typeIs PySem.F.entry_dict_get (PySem.F.args_dict_get_2 _ _) (meets_dict_get (JaQ X.prog X.w) a (kV_is ry) hd) ⟨_,dd.mapOf,h _ _ (I.tok _) ?_⟩
  rw [l]
  exact (rel.val k).getD rfl
 ·subst ey
  cases (show u = Value.ref b from ry)
  obtain ⟨z,hd,xs,rel,dd⟩:=dt_rd I.hok e
  refine call_meetsIn PySem.F.slot_dict_get dd.typeIs PySem.F.entry_dict_get (PySem.F.args_dict_get_2 _ _) (meetsH_dict_get (tupleKind (JaQ X.prog X.w)) a b hd) ⟨tupleKind_room_in1 hu,k,xs,Jda I.hok eb,dd,h _ _ (I.tok _) ?_⟩
  rw [l]
  exact (rel.val k).getD rfl
theorem JiX {Q:Value→Shared→Prop} (hu:A.units + 1 < cLine) (I:Inv X pins σ H s) (g:DGet H a y o) (ry:RelV y u) (rd:RelV d r) (h:∀ w' s',Inv X pins σ H s'→RelV (o.getD d) w'→Q w' s') :
  wpAny (model X.prog X.w) A (call (.builtin "dict.get") [.ref a,u,r]) Q E s:=by
 rcases g with ⟨kvs,k,e,ey,l⟩ | ⟨kvs,k,b,e,ey,eb,l⟩
 ·subst ey
  obtain ⟨z,hd,vs,rel,dd⟩:=dk_rd I.hok e
  refine call_meetsIn PySem.F.slot_dict_get dd.typeIs PySem.F.entry_dict_get (PySem.F.args_dict_get_3 _ _ _) (meets_dict_get_default (JaQ X.prog X.w) a (kV_is ry) hd r) ⟨_,dd.mapOf,h _ _ (I.tok _) ?_⟩
  rw [l]
  exact (rel.val k).getD rd
 ·subst ey
  cases (show u = Value.ref b from ry)
  obtain ⟨z,hd,xs,rel,dd⟩:=dt_rd I.hok e
  refine call_meetsIn PySem.F.slot_dict_get dd.typeIs PySem.F.entry_dict_get (PySem.F.args_dict_get_3 _ _ _) (meetsH_dict_get_default (tupleKind (JaQ X.prog X.w)) a b hd r) ⟨tupleKind_room_in1 hu,k,xs,Jda I.hok eb,dd,h _ _ (I.tok _) ?_⟩
  rw [l]
  exact (rel.val k).getD rd
end
def JhZ (td ty:TE):TE:=fun σ H Q => td σ H fun x H1 => ∃ a,x = .ref a∧IsD H1 a∧ty σ H1 fun y H2 => ∃ o,DGet H2 a y o∧Q (o.getD .non) H2
def Jh0 (td ty tx:TE):TE:=fun σ H Q => td σ H fun x H1 => ∃ a,x = .ref a∧IsD H1 a∧ty σ H1 fun y H2 => tx σ H2 fun z H3 => ∃ o,DGet H3 a y o∧Q (o.getD z) H3
section
variable {X:Cx} {o e f:Expr} {apos cpos:Pos} {td ty tx:TE}
theorem JhC (hu:X.A.units + 1 < cLine) (ho:PE X o td) (he:PE X e ty) (m:M1 X o "get" apos e cpos):PE X (.Call (.Attribute o "get" apos) [e] [] cpos) (JhZ td ty):=by
 intro pins s σ H Q I h
 refine wpAny_Call_method m.base m.few m.line PySem.F.plainAttrs_dict PySem.F.slot_dict_get PySem.F.type_dict_get (thn (ho pins s σ H _ I h) fun u s1 ⟨x,H1,I1,rx,a,ex,d,q1⟩ => ?_)
 subst ex
 obtain rfl:u = Value.ref a:=rx
 obtain ⟨t1,t2,_⟩:=JfC I1 d
 refine ⟨t1,t2, ?_⟩
 rw [m.trees]
 refine Calls.callWith_builtin rfl (Calls.evalArgs_plain (Calls.spliced_cons (thn (he pins s1 σ H1 _ I1 q1) fun iv s2 ⟨y,H2,I2,ry,ov,g,q2⟩ => Calls.spliced_nil ?_)))
 exact JiW hu I2 g ry fun w' s3 I3 rw' => ⟨_,H2,I3,rw',q2⟩
theorem JhD (hu:X.A.units + 1 < cLine) (ho:PE X o td) (he:PE X e ty) (hf:PE X f tx) (m:M2 X o "get" apos e f cpos):PE X (.Call (.Attribute o "get" apos) [e,f] [] cpos) (Jh0 td ty tx):=by
 intro pins s σ H Q I h
 refine wpAny_Call_method m.base m.few m.line PySem.F.plainAttrs_dict PySem.F.slot_dict_get PySem.F.type_dict_get (thn (ho pins s σ H _ I h) fun u s1 ⟨x,H1,I1,rx,a,ex,d,q1⟩ => ?_)
 subst ex
 obtain rfl:u = Value.ref a:=rx
 obtain ⟨t1,t2,_⟩:=JfC I1 d
 refine ⟨t1,t2, ?_⟩
 rw [m.trees]
 refine Calls.callWith_builtin rfl (Calls.evalArgs_plain (Calls.spliced_cons (thn (he pins s1 σ H1 _ I1 q1) fun iv s2 ⟨y,H2,I2,ry,q2⟩ =>
  Calls.spliced_cons (thn (hf pins s2 σ H2 _ I2 q2) fun fv s3 ⟨z,H3,I3,rz,ov,g,q3⟩ => Calls.spliced_nil ?_))))
 exact JiX hu I3 g ry rz fun w' s4 I4 rw' => ⟨_,H3,I4,rw',q3⟩
end
section
variable {X:Cx} {pins:List (Addr × Obj)} {σ : St} {H:Hp} {s:Shared} {a:Addr} {kvs:List (Key × V)} {A:Around} {E:Value→Shared→Prop}
end
section
variable {X:Cx} {pins:List (Addr × Obj)} {σ : St} {H:Hp} {s:Shared} {a:Addr} {y:V} {u:Value} {A:Around} {E:Value→Shared→Prop}
end
end L2
namespace L2
open PySem PySem.Spec PyProof.Rows
section
variable {κ : Type} [DecidableEq κ]
end
end L2
namespace L2
open PySem PySem.Spec PyProof.Rows
theorem ObjOk.is_there {P:Program} {w:World} {H:Hp} {h:Heap} {a:Addr} {o:HO} (x:ObjOk P w H h a o):∃ ob,h.get? a = some ob:=by
 cases o with
 | lst xs => obtain ⟨_,_,_,_,e⟩:=x; exact ⟨_,e⟩
 | tup xs => obtain ⟨_,_,_,p⟩:=x; obtain ⟨o,e,_⟩:=p; exact ⟨_,e⟩
 | dK kvs => obtain ⟨_,_,_,_,o,_,_,e,_⟩:=x; exact ⟨_,e⟩
 | dT kvs => obtain ⟨_,_,_,_,o,_,_,e,_⟩:=x; exact ⟨_,e⟩
 | set S n =>
  obtain ⟨o,_,_,_,e,_⟩:=x
  exact ⟨_,e⟩
 | ins C dx fs => obtain ⟨_,_,_,e,_⟩:=x; exact ⟨_,e⟩
 | own y => exact x
 | xd fs => obtain ⟨mA,n,_⟩:=x; obtain ⟨od,e,_⟩:=Jez n; exact ⟨_,e⟩
 | rng lo hi => obtain ⟨_,_,_,e⟩:=x; exact ⟨_,e⟩
 | frz ob u => exact ⟨_,x.1⟩
 | tbl ps => exact ⟨_,x⟩
 | met f y => exact ⟨_,x⟩
 | ext φ => exact x.2.1
theorem HOk.isnone {P:Program} {w:World} {H:Hp} {h:Heap} {a:Addr} (x:HOk P w H h) (e:h.get? a = none):H a = none:=by
 cases q:H a with
 | none => rfl
 | some u =>
  obtain ⟨ob,z⟩:=(x a u q).is_there
  rw [e] at z
  cases z
structure Fly (l:List Env) (H':Hp) (h0:Heap) (ea:Addr) (cls a0:Value) (B h:Heap):Prop where
 fly:Heap.FlyingW B l ea cls a0 h
 free:H' ea = none
 new:h0.get? ea = none
 kept:∀ b o,h.get? b = some o→((∃ o',h0.get? b = some o') ∨ ∃ u,H' b = some u)→b ∉ frs l→B.get? b = some o
def CX1 (P:Program) (w:World):CXT:=fun outer H s E e s' =>
 ∃ (ea:Addr) (cls a0:Value) (B:Heap) (H':Hp),e = .ref ea∧s'.os = s.os∧AllBare s'.gens∧Un (frs outer) [] H H' s.heap s'.heap∧HOk P w H' s'.heap ∧
  Fly outer H' s.heap ea cls a0 B s'.heap∧E cls none H'
section
variable {P:Program} {w:World} {l l':List Env} {H H':Hp} {h0 h h' B:Heap} {ea:Addr} {cls a0:Value}
theorem Fly.next (u:Un (frs l) [] H H' h0 h) (hok:HOk P w H' h) (F:Fly l H' h0 ea cls a0 B h) (fr:∀ b ∈ frs l,H' b = none) (k:B.StaysIn h') (sl:h.UpToSlots h') :
  HOk P w H' h'∧Un (frs l) [] H H' h0 h'∧∀ b o,h.get? b = some o→((∃ o',h0.get? b = some o') ∨ ∃ u,H' b = some u)→b ∉ frs l→h'.get? b = some o:=by
 have keepB:∀ b o,h.get? b = some o→((∃ o',h0.get? b = some o') ∨ ∃ u,H' b = some u)→b ∉ frs l→h'.get? b = some o:=fun b o q r n => k b o (F.kept b o q r n)
 have frame:∀ b o,b ∈ frs l→h.get? b = some o→∃ s2,h'.get? b = some { o with slots:=s2 }:=fun b o m q => by
  obtain ⟨_,o',q',nf⟩:=F.fly.2.2.1.mem m
  rw [q] at q'
  cases q'
  exact sl b o q nf
 refine ⟨fun a o e => ?_,⟨fun b o q n nb _ => ?_,fun b o q n m _ => ?_,u.free,fun b o q nx => ?_,u.tups,u.frzs,u.tbls⟩,keepB⟩
 ·have tr:∀ b u,H' b = some u→b ∉ frs l:=fun b u q m => by
   rw [fr b m] at q
   cases q
  refine (hok a o e).stay (fun b v hb q => ?_) (fun _ r => r) (fun _ _ r => r)
  rcases hb with rfl | hb
  ·exact keepB _ _ q (.inr ⟨_,e⟩) (tr _ _ e)
  ·exact keepB _ _ q (.inr ⟨_,hb⟩) (tr _ _ hb)
 ·exact keepB b o (u.keep b o q n nb (by simp)) (.inl ⟨o,q⟩) nb
 ·obtain ⟨s1,e1⟩:=u.slot b o q n m (by simp)
  obtain ⟨s2,e2⟩:=frame b _ m e1
  exact ⟨s2,e2⟩
 ·obtain ⟨o',e1⟩:=u.there b o q (by simp)
  by_cases m:b ∈ frs l
  ·obtain ⟨s2,e2⟩:=frame b _ m e1
   exact ⟨_,e2⟩
  ·exact ⟨o',keepB b o' e1 (.inl ⟨o,q⟩) m⟩
end
section
variable {X:Cx} {pins:List (Addr × Obj)} {σ : St} {H H':Hp} {s:Shared} {h h' B:Heap} {ea:Addr} {cls a0:Value}
theorem Inv.out (I:Inv X pins σ H s) (hex:X.ex = []) (u:Un (frs X.stack) [] H H' s.heap h'):Un X.fs [] X.H₀ H' X.s₀.heap h':=by
 have J:=I.base
 rw [hex] at J
 have nL:∀ b o,X.s₀.heap.get? b = some o→b ≠ X.env.locals:=fun b o q z => by
  have h1:=Heap.lt_size q
  have h2:=I.ok.above
  rw [z] at h1
  exact absurd (Nat.lt_of_lt_of_le h1 h2) (Nat.lt_irrefl _)
 have nS:∀ b o,X.s₀.heap.get? b = some o→b ∉ X.fs→b ∉ frs X.stack:=fun b o q nb m => by
  rcases List.mem_cons.mp (I.stkSub b m) with z | z
  ·exact nL b o q z
  ·exact nb z
 refine ⟨fun b o q n nb _ => ?_,fun b o q n m _ => ?_,fun b o q n _ => ?_,fun b o q _ => ?_,fun b xs q => u.tups b xs (J.tups b xs q),fun b o v q => u.frzs b o v (J.frzs b o v q),fun b ps q => ?_⟩
 ·exact u.keep b o (J.keep b o q n nb (by simp)) (J.free b o q n (by simp)) (nS b o q nb) (by simp)
 ·obtain ⟨s1,e1⟩:=J.slot b o q n m (by simp)
  obtain ⟨s2,e2⟩:=u.any e1 (J.free b o q n (by simp)) (by simp)
  exact ⟨s2,e2⟩
 ·obtain ⟨o',e1⟩:=J.there b o q (by simp)
  exact u.free b o' e1 (J.free b o q n (by simp)) (by simp)
 ·obtain ⟨o',e1⟩:=J.there b o q (by simp)
  exact u.there b o' e1 (by simp)
 ·obtain ⟨m1,e1⟩:=J.tbls b ps q
  obtain ⟨m2,e2⟩:=u.tbls b _ e1
  exact ⟨m1 ++ m2,by rw [e2,Array.append_assoc]⟩
theorem Inv.stkFree' (I:Inv X pins σ H s) (u:Un (frs X.stack) [] H H' s.heap h):∀ b ∈ frs X.stack,H' b = none:=fun b m => by
 obtain ⟨_,o,q,_⟩:=I.stack.mem m
 exact u.free b o q (I.stkFree b m) (by simp)
end
section
variable {P:Program} {w:World} {K:PySem.W.Frag} {mg:Str→Option Value} {base:Heap} {N:List Str} {qual:Str} {scope:Scope} {f:Addr} {cdv:Value} {A:Around} {outer:List Env} {s0:Shared} {H0:Hp} {E:XK}
theorem pass1:JbC (CX1 P w) (cxOf (CX1 P w) P w K mg base N qual scope f cdv A outer s0 H0 E) E:=by
 intro pins σ H s e s' I hx
 obtain ⟨ea,cls,a0,B,H',rfl,hos,hg,u,hok,F,he⟩:=hx
 have fr:=I.stkFree' u
 show wpAny (model P w) (A.deeper (envOfC qual scope s0.heap.objs.size f cdv)) (leaving (envOfC qual scope s0.heap.objs.size f cdv) (.ref ea)) (fun _ s'' => CX1 P w outer H0 s0 E (.ref ea) s'') (fun e' s'' => CX1 P w outer H0 s0 E e' s'') s'
 refine wpAny_leaves_onW (base:=B) (cls:=cls) (a0:=a0) I.ok.frames rfl F.fly fun h' hfl hup => ?_
 obtain ⟨hok',u',kB⟩:=F.next u hok fr hfl.1 hup
 have new0:s0.heap.get? ea = none:=by
  cases q:s0.heap.get? ea with
  | none => rfl
  | some o =>
   obtain ⟨o',e1⟩:=I.base.there ea o q (by intro z; cases z)
   have:=F.new
   rw [e1] at this
   cases this
 refine ⟨ea,cls,a0,B,H',rfl,hos.trans I.os,hg,I.out rfl u',hok',⟨hfl,F.free,new0,fun b o q r nb => ?_⟩,he⟩
 have nL:b ≠ s0.heap.objs.size:=fun z => by
  rcases r with ⟨o',q'⟩ | ⟨v,q'⟩
  ·have:=Heap.lt_size q'
   rw [z] at this
   exact absurd this (Nat.lt_irrefl _)
  ·have e0:=fr s0.heap.objs.size (by
    show s0.heap.objs.size ∈ frs (envOfC qual scope s0.heap.objs.size f cdv :: outer)
    exact List.mem_filterMap.mpr ⟨_,List.mem_cons_self ..,rfl⟩)
   rw [z,e0] at q'
   cases q'
 have nS:b ∉ frs (envOfC qual scope s0.heap.objs.size f cdv :: outer):=fun m => by
  rcases List.mem_cons.mp (I.stkSub b m) with z | z
  ·exact nL z
  ·exact nb z
 have r':(∃ o',s.heap.get? b = some o') ∨ ∃ v,H' b = some v:=by
  rcases r with ⟨o',q'⟩ | r
  ·exact .inl (I.base.there b o' q' (by intro z; cases z))
  ·exact .inr r
 have there':∃ o',s'.heap.get? b = some o':=by
  rcases r' with ⟨o',q'⟩ | ⟨v,q'⟩
  ·exact u.there b o' q' (by simp)
  ·exact (hok b v q').is_there
 obtain ⟨o',q'⟩:=there'
 have z:=F.kept b o' q' r' nS
 have z2:=hfl.1 b o' z
 rw [show h'.get? b = some o from q] at z2
 cases z2
 exact z
end
theorem passF {P:Program} {w:World} {X:Cx}:JbC (CX1 P w) X E0:=fun _ _ _ _ _ _ _ h => by
 obtain ⟨_,_,_,_,_,_,_,_,_,_,_,z⟩:=h
 exact False.elim z
theorem Jih {K:PySem.W.Frag} {h:Heap} {C:Addr} {bmB:List Value} {newId:String} (X:K.In h) (q:PySem.W.excIn K C bmB newId = true) :
  ∃ (bm:List Value) (N:Addr) (nm qn:Str) (bs:List Value) (hdct:Bool) (sn:List Str) (sub:List Value) (ab:Bool) (col:Option Bool) (dd:Option Addr) (k0 k1 k2 k3 k5:Option Value) (mN:Str→Option Value),
   h.get? C = some (excClassObj nm qn C N bs bm hdct sn sub ab col dd k0 k1 k2 k3 k5 newId)∧h.Ns N mN∧mN "__init__" = none∧OwnTail h bmB bm:=by
 unfold PySem.W.excIn at q
 split at q
 next dd cd sl ho =>
  split at q
  next C' bm k0 k1 k2 k3 n k5 hm hs =>
   have q':((((C' = C∧n = newId)∧cd.hasDel = false)∧PySem.W.tailIn K bmB bm = true)∧PySem.W.nsOkIn K cd.ns = true)∧PySem.W.nsIn K cd.ns "__init__" = some none:=by simpa using q
   obtain ⟨⟨⟨⟨⟨e1,e2⟩,e3⟩,e4⟩,e5⟩,e6⟩:=q'
   obtain ⟨nm,bs,mro,ns,qn,hd,sn,sub,ab,col,del⟩:=cd
   have hl:sl = #[k0,k1,k2,k3,some (.builtin n),k5]:=by
    cases sl
    exact congrArg Array.mk hs
   subst e1
   subst e2
   subst hl
   have hm':mro = .ref C' :: bm:=hm
   subst hm'
   have hd':del = false:=e3
   subst hd'
   exact ⟨bm,ns,nm,qn,bs,hd,sn,sub,ab,col,dd,k0,k1,k2,k3,k5,_,X _ _ ho, .of_isNs (PySem.W.isNs_of_in X e5),PySem.W.nsMap_none_of_in X e5 e6,PySem.W.tail_of_in X e4⟩
  next => cases q
 next => cases q
section
variable {P:Program} {w:World} {K:PySem.W.Frag} {mg:Str→Option Value} {base:Heap} {N:List Str} {qual:Str} {scope:Scope} {f:Addr} {cdv:Value} {A:Around} {outer:List Env} {s0:Shared} {H0:Hp} {E:XK}
theorem Ji6 {pins:List (Addr × Obj)} {σ : St} {H:Hp} {s:Shared} {h':Heap} {e:Addr} {cls:Value} {us:List Value}
  (I:Inv (cxOf (CX1 P w) P w K mg base N qual scope f cdv A outer s0 H0 E) pins σ H s) (hm:Heap.MadeExcOf s.heap h' e cls us) (q:E cls none H) :
  (cxOf (CX1 P w) P w K mg base N qual scope f cdv A outer s0 H0 E).xe (.ref e) { s with heap:=h' }:=by
 show wpAny (model P w) (A.deeper (envOfC qual scope s0.heap.objs.size f cdv)) (leaving (envOfC qual scope s0.heap.objs.size f cdv) (.ref e)) (fun _ s'' => CX1 P w outer H0 s0 E (.ref e) s'') (fun e' s'' => CX1 P w outer H0 s0 E e' s'') { s with heap:=h' }
 have fr:=I.stkFree
 have hin:∀ env ∈ (envOfC qual scope s0.heap.objs.size f cdv :: outer), ∀ b,env.frame = some b→b ∈ frs (envOfC qual scope s0.heap.objs.size f cdv :: outer):=fun env he b hb => List.mem_filterMap.mpr ⟨env,he,hb⟩
 refine wpAny_leaves_madeW (base:=PySem.W.hideAll s.heap (frs (envOfC qual scope s0.heap.objs.size f cdv :: outer))) (h:=s.heap) (cls:=cls) (args:=us) I.ok.frames rfl (fun b o z => PySem.W.of_hideAll _ z) (PySem.W.funFrames_hide I.stack hin) hm fun h2 t hfl _ _ hup => ?_
 have enone:H e = none:=I.hok.isnone hm.new
 have keepB:∀ b o,s.heap.get? b = some o→b ∉ frs (envOfC qual scope s0.heap.objs.size f cdv :: outer)→h2.get? b = some o:=fun b o z n => hfl.1 b o (PySem.W.hideAll_get _ z n)
 have u:Un (frs (envOfC qual scope s0.heap.objs.size f cdv :: outer)) [] H H s.heap h2:=by
  refine ⟨fun b o z _ n _ => keepB b o z n,fun b o z _ m _ => ?_,fun _ _ _ n _ => n,fun b o z _ => ?_,fun _ _ z => z,fun _ _ _ z => z,fun _ ps z => ⟨#[],by rw [z]; simp⟩⟩
  ·obtain ⟨_,o',z',nf⟩:=I.stack.mem m
   rw [z] at z'
   cases z'
   exact hup b o (hm.keeps b o z) nf
  ·by_cases m:b ∈ frs (envOfC qual scope s0.heap.objs.size f cdv :: outer)
   ·obtain ⟨_,o',z',nf⟩:=I.stack.mem m
    rw [z] at z'
    cases z'
    obtain ⟨s2,e2⟩:=hup b o (hm.keeps b o z) nf
    exact ⟨_,e2⟩
   ·exact ⟨o,keepB b o z m⟩
 have tr:∀ b v,H b = some v→b ∉ frs (envOfC qual scope s0.heap.objs.size f cdv :: outer):=fun b v z m => by
  rw [fr b m] at z
  cases z
 have hok:HOk P w H h2:=fun a o z => by
  refine (I.hok a o z).stay (fun b v hb z2 => ?_) (fun _ r => r) (fun _ _ r => r)
  rcases hb with rfl | hb
  ·exact keepB _ _ z2 (tr _ _ z)
  ·exact keepB _ _ z2 (tr _ _ hb)
 have new0:s0.heap.get? e = none:=by
  cases z:s0.heap.get? e with
  | none => rfl
  | some o =>
   obtain ⟨o',e1⟩:=I.base.there e o z (by intro z; cases z)
   have:=hm.new
   rw [e1] at this
   cases this
 refine ⟨e,cls, .ref t,_,H,rfl,I.os,I.bare,I.out rfl u,hok,⟨hfl,enone,new0,fun b o z r nb => ?_⟩,q⟩
 have r':∃ o',s.heap.get? b = some o':=by
  rcases r with ⟨o',z'⟩ | ⟨v,z'⟩
  ·exact I.base.there b o' z' (by intro z; cases z)
  ·exact (I.hok b v z').is_there
 have nS:b ∉ frs (envOfC qual scope s0.heap.objs.size f cdv :: outer):=fun m => by
  rcases List.mem_cons.mp (I.stkSub b m) with y | y
  ·rcases r with ⟨o',z'⟩ | ⟨v,z'⟩
   ·have h1:=Heap.lt_size z'
    rw [y] at h1
    exact absurd h1 (Nat.lt_irrefl _)
   ·exact tr b v z' m
  ·exact nb y
 obtain ⟨o',z'⟩:=r'
 have z2:=keepB b o' z' nS
 rw [show h2.get? b = some o from z] at z2
 cases z2
 exact PySem.W.hideAll_get _ z' nS
def Jh2 (E:XK) (C:Addr) (ta:TA):TS:=fun _ σ H => ta σ H fun vs H1 => vs.length ≤ sizeLine∧E (.ref C) none H1
theorem JbL {x:Str} {np cpos pos:Pos} {e:Expr} {es:List Expr} {C:Addr} {B newId initId:String} {bmB:List Value} {ta:TA} (FB:ExcBaseFacts B newId initId bmB) (hx:PySem.W.excIn K C bmB newId = true)
  (hg:Gl (cxOf (CX1 P w) P w K mg base N qual scope f cdv A outer s0 H0 E) x) (hm:mg x = some (.ref C)) (ha:PA (cxOf (CX1 P w) P w K mg base N qual scope f cdv A outer s0 H0 E) (e :: es) ta)
  (he:starEach (e :: es) (envOfC qual scope s0.heap.objs.size f cdv) = (false,eval e (envOfC qual scope s0.heap.objs.size f cdv)) :: starEach es (envOfC qual scope s0.heap.objs.size f cdv):=by rfl)
  (hpl:(backTo cpos (starEach es (envOfC qual scope s0.heap.objs.size f cdv))).any (·.1) = false:=by rfl) (hdb:(x == ("__debug__" : Str)) = false:=by decide) :
  PS (cxOf (CX1 P w) P w K mg base N qual scope f cdv A outer s0 H0 E) (.Raise (some (.Call (.Name x np) (e :: es) [] cpos)) none pos) (Jh2 E C ta):=by
 intro pins s σ H D I h
 obtain ⟨bm,N',nm,qn,bs,hdct,sn,sub,ab,col,dd,k0,k1,k2,k3,k5,mN,hC,hN,hni,T⟩:=Jih I.mod.kin hx
 have hh:(A.deeper (envOfC qual scope s0.heap.objs.size f cdv)).handled = none:=I.ok.hd rfl
 refine wpAny_Raise_call_subT (C:=C) (nm:=nm) (q:=qn) (N:=N') (bs:=bs) (bm:=bm) (hdct:=hdct) (sn:=sn) (sub:=sub) (ab:=ab) (col:=col) (dd:=dd) (k0:=k0) (k1:=k1) (k2:=k2) (k3:=k3) (k5:=k5)
  FB (mN:=mN) (T.hasType FB.hasBase) hh ?_ hni (JcD I hg hm ⟨rfl, ?_⟩ hdb)
 ·show (backTo cpos (starEach (e :: es) (envOfC qual scope s0.heap.objs.size f cdv))).any (·.1) = false
  rw [he]
  show (false || (backTo cpos (starEach es (envOfC qual scope s0.heap.objs.size f cdv))).any (·.1)) = false
  rw [hpl]
  rfl
 ·have z:=ha cpos pins s σ H _ I h
  show wpAny _ _ (evalArgs (.ref C) true (backTo cpos (starEach (e :: es) (envOfC qual scope s0.heap.objs.size f cdv))) []) _ _ _
  have he':=he
  rw [he]
  refine Calls.evalArgs_plain ?_
  have z':wpAny (model P w) (A.deeper (envOfC qual scope s0.heap.objs.size f cdv)) (spliced (backTo cpos (starEach (e :: es) (envOfC qual scope s0.heap.objs.size f cdv)))) _ _ s:=z
  rw [he] at z'
  refine thn z' fun us s2 ⟨vs,H1,I1,r,hl,q⟩ => ?_
  exact ⟨rfl,by rw [← r.length]; exact hl,I1.bk _ _ hC,hN.keeps I1.bk,T.keeps I1.bk,fun h' e hm => Ji6 I1 hm q⟩
end
end L2
namespace L2
open PySem PySem.Spec PyProof.Rows
def xCall (sp:Sp) (dvs:List V) (t:TA):St→Hp→VK→XK→Prop:=fun σ H Q E => t σ H fun vs H1 => sp (vs ++ dvs) H1 Q E
section
variable {X:Cx} {k:Nat} {f C:Addr} {fd:FuncData} {ps:List Str} {sp:Sp} {dvs:List V} {ds:List Value} {E:XK} {x m:Str} {p pos apos:Pos} {e o:Expr} {es:List Expr} {ta:TE} {t:TA}
end
section
variable {X:Cx} {pins:List (Addr × Obj)} {σ : St} {H H':Hp} {s s':Shared} {h' B:Heap} {ea:Addr} {cls a0:Value}
theorem Inv.track {a:Addr} {o:HO} (I:Inv X pins σ H s) (hn:H a = none) (h1:X.s₀.heap.get? a = none) (h2:a ≠ X.env.locals) (h3:∀ x c,X.env.cells.lookup x = some c→c ≠ a) (h4:∀ p ∈ X.pn ++ pins,p.1 ≠ a)
  (ok:ObjOk X.prog X.w (upd H a o) s.heap a o):Inv X pins σ (upd H a o) s:=by
 have ne:∀ b u,H b = some u→b ≠ a:=fun b u q => Jag q hn
 refine ⟨I.ok,I.os,I.bare,⟨I.base.keep,I.base.slot,fun b ob q n hx => ?_,I.base.there,fun b xs q => ?_,fun b ob u q => ?_,fun b ps q => ?_⟩,I.loc,I.cell, ?_,fun x c e => ?_,fun p hp => ?_,fun b u q => ?_,I.len⟩
 ·have : b ≠ a:=fun z => by rw [z,h1] at q; cases q
  rw [Jah this]
  exact I.base.free b ob q n hx
 ·have z:=I.base.tups b xs q
  rw [Jah (ne _ _ z)]
  exact z
 ·have z:=I.base.frzs b ob u q
  rw [Jah (ne _ _ z)]
  exact z
 ·obtain ⟨mo,z⟩:=I.base.tbls b ps q
  exact ⟨mo,by rw [Jah (ne _ _ z)]; exact z⟩
 ·rw [Jah (Ne.symm h2)]
  exact I.free
 ·rw [Jah (h3 x c e)]
  exact I.freeC x c e
 ·obtain ⟨e,n,r⟩:=I.pin p hp
  exact ⟨e,by rw [Jah (h4 p hp)]; exact n,r⟩
 ·by_cases hb:b = a
  ·subst hb
   rw [Jak] at q
   cases q
   exact ok
  ·rw [Jah hb] at q
   exact (I.hok b u q).stay (fun _ _ _ z => z) (fun c z => by rw [Jah (ne _ _ z)]; exact z) (fun c xs z => by rw [Jah (ne _ _ z)]; exact z)
def ExcO (e C:Addr):HO:=.ext fun h => ∃ ox vs,h.get? e = some ox∧ox.cls = .ref C∧ox.data = .fields vs
end
structure Jgk (K:PySem.W.Frag) (C D:Addr):Prop where
 cl:PySem.W.hasDictIn K D = true
 ty:PySem.W.typeIn K (.ref D) = some (.type "type")
 ex:PySem.W.mroIn K D (.type "BaseException") = some true
 ab:PySem.W.mroIn K C (.ref D) = some true
section
variable {X:Cx} {ce:Expr} {epos pos hpos np:Pos} {x n:Str} {b0:Stmt} {suite:List Stmt} {D:Addr} {t:St→Hp→VK→XK→Prop} {ts:TS}
def Jju (K:PySem.W.Frag) (D:Addr) (i:Nat) (t:St→Hp→VK→XK→Prop) (ts:TS):TS:=fun Dn σ H => t σ H (fun _ H1 => Dn.nx σ H1) fun cls _ H1 => ∃ C,cls = .ref C∧Jgk K C D ∧
 ∀ ea,H1 ea = none→ts { nx:=fun σ' H' => Dn.nx (σ'.set i none) H',rt:=Dn.rt,bk:=fun σ' H' => Dn.bk (σ'.set i none) H',ct:=fun σ' H' => Dn.ct (σ'.set i none) H' } (σ.set i (some (.ref ea))) (upd H1 ea (ExcO ea C))
end
end L2
namespace L2
open PySem PySem.Spec PyProof.Rows
inductive D where
 | non | bl (b:Bool) | int (i:Int) | str (x:Str) | tup (xs:List D) | lst (xs:List D)
mutual
def Rep (K:PySem.W.Frag) (H:Hp):D→V→Prop
 | .non,v => v = .non
 | .bl b,v => v = .bl b
 | .int i,v => v = .int i
 | .str x,v => v = .str x
 | .tup ds,v => ∃ a xs,v = .ref a∧SqT K H a xs∧RepL K H ds xs
 | .lst ds,v => ∃ a xs,v = .ref a∧SqL K H a xs∧RepL K H ds xs
def RepL (K:PySem.W.Frag) (H:Hp):List D→List V→Prop
 | [],vs => vs = []
 | d :: ds,vs => ∃ v r,vs = v :: r∧Rep K H d v∧RepL K H ds r
end
mutual
def eqD:D→D→Bool
 | .non, .non => true
 | .bl a, .bl b => a == b
 | .int a, .int b => a == b
 | .bl a, .int b => (if a then 1 else 0) == b
 | .int a, .bl b => a == (if b then 1 else 0)
 | .str a, .str b => a == b
 | .tup xs, .tup ys => eqL xs ys
 | .lst xs, .lst ys => eqL xs ys
 | _,_ => false
def eqL:List D→List D→Bool
 | [],[] => true
 | x :: xs,y :: ys => eqD x y && eqL xs ys
 | _,_ => false
end
mutual
def depD:D→Nat
 | .tup xs => depL xs + 1
 | .lst xs => depL xs + 1
 | _ => 0
def depL:List D→Nat
 | [] => 0
 | x :: xs => max (depD x) (depL xs)
end
theorem JdI:∀ {xs ys:List D},eqL xs ys = true→xs.length = ys.length
 | [],[],_ => rfl
 | [],_ :: _,h => by simp [eqL] at h
 | _ :: _,[],h => by simp [eqL] at h
 | x :: xs,y :: ys,h => by
  simp only [eqL,Bool.and_eq_true] at h
  simp only [List.length_cons,JdI h.2]
mutual
theorem Jcc:∀ d:D,eqD d d = true
 | .non => by simp [eqD]
 | .bl b => by simp [eqD]
 | .int i => by simp [eqD]
 | .str x => by simp [eqD]
 | .tup xs => by simp only [eqD]; exact JdZ xs
 | .lst xs => by simp only [eqD]; exact JdZ xs
theorem JdZ:∀ d:List D,eqL d d = true
 | [] => by simp [eqL]
 | x :: xs => by simp only [eqL,Bool.and_eq_true]; exact ⟨Jcc x,JdZ xs⟩
end
theorem RepL.length {K:PySem.W.Frag} {H:Hp}:∀ {ds:List D} {vs:List V},RepL K H ds vs→ds.length = vs.length
 | [],vs,h => by
  simp only [RepL] at h
  rw [h]; rfl
 | d :: ds,vs,h => by
  simp only [RepL] at h
  obtain ⟨v,r,rfl,_,h2⟩:=h
  simp only [List.length_cons,RepL.length h2]
theorem RepL.get {K:PySem.W.Frag} {H:Hp}:∀ {ds:List D} {vs:List V} {i:Nat} {d:D},RepL K H ds vs→ds[i]? = some d→∃ v,vs[i]? = some v∧Rep K H d v
 | [],_,_,_,_,e => by simp at e
 | d :: ds,vs,i,d',h,e => by
  simp only [RepL] at h
  obtain ⟨v,r,rfl,h1,h2⟩:=h
  cases i with
  | zero => simp at e; subst e; exact ⟨v,rfl,h1⟩
  | succ i =>
   obtain ⟨v',e',h'⟩:=RepL.get h2 (by simpa using e)
   exact ⟨v',by simpa using e',h'⟩
theorem SqL.same {K:PySem.W.Frag} {H H':Hp} {a:Addr} {xs:List V} (e:Same H H') (h:SqL K H a xs):SqL K H' a xs:=e.seq h
theorem SqT.same {K:PySem.W.Frag} {H H':Hp} {a:Addr} {xs:List V} (e:Same H H') (h:SqT K H a xs):SqT K H' a xs:=by
 rcases h with (h | ⟨o,h⟩) | h
 ·exact .inl (.inl (e _ _ h))
 ·exact .inl (.inr ⟨o,e _ _ h⟩)
 ·exact .inr h
mutual
theorem Rep.same {K:PySem.W.Frag} {H H':Hp} (e:Same H H'):∀ {d:D} {v:V},Rep K H d v→Rep K H' d v
 | .non,_,h => by simpa only [Rep] using h
 | .bl _,_,h => by simpa only [Rep] using h
 | .int _,_,h => by simpa only [Rep] using h
 | .str _,_,h => by simpa only [Rep] using h
 | .tup ds,_,h => by
  simp only [Rep] at h ⊢
  obtain ⟨a,xs,h1,h2,h3⟩:=h
  exact ⟨a,xs,h1,h2.same e,RepL.same e h3⟩
 | .lst ds,_,h => by
  simp only [Rep] at h ⊢
  obtain ⟨a,xs,h1,h2,h3⟩:=h
  exact ⟨a,xs,h1,h2.same e,RepL.same e h3⟩
theorem RepL.same {K:PySem.W.Frag} {H H':Hp} (e:Same H H'):∀ {d:List D} {v:List V},RepL K H d v→RepL K H' d v
 | [],_,h => by simpa only [RepL] using h
 | x :: xs,_,h => by
  simp only [RepL] at h ⊢
  obtain ⟨v,r,h1,h2,h3⟩:=h
  exact ⟨v,r,h1,Rep.same e h2,RepL.same e h3⟩
end
section
variable {X:Cx} {pins:List (Addr × Obj)} {σ : St} {H:Hp} {s:Shared}
theorem Inv.list_tuple (I:Inv X pins σ H s) {a:Addr} {xs ys:List V} (h:SqL X.K H a xs) (h':SqT X.K H a ys):False:=by
 obtain ⟨_,_,p,_⟩:=I.list h
 obtain ⟨_,_,q,_⟩:=I.tuple h'
 obtain ⟨o,_,e1,c1,_⟩:=p
 obtain ⟨o',e2,c2,_⟩:=q
 rw [e1] at e2
 cases e2
 rw [c1] at c2
 exact absurd c2 (by decide)
mutual
theorem Inv.rep_inj (I:Inv X pins σ H s):∀ {d e:D} {v:V},Rep X.K H d v→Rep X.K H e v→d = e
 | .non,e,v,h,h' => by
  simp only [Rep] at h; subst h
  cases e <;> simp [Rep] at h' ⊢
 | .bl _,e,v,h,h' => by
  simp only [Rep] at h; subst h
  cases e <;> simp [Rep] at h' ⊢
  exact h'
 | .int _,e,v,h,h' => by
  simp only [Rep] at h; subst h
  cases e <;> simp [Rep] at h' ⊢
  exact h'
 | .str _,e,v,h,h' => by
  simp only [Rep] at h; subst h
  cases e <;> simp [Rep] at h' ⊢
  exact h'
 | .tup ds,e,v,h,h' => by
  simp only [Rep] at h
  obtain ⟨a,xs,rfl,h2,h3⟩:=h
  cases e with
  | tup es =>
   simp only [Rep] at h'
   obtain ⟨a',ys,q,g2,g3⟩:=h'
   cases q
   have:=I.tuple_inj h2 g2
   subst this
   rw [Inv.repL_inj I h3 g3]
  | lst es =>
   simp only [Rep] at h'
   obtain ⟨a',ys,q,g2,g3⟩:=h'
   cases q
   exact (I.list_tuple g2 h2).elim
  | _ => simp [Rep] at h'
 | .lst ds,e,v,h,h' => by
  simp only [Rep] at h
  obtain ⟨a,xs,rfl,h2,h3⟩:=h
  cases e with
  | lst es =>
   simp only [Rep] at h'
   obtain ⟨a',ys,q,g2,g3⟩:=h'
   cases q
   have:=I.list_inj h2 g2
   subst this
   rw [Inv.repL_inj I h3 g3]
  | tup es =>
   simp only [Rep] at h'
   obtain ⟨a',ys,q,g2,g3⟩:=h'
   cases q
   exact (I.list_tuple h2 g2).elim
  | _ => simp [Rep] at h'
theorem Inv.repL_inj (I:Inv X pins σ H s):∀ {d e:List D} {v:List V},RepL X.K H d v→RepL X.K H e v→d = e
 | [],e,v,h,h' => by
  simp only [RepL] at h; subst h
  cases e <;> simp [RepL] at h' ⊢
 | x :: xs,e,v,h,h' => by
  simp only [RepL] at h
  obtain ⟨u,r,rfl,h1,h2⟩:=h
  cases e with
  | nil => simp [RepL] at h'
  | cons y ys =>
   simp only [RepL] at h'
   obtain ⟨u',r',q,g1,g2⟩:=h'
   cases q
   rw [Inv.rep_inj I h1 g1,Inv.repL_inj I h2 g2]
end
end
def Jb8 {α β : Type} (f : α→β→Bool):List α→List β→Bool
 | [],[] => true
 | x :: xs,y :: ys => f x y && Jb8 f xs ys
 | _,_ => false
def atB {α β : Type} (f : α→β→Bool) (xs:List α) (ys:List β) (j:Nat):Bool:=match xs[j]?,ys[j]? with
 | some x,some y => f x y
 | _,_ => true
theorem Jb9 {α β : Type} (f : α→β→Bool):∀ (xs:List α) (ys:List β),
  ((List.range (min xs.length ys.length)).all (atB f xs ys) && (xs.length == ys.length)) = Jb8 f xs ys
 | [],[] => by simp [Jb8]
 | [],_ :: _ => by simp [Jb8]
 | _ :: _,[] => by simp [Jb8]
 | x :: xs,y :: ys => by
  have ih:=Jb9 f xs ys
  simp only [Jb8,List.length_cons]
  rw [← ih,Nat.succ_min_succ,List.range_succ_eq_map,List.all_cons,List.all_map]
  have e:((List.range (min xs.length ys.length)).all (atB f (x :: xs) (y :: ys) ∘ Nat.succ)) = (List.range (min xs.length ys.length)).all (atB f xs ys):=by
   congr 1
  rw [e]
  have e0:atB f (x :: xs) (y :: ys) 0 = f x y:=by unfold atB; simp
  rw [e0,Bool.and_assoc]
  congr 2
  simp
theorem Je0:∀ xs ys:List D,eqL xs ys = Jb8 eqD xs ys
 | [],[] => by simp [eqL,Jb8]
 | [],_ :: _ => by simp [eqL,Jb8]
 | _ :: _,[] => by simp [eqL,Jb8]
 | x :: xs,y :: ys => by simp only [eqL,Jb8,Je0 xs ys]
theorem Jfv:∀ {ds:List D} {d:D},d ∈ ds→depD d ≤ depL ds
 | [],_,h => by simp at h
 | x :: xs,d,h => by
  simp only [depL]
  rcases List.mem_cons.mp h with rfl | h
  ·exact Nat.le_max_left ..
  ·exact Nat.le_trans (Jfv h) (Nat.le_max_right ..)
def flatD:D→Bool
 | .tup _ => false
 | .lst _ => false
 | _ => true
def valD:D→V
 | .bl b => .bl b
 | .int i => .int i
 | .str x => .str x
 | _ => .non
theorem Jef {K:PySem.W.Frag} {H:Hp} {d:D} {v:V} (f:flatD d = true) (h:Rep K H d v):v = valD d:=by
 cases d <;> simp_all [flatD,Rep,valD]
theorem Jfx {d:D} (f:flatD d = true):flatV (valD d) = true:=by
 cases d <;> simp_all [flatD,valD,flatV]
theorem Jig {d e:D} (f:flatD d = true) (g:flatD e = true):eqV (valD d) (valD e) = eqD d e:=by
 cases d <;> cases e <;> simp_all [flatD,valD,eqV,eqD]
section
variable {X:Cx} {pins:List (Addr × Obj)} {σ : St} {H:Hp} {s:Shared}
theorem in1_units (A:Around):A.in1.units = A.units + 1:=rfl
def EqP (X:Cx) (H:Hp) (s:Shared) (n:Nat):Prop:=∀ (d e:D) (A:Around) (x y:V) (u v:Value),depD d ≤ n→Rep X.K H d x→Rep X.K H e y→RelV x u→RelV y v→A.units + n < cLine→SeqAt.EqAt A s u v (eqD d e)
theorem JfD {n:Nat} (ih:EqP X H s n) {ds es:List D} {xs ys:List V} {its jts:List Value} (h3:RepL X.K H ds xs) (g3:RepL X.K H es ys) (vi:Vals xs its) (vj:Vals ys jts) (hds:depL ds ≤ n) {A:Around} (hA:A.units + n < cLine) :
  ∀ j (p1:j < its.toArray.size) (p2:j < jts.toArray.size),SeqAt.EqAt A s its.toArray[j] jts.toArray[j] (atB eqD ds es j):=by
 intro j p1 p2
 have l1:its.length = ds.length:=by rw [h3.length,vi.length]
 have l2:jts.length = es.length:=by rw [g3.length,vj.length]
 have q1:j < ds.length:=by rw [← l1]; simpa using p1
 have q2:j < es.length:=by rw [← l2]; simpa using p2
 obtain ⟨v1,e1,r1⟩:=h3.get (List.getElem?_eq_getElem q1)
 obtain ⟨v2,e2,r2⟩:=g3.get (List.getElem?_eq_getElem q2)
 obtain ⟨u1,f1,s1⟩:=vi.get e1
 obtain ⟨u2,f2,s2⟩:=vj.get e2
 have z1:its.toArray[j] = u1:=by
  have:=f1
  rw [List.getElem?_eq_getElem (by simpa using p1)] at this
  simpa using this
 have z2:jts.toArray[j] = u2:=by
  have:=f2
  rw [List.getElem?_eq_getElem (by simpa using p2)] at this
  simpa using this
 rw [z1,z2]
 have eb:atB eqD ds es j = eqD ds[j] es[j]:=by
  unfold atB
  rw [List.getElem?_eq_getElem q1,List.getElem?_eq_getElem q2]
 rw [eb]
 exact ih _ _ _ _ _ _ _ (Nat.le_trans (Jfv (List.getElem_mem q1)) hds) r1 r2 s1 s2 hA
theorem Jjy (I:Inv X pins σ H s) {n:Nat} (ih:EqP X H s n) {ds es:List D} {a b:Addr} {xs ys:List V} (h2:SqT X.K H a xs) (h3:RepL X.K H ds xs) (g2:SqT X.K H b ys) (g3:RepL X.K H es ys) (hds:depL ds ≤ n) {A:Around} (hA:A.units + (n + 1) < cLine) :
  SeqAt.RcAt A s (.ref a) (.ref b) (eqD (.tup ds) (.tup es))∧SeqAt.RcNeAt A s (.ref a) (.ref b) (!eqD (.tup ds) (.tup es)):=by
 obtain ⟨its,vi,ht,_⟩:=I.tuple h2
 obtain ⟨jts,vj,hu,_⟩:=I.tuple g2
 have l1:its.length = ds.length:=by rw [h3.length,vi.length]
 have l2:jts.length = es.length:=by rw [g3.length,vj.length]
 have it:=JfD ih h3 g3 vi vj hds (A:=A.in1) (by rw [in1_units]; omega)
 have eb:eqD (.tup ds) (.tup es) = ((List.range (min its.toArray.size jts.toArray.size)).all (atB eqD ds es) && its.toArray.size == jts.toArray.size):=by
  simp only [eqD,Je0]
  rw [← Jb9]
  simp only [List.size_toArray,l1,l2]
 rw [eb]
 exact ⟨SeqAt.RcAt.tuples ht hu (by omega) it,SeqAt.RcNeAt.tuples ht hu (by omega) it⟩
theorem Ji7 (I:Inv X pins σ H s) {n:Nat} (ih:EqP X H s n) {ds es:List D} {a b:Addr} {xs ys:List V} (h2:SqL X.K H a xs) (h3:RepL X.K H ds xs) (g2:SqL X.K H b ys) (g3:RepL X.K H es ys) (hds:depL ds ≤ n) {A:Around} (hA:A.units + (n + 1) < cLine) :
  SeqAt.RcAt A s (.ref a) (.ref b) (eqD (.lst ds) (.lst es))∧SeqAt.RcNeAt A s (.ref a) (.ref b) (!eqD (.lst ds) (.lst es)):=by
 obtain ⟨its,vi,ht,_⟩:=I.list h2
 obtain ⟨jts,vj,hu,_⟩:=I.list g2
 have l1:its.length = ds.length:=by rw [h3.length,vi.length]
 have l2:jts.length = es.length:=by rw [g3.length,vj.length]
 have it:=JfD ih h3 g3 vi vj hds (A:=A.in1) (by rw [in1_units]; omega)
 by_cases hl:ds.length = es.length
 ·have eb:eqD (.lst ds) (.lst es) = (List.range its.toArray.size).all (atB eqD ds es):=by
   simp only [eqD,Je0]
   rw [← Jb9]
   simp [l1,hl]
  rw [eb]
  exact ⟨SeqAt.RcAt.lists ht.isList hu.isList (by simp [l1,l2,hl]) (by omega) it,SeqAt.RcNeAt.lists ht.isList hu.isList (by simp [l1,l2,hl]) (by omega) it⟩
 ·have eb:eqD (.lst ds) (.lst es) = false:=by
   cases q:eqD (.lst ds) (.lst es) with
   | false => rfl
   | true => simp only [eqD] at q; exact absurd (JdI q) hl
  rw [eb]
  exact ⟨SeqAt.RcAt.lists_lengths ht.isList hu.isList (by simp [l1,l2,hl]) (by omega),SeqAt.RcNeAt.lists_lengths ht.isList hu.isList (by simp [l1,l2,hl]) (by omega)⟩
theorem Jcl {K:PySem.W.Frag} {d:D} {x:V} (h:Rep K H d x):(flatD d = true∧x = valD d) ∨ (∃ ds a xs,d = .tup ds∧x = .ref a∧SqT K H a xs∧RepL K H ds xs) ∨ ∃ ds a xs,d = .lst ds∧x = .ref a∧SqL K H a xs∧RepL K H ds xs:=by
 cases d with
 | tup ds => simp only [Rep] at h; obtain ⟨a,xs,h1,h2,h3⟩:=h; exact .inr (.inl ⟨ds,a,xs,rfl,h1,h2,h3⟩)
 | lst ds => simp only [Rep] at h; obtain ⟨a,xs,h1,h2,h3⟩:=h; exact .inr (.inr ⟨ds,a,xs,rfl,h1,h2,h3⟩)
 | _ => exact .inl ⟨rfl,Jef rfl h⟩
theorem Jcd (I:Inv X pins σ H s) {d e:D} {x y:V} {u v:Value} (hd:Rep X.K H d x) (he:Rep X.K H e y) (ru:RelV x u) (rv:RelV y v) (m:flatD d = !flatD e) {A:Around} (hA:A.units < cLine) :
  eqD d e = false∧SeqAt.EqAt A s u v false∧SeqAt.RcAt A s u v false∧SeqAt.RcNeAt A s u v true:=by
 rcases Jcl hd with ⟨fd,rfl⟩ | ⟨ds,a,xs,rfl,rfl,h2,h3⟩ | ⟨ds,a,xs,rfl,rfl,h2,h3⟩
 ·rcases Jcl he with ⟨fe,rfl⟩ | ⟨es,b,ys,rfl,rfl,g2,g3⟩ | ⟨es,b,ys,rfl,rfl,g2,g3⟩
  ·rw [fd,fe] at m; cases m
  ·obtain rfl:v = Value.ref b:=rv
   obtain ⟨jts,vj,hu,_⟩:=I.tuple g2
   refine ⟨by cases d <;> simp [eqD,flatD] at fd ⊢, ?_⟩
   cases d <;> simp only [valD,RelV] at ru <;> first | (simp [flatD] at fd; done) | skip
   ·subst ru; exact ⟨SeqAt.EqAt.none_tuple hu hA,SeqAt.RcAt.none_tuple hu hA,SeqAt.RcNeAt.none_tuple hu hA⟩
   ·subst ru; exact ⟨SeqAt.EqAt.bool_tuple _ hu hA,SeqAt.RcAt.bool_tuple _ hu hA,SeqAt.RcNeAt.bool_tuple _ hu hA⟩
   ·obtain ⟨t,rfl⟩:=ru; exact ⟨SeqAt.EqAt.int_tuple _ _ hu hA,SeqAt.RcAt.int_tuple _ _ hu hA,SeqAt.RcNeAt.int_tuple _ _ hu hA⟩
   ·obtain ⟨t,rfl⟩:=ru; exact ⟨SeqAt.EqAt.str_tuple _ _ hu hA,SeqAt.RcAt.str_tuple _ _ hu hA,SeqAt.RcNeAt.str_tuple _ _ hu hA⟩
  ·obtain rfl:v = Value.ref b:=rv
   obtain ⟨jts,vj,hu,_⟩:=I.list g2
   have hu:=hu.isList
   refine ⟨by cases d <;> simp [eqD,flatD] at fd ⊢, ?_⟩
   cases d <;> simp only [valD,RelV] at ru <;> first | (simp [flatD] at fd; done) | skip
   ·subst ru; exact ⟨SeqAt.EqAt.none_list hu hA,SeqAt.RcAt.none_list hu hA,SeqAt.RcNeAt.none_list hu hA⟩
   ·subst ru; exact ⟨SeqAt.EqAt.bool_list _ hu hA,SeqAt.RcAt.bool_list _ hu hA,SeqAt.RcNeAt.bool_list _ hu hA⟩
   ·obtain ⟨t,rfl⟩:=ru; exact ⟨SeqAt.EqAt.int_list _ _ hu hA,SeqAt.RcAt.int_list _ _ hu hA,SeqAt.RcNeAt.int_list _ _ hu hA⟩
   ·obtain ⟨t,rfl⟩:=ru; exact ⟨SeqAt.EqAt.str_list _ _ hu hA,SeqAt.RcAt.str_list _ _ hu hA,SeqAt.RcNeAt.str_list _ _ hu hA⟩
 ·rcases Jcl he with ⟨fe,rfl⟩ | ⟨es,b,ys,rfl,rfl,g2,g3⟩ | ⟨es,b,ys,rfl,rfl,g2,g3⟩
  ·obtain rfl:u = Value.ref a:=ru
   obtain ⟨jts,vj,hu,_⟩:=I.tuple h2
   refine ⟨by cases e <;> simp [eqD,flatD] at fe ⊢, ?_⟩
   cases e <;> simp only [valD,RelV] at rv <;> first | (simp [flatD] at fe; done) | skip
   ·subst rv; exact ⟨SeqAt.EqAt.tuple_none hu hA,SeqAt.RcAt.tuple_none hu hA,SeqAt.RcNeAt.tuple_none hu hA⟩
   ·subst rv; exact ⟨SeqAt.EqAt.tuple_bool _ hu hA,SeqAt.RcAt.tuple_bool _ hu hA,SeqAt.RcNeAt.tuple_bool _ hu hA⟩
   ·obtain ⟨t,rfl⟩:=rv; exact ⟨SeqAt.EqAt.tuple_int _ _ hu hA,SeqAt.RcAt.tuple_int _ _ hu hA,SeqAt.RcNeAt.tuple_int _ _ hu hA⟩
   ·obtain ⟨t,rfl⟩:=rv; exact ⟨SeqAt.EqAt.tuple_str _ _ hu hA,SeqAt.RcAt.tuple_str _ _ hu hA,SeqAt.RcNeAt.tuple_str _ _ hu hA⟩
  ·simp [flatD] at m
  ·simp [flatD] at m
 ·rcases Jcl he with ⟨fe,rfl⟩ | ⟨es,b,ys,rfl,rfl,g2,g3⟩ | ⟨es,b,ys,rfl,rfl,g2,g3⟩
  ·obtain rfl:u = Value.ref a:=ru
   obtain ⟨jts,vj,hu,_⟩:=I.list h2
   have hu:=hu.isList
   refine ⟨by cases e <;> simp [eqD,flatD] at fe ⊢, ?_⟩
   cases e <;> simp only [valD,RelV] at rv <;> first | (simp [flatD] at fe; done) | skip
   ·subst rv; exact ⟨SeqAt.EqAt.list_none hu hA,SeqAt.RcAt.list_none hu hA,SeqAt.RcNeAt.list_none hu hA⟩
   ·subst rv; exact ⟨SeqAt.EqAt.list_bool _ hu hA,SeqAt.RcAt.list_bool _ hu hA,SeqAt.RcNeAt.list_bool _ hu hA⟩
   ·obtain ⟨t,rfl⟩:=rv; exact ⟨SeqAt.EqAt.list_int _ _ hu hA,SeqAt.RcAt.list_int _ _ hu hA,SeqAt.RcNeAt.list_int _ _ hu hA⟩
   ·obtain ⟨t,rfl⟩:=rv; exact ⟨SeqAt.EqAt.list_str _ _ hu hA,SeqAt.RcAt.list_str _ _ hu hA,SeqAt.RcNeAt.list_str _ _ hu hA⟩
  ·simp [flatD] at m
  ·simp [flatD] at m
theorem seq_eq (I:Inv X pins σ H s) {n:Nat} (ih:EqP X H s n) {d e:D} {x y:V} {u v:Value} (hn:depD d ≤ n + 1) (hd:Rep X.K H d x) (he:Rep X.K H e y) (ru:RelV x u) (rv:RelV y v) (fd:flatD d = false) (fe:flatD e = false) {A:Around} (hA:A.units + (n + 1) < cLine) :
  SeqAt.EqAt A s u v (eqD d e)∧SeqAt.RcAt A s u v (eqD d e)∧SeqAt.RcNeAt A s u v (!eqD d e):=by
 have hd0:=hd
 have he0:=he
 rcases Jcl hd with ⟨f,_⟩ | ⟨ds,a,xs,rfl,rfl,h2,h3⟩ | ⟨ds,a,xs,rfl,rfl,h2,h3⟩
 ·rw [f] at fd; cases fd
 ·obtain rfl:u = Value.ref a:=ru
  have hds:depL ds ≤ n:=by simp only [depD] at hn; omega
  rcases Jcl he with ⟨f,_⟩ | ⟨es,b,ys,rfl,rfl,g2,g3⟩ | ⟨es,b,ys,rfl,rfl,g2,g3⟩
  ·rw [f] at fe; cases fe
  ·obtain rfl:v = Value.ref b:=rv
   have R:=Jjy I ih h2 h3 g2 g3 hds hA
   refine ⟨?_,R.1,R.2⟩
   by_cases hab:a = b
   ·subst hab
    rw [I.rep_inj hd0 he0,Jcc]
    exact SeqAt.EqAt.same _
   ·exact SeqAt.EqAt.of_refs hab R.1
  ·obtain rfl:v = Value.ref b:=rv
   obtain ⟨its,_,ht,_⟩:=I.tuple h2
   obtain ⟨jts,_,hu,_⟩:=I.list g2
   exact ⟨SeqAt.EqAt.tuple_list ht hu.isList (by omega),SeqAt.RcAt.tuple_list ht hu.isList (by omega),SeqAt.RcNeAt.tuple_list ht hu.isList (by omega)⟩
 ·obtain rfl:u = Value.ref a:=ru
  have hds:depL ds ≤ n:=by simp only [depD] at hn; omega
  rcases Jcl he with ⟨f,_⟩ | ⟨es,b,ys,rfl,rfl,g2,g3⟩ | ⟨es,b,ys,rfl,rfl,g2,g3⟩
  ·rw [f] at fe; cases fe
  ·obtain rfl:v = Value.ref b:=rv
   obtain ⟨its,_,ht,_⟩:=I.list h2
   obtain ⟨jts,_,hu,_⟩:=I.tuple g2
   exact ⟨SeqAt.EqAt.list_tuple ht.isList hu (by omega),SeqAt.RcAt.list_tuple ht.isList hu (by omega),SeqAt.RcNeAt.list_tuple ht.isList hu (by omega)⟩
  ·obtain rfl:v = Value.ref b:=rv
   have R:=Ji7 I ih h2 h3 g2 g3 hds hA
   refine ⟨?_,R.1,R.2⟩
   by_cases hab:a = b
   ·subst hab
    rw [I.rep_inj hd0 he0,Jcc]
    exact SeqAt.EqAt.same _
   ·exact SeqAt.EqAt.of_refs hab R.1
theorem Inv.eqP (I:Inv X pins σ H s):∀ n,EqP X H s n
 | 0 => fun d e A x y u v hn hd he ru rv hA => by
  have fd:flatD d = true:=by
   cases d <;> simp [depD,flatD] at hn ⊢
  cases fe:flatD e with
  | true =>
   have ex:=Jef fd hd
   have ey:=Jef fe he
   subst ex ey
   rw [← Jig fd fe]
   exact JhR ru rv (Jfx fd) (Jfx fe)
  | false =>
   obtain ⟨e1,e2,_⟩:=Jcd I hd he ru rv (by rw [fd,fe]; rfl) (A:=A) (by omega)
   rw [e1]
   exact e2
 | n + 1 => fun d e A x y u v hn hd he ru rv hA => by
  cases fd:flatD d with
  | true =>
   have h0:depD d ≤ n:=by cases d <;> simp [depD,flatD] at fd ⊢
   exact Inv.eqP I n d e A x y u v h0 hd he ru rv (by omega)
  | false =>
   cases fe:flatD e with
   | true =>
    obtain ⟨e1,e2,_⟩:=Jcd I hd he ru rv (by rw [fd,fe]; rfl) (A:=A) (by omega)
    rw [e1]
    exact e2
   | false => exact (seq_eq I (Inv.eqP I n) hn hd he ru rv fd fe hA).1
def rEqU (K:PySem.W.Frag):R2:=fun x y H Q => match x,y with
 | .int i, .int j => Q (.bl (decide (i = j))) H
 | .str i, .str j => Q (.bl (decide (i = j))) H
 | .bl i, .bl j => Q (.bl (decide (i = j))) H
 | .non, .non => Q (.bl true) H
 | x,y => ∃ d e,Rep K H d x∧Rep K H e y∧depD d ≤ 50∧(flatD d && flatD e) = false∧Q (.bl (eqD d e)) H
def rNeU (K:PySem.W.Frag):R2:=fun x y H Q => match x,y with
 | .int i, .int j => Q (.bl (!decide (i = j))) H
 | .str i, .str j => Q (.bl (!decide (i = j))) H
 | .bl i, .bl j => Q (.bl (!decide (i = j))) H
 | .non, .non => Q (.bl false) H
 | x,y => ∃ d e,Rep K H d x∧Rep K H e y∧depD d ≤ 50∧(flatD d && flatD e) = false∧Q (.bl (!eqD d e)) H
theorem JbG (hu:X.A.units + 64 < cLine):OpR X (compareOp .Eq) (rEqU X.K):=fun pins s σ H x y v u Q I rx ry q => by
 unfold rEqU at q
 split at q
 ·rename_i i j; exact op_eq pins s σ H _ _ v u Q I rx ry ⟨rfl,by rw [show decide (V.int i = V.int j) = decide (i = j) from by simp]; exact q⟩
 ·rename_i i j; exact op_eq pins s σ H _ _ v u Q I rx ry ⟨rfl,by rw [show decide (V.str i = V.str j) = decide (i = j) from by simp]; exact q⟩
 ·rename_i i j; exact op_eq pins s σ H _ _ v u Q I rx ry ⟨rfl,by rw [show decide (V.bl i = V.bl j) = decide (i = j) from by simp]; exact q⟩
 ·exact op_eq pins s σ H _ _ v u Q I rx ry ⟨rfl,by simpa using q⟩
 ·obtain ⟨d,e,hd,he,hn,hf,q⟩:=q
  show wpAny (model X.prog X.w) X.A (richCompare .Eq v u) (EP X pins σ Q) X.xe s
  cases fd:flatD d with
  | true =>
   cases fe:flatD e with
   | true => rw [fd,fe] at hf; cases hf
   | false =>
    obtain ⟨e1,_,e3,_⟩:=Jcd I hd he rx ry (by rw [fd,fe]; rfl) (A:=X.A) (by omega)
    rw [e1] at q
    exact e3 _ _ _ _ ⟨V.bl _,H,I,rfl,q⟩
  | false =>
   cases fe:flatD e with
   | true =>
    obtain ⟨e1,_,e3,_⟩:=Jcd I hd he rx ry (by rw [fd,fe]; rfl) (A:=X.A) (by omega)
    rw [e1] at q
    exact e3 _ _ _ _ ⟨V.bl _,H,I,rfl,q⟩
   | false => exact (seq_eq I (I.eqP 49) hn hd he rx ry fd fe (by omega)).2.1 _ _ _ _ ⟨V.bl _,H,I,rfl,q⟩
theorem Jci (hu:X.A.units + 64 < cLine):OpR X (compareOp .NotEq) (rNeU X.K):=fun pins s σ H x y v u Q I rx ry q => by
 unfold rNeU at q
 split at q
 ·rename_i i j; exact op_ne pins s σ H _ _ v u Q I rx ry ⟨rfl,by rw [show decide (V.int i = V.int j) = decide (i = j) from by simp]; exact q⟩
 ·rename_i i j; exact op_ne pins s σ H _ _ v u Q I rx ry ⟨rfl,by rw [show decide (V.str i = V.str j) = decide (i = j) from by simp]; exact q⟩
 ·rename_i i j; exact op_ne pins s σ H _ _ v u Q I rx ry ⟨rfl,by rw [show decide (V.bl i = V.bl j) = decide (i = j) from by simp]; exact q⟩
 ·exact op_ne pins s σ H _ _ v u Q I rx ry ⟨rfl,by simpa using q⟩
 ·obtain ⟨d,e,hd,he,hn,hf,q⟩:=q
  show wpAny (model X.prog X.w) X.A (richCompare .NotEq v u) (EP X pins σ Q) X.xe s
  cases fd:flatD d with
  | true =>
   cases fe:flatD e with
   | true => rw [fd,fe] at hf; cases hf
   | false =>
    obtain ⟨e1,_,_,e3⟩:=Jcd I hd he rx ry (by rw [fd,fe]; rfl) (A:=X.A) (by omega)
    rw [e1] at q
    exact e3 _ _ _ _ ⟨V.bl _,H,I,rfl,q⟩
  | false =>
   cases fe:flatD e with
   | true =>
    obtain ⟨e1,_,_,e3⟩:=Jcd I hd he rx ry (by rw [fd,fe]; rfl) (A:=X.A) (by omega)
    rw [e1] at q
    exact e3 _ _ _ _ ⟨V.bl _,H,I,rfl,q⟩
   | false => exact (seq_eq I (I.eqP 49) hn hd he rx ry fd fe (by omega)).2.2 _ _ _ _ ⟨V.bl _,H,I,rfl,q⟩
end
def DivOk (j:Int):Prop:=j ≠ 0∧j.natAbs.log2 < 9000
section
variable {X:Cx}
def rAddU (K:PySem.W.Frag):R2:=fun x y H Q => match x,y with
 | .int i, .int j => Q (.int (i + j)) H
 | .str i, .str j => i.length + j.length ≤ sizeLine∧Q (.str (i ++ j)) H
 | .ref a, .ref b => rCat (.ref a) (.ref b) H Q ∨ rCatT K (.ref a) (.ref b) H Q
 | _,_ => False
theorem JaL:OpR X (binaryOp .Add) (rAddU X.K):=fun pins s σ H x y v u Q I rx ry q => by
 unfold rAddU at q
 split at q
 ·exact Jjb pins s σ H _ _ v u Q I rx ry ⟨_,_,rfl,rfl,q⟩
 ·exact Jf9 pins s σ H _ _ v u Q I rx ry ⟨_,_,rfl,rfl,q.1,q.2⟩
 ·rcases q with q | q
  ·exact Jjc pins s σ H _ _ v u Q I rx ry q
  ·exact Jiu pins s σ H _ _ v u Q I rx ry q
 ·exact q.elim
def rMulU:R2:=fun x y H Q => match x,y with
 | .int i, .int j => IntMulOk i j∧Q (.int (i * j)) H
 | _,_ => False
theorem Jiw:OpR X (binaryOp .Mult) (rI IntMulOk fun i j => .int (i * j)):=opI fun _ _ _ _ _ _ _ hc q => mul_int q hc
theorem Jix:OpR X (binaryOp .Mult) rMulU:=fun pins s σ H x y v u Q I rx ry q => by
 unfold rMulU at q
 split at q
 ·exact Jiw pins s σ H _ _ v u Q I rx ry ⟨_,_,rfl,rfl,q.1,q.2⟩
 ·exact q.elim
def Jg7:R2:=fun x y H Q => match x,y with
 | .int i, .int j => DivOk j∧Q (.int (i.fdiv j)) H
 | _,_ => False
theorem Jhz:OpR X (binaryOp .FloorDiv) (rI (fun _ j => DivOk j) fun i j => .int (i.fdiv j)):=opI fun _ _ _ _ _ _ _ hc q => floordiv_int hc.1 q (.inl (PyProof.noPylong_of_log2 hc.2))
theorem Jao:OpR X (binaryOp .FloorDiv) Jg7:=fun pins s σ H x y v u Q I rx ry q => by
 unfold Jg7 at q
 split at q
 ·exact Jhz pins s σ H _ _ v u Q I rx ry ⟨_,_,rfl,rfl,q.1,q.2⟩
 ·exact q.elim
def rModU:R2:=fun x y H Q => match x,y with
 | .int i, .int j => j ≠ 0∧Q (.int (i.fmod j)) H
 | _,_ => False
theorem Jar:OpR X (binaryOp .Mod) rModU:=fun pins s σ H x y v u Q I rx ry q => by
 unfold rModU at q
 split at q
 ·exact Jiv pins s σ H _ _ v u Q I rx ry ⟨_,_,rfl,rfl,q.1,q.2⟩
 ·exact q.elim
def rPowU:R2:=fun x y H Q => match x,y with
 | .int i, .int j => CPow i j∧Q (.int (i ^ j.toNat)) H
 | _,_ => False
theorem Jfe:OpR X (binaryOp .Pow) rPowU:=fun pins s σ H x y v u Q I rx ry q => by
 unfold rPowU at q
 split at q
 ·exact Jjh pins s σ H _ _ v u Q I rx ry ⟨_,_,rfl,rfl,q.1,q.2⟩
 ·exact q.elim
def rCmpU (p:Int→Int→Bool):R2:=fun x y H Q => match x,y with
 | .int i, .int j => Q (.bl (p i j)) H
 | _,_ => False
theorem Jfd {op:CmpOp} {p:Int→Int→Bool} (h:OpR X (compareOp op) (rI0 fun i j => .bl (p i j))):OpR X (compareOp op) (rCmpU p):=fun pins s σ H x y v u Q I rx ry q => by
 unfold rCmpU at q
 split at q
 ·exact h pins s σ H _ _ v u Q I rx ry ⟨_,_,rfl,rfl,q⟩
 ·exact q.elim
theorem JdO:OpR X (compareOp .Lt) (rCmpU fun i j => decide (i < j)):=Jfd op_lt
theorem JfG:OpR X (compareOp .Gt) (rCmpU fun i j => decide (j < i)):=Jfd op_gt
theorem JhV:OpR X (compareOp .GtE) (rCmpU fun i j => decide (j ≤ i)):=Jfd op_ge
def SqA (K:PySem.W.Frag) (H:Hp) (a:Addr) (xs:List V):Prop:=SqL K H a xs ∨ SqT K H a xs
def rIxU (K:PySem.W.Frag):R2:=fun x y H Q => match x,y with
 | .ref p, .int i => ∃ xs v,SqA K H p xs∧atI xs i = some v∧Q v H
 | .str z, .int i => ∃ c,z.length ≤ sizeLine∧atI z.cps.toList i = some c∧Q (.str ⟨#[c]⟩) H
 | _,_ => False
theorem ix_U:IxR X (rIxU X.K):=fun value slice pins s σ H x y v u Q I rx ry q hs => by
 unfold rIxU at q
 split at q
 ·obtain ⟨xs,w,h | h,e,q⟩:=q
  ·exact Jim value slice pins s σ H _ _ v u Q I rx ry ⟨_,_,_,_,rfl,rfl,h,e,q⟩ hs
  ·exact Ji1 value slice pins s σ H _ _ v u Q I rx ry ⟨_,_,_,_,rfl,rfl,h,e,q⟩ hs
 ·obtain ⟨c,h1,h2,q⟩:=q
  exact Ji0 value slice pins s σ H _ _ v u Q I rx ry ⟨_,_,_,rfl,rfl,h1,h2,q⟩ hs
 ·exact q.elim
def rLen (K:PySem.W.Frag):List V→Hp→VK→Prop:=fun xs H Q => match xs with
 | [.ref p] => ∃ ys,SqA K H p ys∧Q (.int ys.length) H
 | [.str z] => z.length ≤ sizeLine∧Q (.int z.length) H
 | _ => False
theorem JaM:CallR X (.builtin "len") (rLen X.K):=fun pins s σ H xs us Q I r q => by
 unfold rLen at q
 split at q
 ·obtain ⟨ys,h,q⟩:=q
  exact Jeu pins s σ H _ us Q I r ⟨_,_,rfl,h,q⟩
 ·exact Jev pins s σ H _ us Q I r ⟨_,rfl,q.1,q.2⟩
 ·exact q.elim
def rAbs:List V→Hp→VK→Prop:=fun xs H Q => match xs with
 | [.int i] => Q (.int (if i < 0 then -i else i)) H
 | _ => False
theorem Jcs:CallR X (.builtin "abs") rAbs:=fun pins s σ H xs us Q I r q => by
 unfold rAbs at q
 split at q
 ·exact Jhl pins s σ H _ us Q I r ⟨_,rfl,q⟩
 ·exact q.elim
def rMin:List V→Hp→VK→Prop:=fun xs H Q => match xs with
 | [.int i, .int j] => Q (.int (if j < i then j else i)) H
 | _ => False
theorem Jgr (hc:X.calm = true):CallR X (.builtin "min") rMin:=fun pins s σ H xs us Q I r q => by
 unfold rMin at q
 split at q
 ·exact Jgq hc pins s σ H _ us Q I r ⟨_,_,rfl,q⟩
 ·exact q.elim
def isiB (t T:String):Bool:=t == T || (t == "bool" && T == "int")
def tyN (K:PySem.W.Frag) (H:Hp) (x:V) (t:String):Prop:=match x with
 | .int _ => t = "int"
 | .str _ => t = "str"
 | .bl _ => t = "bool"
 | .non => t = "NoneType"
 | .ref a => (t = "list"∧∃ xs,SqL K H a xs) ∨ (t = "tuple"∧∃ xs,SqT K H a xs)
 | _ => False
theorem kit_b (K:PySem.W.Frag) {t T:String} (ht:t ∈ ["int", "str", "bool", "NoneType", "list", "tuple"]) (hT:T ∈ ["int", "str", "bool", "list", "tuple"]):PySem.W.kitOne K (.type t) (.type T) = some (isiB t T):=by
 simp only [List.mem_cons,List.not_mem_nil,or_false] at ht hT
 rcases ht with rfl | rfl | rfl | rfl | rfl | rfl <;> rcases hT with rfl | rfl | rfl | rfl | rfl <;> with_unfolding_all rfl
def rIsi (K:PySem.W.Frag):List V→Hp→VK→Prop:=fun xs H Q => match xs with
 | [x, .ty T] => T ∈ ["int", "str", "bool", "list", "tuple"]∧∃ t,tyN K H x t∧Q (.bl (isiB t T)) H
 | _ => False
theorem JaK:CallR X (.builtin "isinstance") (rIsi X.K):=fun pins s σ H xs us Q I r q => by
 unfold rIsi at q
 split at q
 ·rename_i x T
  obtain ⟨hT,t,ht,q⟩:=q
  obtain ⟨u,c,rfl,ru,rc⟩:=vals2 r
  obtain rfl:c = Value.type T:=rc
  have fin:∀ tk,EP X pins σ Q (.bool (isiB t T)) { s with toks:=tk }:=fun tk => ⟨V.bl _,H,I.tok tk,rfl,q⟩
  unfold tyN at ht
  split at ht
  ·subst ht; obtain ⟨_,rfl⟩:=ru; exact PySem.W.kia_one PySem.W.kitx_int I.kIn True.intro (kit_b _ (by decide) hT) (fun z => nomatch z) fin
  ·subst ht; obtain ⟨_,rfl⟩:=ru; exact PySem.W.kia_one PySem.W.kitx_str I.kIn True.intro (kit_b _ (by decide) hT) (fun z => nomatch z) fin
  ·subst ht; cases (show u = Value.bool _ from ru); exact PySem.W.kia_one PySem.W.kitx_bool I.kIn True.intro (kit_b _ (by decide) hT) (fun z => nomatch z) fin
  ·subst ht; cases (show u = Value.none from ru); exact PySem.W.kia_one PySem.W.kitx_none I.kIn True.intro (kit_b _ (by decide) hT) (fun z => nomatch z) fin
  ·rename_i a
   cases (show u = Value.ref a from ru)
   rcases ht with ⟨rfl,ys,h⟩ | ⟨rfl,ys,h⟩
   ·obtain ⟨its,_,p,_⟩:=I.list h
    obtain ⟨o,_,h1,h2,_⟩:=p
    exact PySem.W.kia_one PySem.W.kitx_list I.kIn ⟨o,h1,h2⟩ (kit_b _ (by decide) hT) (fun z => nomatch z) fin
   ·obtain ⟨its,_,p,_⟩:=I.tuple h
    obtain ⟨o,h1,h2,_⟩:=p
    exact PySem.W.kia_one PySem.W.kitx_tuple I.kIn ⟨o,h1,h2⟩ (kit_b _ (by decide) hT) (fun z => nomatch z) fin
  ·exact ht.elim
 ·exact q.elim
end
section
variable {X:Cx} {tg:Expr}
def iAny (K:PySem.W.Frag) (tl:TE):TI:=fun σ H R => tl σ H fun x H1 => ∃ a,x = .ref a∧(((∃ xs,SqL K H1 a xs)∧R (Itl K a) H1) ∨ ((∃ xs,SqT K H1 a xs)∧R (Itt K a) H1))
theorem pi_U {l:Expr} {tl:TE} (hl:PE X l tl):PI X tg l (iAny X.K tl):=fun pins s σ H R I h => by
 refine thn (hl pins s σ H _ I h) fun v s1 ⟨x,H1,I1,r1,a,ex,q⟩ => ?_
 subst ex
 cases r1
 rcases q with ⟨⟨xs,hq⟩,q⟩ | ⟨⟨xs,hq⟩,q⟩
 ·obtain ⟨its,rv,p,hz⟩:=I1.list hq
  refine wpAny_pyIter_list p.isList ?_
  refine ⟨s1.heap.objs.size,[s1.heap.objs.size],_,_,H1,rfl,I1.kept (t':=s1.toks) fun b o e => Heap.get?_push_of_some _ e,Jhg a _,⟨_,Heap.get?_push_size _ rfl,rfl,rfl⟩,fun b hb => ?_,q⟩
  have e:b = s1.heap.objs.size:=by simpa using hb
  subst e
  exact I1.fpOk (Nat.le_refl _) (I1.hok.fresh (Nat.le_refl _))
 ·obtain ⟨its,rv,p,hz⟩:=I1.tuple hq
  refine wpAny_pyIter_tuple (show s1.heap.IsTuple a its.toArray from p) ?_
  refine ⟨s1.heap.objs.size,[s1.heap.objs.size],_,_,H1,rfl,I1.kept (t':=s1.toks) fun b o e => Heap.get?_push_of_some _ e,Jgj a _,⟨_,Heap.get?_push_size _ rfl,rfl,rfl⟩,fun b hb => ?_,q⟩
  have e:b = s1.heap.objs.size:=by simpa using hb
  subst e
  exact I1.fpOk (Nat.le_refl _) (I1.hok.fresh (Nat.le_refl _))
theorem Jij {K:PySem.W.Frag} {a:Addr} {xs:List V} {g:TG} {tb:TS} {D:Ends} {σ : St} {H:Hp} (hA:SqA K H a xs) (Pv:Nat→St→Hp→Prop) (h0:Pv 0 σ H) (hl:∀ i σ H',i ≤ xs.length→Pv i σ H'→Same H H')
  (hs:∀ i x σ H,xs[i]? = some x→Pv i σ H→g x σ H fun σ2 H2 => tb { D with nx:=Pv (i + 1),ct:=Pv (i + 1),bk:=D.nx } σ2 H2) (hd:∀ σ H,Pv xs.length σ H→D.nx σ H) :
  ((∃ xs,SqL K H a xs)∧∃ W:Nat→Nat→St→Hp→Prop,(∃ m,W 0 m σ H)∧∀ i m σ H,W i m σ H →
   ((Itl K a).stop i H∧D.nx σ H) ∨ ((Itl K a).go i H∧∃ N:St→Hp→Prop,(∀ σ' H',N σ' H'→∃ m',m' < m∧W (i + 1) m' σ' H')∧∀ x H',(Itl K a).yld i H x H'→g x σ H' fun σ2 H2 => tb { D with nx:=N,ct:=N,bk:=D.nx } σ2 H2)) ∨
  ((∃ xs,SqT K H a xs)∧∃ W:Nat→Nat→St→Hp→Prop,(∃ m,W 0 m σ H)∧∀ i m σ H,W i m σ H →
   ((Itt K a).stop i H∧D.nx σ H) ∨ ((Itt K a).go i H∧∃ N:St→Hp→Prop,(∀ σ' H',N σ' H'→∃ m',m' < m∧W (i + 1) m' σ' H')∧∀ x H',(Itt K a).yld i H x H'→g x σ H' fun σ2 H2 => tb { D with nx:=N,ct:=N,bk:=D.nx } σ2 H2)):=by
 rcases hA with hA | hA
 ·exact .inl ⟨⟨xs,hA⟩,Jho (xs:=xs) Pv h0 (fun i σ H' hi hp => hA.same (hl i σ H' hi hp)) hs hd⟩
 ·exact .inr ⟨⟨xs,hA⟩,Jik (xs:=xs) Pv h0 (fun i σ H' hi hp => hA.same (hl i σ H' hi hp)) hs hd⟩
end
structure FunD (K:PySem.W.Frag) (x qual:Str) (st:Stmt) (dV:Value) (f:Addr) (fd:FuncData):Prop where
 ex:∃ (oc:Value) (od:Option Addr) (kV doc pm:Value) (an:Option Addr) (cdv ct:Value) (osl:Array (Option Value)),
  fd = PySem.W.fnOf x qual (Jam st) (Jal st) (Jae st) dV kV doc pm an cdv ct∧K.lookup f = some ⟨oc,od, .func fd,osl⟩∧PySem.W.codeIn K cdv qual = true
 kp:PySem.W.keepIn K (.ref f) = true
section
variable {P:Program} {w:World} {K:PySem.W.Frag} {mg:Str→Option Value} {base:Heap}
theorem FunD.okn {x qual:Str} {st:Stmt} {dV:Value} {f:Addr} {fd:FuncData} {N ps:List Str} {k:Nat} {sp:Sp} (F:FunD K x qual st dV f fd) (S:Jan N ps (Jae st)) (len:∀ vs H Q E,sp vs H Q E→vs.length = ps.length)
  (hbody:∀ (cdv:Value) (A:Around) (outer:List Env) (s:Shared) (H:Hp) (vs:List V) (Q:VK) (E:XK),Room k (A.deeper (envOfC qual (Jae st) s.heap.objs.size f cdv))→sp vs H Q E →
   ∃ t,PSs (cxOf (CX1 P w) P w K mg base N qual (Jae st) f cdv A outer s H E).nox (Jal st) t∧t { nx:=fun _ H' => Q .non H',rt:=Q } (start N vs) H):FnOk P w K mg base (CX1 P w) (k + 1) f fd ps sp:=by
 obtain ⟨oc,od,kV,doc,pm,an,cdv,ct,osl,rfl,lk,hcd⟩:=F.ex
 refine fn_of lk hcd S len fun A outer s H vs Q E hr hsp => ?_
 obtain ⟨t,h,q⟩:=hbody cdv A outer s H vs Q E hr hsp
 exact ⟨t,h.nox,q⟩
theorem FunD.okx {x qual:Str} {st:Stmt} {dV:Value} {f:Addr} {fd:FuncData} {N ps:List Str} {k:Nat} {sp:Sp} (F:FunD K x qual st dV f fd) (S:Jan N ps (Jae st)) (len:∀ vs H Q E,sp vs H Q E→vs.length = ps.length)
  (hbody:∀ (cdv:Value) (A:Around) (outer:List Env) (s:Shared) (H:Hp) (vs:List V) (Q:VK) (E:XK),Room k (A.deeper (envOfC qual (Jae st) s.heap.objs.size f cdv))→sp vs H Q E →
   ∃ t,PSs (cxOf (CX1 P w) P w K mg base N qual (Jae st) f cdv A outer s H E) (Jal st) t∧t { nx:=fun _ H' => Q .non H',rt:=Q } (start N vs) H):FnOk P w K mg base (CX1 P w) (k + 1) f fd ps sp:=by
 obtain ⟨oc,od,kV,doc,pm,an,cdv,ct,osl,rfl,lk,hcd⟩:=F.ex
 exact fn_of lk hcd S len fun A outer s H vs Q E hr hsp => hbody cdv A outer s H vs Q E hr hsp
theorem FunD.binds {x qual:Str} {st:Stmt} {dV:Value} {f:Addr} {fd:FuncData} {ps:List Str} (F:FunD K x qual st dV f fd)
  (h:∀ (kV doc pm:Value) (an:Option Addr) (cdv ct:Value) (us:List Value),us.length = ps.length→bindArgs (PySem.W.fnOf x qual (Jam st) (Jal st) (Jae st) dV kV doc pm an cdv ct) ⟨us,[]⟩ = pure (ps.zip us)):Binds K fd ps []:=by
 obtain ⟨oc,od,kV,doc,pm,an,cdv,ct,osl,rfl,lk,hcd⟩:=F.ex
 exact .all (h kV doc pm an cdv ct)
theorem Jap {x qual:Str} {st:Stmt} {dV:Value} {f:Addr} {oc:Value} {od an:Option Addr} {osl:Array (Option Value)} {kV doc pm cdv ct:Value} (l:K.lookup f = some ⟨oc,od, .func (PySem.W.fnOf x qual (Jam st) (Jal st) (Jae st) dV kV doc pm an cdv ct),osl⟩)
  (c:PySem.W.codeIn K cdv qual = true) (k:PySem.W.keepIn K (.ref f) = true):FunD K x qual st dV f (PySem.W.fnOf x qual (Jam st) (Jal st) (Jae st) dV kV doc pm an cdv ct):=⟨⟨oc,od,kV,doc,pm,an,cdv,ct,osl,rfl,l,c⟩,k⟩
end
structure Cal (P:Program) (w:World) (K:PySem.W.Frag) (mg:Str→Option Value) (base:Heap) (k:Nat) (x:Str) (ps:List Str) (dvs:List V) (sp:Sp):Prop where
 ex:∃ (f:Addr) (fd:FuncData) (ds:List Value),FnOk P w K mg base (CX1 P w) k f fd ps sp∧mg x = some (.ref f)∧PySem.W.keepIn K (.ref f) = true∧Binds K fd ps ds∧Vals dvs ds
section
variable {X:Cx} {k k':Nat} {x:Str} {ps:List Str} {dvs:List V} {sp:Sp} {E:XK} {p pos:Pos} {e:Expr} {es:List Expr} {t:TA}
theorem Cal.ev (G:Cal X.prog X.w X.K X.mg X.base k x ps dvs sp) (hr:Room k' X.A) (hk:k ≤ k') (hg:Gl X x) (hx:JbC (CX1 X.prog X.w) X E) (ha:PA X (e :: es) t)
  (hdb:(x == ("__debug__" : Str)) = false:=by decide) (he:starEach (e :: es) X.env = (false,eval e X.env) :: starEach es X.env:=by rfl) (hpl:(backTo pos (starEach es X.env)).any (·.1) = false:=by rfl) :
  PE X (.Call (.Name x p) (e :: es) [] pos) (tCall sp dvs E t):=by
 obtain ⟨f,fd,ds,F,hm,kp,hb,hd⟩:=G.ex
 exact JiA F (hr.mono hk) hg hm kp hb hd hx ha hdb he hpl
theorem Cal.ev0 (G:Cal X.prog X.w X.K X.mg X.base k x ps dvs sp) (hr:Room k' X.A) (hk:k ≤ k') (hg:Gl X x) (hx:JbC (CX1 X.prog X.w) X E) (hdb:(x == ("__debug__" : Str)) = false:=by decide) :
  PE X (.Call (.Name x p) [] [] pos) (tCall sp dvs E tNil):=by
 obtain ⟨f,fd,ds,F,hm,kp,hb,hd⟩:=G.ex
 exact JhB F (hr.mono hk) hg hm kp hb hd hx hdb
end
end L2
namespace Mth
def g (a b:Int):Int:=(Int.gcd a b:Nat)
theorem JhT (a:Int):g a 0 = (a.natAbs:Int):=by unfold g; rw [Int.gcd_zero_right]
theorem g_pos {a b:Int} (h:b ≠ 0):0 < g a b:=by
 unfold g
 exact Int.natCast_pos.mpr (Int.gcd_pos_of_ne_zero_right a h)
theorem Jc8 (a b:Int):g a b ∣ a:=Int.gcd_dvd_left ..
theorem Jch (a b:Int):g a b ∣ b:=Int.gcd_dvd_right ..
theorem JiY (a b:Int):g b (a % b) = g a b:=by
 unfold g
 rw [Int.gcd_comm b (a % b)]
 first
  | rw [Int.gcd_emod_left]
  | (rw [Int.emod_def]; simp [Int.gcd_comm])
theorem BdI (a b:Int):g (if a < 0 then -a else a) (if b < 0 then -b else b) = g a b:=by
 unfold g
 split <;> split <;> simp [Int.neg_gcd,Int.gcd_neg]
theorem JhP (a:Int):0 ≤ (if a < 0 then -a else a):=by split <;> omega
theorem g_le {a b:Int} (h:b ≠ 0):g a b ≤ (b.natAbs:Int):=by
 unfold g
 exact Int.ofNat_le.mpr (Nat.le_of_dvd (by omega) (Int.natAbs_dvd_natAbs.mpr (by simpa using Int.gcd_dvd_right (a:=a) (b:=b)) |> fun z => by simpa using z))
theorem fm {x y:Int} (h:0 < y):0 ≤ x.fmod y∧x.fmod y < y:=by
 rw [Int.fmod_eq_emod_of_nonneg _ (by omega)]
 exact ⟨Int.emod_nonneg _ (by omega),Int.emod_lt_of_pos _ h⟩
theorem JgB {x y:Int} (h:0 < y):g y (x.fmod y) = g x y:=by
 rw [Int.fmod_eq_emod_of_nonneg _ (by omega)]
 exact JiY x y
def by_ (t b:Int):Int:=if b < 0 then -(g t b) else g t b
def top (t b:Int):Int:=t.fdiv (by_ t b)
def bot (t b:Int):Int:=b.fdiv (by_ t b)
theorem by_ne {t b:Int} (h:b ≠ 0):by_ t b ≠ 0:=by
 have:=g_pos (a:=t) h
 unfold by_; split <;> omega
theorem Jic (t b:Int):by_ t b ∣ t:=by
 unfold by_; split
 ·exact Int.neg_dvd.mpr (Jc8 t b)
 ·exact Jc8 t b
theorem Jid (t b:Int):by_ t b ∣ b:=by
 unfold by_; split
 ·exact Int.neg_dvd.mpr (Jch t b)
 ·exact Jch t b
theorem JaZ {a d:Int} (h:d ∣ a) (hd:d ≠ 0):a.fdiv d * d = a:=by
 obtain ⟨k,rfl⟩:=h
 rw [Int.mul_comm d k,Int.mul_fdiv_cancel _ hd]
theorem Jen {t b:Int} (h:b ≠ 0):top t b * by_ t b = t:=JaZ (Jic t b) (by_ne h)
theorem JdT {t b:Int} (h:b ≠ 0):bot t b * by_ t b = b:=JaZ (Jid t b) (by_ne h)
theorem Jc4 {t b:Int} (h:b ≠ 0):1 ≤ bot t b:=by
 have h1:=JdT (t:=t) h
 have h2:=g_pos (a:=t) h
 by_cases hb:b < 0
 ·have e:by_ t b = -(g t b):=by unfold by_; rw [if_pos hb]
  rw [e] at h1
  have h3:bot t b * g t b = -b:=by rw [Int.mul_neg] at h1; omega
  rcases Int.lt_trichotomy (bot t b) 0 with z | z | z
  ·have:=Int.mul_neg_of_neg_of_pos z h2; omega
  ·rw [z] at h3; omega
  ·omega
 ·have e:by_ t b = g t b:=by unfold by_; rw [if_neg hb]
  rw [e] at h1
  rcases Int.lt_trichotomy (bot t b) 0 with z | z | z
  ·have:=Int.mul_neg_of_neg_of_pos z h2; omega
  ·rw [z] at h1; omega
  ·omega
theorem cross {t b:Int} (h:b ≠ 0):top t b * b = t * bot t b:=by
 have h1:=Jen (t:=t) h
 have h2:=JdT (t:=t) h
 calc top t b * b = top t b * (bot t b * by_ t b):=by rw [h2]
  _ = (top t b * by_ t b) * bot t b:=by rw [Int.mul_comm (bot t b),Int.mul_assoc]
  _ = t * bot t b:=by rw [h1]
theorem JgM (t b:Int):(by_ t b).natAbs = Int.gcd t b:=by
 unfold by_ g; split <;> simp
theorem g_low {t b:Int} (h:b ≠ 0):g (top t b) (bot t b) = 1:=by
 have hg:0 < Int.gcd t b:=Int.gcd_pos_of_ne_zero_right t h
 have e:Int.gcd (top t b * by_ t b) (bot t b * by_ t b) = Int.gcd (top t b) (bot t b) * (by_ t b).natAbs:=Int.gcd_mul_right ..
 rw [Jen h,JdT h,JgM] at e
 have : Int.gcd (top t b) (bot t b) = 1:=by
  rcases Nat.lt_trichotomy (Int.gcd (top t b) (bot t b)) 1 with z | z | z
  ·have : Int.gcd (top t b) (bot t b) = 0:=by omega
   rw [this] at e; omega
  ·exact z
  ·have:=Nat.mul_le_mul_right (Int.gcd t b) z
   omega
 unfold g; rw [this]; rfl
theorem JdG {a b d:Int} (g1:Int.gcd a b = 1) (h:b ∣ a * d):b ∣ d:=by
 have h':b.natAbs ∣ a.natAbs * d.natAbs:=by rw [← Int.natAbs_mul]; exact Int.natAbs_dvd_natAbs.mpr h
 have c:Nat.Coprime b.natAbs a.natAbs:=by
  unfold Nat.Coprime
  rw [Nat.gcd_comm]
  exact g1
 exact Int.natAbs_dvd_natAbs.mp (c.dvd_of_dvd_mul_left h')
theorem JdL {a b c d:Int} (hb:1 ≤ b) (hd:1 ≤ d) (h1:g a b = 1) (h2:g c d = 1) (e:a * d = c * b):a = c∧b = d:=by
 have g1:Int.gcd a b = 1:=by unfold g at h1; omega
 have g2:Int.gcd c d = 1:=by unfold g at h2; omega
 have d1:b ∣ d:=by
  have : b ∣ a * d:=⟨c,by rw [e,Int.mul_comm]⟩
  exact JdG g1 this
 have d2:d ∣ b:=by
  have : d ∣ c * b:=⟨a,by rw [← e,Int.mul_comm]⟩
  exact JdG g2 this
 have eb:b = d:=Int.dvd_antisymm (by omega) (by omega) d1 d2
 subst eb
 refine ⟨?_,rfl⟩
 exact Int.eq_of_mul_eq_mul_right (by omega) e
theorem Jjw {t b:Int} (h:b ≠ 0):(top t b).natAbs ≤ t.natAbs:=by
 have h1:=Jen (t:=t) h
 have h2:(by_ t b).natAbs ≠ 0:=by have:=by_ne (t:=t) h; omega
 have h3:=congrArg Int.natAbs h1
 rw [Int.natAbs_mul] at h3
 rw [← h3]
 exact Nat.le_mul_of_pos_right _ (by omega)
theorem bot_le {t b:Int} (h:b ≠ 0):(bot t b).natAbs ≤ b.natAbs:=by
 have h1:=JdT (t:=t) h
 have h2:(by_ t b).natAbs ≠ 0:=by have:=by_ne (t:=t) h; omega
 have h3:=congrArg Int.natAbs h1
 rw [Int.natAbs_mul] at h3
 calc (bot t b).natAbs ≤ (bot t b).natAbs * (by_ t b).natAbs:=Nat.le_mul_of_pos_right _ (by omega)
  _ = b.natAbs:=h3
theorem Jip {n k:Nat} (h:n < 2 ^ k) (hk:k < 9000):n.log2 < 9000:=by
 by_cases z:n = 0
 ·rw [z]; decide
 ·exact Nat.lt_trans ((Nat.log2_lt z).mpr h) hk
def Sz (n:Nat) (i:Int):Prop:=i.natAbs < 2 ^ n
theorem Sz.mono {m n:Nat} {i:Int} (h:Sz m i) (k:m ≤ n):Sz n i:=Nat.lt_of_lt_of_le h (Nat.pow_le_pow_right (by decide) k)
theorem Sz.mul {m n:Nat} {i j:Int} (h:Sz m i) (k:Sz n j):Sz (m + n) (i * j):=by
 unfold Sz at *
 rw [Int.natAbs_mul,Nat.pow_add]
 exact Nat.mul_lt_mul'' h k
theorem Sz.add {n:Nat} {i j:Int} (h:Sz n i) (k:Sz n j):Sz (n + 1) (i + j):=by
 unfold Sz at *
 have:=Int.natAbs_add_le i j
 rw [Nat.pow_succ]
 omega
theorem Sz.neg {n:Nat} {i:Int} (h:Sz n i):Sz n (-i):=by
 unfold Sz at *
 rw [Int.natAbs_neg]
 exact h
theorem Sz.top {n:Nat} {t b:Int} (hb:b ≠ 0) (h:Sz n t):Sz n (Mth.top t b):=Nat.lt_of_le_of_lt (Jjw hb) h
theorem Sz.bot {n:Nat} {t b:Int} (hb:b ≠ 0) (h:Sz n b):Sz n (Mth.bot t b):=Nat.lt_of_le_of_lt (bot_le hb) h
theorem Sz.lit {n:Nat} {i:Int} (h1 : -(2 ^ n) < i) (h2:i < 2 ^ n):Sz n i:=by
 unfold Sz
 have e:((2 ^ n:Nat):Int) = 2 ^ n:=by simp
 omega
end Mth
namespace Mth
theorem Jd0 {a b:Int} (h:g a b = 1):Int.gcd a b = 1:=by unfold g at h; omega
theorem Jfy {a b:Int} (h:Int.gcd a b = 1):g a b = 1:=by unfold g; rw [h]; rfl
theorem JcT {t x y:Int} (h1:Int.gcd t x = 1) (h2:Int.gcd t y = 1):Int.gcd t (x * y) = 1:=by
 unfold Int.gcd at *
 rw [Int.natAbs_mul]
 exact Nat.Coprime.mul_right h1 h2
theorem JdF {x y:Int} (h:∀ k:Int,k ∣ x→k ∣ y→k ∣ 1):Int.gcd x y = 1:=by
 have:=h (Int.gcd x y:Nat) (Int.gcd_dvd_left ..) (Int.gcd_dvd_right ..)
 have z:=Int.natAbs_dvd_natAbs.mpr this
 simp at z
 exact z
theorem JdH {k x y:Int} (h:Int.gcd x y = 1) (h1:k ∣ x) (h2:k ∣ y):k ∣ 1:=by
 have z:=Int.dvd_coe_gcd h1 h2
 rw [h] at z
 exact z
theorem Jc6 {t u x:Int} (h:Int.gcd t x = 1) (d:u ∣ t):Int.gcd u x = 1:=JdF fun k h1 h2 => JdH h (Int.dvd_trans h1 d) h2
theorem Jbd {x y:Int} (h:Int.gcd x y = 1):Int.gcd y x = 1:=by rw [Int.gcd_comm]; exact h
theorem Jgt {a b c d:Int} (h1:Int.gcd a b = 1) (h2:Int.gcd d b = 1):Int.gcd (a * d + c * b) b = 1:=by
 have : Int.gcd b (a * d) = 1:=JcT (Jbd h1) (Jbd h2)
 refine JdF fun k q1 q2 => JdH this q2 ?_
 have : k ∣ (a * d + c * b) - c * b:=Int.dvd_sub q1 (Int.dvd_mul_of_dvd_right q2)
 have e:(a * d + c * b) - c * b = a * d:=by omega
 rwa [e] at this
theorem Jcu {a d:Int} (h:d ∣ a) (hd:1 ≤ d) (ha:1 ≤ a):1 ≤ a.fdiv d:=by
 have e:=JaZ h (by omega)
 rcases Int.lt_trichotomy (a.fdiv d) 0 with z | z | z
 ·have:=Int.mul_neg_of_neg_of_pos z (show 0 < d by omega); omega
 ·rw [z] at e; omega
 ·omega
theorem JdX {b d s:Int} (hs:s = g b d) (p:1 ≤ s):Int.gcd (b.fdiv s) (d.fdiv s) = 1:=by
 have e1:b.fdiv s * s = b:=JaZ (by rw [hs]; exact Jc8 ..) (by omega)
 have e2:d.fdiv s * s = d:=JaZ (by rw [hs]; exact Jch ..) (by omega)
 have e:Int.gcd (b.fdiv s * s) (d.fdiv s * s) = Int.gcd (b.fdiv s) (d.fdiv s) * s.natAbs:=Int.gcd_mul_right ..
 rw [e1,e2] at e
 have sn:Int.gcd b d = s.natAbs:=by rw [hs]; unfold g; simp
 rw [sn] at e
 rcases Nat.lt_trichotomy (Int.gcd (b.fdiv s) (d.fdiv s)) 1 with z | z | z
 ·have : Int.gcd (b.fdiv s) (d.fdiv s) = 0:=by omega
  rw [this] at e; omega
 ·exact z
 ·have:=Nat.mul_le_mul_right s.natAbs z
  omega
theorem JiE {a b c d:Int} (hb:1 ≤ b) (hd:1 ≤ d) (h1:g a b = 1) (h2:g c d = 1) {s t r:Int} (hs:s = g b d) (ht:t = a * d.fdiv s + c * b.fdiv s) (hr:r = g t s) :
  t.fdiv r = top (a * d + c * b) (b * d)∧b.fdiv s * d.fdiv r = bot (a * d + c * b) (b * d):=by
 have sp:1 ≤ s:=by rw [hs]; have:=g_pos (a:=b) (b:=d) (by omega); omega
 have rp:1 ≤ r:=by rw [hr]; have:=g_pos (a:=t) (b:=s) (by omega); omega
 have sb:s ∣ b:=by rw [hs]; exact Jc8 ..
 have sd:s ∣ d:=by rw [hs]; exact Jch ..
 have rt:r ∣ t:=by rw [hr]; exact Jc8 ..
 have rs:r ∣ s:=by rw [hr]; exact Jch ..
 have rd:r ∣ d:=Int.dvd_trans rs sd
 have eb:=JaZ sb (by omega)
 have ed:=JaZ sd (by omega)
 have et:=JaZ rt (by omega)
 have er:=JaZ rd (by omega)
 have es:=JaZ rs (by omega)
 have bp:=Jcu sb sp hb
 have dp:=Jcu sd sp hd
 have drp:=Jcu rd rp hd
 have cbd:=JdX hs sp
 have crs:Int.gcd (t.fdiv r) (s.fdiv r) = 1:=JdX hr rp
 have edr:d.fdiv r = d.fdiv s * s.fdiv r:=by
  refine Int.eq_of_mul_eq_mul_right (a:=r) (by omega) ?_
  rw [er,Int.mul_assoc,es,ed]
 have ca:Int.gcd a (b.fdiv s) = 1:=Jbd (Jc6 (Jbd (Jd0 h1)) ⟨s,eb.symm⟩)
 have cc:Int.gcd c (d.fdiv s) = 1:=Jbd (Jc6 (Jbd (Jd0 h2)) ⟨s,ed.symm⟩)
 have tb:Int.gcd t (b.fdiv s) = 1:=by rw [ht]; exact Jgt ca (Jbd cbd)
 have td:Int.gcd t (d.fdiv s) = 1:=by rw [ht,Int.add_comm]; exact Jgt cc cbd
 have low:g (t.fdiv r) (b.fdiv s * d.fdiv r) = 1:=Jfy (by
  rw [edr]
  have k:t.fdiv r ∣ t:=⟨r,et.symm⟩
  exact JcT (Jc6 tb k) (JcT (Jc6 td k) crs))
 have bd0:b * d ≠ 0:=Int.mul_ne_zero (by omega) (by omega)
 have lowu:=g_low (t:=a * d + c * b) bd0
 have posu:=Jc4 (t:=a * d + c * b) bd0
 have cru:=cross (t:=a * d + c * b) bd0
 have pos:1 ≤ b.fdiv s * d.fdiv r:=by
  have:=Int.mul_pos (show 0 < b.fdiv s by omega) (show 0 < d.fdiv r by omega)
  omega
 have en:t * s = a * d + c * b:=by
  rw [ht,Int.add_mul,Int.mul_assoc,Int.mul_assoc,ed,eb]
 have cr:t.fdiv r * (b * d) = (a * d + c * b) * (b.fdiv s * d.fdiv r):=by
  have e1:(t.fdiv r * (b * d)) * r = ((a * d + c * b) * (b.fdiv s * d.fdiv r)) * r:=by
   calc (t.fdiv r * (b * d)) * r = (t.fdiv r * r) * (b * d):=by ac_rfl
    _ = t * ((b.fdiv s * s) * d):=by rw [et,eb]
    _ = (t * s) * (b.fdiv s * d):=by ac_rfl
    _ = (a * d + c * b) * (b.fdiv s * (d.fdiv r * r)):=by rw [en,er]
    _ = ((a * d + c * b) * (b.fdiv s * d.fdiv r)) * r:=by ac_rfl
  exact Int.eq_of_mul_eq_mul_right (by omega) e1
 refine JdL pos posu low lowu ?_
 refine Int.eq_of_mul_eq_mul_right (a:=b * d) bd0 ?_
 calc (t.fdiv r * bot (a * d + c * b) (b * d)) * (b * d) = (t.fdiv r * (b * d)) * bot (a * d + c * b) (b * d):=by ac_rfl
  _ = ((a * d + c * b) * bot (a * d + c * b) (b * d)) * (b.fdiv s * d.fdiv r):=by rw [cr]; ac_rfl
  _ = (top (a * d + c * b) (b * d) * (b * d)) * (b.fdiv s * d.fdiv r):=by rw [cru]
  _ = (top (a * d + c * b) (b * d) * (b.fdiv s * d.fdiv r)) * (b * d):=by ac_rfl
theorem Je1 {a d:Int} (h:d ∣ a) (hd:1 ≤ d):(a.fdiv d).natAbs ≤ a.natAbs:=by
 have e:=congrArg Int.natAbs (JaZ h (show d ≠ 0 by omega))
 rw [Int.natAbs_mul] at e
 calc (a.fdiv d).natAbs ≤ (a.fdiv d).natAbs * d.natAbs:=Nat.le_mul_of_pos_right _ (by omega)
  _ = a.natAbs:=e
theorem Sz.fdiv {n:Nat} {a d:Int} (h:Sz n a) (k:d ∣ a) (hd:1 ≤ d):Sz n (a.fdiv d):=Nat.lt_of_le_of_lt (Je1 k hd) h
theorem g_neg {a b:Int}:g (-a) b = g a b:=by unfold g; simp [Int.neg_gcd]
end Mth
namespace Mth
end Mth
namespace L2
open PySem PySem.Spec PyProof.Rows
section
variable {D:Ends} {σ : St} {H:Hp} {Q:VK} {t u:TS} {ta tb te:TE} {g:TG} {tA:TA} {r:R2} {E:XK} {sp:Sp} {K:PySem.W.Frag}
theorem y80y:tSeq t u D σ H = t { D with nx:=u D } σ H:=rfl
theorem y6fy:tNext D σ H = D.nx σ H:=rfl
theorem y2ay:tAsg te g D σ H = te σ H fun x H1 => g x σ H1 D.nx:=rfl
theorem y6ay {i:Nat} {v:V} {R:St→Hp→Prop}:gName i v σ H R = R (σ.set i (some v)) H:=rfl
theorem y7dy:tRet te D σ H = te σ H D.rt:=rfl
theorem y7ey:tRetN D σ H = D.rt .non H:=rfl
theorem y44y:tDrop te D σ H = te σ H fun _ H1 => D.nx σ H1:=rfl
theorem y2dy {v:V}:tC v σ H Q = Q v H:=rfl
theorem y76y:tOp r ta tb σ H Q = ta σ H fun x H1 => tb σ H1 fun y H2 => r x y H2 Q:=rfl
theorem y8cy {f:V→Hp→VK→Prop}:tUn f ta σ H Q = ta σ H fun x H1 => f x H1 Q:=rfl
theorem y2fy {f:List V→Hp→VK→Prop}:tCB f tA σ H Q = tA σ H fun vs H1 => f vs H1 Q:=rfl
theorem y39y {R:List V→Hp→Prop}:tCons ta tA σ H R = ta σ H fun x H1 => tA σ H1 fun xs H2 => R (x :: xs) H2:=rfl
theorem y70y {R:List V→Hp→Prop}:tNil σ H R = R [] H:=rfl
theorem y2ey {dvs:List V}:tCall sp dvs E tA σ H Q = tA σ H fun vs H1 => sp (vs ++ dvs) H1 Q E:=rfl
theorem y85y {R:Bool→Hp→Prop}:tTest te σ H R = te σ H fun x H' => ∃ k,x = .bl k∧R k H':=rfl
theorem y23y {R:Bool→Hp→Prop}:tB te σ H R = te σ H fun x H' => ∃ k,x = .bl k∧R k H':=rfl
theorem y28y {a b:TT} {R:Bool→Hp→Prop}:tAnd a b σ H R = a σ H fun c H1 => if c = true then b σ H1 R else R false H1:=rfl
theorem y77y {a b:TT} {R:Bool→Hp→Prop}:tOr a b σ H R = a σ H fun c H1 => if c = true then R true H1 else b σ H1 R:=rfl
theorem y72y {a:TT} {R:Bool→Hp→Prop}:tNot a σ H R = a σ H fun c H1 => R (!c) H1:=rfl
theorem y29y:tAndV ta tb σ H Q = ta σ H fun x H1 => ∃ c,x = .bl c∧if c = true then tb σ H1 Q else Q (.bl false) H1:=rfl
theorem y78y:tOrV ta tb σ H Q = ta σ H fun x H1 => ∃ c,x = .bl c∧if c = true then Q (.bl true) H1 else tb σ H1 Q:=rfl
theorem y74y:tNotV ta σ H Q = ta σ H fun x H1 => ∃ c,x = .bl c∧Q (.bl (!c)) H1:=rfl
theorem y58y {c:TT}:tIfS c t u D σ H = c σ H fun b H1 => if b = true then t D σ H1 else u D σ H1:=rfl
theorem y8ey {i:Nat}:tVar i σ H Q = ∃ v, σ[i]? = some (some v)∧Q v H:=rfl
theorem y26y {i j:Int}:rAddU K (.int i) (.int j) H Q = Q (.int (i + j)) H:=rfl
theorem y27y {i j:Str}:rAddU K (.str i) (.str j) H Q = (i.length + j.length ≤ sizeLine∧Q (.str (i ++ j)) H):=rfl
theorem y84y {f:Int→Int→V} {i j:Int}:rI0 f (.int i) (.int j) H Q = Q (f i j) H:=by
 unfold rI0; simp
theorem y6ey {f:Int→V} {i:Int}:rU f (.int i) H Q = Q (f i) H:=by
 unfold rU; simp
theorem y67y {i j:Int}:rMulU (.int i) (.int j) H Q = (IntMulOk i j∧Q (.int (i * j)) H):=rfl
theorem y49y {i j:Int}:Jg7 (.int i) (.int j) H Q = (DivOk j∧Q (.int (i.fdiv j)) H):=rfl
theorem y66y {i j:Int}:rModU (.int i) (.int j) H Q = (j ≠ 0∧Q (.int (i.fmod j)) H):=rfl
theorem y7by {i j:Int}:rPowU (.int i) (.int j) H Q = (CPow i j∧Q (.int (i ^ j.toNat)) H):=rfl
theorem y32y {p:Int→Int→Bool} {i j:Int}:rCmpU p (.int i) (.int j) H Q = Q (.bl (p i j)) H:=rfl
theorem y47y {i j:Int}:rEqU K (.int i) (.int j) H Q = Q (.bl (decide (i = j))) H:=rfl
theorem y6cy {i j:Int}:rNeU K (.int i) (.int j) H Q = Q (.bl (!decide (i = j))) H:=rfl
theorem y48y {i j:Str}:rEqU K (.str i) (.str j) H Q = Q (.bl (decide (i = j))) H:=rfl
theorem y6dy {i j:Str}:rNeU K (.str i) (.str j) H Q = Q (.bl (!decide (i = j))) H:=rfl
theorem y46y {i j:Bool}:rEqU K (.bl i) (.bl j) H Q = Q (.bl (decide (i = j))) H:=rfl
theorem y6by {i j:Bool}:rNeU K (.bl i) (.bl j) H Q = Q (.bl (!decide (i = j))) H:=rfl
theorem y87y:tTup tA σ H Q = tA σ H fun xs H1 => xs.length ≤ sizeLine∧∀ p,H1 p = none→Q (.ref p) (upd H1 p (.tup xs)):=rfl
theorem y62y:tLst tA σ H Q = tA σ H fun xs H1 => xs.length ≤ sizeLine∧∀ p,H1 p = none→Q (.ref p) (upd H1 p (.lst xs)):=rfl
theorem y5ey {x:V} {T:String}:rIsi K [x, .ty T] H Q = (T ∈ ["int", "str", "bool", "list", "tuple"]∧∃ t,tyN K H x t∧Q (.bl (isiB t T)) H):=rfl
theorem y25y {i:Int}:rAbs [.int i] H Q = Q (.int (if i < 0 then -i else i)) H:=rfl
theorem y65y {i j:Int}:rMin [.int i, .int j] H Q = Q (.int (if j < i then j else i)) H:=rfl
theorem y89y {i:Int} {s:String}:tyN K H (.int i) s = (s = "int"):=rfl
theorem y8by {i:Str} {s:String}:tyN K H (.str i) s = (s = "str"):=rfl
theorem y88y {i:Bool} {s:String}:tyN K H (.bl i) s = (s = "bool"):=rfl
theorem y8ay {s:String}:tyN K H .non s = (s = "NoneType"):=rfl
end
theorem Jft:bootBuiltins "abs" = some (.builtin "abs"):=by decide +kernel
theorem Jbb:bootBuiltins "len" = some (.builtin "len"):=by decide +kernel
theorem JiS:bootBuiltins "min" = some (.builtin "min"):=by decide +kernel
theorem Jes:bootBuiltins "sorted" = some (.builtin "sorted"):=by decide +kernel
theorem JaU:bootBuiltins "isinstance" = some (.builtin "isinstance"):=by decide +kernel
theorem JiR:bootBuiltins "all" = some (.builtin "all"):=by decide +kernel
theorem Jgn:bootBuiltins "int" = some (.type "int"):=by decide +kernel
theorem JiT:bootBuiltins "str" = some (.type "str"):=by decide +kernel
theorem Jgm:bootBuiltins "bool" = some (.type "bool"):=by decide +kernel
theorem Jgo:bootBuiltins "list" = some (.type "list"):=by decide +kernel
theorem JdV:bootBuiltins "tuple" = some (.type "tuple"):=by decide +kernel
theorem Jhk:bootBuiltins "range" = some (.type "range"):=by decide +kernel
theorem JiU:bootBuiltins "zip" = some (.type "zip"):=by decide +kernel
theorem yby:isiB "int" "int" = true:=by decide
theorem ydy:isiB "int" "str" = false:=by decide
theorem yay:isiB "int" "bool" = false:=by decide
theorem ycy:isiB "int" "list" = false:=by decide
theorem yey:isiB "int" "tuple" = false:=by decide
theorem y15y:isiB "str" "int" = false:=by decide
theorem y17y:isiB "str" "str" = true:=by decide
theorem y14y:isiB "str" "bool" = false:=by decide
theorem y16y:isiB "str" "list" = false:=by decide
theorem y18y:isiB "str" "tuple" = false:=by decide
theorem y6y:isiB "bool" "int" = true:=by decide
theorem y8y:isiB "bool" "str" = false:=by decide
theorem y5y:isiB "bool" "bool" = true:=by decide
theorem y7y:isiB "bool" "list" = false:=by decide
theorem y9y:isiB "bool" "tuple" = false:=by decide
theorem y1y:isiB "NoneType" "int" = false:=by decide
theorem y3y:isiB "NoneType" "str" = false:=by decide
theorem y0y:isiB "NoneType" "bool" = false:=by decide
theorem y2y:isiB "NoneType" "list" = false:=by decide
theorem y4y:isiB "NoneType" "tuple" = false:=by decide
theorem y10y:isiB "list" "int" = false:=by decide
theorem y12y:isiB "list" "str" = false:=by decide
theorem yfy:isiB "list" "bool" = false:=by decide
theorem y11y:isiB "list" "list" = true:=by decide
theorem y13y:isiB "list" "tuple" = false:=by decide
theorem y1ay:isiB "tuple" "int" = false:=by decide
theorem y1cy:isiB "tuple" "str" = false:=by decide
theorem y19y:isiB "tuple" "bool" = false:=by decide
theorem y1by:isiB "tuple" "list" = false:=by decide
theorem y1dy:isiB "tuple" "tuple" = true:=by decide
theorem y1fy:("int" ∈ ["int", "str", "bool", "list", "tuple"]) = True:=by simp
theorem y21y:("str" ∈ ["int", "str", "bool", "list", "tuple"]) = True:=by simp
theorem y1ey:("bool" ∈ ["int", "str", "bool", "list", "tuple"]) = True:=by simp
theorem y20y:("list" ∈ ["int", "str", "bool", "list", "tuple"]) = True:=by simp
theorem y22y:("tuple" ∈ ["int", "str", "bool", "list", "tuple"]) = True:=by simp
theorem y24y {CX:CXT} {P:Program} {w:World} {K:PySem.W.Frag} {mg:Str→Option Value} {base:Heap} {N:List Str} {qual:Str} {scope:Scope} {f:Addr} {cd:Value} {A:Around} {outer:List Env} {s:Shared} {H:Hp} {E:XK}:(cxOf CX P w K mg base N qual scope f cd A outer s H E).K = K:=rfl
def ForR (lo:Int) (n:Nat) (g:TG) (tb:TS) (D:Ends) (σ : St) (H:Hp):Prop:=∃ W:Nat→Nat→St→Hp→Prop,(∃ m,W 0 m σ H)∧∀ i m σ H,W i m σ H →
 ((Itr lo n).stop i H∧D.nx σ H) ∨ ((Itr lo n).go i H∧∃ N:St→Hp→Prop,(∀ σ' H',N σ' H'→∃ m',m' < m∧W (i + 1) m' σ' H')∧∀ x H',(Itr lo n).yld i H x H'→g x σ H' fun σ2 H2 => tb { D with nx:=N,ct:=N,bk:=D.nx } σ2 H2)
def ForA (K:PySem.W.Frag) (a:Addr) (g:TG) (tb:TS) (D:Ends) (σ : St) (H:Hp):Prop :=
 ((∃ xs,SqL K H a xs)∧∃ W:Nat→Nat→St→Hp→Prop,(∃ m,W 0 m σ H)∧∀ i m σ H,W i m σ H →
  ((Itl K a).stop i H∧D.nx σ H) ∨ ((Itl K a).go i H∧∃ N:St→Hp→Prop,(∀ σ' H',N σ' H'→∃ m',m' < m∧W (i + 1) m' σ' H')∧∀ x H',(Itl K a).yld i H x H'→g x σ H' fun σ2 H2 => tb { D with nx:=N,ct:=N,bk:=D.nx } σ2 H2)) ∨
 ((∃ xs,SqT K H a xs)∧∃ W:Nat→Nat→St→Hp→Prop,(∃ m,W 0 m σ H)∧∀ i m σ H,W i m σ H →
  ((Itt K a).stop i H∧D.nx σ H) ∨ ((Itt K a).go i H∧∃ N:St→Hp→Prop,(∀ σ' H',N σ' H'→∃ m',m' < m∧W (i + 1) m' σ' H')∧∀ x H',(Itt K a).yld i H x H'→g x σ H' fun σ2 H2 => tb { D with nx:=N,ct:=N,bk:=D.nx } σ2 H2))
theorem y4cy {ta:TA} {g:TG} {tb:TS} {D:Ends} {σ : St} {H:Hp}:tFor (iRng1 ta) g tb D σ H = ta σ H fun vs H1 => ∃ j:Int,vs = [.int j]∧-(2 ^ 62) ≤ j∧j < 2 ^ 62∧ForR 0 j.toNat g tb D σ H1:=rfl
theorem y4dy {ta:TA} {g:TG} {tb:TS} {D:Ends} {σ : St} {H:Hp}:tFor (iRng2 ta) g tb D σ H = ta σ H fun vs H1 => ∃ i j:Int,vs = [.int i, .int j]∧(-(2 ^ 62) ≤ i∧i < 2 ^ 62∧-(2 ^ 62) ≤ j∧j < 2 ^ 62)∧ForR i (j - i).toNat g tb D σ H1:=rfl
theorem y4ey {K:PySem.W.Frag} {tl:TE} {g:TG} {tb:TS} {D:Ends} {σ : St} {H:Hp}:tFor (iAny K tl) g tb D σ H = tl σ H fun x H1 => ∃ a,x = .ref a∧ForA K a g tb D σ H1:=rfl
theorem ForR.by {lo:Int} {n:Nat} {g:TG} {tb:TS} {D:Ends} {σ : St} {H:Hp} (Pv:Nat→St→Hp→Prop) (h0:Pv 0 σ H)
  (hs:∀ i σ H,i < n→Pv i σ H→g (.int (lo + i)) σ H fun σ2 H2 => tb { D with nx:=Pv (i + 1),ct:=Pv (i + 1),bk:=D.nx } σ2 H2) (hd:∀ σ H,Pv n σ H→D.nx σ H):ForR lo n g tb D σ H:=JgA Pv h0 hs hd
theorem ForA.by {K:PySem.W.Frag} {a:Addr} {xs:List V} {g:TG} {tb:TS} {D:Ends} {σ : St} {H:Hp} (hA:SqA K H a xs) (Pv:Nat→St→Hp→Prop) (h0:Pv 0 σ H) (hl:∀ i σ H',i ≤ xs.length→Pv i σ H'→Same H H')
  (hs:∀ i x σ H,xs[i]? = some x→Pv i σ H→g x σ H fun σ2 H2 => tb { D with nx:=Pv (i + 1),ct:=Pv (i + 1),bk:=D.nx } σ2 H2) (hd:∀ σ H,Pv xs.length σ H→D.nx σ H):ForA K a g tb D σ H:=Jij hA Pv h0 hl hs hd
theorem Jd2 {H:Hp} {o:HO} {R:V→Hp→Prop} (h:∀ p H1,Same H H1→H1 p = some o→R (.ref p) H1):∀ p,H p = none→R (.ref p) (upd H p o):=fun p hp =>
 h p _ (fun b u q => by rw [Jah (Jag q hp)]; exact q) Jak
theorem newS {H H':Hp} {p:Addr} {o:HO} (h:H p = none) (e:upd H p o = H'):Same H H':=fun b u q => by rw [← e,Jah (Jag q h)]; exact q
theorem newE {H H':Hp} {p:Addr} {o:HO} (e:upd H p o = H'):H' p = some o:=by rw [← e,Jak]
theorem JdS {n:Nat} {i:Int} (h:Mth.Sz n i):Builtin.Int.intBits i ≤ n:=by
 unfold Builtin.Int.intBits
 split
 ·exact Nat.zero_le _
 ·rename_i z
  have : i.natAbs.log2 < n:=(Nat.log2_lt (by simpa using z)).mpr h
  omega
theorem mulOk {m n:Nat} {i j:Int} (h:Mth.Sz m i) (k:Mth.Sz n j) (hm:m ≤ 2 ^ 20:=by decide) (hn:n ≤ 2 ^ 20:=by decide):IntMulOk i j:=IntMulOk.of_bits (Nat.le_trans (JdS h) hm) (Nat.le_trans (JdS k) hn)
theorem JhU {i j:Int} (h:Mth.Sz 64 j):IntMulOk i j:=IntMulOk.of_right (JdS h)
theorem divOk {n:Nat} {j:Int} (h:j ≠ 0) (k:Mth.Sz n j) (hn:n < 9000:=by decide):DivOk j:=⟨h,Mth.Jip k hn⟩
theorem len0:([]:List V).length ≤ sizeLine:=by decide
theorem len2 {a b:V}:[a,b].length ≤ sizeLine:=by show 2 ≤ sizeLine; decide
theorem len5 {a b c d e:V}:[a,b,c,d,e].length ≤ sizeLine:=by show 5 ≤ sizeLine; decide
theorem JaF {j:Int} (h:decide (j ≠ 0∧j.natAbs < 2 ^ 64) = true):DivOk j:=by
 have z:=of_decide_eq_true h
 exact divOk z.1 (n:=64) z.2
theorem JaG {i j:Int} (h:decide (j.natAbs < 2 ^ 64) = true):IntMulOk i j:=by
 have z:j.natAbs < 2 ^ 64:=of_decide_eq_true h
 exact JhU z
theorem Jat {i j:Int} (h:decide (i.natAbs < 2 ^ 64) = true):IntMulOk i j:=by
 have z:i.natAbs < 2 ^ 64:=of_decide_eq_true h
 exact IntMulOk.of_left (JdS (n:=64) z)
theorem JaH {i j:Int} (h:decide (0 ≤ j∧j ≤ 1000000∧i.natAbs < 2 ^ 64) = true):CPow i j:=by
 have z:0 ≤ j∧j ≤ 1000000∧i.natAbs < 2 ^ 64:=of_decide_eq_true h
 exact z
def FrV (K:PySem.W.Frag) (H:Hp) (v:V) (a b:Int):Prop:=∃ p,v = .ref p∧SqT K H p [.int a, .int b]
theorem FrV.same {K:PySem.W.Frag} {H H':Hp} {v:V} {a b:Int} (S:Same H H') (h:FrV K H v a b):FrV K H' v a b:=by
 obtain ⟨p,e,q⟩:=h
 exact ⟨p,e,q.same S⟩
theorem FrV.of {K:PySem.W.Frag} {H:Hp} {p:Addr} {a b:Int} (h:H p = some (.tup [.int a, .int b])):FrV K H (.ref p) a b:=⟨p,rfl,SqT.of h⟩
theorem ixT0 {K:PySem.W.Frag} {H:Hp} {p:Addr} {x:V} {r:List V} {Q:VK} (h:SqT K H p (x :: r)) (q:Q x H):rIxU K (.ref p) (.int 0) H Q:=⟨_,x, .inr h,Jc3 (j:=0) rfl,q⟩
theorem ixT1 {K:PySem.W.Frag} {H:Hp} {p:Addr} {x y:V} {r:List V} {Q:VK} (h:SqT K H p (x :: y :: r)) (q:Q y H):rIxU K (.ref p) (.int 1) H Q:=⟨_,y, .inr h,Jc3 (j:=1) rfl,q⟩
theorem ixF0 {K:PySem.W.Frag} {H:Hp} {v:V} {a b:Int} {Q:VK} (h:FrV K H v a b) (q:Q (.int a) H):rIxU K v (.int 0) H Q:=by
 obtain ⟨p,rfl,z⟩:=h
 exact ixT0 z q
theorem ixF1 {K:PySem.W.Frag} {H:Hp} {v:V} {a b:Int} {Q:VK} (h:FrV K H v a b) (q:Q (.int b) H):rIxU K v (.int 1) H Q:=by
 obtain ⟨p,rfl,z⟩:=h
 exact ixT1 z q
theorem FrV.rep {K:PySem.W.Frag} {H:Hp} {v:V} {a b:Int} (h:FrV K H v a b):Rep K H (.tup [.int a, .int b]) v:=by
 obtain ⟨p,rfl,z⟩:=h
 simp only [Rep,RepL]
 exact ⟨p,_,rfl,z,_,_,rfl,rfl,_,_,rfl,rfl,rfl⟩
theorem ixT {K:PySem.W.Frag} {H:Hp} {p:Addr} {xs:List V} {i:Nat} {v:V} {Q:VK} (h:SqT K H p xs) (e:xs[i]? = some v) (q:Q v H):rIxU K (.ref p) (.int (i:Int)) H Q:=⟨xs,v, .inr h,Jc3 e,q⟩
theorem ixL {K:PySem.W.Frag} {H:Hp} {p:Addr} {xs:List V} {i:Nat} {v:V} {Q:VK} (h:SqL K H p xs) (e:xs[i]? = some v) (q:Q v H):rIxU K (.ref p) (.int (i:Int)) H Q:=⟨xs,v, .inl h,Jc3 e,q⟩
end L2
namespace L2
open PySem PySem.Spec PyProof.Rows
section
open PySem.W PySem.Builtin PySem.Builtin.ObjectAttr PySem.Builtin.Getset_descriptor
variable {prog:Program} {w:World} {A:Around} {E:Value→Shared→Prop} {s:Shared} {K:Frag} {x D:Addr} {ox:Obj}
end
section
variable {X:Cx}
def JiM (r r' r'':R2) (ta tb tc td:TE):TE:=fun σ H Q => ta σ H fun x H1 => tb σ H1 fun y H2 => r x y H2 fun z H3 => ∃ k,z = .bl k ∧
 (if k = true then tc σ H3 fun w' H4 => r' y w' H4 fun z' H5 => ∃ k',z' = .bl k'∧(if k' = true then td σ H5 fun u' H6 => r'' w' u' H6 Q else Q (.bl false) H5) else Q (.bl false) H3)
def rFmt:V→Hp→VK→Prop:=fun x H Q => match x with
 | .int i => i.natAbs.log2 < 1920∧Q (.str (toString i)) H
 | _ => False
def TJ:=St→Hp→Str→VK→Prop
def jNil:TJ:=fun _ H acc Q => acc.length ≤ sizeLine∧Q (.str acc) H
def jCons (te:TE) (t:TJ):TJ:=fun σ H acc Q => te σ H fun x H1 => ∃ y,x = .str y∧(acc ++ y).length ≤ sizeLine∧t σ H1 (acc ++ y) Q
def tFstr (t:TJ):TE:=fun σ H Q => t σ H Str.empty Q
def rStrI:List V→Hp→VK→Prop:=fun xs H Q => match xs with
 | [.int i] => i.natAbs.log2 < 1920∧Q (.str (toString i)) H
 | _ => False
end
end L2
namespace L2
open PySem PySem.Spec PyProof.Rows
section
variable {En:Ends} {σ : St} {H:Hp} {Q:VK} {t u:TS} {ta tb te tc td:TE} {g:TG} {gs:TGs} {tA:TA} {E:XK} {sp:Sp} {K:PySem.W.Frag}
theorem y82y {r:V→Option Int→Option Int→Hp→VK→Prop} {tl th:TO}:tSl r te tl th σ H Q = te σ H fun x H1 => tl σ H1 fun l H2 => th σ H2 fun u H3 => r x l u H3 Q:=rfl
theorem y7ay {R:Option Int→Hp→Prop}:tPart te σ H R = te σ H fun x H1 => ∃ i,x = .int i∧R (some i) H1:=rfl
theorem y71y {R:Option Int→Hp→Prop}:JiN σ H R = R none H:=rfl
theorem y30y {r r':R2}:Jjs r r' ta tb tc σ H Q = ta σ H fun x H1 => tb σ H1 fun y H2 => r x y H2 fun z H3 => ∃ k,z = .bl k∧(if k = true then tc σ H3 fun w' H4 => r' y w' H4 Q else Q (.bl false) H3):=rfl
theorem y31y {r r' r'':R2}:JiM r r' r'' ta tb tc td σ H Q = ta σ H fun x H1 => tb σ H1 fun y H2 => r x y H2 fun z H3 => ∃ k,z = .bl k ∧
 (if k = true then tc σ H3 fun w' H4 => r' y w' H4 fun z' H5 => ∃ k',z' = .bl k'∧(if k' = true then td σ H5 fun u' H6 => r'' w' u' H6 Q else Q (.bl false) H5) else Q (.bl false) H3):=rfl
theorem y52y {tj:TJ}:tFstr tj σ H Q = tj σ H Str.empty Q:=rfl
theorem y60y {tj:TJ} {acc:Str}:jCons te tj σ H acc Q = te σ H fun x H1 => ∃ y,x = .str y∧(acc ++ y).length ≤ sizeLine∧tj σ H1 (acc ++ y) Q:=rfl
theorem y61y {acc:Str}:jNil σ H acc Q = (acc.length ≤ sizeLine∧Q (.str acc) H):=rfl
theorem y4by {i:Int}:rFmt (.int i) H Q = (i.natAbs.log2 < 1920∧Q (.str (toString i)) H):=rfl
theorem y83y {i:Int}:rStrI [.int i] H Q = (i.natAbs.log2 < 1920∧Q (.str (toString i)) H):=rfl
theorem y86y {D0:Addr} {i:Nat} {tx:St→Hp→VK→XK→Prop} {ts:TS}:Jju K D0 i tx ts En σ H = tx σ H (fun _ H1 => En.nx σ H1) fun cls _ H1 => ∃ C,cls = .ref C∧Jgk K C D0 ∧
 ∀ ea,H1 ea = none→ts { nx:=fun σ' H' => En.nx (σ'.set i none) H',rt:=En.rt,bk:=fun σ' H' => En.bk (σ'.set i none) H',ct:=fun σ' H' => En.ct (σ'.set i none) H' } (σ.set i (some (.ref ea))) (upd H1 ea (ExcO ea C)):=rfl
theorem y8fy {dvs:List V} {Qx:VK} {Ex:XK}:xCall sp dvs tA σ H Qx Ex = tA σ H fun vs H1 => sp (vs ++ dvs) H1 Qx Ex:=rfl
theorem y7cy {C:Addr}:Jh2 E C tA En σ H = tA σ H fun vs H1 => vs.length ≤ sizeLine∧E (.ref C) none H1:=rfl
end
end L2
namespace L2
open PySem PySem.Spec PyProof.Rows
def Its (x:Str):It:=⟨fun i _ => i < x.cps.size,fun i H v H' => H' = H∧∃ c,x.cps[i]? = some c∧v = .str ⟨#[c]⟩,fun i _ => i = x.cps.size⟩
theorem JeQ {P:Program} {w:World} {K:PySem.W.Frag} {tg:Expr} {it:Addr} {x:Str} {n:String} {St:Nat→Heap→Prop} (hn:["enumerate", "zip", "dict_itemiterator", "dict_reverseitemiterator", "odict_iterator", "itertools.zip_longest", "itertools.pairwise"].contains n = false)
  (hst:∀ i h,St i h→∃ o vs,h.get? it = some o∧o.cls = .type n∧o.data = .fields vs) (mk:∀ A:Around,A.handled = none→Walks P w A it [it] [it] x.cps.size (SignAt x) St)
  (hself:∀ (A:Around) (i:Nat) (s:Shared) (Q:Value→Shared→Prop) (E:Value→Shared→Prop),St i s.heap→Q (.ref it) s→wpAny (model P w) A (pyIter (.ref it)) Q E s):Turn P w K tg (Its x) [it] it St where
 mem:=by simp
 obj:=fun i h st b hb => by
  obtain rfl:b = it:=by simpa using hb
  obtain ⟨o,vs,e,_,d⟩:=hst i h st
  exact ⟨o,e,fun v z => by rw [d] at z; cases z⟩
 keep:=fun i h h' st k => (mk {} rfl).frame i h h' st fun b hb o e => k b hb o e
 item:=by
  intro X hP hw hK hc i pins s σ H E I hf st hg
  subst hP hw hK
  obtain ⟨f0,f1,f2,f3,f4,f5⟩:=hf it (by simp)
  refine (mk X.A (I.ok.hd hc)).item i s _ _ hg st fun v h' tk hv st' kk => ?_
  obtain ⟨c,u,hc',rfl⟩:=hv
  have I1:Inv X pins σ H { s with heap:=h',toks:=tk }:=I.turned (fun b o hb e => kk b o (by simpa using hb) e) f0 f1 f3 f4 f5
  obtain ⟨o,vs,e1,e2,e3⟩:=hst _ _ st'
  exact ⟨_,rfl,go_of (s:={ s with heap:=h',toks:=tk }) e1 e2 e3 hn ⟨.str ⟨#[c]⟩,H,I1,⟨u,rfl⟩,⟨rfl,c,hc',rfl⟩,st',fun b hb => (hf b hb).1⟩⟩
 done:=by
  intro X hP hw hK hc i pins s σ H E I hf st hg
  subst hP hw hK
  obtain ⟨f0,f1,f2,f3,f4,f5⟩:=hf it (by simp)
  have hg':i = x.cps.size:=hg
  subst hg'
  exact (mk X.A (I.ok.hd hc)).done s _ _ st fun h' tk kk => ⟨rfl,I.turned (fun b o hb e => kk b o (by simpa using hb) e) f0 f1 f3 f4 f5⟩
 self:=hself
section
variable {X:Cx} {tg:Expr}
def iStr (tl:TE):TI:=fun σ H R => tl σ H fun x H1 => ∃ z,x = .str z∧R (Its z) H1
theorem Jjk {l:Expr} {tl:TE} (hl:PE X l tl):PI X tg l (iStr tl):=fun pins s σ H R I h => by
 refine thn (hl pins s σ H _ I h) fun v s1 ⟨x,H1,I1,r1,z,ex,q⟩ => ?_
 subst ex
 obtain ⟨t,rfl⟩:=r1
 have key:∀ (n:String),(n = "str_ascii_iterator" ∨ n = "str_iterator")→PIE X pins σ tg R (.ref s1.heap.objs.size) { s1 with heap:=s1.heap.push { cls:=.type n,data:=.fields #[.str z t, .int 0 0] } }:=fun n hn => by
  have hT:Turn X.prog X.w X.K tg (Its z) [s1.heap.objs.size] s1.heap.objs.size (fun i h => h.IsStrIter s1.heap.objs.size n z t i):=by
   rcases hn with rfl | rfl
   ·exact JeQ (n:="str_ascii_iterator") (by decide) (fun i h st => let ⟨o,a,b,c⟩:=st; ⟨o,_,a,b,c⟩) (fun A hA => Walks.strAscii hA _ z t) fun A i s Q E st q => wpAny_pyIter_striter_ascii st q
   ·exact JeQ (n:="str_iterator") (by decide) (fun i h st => let ⟨o,a,b,c⟩:=st; ⟨o,_,a,b,c⟩) (fun A hA => Walks.strWide hA _ z t) fun A i s Q E st q => wpAny_pyIter_striter_wide st q
  refine ⟨s1.heap.objs.size,[s1.heap.objs.size],_,_,H1,rfl,I1.kept (t':=s1.toks) fun b o e => Heap.get?_push_of_some _ e,hT,⟨_,Heap.get?_push_size _ rfl,rfl,rfl⟩,fun b hb => ?_,q⟩
  obtain rfl:b = s1.heap.objs.size:=by simpa using hb
  exact I1.fpOk (Nat.le_refl _) (I1.hok.fresh (Nat.le_refl _))
 cases ha:z.cps.all (· < 128)
 ·exact wpAny_pyIter_wide ha (key _ (.inr rfl))
 ·exact wpAny_pyIter_ascii ha (key _ (.inl rfl))
end
abbrev Cx.inc (X:Cx) (N':List Str) (scope:Scope) (cl:List (Str × Addr)) (fp:List Addr) (s2:Shared) (H2:Hp) (C:Addr):Cx :=
 { X with N:=N',s₀:=s2,H₀:=H2,env:=compEnvC scope cl C X.env,outer:=X.stack,ex:=fp,fn:=fun _ => false,pn:=[],xe:=fun _ _ => False }
section
variable {X:Cx} {pins:List (Addr × Obj)} {σ : St} {H2:Hp} {s2:Shared} {N':List Str} {scope:Scope} {cl:List (Str × Addr)} {fp:List Addr} {C:Addr}
theorem Inv.incOk (I:Inv X pins σ H2 s2) (hf:∀ b ∈ fp,FpOk X pins H2 b) (hfp:∀ b ∈ fp,b < s2.heap.objs.size) (hk:scope.kind = .function) (hC:s2.heap.objs.size ≤ C) (hcl:∀ x c,cl.lookup x = some c→X.env.cells.lookup x = some c)
  (hhas:∀ y,((relabel scope X.env).names.lookup y = some .cell ∨ (relabel scope X.env).names.lookup y = some .free)→∃ c,cl.lookup y = some c):(X.inc N' scope cl fp s2 H2 C).Ok where
 mod:=I.ok.mod
 kind:=hk
 glob:=I.ok.glob
 blt:=I.ok.blt
 above:=hC
 inj:=fun x y c h1 h2 => I.ok.inj x y c (hcl x c h1) (hcl y c h2)
 has:=fun y hy => hhas y hy
 cab:=fun x c h => by cases h
 hd:=I.ok.hd
 frames:=I.ok.frames
 stk:=.inl rfl
 exf:=fun b hb => ⟨Nat.ne_of_lt (Nat.lt_of_lt_of_le (hfp b hb) hC),fun x c e => (hf b hb).2.2.2.2.1 x c (hcl x c e)⟩
 bs:=I.bs
 bsz:=Nat.le_trans I.ok.bsz I.sz
 noex:=fun b o e hb => by
  rcases (hf b hb).2.2.2.1 with z | z
  ·exact I.ok.noex b o e z
  ·exact absurd (Nat.lt_of_lt_of_le (Nat.lt_of_lt_of_le (Heap.lt_size e) I.ok.bsz) z) (Nat.lt_irrefl _)
 exfs:=fun b hb hm => by
  rcases List.mem_cons.mp (I.stkSub b hm) with z | z
  ·exact (hf b hb).2.1 z
  ·exact (hf b hb).2.2.1 z
 funs:=I.stack
 frf:=I.stkFree
def JaA (cs:List (Nat × Str)) (σ : St):St:=cs.map fun p => (σ[p.1]?).join
theorem Inv.capsLoc {s4:Shared} {m:Str→Option Value} {own:List Str} {cs:List (Nat × Str)} (I:Inv X pins σ H2 s2) (ok:(X.inc (own ++ cs.map (·.2)) scope cl fp s2 H2 C).Ok) (kept:∀ c v,(∃ x,cl.lookup x = some c)→s2.heap.IsCell c v→s4.heap.IsCell c v)
  (hcl:∀ x c,cl.lookup x = some c→X.env.cells.lookup x = some c) (hcs:∀ p ∈ cs,X.N[p.1]? = some p.2∧X.env.scope.names.lookup p.2 = some .cell∧(relabel scope X.env).names.lookup p.2 = some .cell) :
  ∀ (i:Nat) (x:Str) (v:V),(own ++ cs.map (·.2))[i]? = some x→(List.replicate own.length none ++ JaA cs σ)[i]? = some (some v)→∃ u,RelV v u∧Look (compEnvC scope cl C X.env) s4.heap m x u:=fun i x v h1 h2 => by
  by_cases hi:i < own.length
  ·rw [List.getElem?_append_left (by simpa using hi),List.getElem?_replicate,if_pos hi] at h2
   cases h2
  ·have h2':(JaA cs σ)[i - own.length]? = some (some v):=by rw [List.getElem?_append_right (by simp; omega)] at h2; simpa using h2
   have h1':(cs.map (·.2))[i - own.length]? = some x:=by
    rwa [List.getElem?_append_right (by omega)] at h1
   unfold JaA at h2'
   rw [List.getElem?_map] at h1' h2'
   cases q:cs[i - own.length]? with
   | none => rw [q] at h1'; cases h1'
   | some p =>
    rw [q] at h1' h2'
    obtain rfl:p.2 = x:=by simpa using h1'
    have e2:(σ[p.1]?).join = some v:=by simpa using h2'
    have e2' : σ[p.1]? = some (some v):=by
     cases z : σ[p.1]? with
     | none => rw [z] at e2; cases e2
     | some o => rw [z] at e2; exact congrArg some e2
    obtain ⟨c1,c2,c3⟩:=hcs p (List.mem_of_getElem? q)
    obtain ⟨m0,_,hl⟩:=I.loc
    obtain ⟨u,ru,lk⟩:=hl p.1 p.2 v c1 e2' (.inr (.inl c2))
    refine ⟨u,ru, .inr ⟨.inl c3, ?_⟩⟩
    obtain ⟨c,hc⟩:=ok.has p.2 (.inl c3)
    refine ⟨c,hc, ?_⟩
    rcases lk with ⟨k,_⟩ | ⟨_,c',e',hcell⟩
    ·have k:X.env.scope.names.lookup p.2 = some .local:=k
     rw [c2] at k; cases k
    ·rw [hcl _ _ hc] at e'
     cases e'
     exact kept _ _ ⟨_,hc⟩ hcell
theorem Inv.incStart {s4:Shared} {m:Str→Option Value} {own:List Str} {cs:List (Nat × Str)} (I:Inv X pins σ H2 s2) (ok:(X.inc (own ++ cs.map (·.2)) scope cl fp s2 H2 C).Ok) (kept:∀ b o,s2.heap.get? b = some o→s4.heap.get? b = some o) (hos:s4.os = s2.os) (hg:s4.gens = s2.gens) (hm:s4.heap.Ns C m)
  (hC:s2.heap.objs.size ≤ C) (hcl:∀ x c,cl.lookup x = some c→X.env.cells.lookup x = some c)
  (hcs:∀ p ∈ cs,X.N[p.1]? = some p.2∧X.env.scope.names.lookup p.2 = some .cell∧(relabel scope X.env).names.lookup p.2 = some .cell) :
  Inv (X.inc (own ++ cs.map (·.2)) scope cl fp s2 H2 C) [] (List.replicate own.length none ++ JaA cs σ) H2 s4 where
 ok:=ok
 os:=hos
 bare:=by rw [hg]; exact I.bare
 base:=Un.kept kept
 loc:=⟨m,hm,fun i x v h1 h2 _ => I.capsLoc (m:=m) ok (fun c v _ ⟨o,ho,hd⟩ => ⟨o,kept _ _ ho,hd⟩) hcl hcs i x v h1 h2⟩
 cell:=fun x c e => by
  obtain ⟨v,o,ho,hd⟩:=I.cell x c (hcl x c e)
  exact ⟨v,o,kept _ _ ho,hd⟩
 free:=I.hok.fresh hC
 freeC:=fun x c e => I.freeC x c (hcl x c e)
 pin:=fun p hp => by simp at hp
 hok:=I.hok.kept kept
 len:=by simp [JaA]
theorem Inv.incAgain {s':Shared} {H':Hp} {σ':St} {pl:List (Addr × Obj)} {own:List Str} {cs:List (Nat × Str)} (I:Inv X pins σ H2 s2) (J:Inv (X.inc (own ++ cs.map (·.2)) scope cl fp s2 H2 C) pl σ' H' s')
  (hf:∀ b ∈ fp,FpOk X pins H2 b) (hcl:∀ x c,cl.lookup x = some c→X.env.cells.lookup x = some c) (hcs:∀ p ∈ cs,X.N[p.1]? = some p.2∧X.env.scope.names.lookup p.2 = some .cell∧(relabel scope X.env).names.lookup p.2 = some .cell) :
  Inv (X.inc (own ++ cs.map (·.2)) scope cl fp s2 H2 C) [] (List.replicate own.length none ++ JaA cs σ) H' s' where
 ok:=J.ok
 os:=J.os
 bare:=J.bare
 base:=J.base
 loc:=by
  obtain ⟨m,hm,_⟩:=J.loc
  refine ⟨m,hm,fun i x v h1 h2 _ => I.capsLoc (m:=m) J.ok (fun c v ⟨x,hx⟩ ⟨o,ho,hd⟩ => ?_) hcl hcs i x v h1 h2⟩
  have nf:c ∉ fp:=fun z => (hf c z).2.2.2.2.1 x c (hcl x c hx) rfl
  by_cases hm:c ∈ frs X.stack
  ·obtain ⟨sl,z⟩:=J.base.slot c o ho (I.freeC x c (hcl x c hx)) hm nf
   exact ⟨_,z,hd⟩
  ·exact ⟨o,J.base.keep c o ho (I.freeC x c (hcl x c hx)) hm nf,hd⟩
 cell:=J.cell
 free:=J.free
 freeC:=J.freeC
 pin:=fun p hp => by simp at hp
 hok:=J.hok
 len:=by simp [JaA]
end
section
variable {prog:Program} {w:World} {A:Around} {E:Value→Shared→Prop} {R:Result→Shared→Prop} {s:Shared}
theorem JdE {elt target iter:Expr} {scope:Scope} {pos:Pos} {it acc:Value} {env:Env} (J:Nat→Shared→Prop)
  (turn:∀ n s,J n s→wpAny (model prog w) A (pyNext it) (fun r s1 => match r with
   | none => R (.ok .next) s1
   | some v => wpAny (model prog w) A (letOwnedTupleGo target it v) (fun _ s2 => wpAny (model prog w) A (assign target env v) (fun _ s3 => wpAny (model prog w) A (eval elt env) (fun x s4 =>
     wpAny (model prog w) A (call (.builtin "list.append") [acc,x]) (fun _ s5 => ∃ m,m < n∧J m s5) (fun _ _ => False) s4) (fun _ _ => False) s3) (fun _ _ => False) s2) (fun _ _ => False) s1) (fun _ _ => False) s) (n:Nat) (h:J n s) :
  codeAny (model prog w) A (.compLoop (.ListComp elt [⟨target,iter,[],0⟩] scope pos) 0 it acc env) R s:=by
 refine codeAny_loop rfl J (fun n s hJ => ?_) n h
 show wpAny _ A ((compTurn (.ListComp elt [⟨target,iter,[],0⟩] scope pos) 0 it acc env).onRaise (fun y => do noteFrame y env; theTreesLotGoes y)) _ _ s
 (refine wpAny_noted ?_; rw [compTurn_list])
 refine wpAny_bind (wpAny_standAt (wpAny_bind (wpAny_mono (turn n s hJ) (fun r s1 q1 => ?_) fun _ _ z => z.elim)))
 cases r with
 | none => exact wpAny_pure q1
 | some v =>
  refine wpAny_bind (wpAny_mono q1 (fun _ s2 q2 => wpAny_bind (wpAny_mono q2 (fun _ s3 q3 => ?_) fun _ _ z => z.elim)) fun _ _ z => z.elim)
  refine wpAny_bind (wpAny_tests_nil ?_)
  exact wpAny_bind (wpAny_bind (wpAny_mono q3 (fun x s4 q4 => (wpAny_bind (wpAny_mono q4 (fun _ s5 q5 => (wpAny_pure (wpAny_pure ⟨rfl,q5⟩))) fun _ _ z => z.elim))) fun _ _ z => z.elim))
end
def tComp (k:Nat) (cs:List (Nat × Str)) (wi:TI) (g:TG) (te:TE):TE:=fun σ H Q => wi σ H fun J H1 => ∃ W:Nat→Nat→List V→Hp→Prop,(∃ m,W 0 m [] H1)∧∀ i m ys H2,W i m ys H2→ys.length ≤ sizeLine ∧
  ((J.stop i H2∧∀ p,H2 p = none→Q (.ref p) (upd H2 p (.lst ys))) ∨
   (J.go i H2∧∀ x H3,J.yld i H2 x H3→g x (List.replicate k none ++ JaA cs σ) H3 fun σ4 H4 => te σ4 H4 fun y H5 => ∃ m',m' < m∧W (i + 1) m' (ys ++ [y]) H5))
theorem lstP {us:List Value} {v:Value}:(us.toArray.push v) = (us ++ [v]).toArray:=by simp
section
variable {X:Cx} {tg:Expr}
theorem Jed {iter elt:Expr} {scope:Scope} {pos:Pos} {own:List Str} {cl:List (Str × Addr)} {cs:List (Nat × Str)} {wi:TI} {g:TG} {te:TE} (hc:X.calm = true) (hi:PI X tg iter wi)
  (hg:∀ fp s2 H2 C,PG (X.inc (own ++ cs.map (·.2)) scope cl fp s2 H2 C) tg g) (he:∀ fp s2 H2 C,PE (X.inc (own ++ cs.map (·.2)) scope cl fp s2 H2 C) elt te)
  (hclos:closureFor scope X.env = pure cl) (hcell:∀ y ∈ scope.names,y.2 ≠ .cell) (hkind:scope.kind = .function) (hnames:∀ y ∈ scope.names,y.2 = .local→scope.names.lookup y.1 = some .local)
  (hcl:∀ x c,cl.lookup x = some c→X.env.cells.lookup x = some c) (hhas:∀ y,((relabel scope X.env).names.lookup y = some .cell ∨ (relabel scope X.env).names.lookup y = some .free)→∃ c,cl.lookup y = some c)
  (hcs:∀ p ∈ cs,X.N[p.1]? = some p.2∧X.env.scope.names.lookup p.2 = some .cell∧(relabel scope X.env).names.lookup p.2 = some .cell)
  (hs:∀ x,foldedSetIterable iter X.env x = pure x:=by intro _; rfl):PE X (.ListComp elt [⟨tg,iter,[],0⟩] scope pos) (tComp own.length cs wi g te):=by
 intro pins s σ H Q I h
 rw [eval_ListComp]
 refine wpAny_comprehension_free (use:=none) rfl hs hclos hkind hnames (thn (hi pins s σ H _ I h) fun v s1 h1 => thn h1 fun itv s2 h2 => ?_)
 obtain ⟨it,fp,tn,J,H2,rfl,I2,T,st2,f2,W,⟨m0,w0⟩,turn⟩:=h2
 have hfp:∀ b ∈ fp,b < s2.heap.objs.size:=fun b hb => by
  obtain ⟨o,e,_⟩:=T.obj _ _ st2 b hb
  exact Heap.lt_size e
 refine wpAny_newObj_type (wpAny_newFunctionEnv hcell (by intro y hy; simp at hy) (fun h4 hns4 hsb4 => ?_) hkind)
 dsimp only at hns4 hsb4 ⊢
 generalize hH3:s2.heap.push { cls:=.type "list",dict:=none,data:=.seq ([]:List Value).toArray } = H3 at hns4 hsb4 ⊢
 have hCs:H3.objs.size = s2.heap.objs.size + 1:=by rw [← hH3,Heap.size_push]
 have hC:s2.heap.objs.size ≤ H3.objs.size:=by omega
 have hDC:s2.heap.objs.size ≠ H3.objs.size:=by omega
 have old:∀ b o,s2.heap.get? b = some o→h4.get? b = some o:=fun b o e => hsb4.extBut b o (by have:=Heap.lt_size e; exact Nat.ne_of_lt (Nat.lt_of_lt_of_le this hC)) (Heap.get?_push_of_some _ (hH3 ▸ Heap.get?_push_of_some _ e))
 have hD4:h4.get? s2.heap.objs.size = some { cls:=.type "list",data:=.seq ([]:List Value).toArray }:=hsb4.extBut _ _ hDC (Heap.get?_push_of_some _ (hH3 ▸ Heap.get?_push_size _ rfl))
 obtain ⟨D,hDe⟩:∃ D,D = s2.heap.objs.size:=⟨_,rfl⟩
 obtain ⟨C,hCe⟩:∃ C,C = H3.objs.size:=⟨_,rfl⟩
 rw [← hCe] at hCs hns4 hsb4 hC hDC ⊢
 rw [← hDe] at hfp hCs hC hDC hD4 ⊢
 have ok':=I2.incOk (N':=own ++ cs.map (·.2)) (C:=C) f2 (fun b hb => by rw [← hDe]; exact hfp b hb) hkind (by rw [← hDe]; exact hC) hcl hhas
 have I4:Inv (X.inc (own ++ cs.map (·.2)) scope cl fp s2 H2 C) [] (List.replicate own.length none ++ JaA cs σ) H2 { s2 with heap:=h4,toks:=s2.toks + ([]:List (Str × Value)).length } :=
  I2.incStart (s4:={ s2 with heap:=h4,toks:=s2.toks + ([]:List (Str × Value)).length }) ok' old rfl rfl hns4 (by rw [← hDe]; exact hC) hcl hcs
 have Dfree:H2 D = none:=I2.hok.fresh (Nat.le_of_eq hDe.symm)
 have ltD:∀ b o,s2.heap.get? b = some o→b ≠ D:=fun b o e => by
  rw [hDe]
  exact Nat.ne_of_lt (Heap.lt_size e)
 have ltC:∀ b o,s2.heap.get? b = some o→b ≠ C:=fun b o e => Nat.ne_of_lt (Nat.lt_of_lt_of_le (by rw [hDe]; exact Heap.lt_size e) hC)
 have Dfs:D ∉ frs X.stack:=fun hm => by
  obtain ⟨_,o,e,_⟩:=I2.stack.mem hm
  exact ltD _ _ e rfl
 have pinD:∀ {σ':St} {H':Hp} {s':Shared} {us:List Value} {n:Nat} {pl:List (Addr × Obj)},Inv (X.inc (own ++ cs.map (·.2)) scope cl fp s2 H2 C) pl σ' H' s'→s'.heap.get? D = some { cls:=.type "list",data:=.seq us.toArray n }→H' D = none →
   Inv (X.inc (own ++ cs.map (·.2)) scope cl fp s2 H2 C) [(D,{ cls:=.type "list",data:=.seq us.toArray n })] σ' H' s':=fun {σ' H' s' us n pl} J' e n' => J'.pins_of fun p hp => by
  rcases List.mem_singleton.mp hp with rfl
  exact ⟨e,n',hDC,Dfs,fun v z => by cases z⟩
 have fpok:∀ {H':Hp} {o:Obj},(∀ b ∈ fp,H' b = none)→∀ b ∈ fp,FpOk (X.inc (own ++ cs.map (·.2)) scope cl fp s2 H2 C) [(D,o)] H' b:=fun {H' o} hn b hb => by
  refine ⟨hn b hb,(ok'.exf b hb).1,ok'.exfs b hb, .inl hb,(ok'.exf b hb).2,fun p hp => ?_⟩
  rcases List.mem_singleton.mp hp with rfl
  exact Nat.ne_of_gt (hfp b hb)
 have loop:∀ s3:Shared,s3 = { s2 with heap:=h4,toks:=s2.toks + ([]:List (Str × Value)).length } →
   codeAny (model X.prog X.w) X.A (.compLoop (.ListComp elt [⟨tg,iter,[],0⟩] scope pos) 0 (.ref it) (.ref D) (compEnvC scope cl C X.env)) (compPost (model X.prog X.w) X.A X.xe none (EP X pins σ Q) (.ref D) C) s3:=by
  rintro s3 rfl
  refine JdE (fun n s' => ∃ i ys us nn H',Inv (X.inc (own ++ cs.map (·.2)) scope cl fp s2 H2 C) [(D,{ cls:=.type "list",data:=.seq us.toArray nn })] (List.replicate own.length none ++ JaA cs σ) H' s'∧tn i s'.heap∧(∀ b ∈ fp,H' b = none)∧Vals ys us∧W i n ys H') ?_ m0
   ⟨0,[],[],0,H2,pinD (us:=[]) (n:=0) I4 hD4 Dfree,T.keep _ _ _ st2 fun b hb o e => old b o e,fun b hb => (f2 b hb).1, .nil,w0⟩
  rintro n s5 ⟨i,ys,us,nn,H5,I5,st5,fr5,vy,w5⟩
  obtain ⟨hz,⟨stop,qn⟩ | ⟨go,step⟩⟩:=turn i n ys H5 w5
  ·refine wpAny_mono (T.done (X.inc (own ++ cs.map (·.2)) scope cl fp s2 H2 C) rfl rfl rfl hc i _ s5 _ H5 (fun _ _ => False) I5 (fpok fr5) st5 stop) (fun r s6 z => ?_) fun _ _ z => z
   obtain ⟨rfl,I6⟩:=z
   obtain ⟨m6,hn6,_⟩:=id I6.loc
   refine ⟨m6,hn6,fun h7 hs7 => ?_⟩
   obtain ⟨pD,pN,_,_,_⟩:=I6.pin (D,{ cls:=.type "list",data:=.seq us.toArray nn }) (by simp)
   have same:∀ b,b ≠ C→h7.get? b = s6.heap.get? b:=fun b hb => hs7.2 b hb
   have lt2:=ltC
   have u7:Un (frs X.stack) fp H2 H5 s2.heap h7:=⟨fun b o e n1 n2 n3 => (same b (lt2 b o e)).trans (I6.base.keep b o e n1 n2 n3),fun b o e n1 n2 n3 => by
     obtain ⟨sl,z⟩:=I6.base.slot b o e n1 n2 n3
     exact ⟨sl,(same b (lt2 b o e)).trans z⟩,I6.base.free,fun b o e n1 => by
     obtain ⟨o',z⟩:=I6.base.there b o e n1
     exact ⟨o',(same b (lt2 b o e)).trans z⟩,I6.base.tups,I6.base.frzs,I6.base.tbls⟩
   have Cfree:H5 C = none:=I6.free
   have hok7:HOk X.prog X.w H5 h7:=fun a o e => by
    refine (I6.hok a o e).stay (fun c v hcc q => (same c ?_).trans q) (fun _ q => q) fun _ _ q => q
    rintro rfl
    rcases hcc with z | z
    ·rw [← z] at e; rw [Cfree] at e; cases e
    ·rw [Cfree] at z; cases z
   have I7:Inv X pins σ H5 { s6 with heap:=h7 }:=I2.call' (s':={ s6 with heap:=h7 }) I6.os u7 hok7 I6.bare fun b hb => ⟨(f2 b hb).2.2.2.1,(f2 b hb).2.1,(f2 b hb).2.2.2.2.1,(f2 b hb).2.2.2.2.2⟩
   have I8:=I7.track (a:=D) (o:=.lst ys) pN (Heap.get?_none_of_le (by rw [hDe]; exact I2.sz)) (by rw [hDe]; exact Nat.ne_of_gt I2.lt) (fun x c e z => by
     obtain ⟨v,o,ho,_⟩:=I2.cell x c e
     exact ltD _ _ ho z) (fun p hp z => ltD _ _ (I2.pin p hp).1 z) ⟨hz,us,nn,vy,(same D hDC).trans pD⟩
   exact ⟨.ref D,_,I8,rfl,qn D pN⟩
  ·refine wpAny_mono (T.item (X.inc (own ++ cs.map (·.2)) scope cl fp s2 H2 C) rfl rfl rfl hc i _ s5 _ H5 (fun _ _ => False) I5 (fpok fr5) st5 go) (fun r s6 z => ?_) fun _ _ z => z
   obtain ⟨u,rfl,z⟩:=z
   refine wpAny_mono z (fun _ s7 ⟨x,H7,I7,r7,y7,st7,fr7⟩ => ?_) fun _ _ z => z
   have I7':=I7.pinned (fpok fr7) (T.obj _ _ st7)
   refine wpAny_mono (hg fp s2 H2 C _ s7 _ H7 x u _ I7' r7 (step x H7 y7)) (fun _ s8 ⟨σ8,H8,I8,q8⟩ => ?_) fun _ _ z => z
   refine wpAny_mono (he fp s2 H2 C _ s8 σ8 H8 _ I8 q8) (fun uy s9 ⟨y,H9,I9,r9,m',hm',w9⟩ => ?_) fun _ _ z => z
   obtain ⟨pD,pN,_,_,_⟩:=I9.pin (D,{ cls:=.type "list",data:=.seq us.toArray nn }) (by simp)
   refine append_at (its:=us.toArray) (n:=nn) pD (fun h10 hs10 hD10 => ?_) (by rw [List.size_toArray, ← vy.length]; exact hz)
   have keepfp:∀ b ∈ fp, ∀ o,s7.heap.get? b = some o→s9.heap.get? b = some o∧H9 b = none:=fun b hb o e => by
    have z:=I9.pin (b,o) (List.mem_append_right _ (List.mem_append_right _ (Jbv hb e)))
    exact ⟨z.1,z.2.1⟩
   have I9':Inv (X.inc (own ++ cs.map (·.2)) scope cl fp s2 H2 C) [] (List.replicate own.length none ++ JaA cs σ) H9 s9:=I2.incAgain I9 f2 hcl hcs
   have I10:Inv (X.inc (own ++ cs.map (·.2)) scope cl fp s2 H2 C) [] (List.replicate own.length none ++ JaA cs σ) H9 { s9 with heap:=h10 }:=I9'.turned (it:=D) (t':=s9.toks) (fun b o hb e => (hs10.2 b hb).trans e) pN hDC (.inr (Nat.le_of_eq hDe.symm)) (fun x c e z => by
     obtain ⟨v,o,ho,_⟩:=I2.cell x c (hcl x c e)
     exact ltD _ _ ho z) fun p hp => by simp at hp
   rw [lstP] at hD10
   refine ⟨m',hm',i + 1,ys ++ [y],us ++ [uy],nn + 1,H9,pinD I10 hD10 pN,T.keep _ _ _ st7 fun b hb o e => ?_,fun b hb => ?_,vy.append (.cons r9 .nil),w9⟩
   ·exact (hs10.2 b (Nat.ne_of_lt (hfp b hb))).trans (keepfp b hb o e).1
   ·obtain ⟨o,e,_⟩:=T.obj _ _ st7 b hb
    exact (keepfp b hb o e).2
 exact codeAny_compStart_list (loop _ rfl) (T.self _ 0 _ _ _ (T.keep _ _ _ st2 fun b hb o e => old b o e) (loop _ rfl))
end
end L2
namespace L2
open PySem PySem.Spec PyProof.Rows
section
variable {X:Cx}
def rInU (K:PySem.W.Frag):R2:=fun x y H Q => match x,y with
 | .str i, .str j => Q (.bl (!(Builtin.Str.occurrences j i 0 j.length 1).isEmpty)) H
 | x,y => rIn K false x y H Q
theorem JhW:OpR X (compareOp .In) (rInU X.K):=fun pins s σ H x y v u Q I rx ry q => by
 unfold rInU at q
 split at q
 ·exact JgV pins s σ H _ _ v u Q I rx ry ⟨_,_,rfl,rfl,q⟩
 ·exact JgU pins s σ H _ _ v u Q I rx ry q
theorem Jje {K:PySem.W.Frag} (hK:X.K = K):OpR X (compareOp .In) (rInU K):=hK ▸ JhW
theorem ix_UK {K:PySem.W.Frag} (hK:X.K = K):IxR X (rIxU K):=hK ▸ ix_U
theorem Jjd {K:PySem.W.Frag} (hK:X.K = K) (hu:X.A.units + 64 < cLine):OpR X (compareOp .Eq) (rEqU K):=hK ▸ JbG hu
theorem Jjg {K:PySem.W.Frag} (hK:X.K = K) (hu:X.A.units + 64 < cLine):OpR X (compareOp .NotEq) (rNeU K):=hK ▸ Jci hu
theorem y5ay {K:PySem.W.Frag} {i j:Str} {H:Hp} {Q:VK}:rInU K (.str i) (.str j) H Q = Q (.bl (!(Builtin.Str.occurrences j i 0 j.length 1).isEmpty)) H:=rfl
theorem all_range:∀ bs:List Bool,(List.range bs.length).all (fun i => bs.getD i false) = bs.all id:=fun bs => by
 rw [Bool.eq_iff_iff]
 simp only [List.all_eq_true,List.mem_range,id]
 constructor
 ·intro h x hx
  obtain ⟨i,hi,rfl⟩:=List.mem_iff_getElem.mp hx
  have:=h i hi
  simpa [List.getD_eq_getElem?_getD,hi] using this
 ·intro h i hi
  have:=h bs[i] (List.getElem_mem hi)
  simpa [List.getD_eq_getElem?_getD,hi] using this
def rAll (K:PySem.W.Frag):List V→Hp→VK→Prop:=fun xs H Q => ∃ (p:Addr) (bs:List Bool),xs = [.ref p]∧SqL K H p (bs.map V.bl)∧Q (.bl (bs.all id)) H
theorem Jgp (hc:X.calm = true):CallR X (.builtin "all") (rAll X.K):=fun pins s σ H xs us Q I r q => by
 obtain ⟨p,bs,rfl,hL,q⟩:=q
 obtain ⟨its,rv,pl,hz⟩:=I.list hL
 obtain ⟨u,rfl,ru⟩:=vals1 r
 cases (show u = Value.ref p from ru)
 refine call_all_walk (wpAny_pyIter_list pl.isList ?_)
 have hlt:p < s.heap.objs.size:=by
  obtain ⟨_,e,_⟩:=pl.isList
  exact Heap.lt_size e
 refine ⟨s.heap.objs.size,_,_,its.toArray.size,_,_,fun i => bs.getD i false,rfl,Walks.list (by show X.A.handled = none; exact I.ok.hd hc) s.heap.objs.size p (Nat.ne_of_lt hlt) its.toArray,⟨⟨_,Heap.get?_push_size _ rfl,rfl,rfl⟩,pl.isList.push _⟩, ?_, ?_⟩
 ·intro i v s' Q' E' hv hQ
  have hv':its[i]? = some v:=by simpa using hv
  have hi:i < bs.length:=by
   obtain ⟨hl,_⟩:=List.getElem?_eq_some_iff.mp hv'
   have l:=rv.length
   rw [List.length_map] at l
   omega
  obtain ⟨v',e1,e2⟩:=rv.get (i:=i) (x:=.bl bs[i]) (by simp [hi])
  rw [hv'] at e1
  cases e1
  cases (show v = Value.bool bs[i] from e2)
  refine wpAny_truthy_bool ?_
  simpa [List.getD_eq_getElem?_getD,hi] using hQ
 ·intro h' tk k
  have l:=rv.length
  rw [List.length_map] at l
  have ea:(List.range its.toArray.size).all (fun i => bs.getD i false) = bs.all id:=by rw [List.size_toArray, ← l]; exact all_range bs
  rw [ea]
  exact ⟨.bl _,H,I.kept (t':=tk) fun b ob e => k b ob (by have:=Heap.lt_size e; simp; exact Nat.ne_of_lt this) (Heap.get?_push_of_some _ e),rfl,q⟩
end
theorem hcl0 {X:Cx}:∀ (x:Str) (c:Addr),([]:List (Str × Addr)).lookup x = some c→X.env.cells.lookup x = some c:=fun _ _ h => by simp at h
theorem hcs0 {X:Cx} {scope:Scope}:∀ p ∈ ([]:List (Nat × Str)),X.N[p.1]? = some p.2∧X.env.scope.names.lookup p.2 = some .cell∧(relabel scope X.env).names.lookup p.2 = some .cell:=fun _ h => by simp at h
theorem hhas0 {X:Cx} {scope:Scope} (h:scope.names.all (fun p => p.2 != .free && p.2 != .cell) = true):∀ y,((relabel scope X.env).names.lookup y = some .cell ∨ (relabel scope X.env).names.lookup y = some .free)→∃ c,([]:List (Str × Addr)).lookup y = some c:=fun y hy => by
 exfalso
 have h':=List.all_eq_true.mp h
 have go:∀ k,(relabel scope X.env).names.lookup y = some k→k ≠ .cell∧k ≠ .free:=fun k e => by
  have m:=PySem.mem_of_lookup e
  obtain ⟨⟨n,k'⟩,hm,e'⟩:=List.mem_map.mp (show (y,k) ∈ scope.names.map _ from m)
  have z:=h' _ hm
  simp only [bne_iff_ne,ne_eq,Bool.and_eq_true] at z
  have e2:(if (k' == NameKind.free && X.env.scope.kind == .function && X.env.kindOf n == some .cell) = true then (n,NameKind.cell) else (n,k')) = (y,k):=e'
  split at e2
  ·rename_i c
   rw [Bool.and_eq_true,Bool.and_eq_true] at c
   exact absurd (beq_iff_eq.mp c.1.1) z.1
  ·cases e2
   exact ⟨z.2,z.1⟩
 rcases hy with hy | hy
 ·exact (go _ hy).1 rfl
 ·exact (go _ hy).2 rfl
def tyD:D→String
 | .non => "NoneType"
 | .bl _ => "bool"
 | .int _ => "int"
 | .str _ => "str"
 | .tup _ => "tuple"
 | .lst _ => "list"
theorem Rep.tyN {K:PySem.W.Frag} {H:Hp} {d:D} {x:V} (h:Rep K H d x):L2.tyN K H x (tyD d):=by
 cases d <;> simp only [Rep] at h
 ·subst h; rfl
 ·subst h; rfl
 ·subst h; rfl
 ·subst h; rfl
 ·obtain ⟨a,xs,rfl,q,_⟩:=h; exact .inr ⟨rfl,xs,q⟩
 ·obtain ⟨a,xs,rfl,q,_⟩:=h; exact .inl ⟨rfl,xs,q⟩
mutual
def szD:D→Prop
 | .int i => Mth.Sz 4000 i
 | .str s => s.length ≤ 1000
 | .tup xs => szL xs
 | .lst xs => szL xs
 | _ => True
def szL:List D→Prop
 | [] => True
 | x :: xs => szD x∧szL xs
end
def lowB (c:Nat):Bool:=decide (97 ≤ c∧c ≤ 122)
def nameS (s:Str):Bool:=(decide (1 ≤ s.length) && decide (s.length ≤ 8)) && s.cps.toList.all lowB
def nameB:D→Bool
 | .str s => nameS s
 | _ => false
def JbJ:D→Bool
 | .int _ => true
 | _ => false
def fracB:D→Bool
 | .tup [.int a, .int b] => decide (1 ≤ b) && decide (Mth.g a b = 1)
 | _ => false
def Jcf:D→Bool
 | .non => true
 | d => fracB d
def Jcg (d e:D):Bool:=nameB d && nameB e && !eqD d e
def lessD:D→D→Bool
 | .tup [.int a, .int b], .tup [.int c, .int d] => decide (a * d < c * b)
 | _,_ => false
def JdU (l g:D):Bool:=Jcf l && Jcf g && !lessD g l
def tieB:D→Bool
 | .tup [n,s,e,l,g] => nameB n && Jcg s e && JdU l g
 | _ => false
theorem Jf0:(Str.ofString "abcdefghijklmnopqrstuvwxyz").cps.toList = List.range' 97 26:=by decide
theorem JfY (c:Nat):(!(Builtin.Str.occurrences (Str.ofString "abcdefghijklmnopqrstuvwxyz") ⟨#[c]⟩ 0 (Str.ofString "abcdefghijklmnopqrstuvwxyz").length 1).isEmpty) = lowB c:=by
 rw [StrLaws.found_one,Jf0]
 unfold lowB
 congr 1
 rw [List.mem_range']
 refine propext ⟨fun ⟨i,hi,e⟩ => by omega,fun h => ⟨c - 97,by omega,by omega⟩⟩
end L2
namespace L2
open PySem PySem.Spec PyProof.Rows
structure KCal (P:Program) (w:World) (K:PySem.W.Frag) (mg:Str→Option Value) (base:Heap) (k:Nat) (x:Str) (C:Addr) (ps:List Str) (sp:Sp):Prop where
 ex:∃ (f:Addr) (fd:FuncData),FnOk P w K mg base (CX1 P w) k f fd ps sp∧mg x = some (.ref C)∧Mk K C f∧Binds K fd ps []
structure MCal (P:Program) (w:World) (K:PySem.W.Frag) (mg:Str→Option Value) (base:Heap) (k:Nat) (m:Str) (Cs:Addr→Prop) (ps:List Str) (sp:Sp):Prop where
 ex:∃ (f:Addr) (fd:FuncData),FnOk P w K mg base (CX1 P w) k f fd ps sp∧(∀ C,Cs C→Cls K C∧Meth K C m f)∧PySem.W.keepIn K (.ref f) = true∧Binds K fd ps []
def Jhf (Cs:Addr→Prop) (m:Str) (sp:Sp) (E:XK) (ta:TE) (t:TA):TE:=fun σ H Q => ta σ H fun x H1 => ∃ a C dx fs,x = .ref a∧H1 a = some (.ins C dx fs)∧Cs C∧fs.lookup m = none∧t σ H1 fun vs H2 => sp (x :: vs) H2 Q E
section
variable {X:Cx} {k k':Nat} {x mn:Str} {C:Addr} {Cs:Addr→Prop} {ps:List Str} {sp:Sp} {E:XK} {p pos apos:Pos} {e o:Expr} {es:List Expr} {t:TA} {ta:TE}
theorem KCal.ev (G:KCal X.prog X.w X.K X.mg X.base k x C ps sp) (hr:Room k' X.A) (hk:k + 1 ≤ k') (hg:Gl X x) (hx:JbC (CX1 X.prog X.w) X E) (ha:PA X (e :: es) t)
  (hdb:(x == ("__debug__" : Str)) = false:=by decide) (he:starEach (e :: es) X.env = (false,eval e X.env) :: starEach es X.env:=by rfl) (hpl:(backTo pos (starEach es X.env)).any (·.1) = false:=by rfl) :
  PE X (.Call (.Name x p) (e :: es) [] pos) (tMake C sp [] E t):=by
 obtain ⟨f,fd,F,hm,M,hb⟩:=G.ex
 exact JiC M F (hr.mono hk) hg hm hb .nil hx ha hdb he hpl
theorem MCal.m {pl:Sem Bool} (G:MCal X.prog X.w X.K X.mg X.base k mn Cs ps sp) (hr:Room k' X.A) (hk:k ≤ k') (hx:JbC (CX1 X.prog X.w) X E) (ho:PE X o ta) (ha:PA X (e :: es) t)
  (hst:starEach (e :: es) X.env = (false,eval e X.env) :: starEach es X.env:=by rfl) (hpl:(backTo pos (starEach es X.env)).any (·.1) = false:=by rfl)
  (ht:eval (.Call (.Attribute o mn apos) (e :: es) [] pos) X.env = (do
   let ov ← eval o X.env
   standAt apos.atName
   let (f,first) ← holding [ov] (getMethod ov mn pl)
   callWith pos f first (backTo pos (starEach (e :: es) X.env)) (backToKw pos (keywordEach [] X.env))):=by rfl) :
  PE X (.Call (.Attribute o mn apos) (e :: es) [] pos) (Jhf Cs mn sp E ta t):=by
 obtain ⟨f,fd,F,hm,kp,hb⟩:=G.ex
 intro pins s σ H Q I h
 refine PySem.W.methodCall_KW (pl:=pl) (thn (ho pins s σ H _ I h) fun u s1 ⟨x,H1,I1,rx,a,C,dx,fs,ex,ea,hC,l,q⟩ => ?_) ht
 subst ex
 obtain rfl:u = Value.ref a:=rx
 refine JdJ I1 ea (hm C hC).1 (hm C hC).2 l ?_
 refine PySem.W.callWith_K (first:=[.ref a]) (h₀:=X.base) I.ok.mod.kin kp (thn (ha pos pins s1 σ H1 _ I1 q) fun us s2 ⟨vs,H2,I2,r,q2⟩ => ⟨I2.kIn, ?_⟩) hst hpl
 exact JfN (us:=.ref a :: us) (vs:=.ref a :: vs) F (hr.mono hk) hb .nil hx I2 (.cons rfl r) (by simpa using q2)
theorem MCal.m0 {pl:Sem Bool} (G:MCal X.prog X.w X.K X.mg X.base k mn Cs ps sp) (hr:Room k' X.A) (hk:k ≤ k') (hx:JbC (CX1 X.prog X.w) X E) (ho:PE X o ta)
  (ht:eval (.Call (.Attribute o mn apos) [] [] pos) X.env = (do
   let ov ← eval o X.env
   standAt apos.atName
   let (f,first) ← holding [ov] (getMethod ov mn pl)
   callWith pos f first (backTo pos (starEach [] X.env)) (backToKw pos (keywordEach [] X.env))):=by rfl) :
  PE X (.Call (.Attribute o mn apos) [] [] pos) (Jhf Cs mn sp E ta tNil):=by
 obtain ⟨f,fd,F,hm,kp,hb⟩:=G.ex
 intro pins s σ H Q I h
 refine PySem.W.methodCall_KW (pl:=pl) (thn (ho pins s σ H _ I h) fun u s1 ⟨x,H1,I1,rx,a,C,dx,fs,ex,ea,hC,l,q⟩ => ?_) ht
 subst ex
 obtain rfl:u = Value.ref a:=rx
 refine JdJ I1 ea (hm C hC).1 (hm C hC).2 l ?_
 exact PySem.W.callWith_K0 (first:=[.ref a]) I1.kIn kp (JfN (us:=[.ref a]) (vs:=[.ref a]) F (hr.mono hk) hb .nil hx I1 (.cons rfl .nil) (show sp ([.ref a] ++ []) H1 Q E from q))
def rMulS:R2:=fun x y H Q => match x,y with
 | .str z, .int n => 0 < n∧n < 1000∧z.length ≤ 1000∧∀ z':Str,z'.cps.toList = (List.replicate n.toNat z.cps.toList).flatten→Q (.str z') H
 | x,y => rMulU x y H Q
theorem JdW:∀ (l:List (Array Nat)) (acc:Array Nat),(l.foldl (· ++ ·) acc).toList = acc.toList ++ (l.map (·.toList)).flatten
 | [],acc => by simp
 | x :: l,acc => by
  rw [List.foldl_cons,JdW l]
  simp
theorem JgW:OpR X (binaryOp .Mult) rMulS:=fun pins s σ H x y v u Q I rx ry q => by
 unfold rMulS at q
 split at q
 ·rename_i z n
  obtain ⟨h0,h1,h2,q⟩:=q
  obtain ⟨t,rfl⟩:=rx
  obtain ⟨t',rfl⟩:=ry
  have hz:z.cps.size = z.length:=rfl
  have big:z.length * n.toNat ≤ 1000 * 1000:=Nat.mul_le_mul h2 (by omega)
  refine PySem.P.mul_str (by simp; omega) (fun _ _ => ?_) (fun _ _ => ?_) ?_
  ·have : (1000:Int) ≤ (2 ^ 63 - 1) / n:=by
    rw [Int.le_ediv_iff_mul_le h0]
    omega
   omega
  ·unfold Builtin.Str.tooLong
   simp
   have : (1000 * 1000:Nat) ≤ sizeLine:=by decide
   omega
  ·rw [if_neg (by omega)]
   split
   ·rename_i c
    refine ⟨.str z,H,I,⟨_,rfl⟩,q z ?_⟩
    rcases Bool.or_eq_true _ _ |>.mp c with c | c
    ·obtain rfl:n = 1:=by simpa using c
     simp
    ·have e:z.cps.toList = []:=by
      have : z.length = 0:=by simpa using c
      exact List.eq_nil_of_length_eq_zero (by rw [Array.length_toList]; exact this)
     rw [e]
     simp
   ·refine ⟨?_, .str _,H,I.tok _,⟨_,rfl⟩,q _ ?_⟩
    ·show (Array.size _) ≤ sizeLine
     rw [← Array.length_toList,JdW]
     simp
     have : (1000 * 1000:Nat) ≤ sizeLine:=by decide
     rw [Nat.mul_comm,hz]
     omega
    ·rw [JdW]
     simp
 ·exact Jix pins s σ H _ _ v u Q I rx ry q
def rIsN:R2:=fun x y H Q => y = .non∧Q (.bl (decide (x = .non))) H
def rNotN:R2:=fun x y H Q => y = .non∧Q (.bl (!decide (x = .non))) H
theorem Jeb:OpR X (compareOp .Is) rIsN:=Jjf
theorem Jec:OpR X (compareOp .IsNot) rNotN:=Jiy
def Jjo (K:PySem.W.Frag):List V→Hp→VK→Prop:=fun xs H Q => ∃ p ys,xs = [.ref p]∧(SqL K H p ys ∨ SqT K H p ys)∧∀ l,H l = none→Q (.ref l) (upd H l (.lst ys))
theorem JdB:CallR X (.type "list") (Jjo X.K):=Jew
end
section
variable {K:PySem.W.Frag} {H:Hp} {Q:VK}
theorem y5dy {x:V}:rIsN x .non H Q = Q (.bl (decide (x = .non))) H:=by simp [rIsN]
theorem y73y {x:V}:rNotN x .non H Q = Q (.bl (!decide (x = .non))) H:=by simp [rNotN]
theorem y63y {C:Addr} {sp:Sp} {dvs:List V} {E:XK} {t:TA} {σ : St}:tMake C sp dvs E t σ H Q = t σ H fun vs H1 => ∀ x dx,H1 x = none→H1 dx = none→dx ≠ x→sp (.ref x :: (vs ++ dvs)) (upd (upd H1 dx (.own x)) x (.ins C dx [])) (fun v H2 => v = .non∧Q (.ref x) H2) E:=rfl
theorem y64y {Cs:Addr→Prop} {mn:Str} {sp:Sp} {E:XK} {ta:TE} {t:TA} {σ : St}:Jhf Cs mn sp E ta t σ H Q = ta σ H fun x H1 => ∃ a C dx fs,x = .ref a∧H1 a = some (.ins C dx fs)∧Cs C∧fs.lookup mn = none∧t σ H1 fun vs H2 => sp (x :: vs) H2 Q E:=rfl
theorem y4ay {ta:TE} {f:Str} {σ : St}:tFld K ta f σ H Q = ta σ H fun x H1 => ∃ a C dx fs v,x = .ref a∧H1 a = some (.ins C dx fs)∧Cls K C∧JaW K C f∧fs.lookup f = some v∧Q v H1:=rfl
theorem y81y {ta tv:TE} {f:Str} {σ : St} {En:Ends}:sFld K ta tv f En σ H = tv σ H fun y H1 => ta σ H1 fun x H2 => ∃ a C dx fs,x = .ref a∧H2 a = some (.ins C dx fs)∧Cls K C∧JaW K C f∧fs.length < 1000∧En.nx σ (upd H2 a (.ins C dx (putF f y fs))):=rfl
theorem y2by {T:String} {r:V→List V→Hp→VK→Prop} {to:TE} {t:TA} {σ : St}:tBM K T r to t σ H Q = to σ H fun x H1 => tyV K T x H1∧t σ H1 fun vs H2 => r x vs H2 Q:=rfl
theorem y54y {g:TG} {gs:TGs} {v:V} {r:List V} {σ : St} {R:St→Hp→Prop}:gCons g gs (v :: r) σ H R = g v σ H fun σ' H' => gs r σ' H' R:=by
 unfold gCons
 refine propext ⟨fun ⟨v',r',e,h⟩ => ?_,fun h => ⟨v,r,rfl,h⟩⟩
 cases e
 exact h
theorem y56y {σ : St} {R:St→Hp→Prop}:gNil [] σ H R = R σ H:=by unfold gNil; simp
theorem FrV.of_rep {x:V} {a b:Int} (h:Rep K H (.tup [.int a, .int b]) x):FrV K H x a b:=by
 simp only [Rep,RepL] at h
 obtain ⟨p,xs,rfl,q,v,r,rfl,rfl,v',r',rfl,rfl,rfl⟩:=h
 exact ⟨p,rfl,q⟩
theorem JcC {d:D} (h:fracB d = true):∃ a b,d = .tup [.int a, .int b]∧1 ≤ b∧Mth.g a b = 1:=by
 unfold fracB at h
 split at h
 ·rw [Bool.and_eq_true] at h
  exact ⟨_,_,rfl,by simpa using h.1,by simpa using h.2⟩
 ·cases h
theorem JdN {d:D} (h:nameB d = true):∃ z,d = .str z∧nameS z = true:=by
 cases d <;> first | exact ⟨_,rfl,h⟩ | (simp [nameB] at h)
theorem Rep.str {d:Str} {x:V} (h:Rep K H (.str d) x):x = .str d:=by simpa only [Rep] using h
def nonD:D→Bool
 | .non => true
 | _ => false
theorem JgP {d:D} (h:d ≠ .non):nonD d = false:=by cases d <;> first | rfl | exact absurd rfl h
theorem Rep.nonV {d:D} {x:V} (hx:Rep K H d x):decide (x = .non) = nonD d:=by
 cases d <;> simp only [Rep] at hx
 ·subst hx; rfl
 ·subst hx; rfl
 ·subst hx; rfl
 ·subst hx; rfl
 ·obtain ⟨a,xs,rfl,_⟩:=hx; rfl
 ·obtain ⟨a,xs,rfl,_⟩:=hx; rfl
theorem putE {H':Hp} {l:Addr} {o:HO} (e:upd H l o = H'):H' l = some o:=by rw [← e,Jak]
end
end L2
namespace L2
open PySem PySem.Spec PyProof.Rows
section
variable {En:Ends} {σ : St} {H:Hp} {Q:VK} {ta tb te tc td:TE} {K:PySem.W.Frag}
end
end L2
namespace L2
open PySem PySem.Spec PyProof.Rows
def Jbj (cells:List (Str × Addr)):List (Str × NameKind)→List (Str × Addr)→List (Str × Addr)
 | [],acc => acc
 | (n,k) :: r,acc => Jbj cells r (if k == .free then (n,(cells.lookup n).getD 0) :: acc else acc)
theorem JeX {env:Env}:∀ (names:List (Str × NameKind)) (acc:List (Str × Addr)),(∀ p ∈ names,p.2 = .free→∃ c,env.cells.lookup p.1 = some c) →
  (forIn names acc fun (p:Str × NameKind) cs => (if p.2 == .free then do let c ← cellOf env p.1; pure (ForInStep.yield ((p.1,c) :: cs)) else pure (ForInStep.yield cs):Sem (ForInStep (List (Str × Addr))))) = (pure (Jbj env.cells names acc):Sem (List (Str × Addr)))
 | [],acc,_ => by simp [Jbj]
 | (n,k) :: r,acc,h => by
  rw [List.forIn_cons]
  by_cases c:(k == .free) = true
  ·obtain ⟨a,ha⟩:=h (n,k) List.mem_cons_self (beq_iff_eq.mp c)
   have e:cellOf env n = pure a:=by unfold cellOf; rw [ha]
   simp only [c,if_true,e,pure_bind]
   have:=JeX (env:=env) r ((n,a) :: acc) fun p hp => h p (List.mem_cons_of_mem _ hp)
   simp only [Jbj,c,if_true,ha,Option.getD_some]
   exact this
  ·have c':(k == .free) = false:=by simpa using c
   simp only [c',Bool.false_eq_true,if_false,pure_bind]
   have:=JeX (env:=env) r acc fun p hp => h p (List.mem_cons_of_mem _ hp)
   simp only [Jbj,c',Bool.false_eq_true,if_false]
   exact this
theorem JeW {scope:Scope} {env:Env} (h:∀ p ∈ scope.names,p.2 = .free→∃ c,env.cells.lookup p.1 = some c):closureFor scope env = pure (Jbj env.cells scope.names []):=by
 have:=JeX (env:=env) scope.names [] h
 unfold closureFor
 simp only [pure_bind]
 refine Eq.trans ?_ (congrArg (fun m:Sem (List (Str × Addr)) => m >>= pure) this |>.trans (by simp))
 first | rfl | (congr 1)
theorem Jcb {cells:List (Str × Addr)}:∀ (names:List (Str × NameKind)) (acc:List (Str × Addr)),(∀ x c,acc.lookup x = some c→cells.lookup x = some c)→(∀ p ∈ names,p.2 = .free→∃ c,cells.lookup p.1 = some c) →
  ∀ x c,(Jbj cells names acc).lookup x = some c→cells.lookup x = some c
 | [],acc,ha,_,x,c,h => ha x c h
 | (n,k) :: r,acc,ha,hf,x,c,h => by
  simp only [Jbj] at h
  refine Jcb r _ ?_ (fun p hp => hf p (List.mem_cons_of_mem _ hp)) x c h
  intro y d hy
  by_cases f:(k == .free) = true
  ·rw [if_pos f] at hy
   obtain ⟨a,e⟩:=hf (n,k) List.mem_cons_self (beq_iff_eq.mp f)
   rw [List.lookup_cons] at hy
   by_cases q:(y == n) = true
   ·rw [q] at hy
    have q':y = n:=beq_iff_eq.mp q
    subst q'
    have e':cells.lookup y = some a:=e
    rw [e'] at hy ⊢
    simpa using hy
   ·have q':(y == n) = false:=by simpa using q
    rw [q'] at hy
    exact ha y d hy
  ·rw [if_neg f] at hy
   exact ha y d hy
theorem Jca {cells:List (Str × Addr)}:∀ (names:List (Str × NameKind)) (acc:List (Str × Addr)) (y:Str),((∃ c,acc.lookup y = some c) ∨ (y,NameKind.free) ∈ names)→∃ c,(Jbj cells names acc).lookup y = some c
 | [],acc,y,h => by
  rcases h with h | h
  ·exact h
  ·simp at h
 | (n,k) :: r,acc,y,h => by
  simp only [Jbj]
  refine Jca r _ y ?_
  rcases h with ⟨c,h⟩ | h
  ·refine .inl ?_
   split
   ·rw [List.lookup_cons]
    cases (y == n)
    ·exact ⟨c,h⟩
    ·exact ⟨_,rfl⟩
   ·exact ⟨c,h⟩
  ·rcases List.mem_cons.mp h with e | h
   ·cases e
    refine .inl ?_
    rw [if_pos (by decide),List.lookup_cons]
    simp
   ·exact .inr h
section
variable {X:Cx} {tg:Expr}
theorem JfA {scope sc:Scope} (h:scope.names.all (fun p => p.2 != .free || (sc.names.lookup p.1 == some .cell)) = true):∀ p ∈ scope.names,p.2 = .free→sc.names.lookup p.1 = some .cell:=fun p hp hk => by
 have z:=List.all_eq_true.mp h p hp
 rw [hk] at z
 simpa using z
end
theorem hcs1 {X:Cx} {scope:Scope} {i:Nat} {x:Str} (a:X.N[i]? = some x) (b:X.env.scope.names.lookup x = some .cell) (c:(relabel scope X.env).names.lookup x = some .cell) :
  ∀ p ∈ [(i,x)],X.N[p.1]? = some p.2∧X.env.scope.names.lookup p.2 = some .cell∧(relabel scope X.env).names.lookup p.2 = some .cell:=fun p hp => by
 rcases List.mem_singleton.mp hp with rfl
 exact ⟨a,b,c⟩
theorem hcs2 {X:Cx} {scope:Scope} {i j:Nat} {x y:Str} (a:X.N[i]? = some x) (b:X.env.scope.names.lookup x = some .cell) (c:(relabel scope X.env).names.lookup x = some .cell)
  (a':X.N[j]? = some y) (b':X.env.scope.names.lookup y = some .cell) (c':(relabel scope X.env).names.lookup y = some .cell) :
  ∀ p ∈ [(i,x),(j,y)],X.N[p.1]? = some p.2∧X.env.scope.names.lookup p.2 = some .cell∧(relabel scope X.env).names.lookup p.2 = some .cell:=fun p hp => by
 rcases List.mem_cons.mp hp with rfl | hp
 ·exact ⟨a,b,c⟩
 ·rcases List.mem_singleton.mp hp with rfl
  exact ⟨a',b',c'⟩
end L2
namespace L2
open PySem PySem.Spec PyProof.Rows
section
variable {X:Cx} {tg:Expr}
theorem JfV {iter elt:Expr} {scope:Scope} {pos:Pos} {own:List Str} {cl:List (Str × Addr)} {cs:List (Nat × Str)} {g:TG} {te:TE} {pins:List (Addr × Obj)} {s2:Shared} {σ : St} {H2:Hp} {it:Addr} {fp:List Addr} {tn:Nat→Heap→Prop} {J:It}
  {W:Nat→Nat→List V→Hp→Prop} {m0:Nat} {QN:List V→Hp→Prop} {RR:Value→Addr→Result→Shared→Prop} {E:Value→Shared→Prop} (hc:X.calm = true)
  (hg:∀ fp s2 H2 C,PG (X.inc (own ++ cs.map (·.2)) scope cl fp s2 H2 C) tg g) (he:∀ fp s2 H2 C,PE (X.inc (own ++ cs.map (·.2)) scope cl fp s2 H2 C) elt te)
  (hcell:∀ y ∈ scope.names,y.2 ≠ .cell) (hkind:scope.kind = .function)
  (hcl:∀ x c,cl.lookup x = some c→X.env.cells.lookup x = some c) (hhas:∀ y,((relabel scope X.env).names.lookup y = some .cell ∨ (relabel scope X.env).names.lookup y = some .free)→∃ c,cl.lookup y = some c)
  (hcs:∀ p ∈ cs,X.N[p.1]? = some p.2∧X.env.scope.names.lookup p.2 = some .cell∧(relabel scope X.env).names.lookup p.2 = some .cell)
  (I2:Inv X pins σ H2 s2) (T:Turn X.prog X.w X.K tg J fp it tn) (st2:tn 0 s2.heap) (f2:∀ b ∈ fp,FpOk X pins H2 b) (w0:W 0 m0 [] H2)
  (turn:∀ i m ys H2,W i m ys H2→ys.length ≤ sizeLine∧((J.stop i H2∧QN ys H2) ∨ (J.go i H2∧∀ x H3,J.yld i H2 x H3→g x (List.replicate own.length none ++ JaA cs σ) H3 fun σ4 H4 => te σ4 H4 fun y H5 => ∃ m',m' < m∧W (i + 1) m' (ys ++ [y]) H5)))
  (hRR:∀ (D C:Addr) (s6:Shared) (H5:Hp) (ys:List V),(∀ h7,Heap.SameBut C s6.heap h7→Inv X pins σ (upd H5 D (.lst ys)) { s6 with heap:=h7 })→H5 D = none→H5 C = none→D ≠ C→(∃ m,s6.heap.Ns C m)→s2.heap.objs.size ≤ C→QN ys H5→RR (.ref D) C (.ok .next) s6) :
  wpAny (model X.prog X.w) X.A (newList []) (fun acc s₃ => wpAny (model X.prog X.w) X.A (newFunctionEnv scope X.env.globals cl [] X.env.qual none .none (some X.env)) (fun cenv s₄ =>
   codeAny (model X.prog X.w) X.A (.compStart (.ListComp elt [⟨tg,iter,[],0⟩] scope pos) 0 (.ref it) acc { cenv with scope:=relabel scope X.env }) (RR acc cenv.locals) s₄) E s₃) E s2:=by
 have hfp:∀ b ∈ fp,b < s2.heap.objs.size:=fun b hb => by
  obtain ⟨o,e,_⟩:=T.obj _ _ st2 b hb
  exact Heap.lt_size e
 refine wpAny_newObj_type (wpAny_newFunctionEnv hcell (by intro y hy; simp at hy) (fun h4 hns4 hsb4 => ?_) hkind)
 dsimp only at hns4 hsb4 ⊢
 generalize hH3:s2.heap.push { cls:=.type "list",dict:=none,data:=.seq ([]:List Value).toArray } = H3 at hns4 hsb4 ⊢
 have hCs:H3.objs.size = s2.heap.objs.size + 1:=by rw [← hH3,Heap.size_push]
 have hC:s2.heap.objs.size ≤ H3.objs.size:=by omega
 have hDC:s2.heap.objs.size ≠ H3.objs.size:=by omega
 have old:∀ b o,s2.heap.get? b = some o→h4.get? b = some o:=fun b o e => hsb4.extBut b o (by have:=Heap.lt_size e; exact Nat.ne_of_lt (Nat.lt_of_lt_of_le this hC)) (Heap.get?_push_of_some _ (hH3 ▸ Heap.get?_push_of_some _ e))
 have hD4:h4.get? s2.heap.objs.size = some { cls:=.type "list",data:=.seq ([]:List Value).toArray }:=hsb4.extBut _ _ hDC (Heap.get?_push_of_some _ (hH3 ▸ Heap.get?_push_size _ rfl))
 obtain ⟨D,hDe⟩:∃ D,D = s2.heap.objs.size:=⟨_,rfl⟩
 obtain ⟨C,hCe⟩:∃ C,C = H3.objs.size:=⟨_,rfl⟩
 rw [← hCe] at hCs hns4 hsb4 hC hDC ⊢
 rw [← hDe] at hfp hCs hC hDC hD4 ⊢
 have ok':=I2.incOk (N':=own ++ cs.map (·.2)) (C:=C) f2 (fun b hb => by rw [← hDe]; exact hfp b hb) hkind (by rw [← hDe]; exact hC) hcl hhas
 have I4:Inv (X.inc (own ++ cs.map (·.2)) scope cl fp s2 H2 C) [] (List.replicate own.length none ++ JaA cs σ) H2 { s2 with heap:=h4,toks:=s2.toks + ([]:List (Str × Value)).length } :=
  I2.incStart (s4:={ s2 with heap:=h4,toks:=s2.toks + ([]:List (Str × Value)).length }) ok' old rfl rfl hns4 (by rw [← hDe]; exact hC) hcl hcs
 have Dfree:H2 D = none:=I2.hok.fresh (Nat.le_of_eq hDe.symm)
 have ltD:∀ b o,s2.heap.get? b = some o→b ≠ D:=fun b o e => by
  rw [hDe]
  exact Nat.ne_of_lt (Heap.lt_size e)
 have ltC:∀ b o,s2.heap.get? b = some o→b ≠ C:=fun b o e => Nat.ne_of_lt (Nat.lt_of_lt_of_le (by rw [hDe]; exact Heap.lt_size e) hC)
 have Dfs:D ∉ frs X.stack:=fun hm => by
  obtain ⟨_,o,e,_⟩:=I2.stack.mem hm
  exact ltD _ _ e rfl
 have pinD:∀ {σ':St} {H':Hp} {s':Shared} {us:List Value} {n:Nat} {pl:List (Addr × Obj)},Inv (X.inc (own ++ cs.map (·.2)) scope cl fp s2 H2 C) pl σ' H' s'→s'.heap.get? D = some { cls:=.type "list",data:=.seq us.toArray n }→H' D = none →
   Inv (X.inc (own ++ cs.map (·.2)) scope cl fp s2 H2 C) [(D,{ cls:=.type "list",data:=.seq us.toArray n })] σ' H' s':=fun {σ' H' s' us n pl} J' e n' => J'.pins_of fun p hp => by
  rcases List.mem_singleton.mp hp with rfl
  exact ⟨e,n',hDC,Dfs,fun v z => by cases z⟩
 have fpok:∀ {H':Hp} {o:Obj},(∀ b ∈ fp,H' b = none)→∀ b ∈ fp,FpOk (X.inc (own ++ cs.map (·.2)) scope cl fp s2 H2 C) [(D,o)] H' b:=fun {H' o} hn b hb => by
  refine ⟨hn b hb,(ok'.exf b hb).1,ok'.exfs b hb, .inl hb,(ok'.exf b hb).2,fun p hp => ?_⟩
  rcases List.mem_singleton.mp hp with rfl
  exact Nat.ne_of_gt (hfp b hb)
 have loop:∀ s3:Shared,s3 = { s2 with heap:=h4,toks:=s2.toks + ([]:List (Str × Value)).length } →
   codeAny (model X.prog X.w) X.A (.compLoop (.ListComp elt [⟨tg,iter,[],0⟩] scope pos) 0 (.ref it) (.ref D) (compEnvC scope cl C X.env)) (RR (.ref D) C) s3:=by
  rintro s3 rfl
  refine JdE (fun n s' => ∃ i ys us nn H',Inv (X.inc (own ++ cs.map (·.2)) scope cl fp s2 H2 C) [(D,{ cls:=.type "list",data:=.seq us.toArray nn })] (List.replicate own.length none ++ JaA cs σ) H' s'∧tn i s'.heap∧(∀ b ∈ fp,H' b = none)∧Vals ys us∧W i n ys H') ?_ m0
   ⟨0,[],[],0,H2,pinD (us:=[]) (n:=0) I4 hD4 Dfree,T.keep _ _ _ st2 fun b hb o e => old b o e,fun b hb => (f2 b hb).1, .nil,w0⟩
  rintro n s5 ⟨i,ys,us,nn,H5,I5,st5,fr5,vy,w5⟩
  obtain ⟨hz,⟨stop,qn⟩ | ⟨go,step⟩⟩:=turn i n ys H5 w5
  ·refine wpAny_mono (T.done (X.inc (own ++ cs.map (·.2)) scope cl fp s2 H2 C) rfl rfl rfl hc i _ s5 _ H5 (fun _ _ => False) I5 (fpok fr5) st5 stop) (fun r s6 z => ?_) fun _ _ z => z
   obtain ⟨rfl,I6⟩:=z
   obtain ⟨m6,hn6,_⟩:=id I6.loc
   obtain ⟨pD,pN,_,_,_⟩:=I6.pin (D,{ cls:=.type "list",data:=.seq us.toArray nn }) (by simp)
   have Cfree:H5 C = none:=I6.free
   refine hRR D C s6 H5 ys (fun h7 hs7 => ?_) pN Cfree hDC ⟨m6,hn6⟩ (by rw [← hDe]; exact hC) qn
   have same:∀ b,b ≠ C→h7.get? b = s6.heap.get? b:=fun b hb => hs7.2 b hb
   have lt2:=ltC
   have u7:Un (frs X.stack) fp H2 H5 s2.heap h7:=⟨fun b o e n1 n2 n3 => (same b (lt2 b o e)).trans (I6.base.keep b o e n1 n2 n3),fun b o e n1 n2 n3 => by
     obtain ⟨sl,z⟩:=I6.base.slot b o e n1 n2 n3
     exact ⟨sl,(same b (lt2 b o e)).trans z⟩,I6.base.free,fun b o e n1 => by
     obtain ⟨o',z⟩:=I6.base.there b o e n1
     exact ⟨o',(same b (lt2 b o e)).trans z⟩,I6.base.tups,I6.base.frzs,I6.base.tbls⟩
   have hok7:HOk X.prog X.w H5 h7:=fun a o e => by
    refine (I6.hok a o e).stay (fun c v hcc q => (same c ?_).trans q) (fun _ q => q) fun _ _ q => q
    rintro rfl
    rcases hcc with z | z
    ·rw [← z] at e; rw [Cfree] at e; cases e
    ·rw [Cfree] at z; cases z
   have I7:Inv X pins σ H5 { s6 with heap:=h7 }:=I2.call' (s':={ s6 with heap:=h7 }) I6.os u7 hok7 I6.bare fun b hb => ⟨(f2 b hb).2.2.2.1,(f2 b hb).2.1,(f2 b hb).2.2.2.2.1,(f2 b hb).2.2.2.2.2⟩
   exact I7.track (a:=D) (o:=.lst ys) pN (Heap.get?_none_of_le (by rw [hDe]; exact I2.sz)) (by rw [hDe]; exact Nat.ne_of_gt I2.lt) (fun x c e z => by
     obtain ⟨v,o,ho,_⟩:=I2.cell x c e
     exact ltD _ _ ho z) (fun p hp z => ltD _ _ (I2.pin p hp).1 z) ⟨hz,us,nn,vy,(same D hDC).trans pD⟩
  ·refine wpAny_mono (T.item (X.inc (own ++ cs.map (·.2)) scope cl fp s2 H2 C) rfl rfl rfl hc i _ s5 _ H5 (fun _ _ => False) I5 (fpok fr5) st5 go) (fun r s6 z => ?_) fun _ _ z => z
   obtain ⟨u,rfl,z⟩:=z
   refine wpAny_mono z (fun _ s7 ⟨x,H7,I7,r7,y7,st7,fr7⟩ => ?_) fun _ _ z => z
   have I7':=I7.pinned (fpok fr7) (T.obj _ _ st7)
   refine wpAny_mono (hg fp s2 H2 C _ s7 _ H7 x u _ I7' r7 (step x H7 y7)) (fun _ s8 ⟨σ8,H8,I8,q8⟩ => ?_) fun _ _ z => z
   refine wpAny_mono (he fp s2 H2 C _ s8 σ8 H8 _ I8 q8) (fun uy s9 ⟨y,H9,I9,r9,m',hm',w9⟩ => ?_) fun _ _ z => z
   obtain ⟨pD,pN,_,_,_⟩:=I9.pin (D,{ cls:=.type "list",data:=.seq us.toArray nn }) (by simp)
   refine append_at (its:=us.toArray) (n:=nn) pD (fun h10 hs10 hD10 => ?_) (by rw [List.size_toArray, ← vy.length]; exact hz)
   have keepfp:∀ b ∈ fp, ∀ o,s7.heap.get? b = some o→s9.heap.get? b = some o∧H9 b = none:=fun b hb o e => by
    have z:=I9.pin (b,o) (List.mem_append_right _ (List.mem_append_right _ (Jbv hb e)))
    exact ⟨z.1,z.2.1⟩
   have I9':Inv (X.inc (own ++ cs.map (·.2)) scope cl fp s2 H2 C) [] (List.replicate own.length none ++ JaA cs σ) H9 s9:=I2.incAgain I9 f2 hcl hcs
   have I10:Inv (X.inc (own ++ cs.map (·.2)) scope cl fp s2 H2 C) [] (List.replicate own.length none ++ JaA cs σ) H9 { s9 with heap:=h10 }:=I9'.turned (it:=D) (t':=s9.toks) (fun b o hb e => (hs10.2 b hb).trans e) pN hDC (.inr (Nat.le_of_eq hDe.symm)) (fun x c e z => by
     obtain ⟨v,o,ho,_⟩:=I2.cell x c (hcl x c e)
     exact ltD _ _ ho z) fun p hp => by simp at hp
   rw [lstP] at hD10
   refine ⟨m',hm',i + 1,ys ++ [y],us ++ [uy],nn + 1,H9,pinD I10 hD10 pN,T.keep _ _ _ st7 fun b hb o e => ?_,fun b hb => ?_,vy.append (.cons r9 .nil),w9⟩
   ·exact (hs10.2 b (Nat.ne_of_lt (hfp b hb))).trans (keepfp b hb o e).1
   ·obtain ⟨o,e,_⟩:=T.obj _ _ st7 b hb
    exact (keepfp b hb o e).2
 exact codeAny_compStart_list (loop _ rfl) (T.self _ 0 _ _ _ (T.keep _ _ _ st2 fun b hb o e => old b o e) (loop _ rfl))
theorem Je2 {X:Cx} {scope:Scope} (hcell:∀ y ∈ scope.names,y.2 ≠ .cell) {y:Str} (hy:(relabel scope X.env).names.lookup y = some .cell ∨ (relabel scope X.env).names.lookup y = some .free):(y,NameKind.free) ∈ scope.names:=by
 have go:∀ k,(k = .cell ∨ k = .free)→(relabel scope X.env).names.lookup y = some k→(y,NameKind.free) ∈ scope.names:=fun k hk e => by
  have m:=PySem.mem_of_lookup e
  obtain ⟨⟨n,k'⟩,hm,e'⟩:=List.mem_map.mp (show (y,k) ∈ scope.names.map _ from m)
  have e2:(if (k' == NameKind.free && X.env.scope.kind == .function && X.env.kindOf n == some .cell) = true then (n,NameKind.cell) else (n,k')) = (y,k):=e'
  split at e2
  ·rename_i c
   rw [Bool.and_eq_true,Bool.and_eq_true] at c
   have:=beq_iff_eq.mp c.1.1
   subst this
   cases e2
   exact hm
  ·cases e2
   rcases hk with rfl | rfl
   ·exact absurd rfl (hcell _ hm)
   ·exact hm
 rcases hy with hy | hy
 ·exact go _ (.inl rfl) hy
 ·exact go _ (.inr rfl) hy
theorem Jgc {iter elt:Expr} {scope:Scope} {pos spos py:Pos} {y:Str} {j:Nat} {own:List Str} {cs:List (Nat × Str)} {wi:TI} {g:TG} {te:TE} (hN:X.N.Nodup) (hj:X.N[j]? = some y) (hy:Loc X.env.scope y) (hc:X.calm = true) (hi:PI X tg iter wi)
  (hg:∀ fp s2 H2 C,PG (X.inc (own ++ cs.map (·.2)) scope (Jbj X.env.cells scope.names []) fp s2 H2 C) tg g) (he:∀ fp s2 H2 C,PE (X.inc (own ++ cs.map (·.2)) scope (Jbj X.env.cells scope.names []) fp s2 H2 C) elt te)
  (hfree:∀ p ∈ scope.names,p.2 = .free→X.env.scope.names.lookup p.1 = some .cell) (hcell:∀ y ∈ scope.names,y.2 ≠ .cell) (hkind:scope.kind = .function) (hnames:∀ y ∈ scope.names,y.2 = .local→scope.names.lookup y.1 = some .local)
  (hcs:∀ p ∈ cs,X.N[p.1]? = some p.2∧X.env.scope.names.lookup p.2 = some .cell∧(relabel scope X.env).names.lookup p.2 = some .cell)
  (hsw:swapsWith (.ListComp elt [⟨tg,iter,[],0⟩] scope pos) (some (.Name y py)) spos.line X.env = pure true:=by rfl)
  (hs:∀ x,foldedSetIterable iter X.env x = pure x:=by intro _; rfl) (hf:X.fn y = true ∨ X.env.scope.names.lookup y = some .local:=by first | exact .inl rfl | exact .inr rfl) :
  PS X (.Assign [.Name y py] (.ListComp elt [⟨tg,iter,[],0⟩] scope pos) spos) (tAsg (tComp own.length cs wi g te) (gName j)):=by
 intro pins s σ H D I h
 have hfr:∀ p ∈ scope.names,p.2 = .free→∃ c,X.env.cells.lookup p.1 = some c:=fun p hp hk => I.ok.has p.1 (.inl (hfree p hp hk))
 have hcl:=Jcb (cells:=X.env.cells) scope.names [] (fun _ _ z => by simp at z) hfr
 rw [exec_Assign_Name_used _ _ _ _ hsw]
 refine wpAny_bind (wpAny_standAt (wpAny_bind ?_))
 show wpAny _ X.A (do let _ ← comprehension (.ListComp elt [⟨tg,iter,[],0⟩] scope pos) scope X.env _ (newList []) false (eval iter X.env) (some (assign (.Name y py) X.env))) _ _ s
 refine wpAny_bind (wpAny_mono (wpAny_comprehension_free (use:=some (assign (.Name y py) X.env)) (Q:=fun _ s' => SP X pins D .next s') rfl hs (JeW hfr) hkind hnames
  (thn (hi pins s σ H _ I h) fun v s1 h1 => thn h1 fun itv s2 h2 => ?_)) (fun _ s' hq => wpAny_pure (wpAny_pure hq)) fun _ _ e => e)
 obtain ⟨it,fp,tn,J,H2,rfl,I2,T,st2,f2,W,⟨m0,w0⟩,turn⟩:=h2
 refine JfV (QN:=fun ys H5 => ∀ p,H5 p = none→D.nx (σ.set j (some (.ref p))) (upd H5 p (.lst ys))) hc hg he hcell hkind hcl (fun z hz => Jca scope.names [] z (.inr (Je2 hcell hz))) hcs I2 T st2 f2 w0 turn ?_
 intro D' C s6 H5 ys inv dN cN dc hm hC q
 obtain ⟨m6,hn6⟩:=hm
 have I8:Inv X pins σ (upd H5 D' (.lst ys)) s6:=inv s6.heap (Heap.SameBut.refl _ _)
 show wpAny _ X.A (assign (.Name y py) X.env (.ref D')) _ _ s6
 refine wpAny_assign_Name (Jdt (v:=.ref D') I8 hN hj hy rfl (fun s7 I7 hsb => ?_) hf)
 obtain ⟨a,sb,ha⟩:=hsb
 have nC:C ≠ a:=by
  rcases ha with rfl | ha
  ·exact Nat.ne_of_gt (Nat.lt_of_lt_of_le I2.lt hC)
  ·obtain ⟨v,o,ho,_⟩:=I2.cell y a ha
   exact Nat.ne_of_gt (Nat.lt_of_lt_of_le (Heap.lt_size ho) hC)
 refine ⟨m6,hn6.sameBut sb nC,fun h8 hs8 => ⟨_,_, ?_,q D' dN⟩⟩
 exact I7.turned (it:=C) (t':=s7.toks) (fun b o hb e => (hs8.2 b hb).trans e) (by rw [Jah (Ne.symm dc)]; exact cN) (Nat.ne_of_gt (Nat.lt_of_lt_of_le I2.lt hC)) (.inr (Nat.le_trans I2.sz hC)) (fun x c e z => by
  obtain ⟨v,o,ho,_⟩:=I2.cell x c e
  exact absurd (Nat.lt_of_lt_of_le (Heap.lt_size ho) hC) (by rw [z]; exact Nat.lt_irrefl _)) (fun p hp z => absurd (Nat.lt_of_lt_of_le (Heap.lt_size (I2.pin p hp).1) hC) (by rw [z]; exact Nat.lt_irrefl _))
end
end L2
namespace L2
open PySem PySem.Spec PyProof.Rows
section
variable {prog:Program} {w:World} {A:Around} {E:Value→Shared→Prop} {R:Result→Shared→Prop} {s:Shared}
theorem JeY {elt target iter tst:Expr} {scope:Scope} {pos:Pos} {it acc:Value} {env:Env} (J:Nat→Shared→Prop)
  (turn:∀ n s,J n s→wpAny (model prog w) A (pyNext it) (fun r s1 => match r with
   | none => R (.ok .next) s1
   | some v => wpAny (model prog w) A (letOwnedTupleGo target it v) (fun _ s2 => wpAny (model prog w) A (assign target env v) (fun _ s3 => wpAny (model prog w) A (isTrue tst env (eval tst env)) (fun b s3' => if b = true then wpAny (model prog w) A (eval elt env) (fun x s4 =>
     wpAny (model prog w) A (call (.builtin "list.append") [acc,x]) (fun _ s5 => ∃ m,m < n∧J m s5) (fun _ _ => False) s4) (fun _ _ => False) s3' else ∃ m,m < n∧J m s3') (fun _ _ => False) s3) (fun _ _ => False) s2) (fun _ _ => False) s1) (fun _ _ => False) s) (n:Nat) (h:J n s) :
  codeAny (model prog w) A (.compLoop (.ListComp elt [⟨target,iter,[tst],0⟩] scope pos) 0 it acc env) R s:=by
 refine codeAny_loop rfl J (fun n s hJ => ?_) n h
 show wpAny _ A ((compTurn (.ListComp elt [⟨target,iter,[tst],0⟩] scope pos) 0 it acc env).onRaise (fun y => do noteFrame y env; theTreesLotGoes y)) _ _ s
 (refine wpAny_noted ?_; rw [compTurn_list])
 refine wpAny_bind (wpAny_standAt (wpAny_bind (wpAny_mono (turn n s hJ) (fun r s1 q1 => ?_) fun _ _ z => z.elim)))
 cases r with
 | none => exact wpAny_pure q1
 | some v =>
  refine wpAny_bind (wpAny_mono q1 (fun _ s2 q2 => wpAny_bind (wpAny_mono q2 (fun _ s3 q3 => ?_) fun _ _ z => z.elim)) fun _ _ z => z.elim)
  refine wpAny_bind (wpAny_tests_one (wpAny_mono q3 (fun b s3' q3' => ?_) fun _ _ z => z.elim))
  cases b with
  | true => exact wpAny_bind (wpAny_bind (wpAny_mono q3' (fun x s4 q4 => (wpAny_bind (wpAny_mono q4 (fun _ s5 q5 => (wpAny_pure (wpAny_pure ⟨rfl,q5⟩))) fun _ _ z => z.elim))) fun _ _ z => z.elim))
  | false => exact wpAny_bind (wpAny_pure (wpAny_pure ⟨rfl,q3'⟩))
end
def Jhd (k:Nat) (cs:List (Nat × Str)) (wi:TI) (g:TG) (tt:TT) (te:TE):TE:=fun σ H Q => wi σ H fun J H1 => ∃ W:Nat→Nat→List V→Hp→Prop,(∃ m,W 0 m [] H1)∧∀ i m ys H2,W i m ys H2→ys.length ≤ sizeLine ∧
  ((J.stop i H2∧∀ p,H2 p = none→Q (.ref p) (upd H2 p (.lst ys))) ∨
   (J.go i H2∧∀ x H3,J.yld i H2 x H3→g x (List.replicate k none ++ JaA cs σ) H3 fun σ4 H4 => tt σ4 H4 fun b H5 => if b = true then te σ4 H5 fun y H6 => ∃ m',m' < m∧W (i + 1) m' (ys ++ [y]) H6 else ∃ m',m' < m∧W (i + 1) m' ys H5))
section
variable {X:Cx} {tg:Expr}
theorem Jc5 {iter elt tst:Expr} {scope:Scope} {pos:Pos} {own:List Str} {cl:List (Str × Addr)} {cs:List (Nat × Str)} {g:TG} {te:TE} {tt:TT} {pins:List (Addr × Obj)} {s2:Shared} {σ : St} {H2:Hp} {it:Addr} {fp:List Addr} {tn:Nat→Heap→Prop} {J:It}
  {W:Nat→Nat→List V→Hp→Prop} {m0:Nat} {QN:List V→Hp→Prop} {RR:Value→Addr→Result→Shared→Prop} {E:Value→Shared→Prop} (hc:X.calm = true)
  (hg:∀ fp s2 H2 C,PG (X.inc (own ++ cs.map (·.2)) scope cl fp s2 H2 C) tg g) (ht:∀ fp s2 H2 C,PT (X.inc (own ++ cs.map (·.2)) scope cl fp s2 H2 C) tst tt) (he:∀ fp s2 H2 C,PE (X.inc (own ++ cs.map (·.2)) scope cl fp s2 H2 C) elt te)
  (hcell:∀ y ∈ scope.names,y.2 ≠ .cell) (hkind:scope.kind = .function)
  (hcl:∀ x c,cl.lookup x = some c→X.env.cells.lookup x = some c) (hhas:∀ y,((relabel scope X.env).names.lookup y = some .cell ∨ (relabel scope X.env).names.lookup y = some .free)→∃ c,cl.lookup y = some c)
  (hcs:∀ p ∈ cs,X.N[p.1]? = some p.2∧X.env.scope.names.lookup p.2 = some .cell∧(relabel scope X.env).names.lookup p.2 = some .cell)
  (I2:Inv X pins σ H2 s2) (T:Turn X.prog X.w X.K tg J fp it tn) (st2:tn 0 s2.heap) (f2:∀ b ∈ fp,FpOk X pins H2 b) (w0:W 0 m0 [] H2)
  (turn:∀ i m ys H2,W i m ys H2→ys.length ≤ sizeLine∧((J.stop i H2∧QN ys H2) ∨ (J.go i H2∧∀ x H3,J.yld i H2 x H3→g x (List.replicate own.length none ++ JaA cs σ) H3 fun σ4 H4 => tt σ4 H4 fun b H5 => if b = true then te σ4 H5 fun y H6 => ∃ m',m' < m∧W (i + 1) m' (ys ++ [y]) H6 else ∃ m',m' < m∧W (i + 1) m' ys H5)))
  (hRR:∀ (D C:Addr) (s6:Shared) (H5:Hp) (ys:List V),(∀ h7,Heap.SameBut C s6.heap h7→Inv X pins σ (upd H5 D (.lst ys)) { s6 with heap:=h7 })→H5 D = none→H5 C = none→D ≠ C→(∃ m,s6.heap.Ns C m)→s2.heap.objs.size ≤ C→QN ys H5→RR (.ref D) C (.ok .next) s6) :
  wpAny (model X.prog X.w) X.A (newList []) (fun acc s₃ => wpAny (model X.prog X.w) X.A (newFunctionEnv scope X.env.globals cl [] X.env.qual none .none (some X.env)) (fun cenv s₄ =>
   codeAny (model X.prog X.w) X.A (.compStart (.ListComp elt [⟨tg,iter,[tst],0⟩] scope pos) 0 (.ref it) acc { cenv with scope:=relabel scope X.env }) (RR acc cenv.locals) s₄) E s₃) E s2:=by
 have hfp:∀ b ∈ fp,b < s2.heap.objs.size:=fun b hb => by
  obtain ⟨o,e,_⟩:=T.obj _ _ st2 b hb
  exact Heap.lt_size e
 refine wpAny_newObj_type (wpAny_newFunctionEnv hcell (by intro y hy; simp at hy) (fun h4 hns4 hsb4 => ?_) hkind)
 dsimp only at hns4 hsb4 ⊢
 generalize hH3:s2.heap.push { cls:=.type "list",dict:=none,data:=.seq ([]:List Value).toArray } = H3 at hns4 hsb4 ⊢
 have hCs:H3.objs.size = s2.heap.objs.size + 1:=by rw [← hH3,Heap.size_push]
 have hC:s2.heap.objs.size ≤ H3.objs.size:=by omega
 have hDC:s2.heap.objs.size ≠ H3.objs.size:=by omega
 have old:∀ b o,s2.heap.get? b = some o→h4.get? b = some o:=fun b o e => hsb4.extBut b o (by have:=Heap.lt_size e; exact Nat.ne_of_lt (Nat.lt_of_lt_of_le this hC)) (Heap.get?_push_of_some _ (hH3 ▸ Heap.get?_push_of_some _ e))
 have hD4:h4.get? s2.heap.objs.size = some { cls:=.type "list",data:=.seq ([]:List Value).toArray }:=hsb4.extBut _ _ hDC (Heap.get?_push_of_some _ (hH3 ▸ Heap.get?_push_size _ rfl))
 obtain ⟨D,hDe⟩:∃ D,D = s2.heap.objs.size:=⟨_,rfl⟩
 obtain ⟨C,hCe⟩:∃ C,C = H3.objs.size:=⟨_,rfl⟩
 rw [← hCe] at hCs hns4 hsb4 hC hDC ⊢
 rw [← hDe] at hfp hCs hC hDC hD4 ⊢
 have ok':=I2.incOk (N':=own ++ cs.map (·.2)) (C:=C) f2 (fun b hb => by rw [← hDe]; exact hfp b hb) hkind (by rw [← hDe]; exact hC) hcl hhas
 have I4:Inv (X.inc (own ++ cs.map (·.2)) scope cl fp s2 H2 C) [] (List.replicate own.length none ++ JaA cs σ) H2 { s2 with heap:=h4,toks:=s2.toks + ([]:List (Str × Value)).length } :=
  I2.incStart (s4:={ s2 with heap:=h4,toks:=s2.toks + ([]:List (Str × Value)).length }) ok' old rfl rfl hns4 (by rw [← hDe]; exact hC) hcl hcs
 have Dfree:H2 D = none:=I2.hok.fresh (Nat.le_of_eq hDe.symm)
 have ltD:∀ b o,s2.heap.get? b = some o→b ≠ D:=fun b o e => by
  rw [hDe]
  exact Nat.ne_of_lt (Heap.lt_size e)
 have ltC:∀ b o,s2.heap.get? b = some o→b ≠ C:=fun b o e => Nat.ne_of_lt (Nat.lt_of_lt_of_le (by rw [hDe]; exact Heap.lt_size e) hC)
 have Dfs:D ∉ frs X.stack:=fun hm => by
  obtain ⟨_,o,e,_⟩:=I2.stack.mem hm
  exact ltD _ _ e rfl
 have pinD:∀ {σ':St} {H':Hp} {s':Shared} {us:List Value} {n:Nat} {pl:List (Addr × Obj)},Inv (X.inc (own ++ cs.map (·.2)) scope cl fp s2 H2 C) pl σ' H' s'→s'.heap.get? D = some { cls:=.type "list",data:=.seq us.toArray n }→H' D = none →
   Inv (X.inc (own ++ cs.map (·.2)) scope cl fp s2 H2 C) [(D,{ cls:=.type "list",data:=.seq us.toArray n })] σ' H' s':=fun {σ' H' s' us n pl} J' e n' => J'.pins_of fun p hp => by
  rcases List.mem_singleton.mp hp with rfl
  exact ⟨e,n',hDC,Dfs,fun v z => by cases z⟩
 have fpok:∀ {H':Hp} {o:Obj},(∀ b ∈ fp,H' b = none)→∀ b ∈ fp,FpOk (X.inc (own ++ cs.map (·.2)) scope cl fp s2 H2 C) [(D,o)] H' b:=fun {H' o} hn b hb => by
  refine ⟨hn b hb,(ok'.exf b hb).1,ok'.exfs b hb, .inl hb,(ok'.exf b hb).2,fun p hp => ?_⟩
  rcases List.mem_singleton.mp hp with rfl
  exact Nat.ne_of_gt (hfp b hb)
 have loop:∀ s3:Shared,s3 = { s2 with heap:=h4,toks:=s2.toks + ([]:List (Str × Value)).length } →
   codeAny (model X.prog X.w) X.A (.compLoop (.ListComp elt [⟨tg,iter,[tst],0⟩] scope pos) 0 (.ref it) (.ref D) (compEnvC scope cl C X.env)) (RR (.ref D) C) s3:=by
  rintro s3 rfl
  refine JeY (fun n s' => ∃ i ys us nn H',Inv (X.inc (own ++ cs.map (·.2)) scope cl fp s2 H2 C) [(D,{ cls:=.type "list",data:=.seq us.toArray nn })] (List.replicate own.length none ++ JaA cs σ) H' s'∧tn i s'.heap∧(∀ b ∈ fp,H' b = none)∧Vals ys us∧W i n ys H') ?_ m0
   ⟨0,[],[],0,H2,pinD (us:=[]) (n:=0) I4 hD4 Dfree,T.keep _ _ _ st2 fun b hb o e => old b o e,fun b hb => (f2 b hb).1, .nil,w0⟩
  rintro n s5 ⟨i,ys,us,nn,H5,I5,st5,fr5,vy,w5⟩
  obtain ⟨hz,⟨stop,qn⟩ | ⟨go,step⟩⟩:=turn i n ys H5 w5
  ·refine wpAny_mono (T.done (X.inc (own ++ cs.map (·.2)) scope cl fp s2 H2 C) rfl rfl rfl hc i _ s5 _ H5 (fun _ _ => False) I5 (fpok fr5) st5 stop) (fun r s6 z => ?_) fun _ _ z => z
   obtain ⟨rfl,I6⟩:=z
   obtain ⟨m6,hn6,_⟩:=id I6.loc
   obtain ⟨pD,pN,_,_,_⟩:=I6.pin (D,{ cls:=.type "list",data:=.seq us.toArray nn }) (by simp)
   have Cfree:H5 C = none:=I6.free
   refine hRR D C s6 H5 ys (fun h7 hs7 => ?_) pN Cfree hDC ⟨m6,hn6⟩ (by rw [← hDe]; exact hC) qn
   have same:∀ b,b ≠ C→h7.get? b = s6.heap.get? b:=fun b hb => hs7.2 b hb
   have lt2:=ltC
   have u7:Un (frs X.stack) fp H2 H5 s2.heap h7:=⟨fun b o e n1 n2 n3 => (same b (lt2 b o e)).trans (I6.base.keep b o e n1 n2 n3),fun b o e n1 n2 n3 => by
     obtain ⟨sl,z⟩:=I6.base.slot b o e n1 n2 n3
     exact ⟨sl,(same b (lt2 b o e)).trans z⟩,I6.base.free,fun b o e n1 => by
     obtain ⟨o',z⟩:=I6.base.there b o e n1
     exact ⟨o',(same b (lt2 b o e)).trans z⟩,I6.base.tups,I6.base.frzs,I6.base.tbls⟩
   have hok7:HOk X.prog X.w H5 h7:=fun a o e => by
    refine (I6.hok a o e).stay (fun c v hcc q => (same c ?_).trans q) (fun _ q => q) fun _ _ q => q
    rintro rfl
    rcases hcc with z | z
    ·rw [← z] at e; rw [Cfree] at e; cases e
    ·rw [Cfree] at z; cases z
   have I7:Inv X pins σ H5 { s6 with heap:=h7 }:=I2.call' (s':={ s6 with heap:=h7 }) I6.os u7 hok7 I6.bare fun b hb => ⟨(f2 b hb).2.2.2.1,(f2 b hb).2.1,(f2 b hb).2.2.2.2.1,(f2 b hb).2.2.2.2.2⟩
   exact I7.track (a:=D) (o:=.lst ys) pN (Heap.get?_none_of_le (by rw [hDe]; exact I2.sz)) (by rw [hDe]; exact Nat.ne_of_gt I2.lt) (fun x c e z => by
     obtain ⟨v,o,ho,_⟩:=I2.cell x c e
     exact ltD _ _ ho z) (fun p hp z => ltD _ _ (I2.pin p hp).1 z) ⟨hz,us,nn,vy,(same D hDC).trans pD⟩
  ·refine wpAny_mono (T.item (X.inc (own ++ cs.map (·.2)) scope cl fp s2 H2 C) rfl rfl rfl hc i _ s5 _ H5 (fun _ _ => False) I5 (fpok fr5) st5 go) (fun r s6 z => ?_) fun _ _ z => z
   obtain ⟨u,rfl,z⟩:=z
   refine wpAny_mono z (fun _ s7 ⟨x,H7,I7,r7,y7,st7,fr7⟩ => ?_) fun _ _ z => z
   have I7':=I7.pinned (fpok fr7) (T.obj _ _ st7)
   refine wpAny_mono (hg fp s2 H2 C _ s7 _ H7 x u _ I7' r7 (step x H7 y7)) (fun _ s8 ⟨σ8,H8,I8,q8⟩ => ?_) fun _ _ z => z
   refine wpAny_mono (ht fp s2 H2 C _ s8 σ8 H8 _ I8 q8) (fun bb s8' ⟨H8',I8',q8'⟩ => ?_) fun _ _ z => z
   cases bb with
   | true =>
    refine wpAny_mono (he fp s2 H2 C _ s8' σ8 H8' _ I8' q8') (fun uy s9 ⟨y,H9,I9,r9,m',hm',w9⟩ => ?_) fun _ _ z => z
    obtain ⟨pD,pN,_,_,_⟩:=I9.pin (D,{ cls:=.type "list",data:=.seq us.toArray nn }) (by simp)
    refine append_at (its:=us.toArray) (n:=nn) pD (fun h10 hs10 hD10 => ?_) (by rw [List.size_toArray, ← vy.length]; exact hz)
    have keepfp:∀ b ∈ fp, ∀ o,s7.heap.get? b = some o→s9.heap.get? b = some o∧H9 b = none:=fun b hb o e => by
     have z:=I9.pin (b,o) (List.mem_append_right _ (List.mem_append_right _ (Jbv hb e)))
     exact ⟨z.1,z.2.1⟩
    have I9':Inv (X.inc (own ++ cs.map (·.2)) scope cl fp s2 H2 C) [] (List.replicate own.length none ++ JaA cs σ) H9 s9:=I2.incAgain I9 f2 hcl hcs
    have I10:Inv (X.inc (own ++ cs.map (·.2)) scope cl fp s2 H2 C) [] (List.replicate own.length none ++ JaA cs σ) H9 { s9 with heap:=h10 }:=I9'.turned (it:=D) (t':=s9.toks) (fun b o hb e => (hs10.2 b hb).trans e) pN hDC (.inr (Nat.le_of_eq hDe.symm)) (fun x c e z => by
      obtain ⟨v,o,ho,_⟩:=I2.cell x c (hcl x c e)
      exact ltD _ _ ho z) fun p hp => by simp at hp
    rw [lstP] at hD10
    refine ⟨m',hm',i + 1,ys ++ [y],us ++ [uy],nn + 1,H9,pinD I10 hD10 pN,T.keep _ _ _ st7 fun b hb o e => ?_,fun b hb => ?_,vy.append (.cons r9 .nil),w9⟩
    ·exact (hs10.2 b (Nat.ne_of_lt (hfp b hb))).trans (keepfp b hb o e).1
    ·obtain ⟨o,e,_⟩:=T.obj _ _ st7 b hb
     exact (keepfp b hb o e).2
   | false =>
    obtain ⟨m',hm',w9⟩:=q8'
    obtain ⟨pD,pN,_,_,_⟩:=I8'.pin (D,{ cls:=.type "list",data:=.seq us.toArray nn }) (by simp)
    have keepfp:∀ b ∈ fp, ∀ o,s7.heap.get? b = some o→s8'.heap.get? b = some o∧H8' b = none:=fun b hb o e => by
     have z:=I8'.pin (b,o) (List.mem_append_right _ (List.mem_append_right _ (Jbv hb e)))
     exact ⟨z.1,z.2.1⟩
    have I9':Inv (X.inc (own ++ cs.map (·.2)) scope cl fp s2 H2 C) [] (List.replicate own.length none ++ JaA cs σ) H8' s8':=I2.incAgain I8' f2 hcl hcs
    refine ⟨m',hm',i + 1,ys,us,nn,H8',pinD I9' pD pN,T.keep _ _ _ st7 fun b hb o e => (keepfp b hb o e).1,fun b hb => ?_,vy,w9⟩
    obtain ⟨o,e,_⟩:=T.obj _ _ st7 b hb
    exact (keepfp b hb o e).2
 exact codeAny_compStart_list (loop _ rfl) (T.self _ 0 _ _ _ (T.keep _ _ _ st2 fun b hb o e => old b o e) (loop _ rfl))
theorem Jfg {iter elt tst:Expr} {scope:Scope} {pos spos py:Pos} {y:Str} {j:Nat} {own:List Str} {cs:List (Nat × Str)} {wi:TI} {g:TG} {te:TE} {tt:TT} (hN:X.N.Nodup) (hj:X.N[j]? = some y) (hy:Loc X.env.scope y) (hc:X.calm = true) (hi:PI X tg iter wi)
  (hg:∀ fp s2 H2 C,PG (X.inc (own ++ cs.map (·.2)) scope (Jbj X.env.cells scope.names []) fp s2 H2 C) tg g) (ht:∀ fp s2 H2 C,PT (X.inc (own ++ cs.map (·.2)) scope (Jbj X.env.cells scope.names []) fp s2 H2 C) tst tt) (he:∀ fp s2 H2 C,PE (X.inc (own ++ cs.map (·.2)) scope (Jbj X.env.cells scope.names []) fp s2 H2 C) elt te)
  (hfree:∀ p ∈ scope.names,p.2 = .free→X.env.scope.names.lookup p.1 = some .cell) (hcell:∀ y ∈ scope.names,y.2 ≠ .cell) (hkind:scope.kind = .function) (hnames:∀ y ∈ scope.names,y.2 = .local→scope.names.lookup y.1 = some .local)
  (hcs:∀ p ∈ cs,X.N[p.1]? = some p.2∧X.env.scope.names.lookup p.2 = some .cell∧(relabel scope X.env).names.lookup p.2 = some .cell)
  (hsw:swapsWith (.ListComp elt [⟨tg,iter,[tst],0⟩] scope pos) (some (.Name y py)) spos.line X.env = pure true:=by rfl)
  (hs:∀ x,foldedSetIterable iter X.env x = pure x:=by intro _; rfl) (hf:X.fn y = true ∨ X.env.scope.names.lookup y = some .local:=by first | exact .inl rfl | exact .inr rfl) :
  PS X (.Assign [.Name y py] (.ListComp elt [⟨tg,iter,[tst],0⟩] scope pos) spos) (tAsg (Jhd own.length cs wi g tt te) (gName j)):=by
 intro pins s σ H D I h
 have hfr:∀ p ∈ scope.names,p.2 = .free→∃ c,X.env.cells.lookup p.1 = some c:=fun p hp hk => I.ok.has p.1 (.inl (hfree p hp hk))
 have hcl:=Jcb (cells:=X.env.cells) scope.names [] (fun _ _ z => by simp at z) hfr
 rw [exec_Assign_Name_used _ _ _ _ hsw]
 refine wpAny_bind (wpAny_standAt (wpAny_bind ?_))
 show wpAny _ X.A (do let _ ← comprehension (.ListComp elt [⟨tg,iter,[tst],0⟩] scope pos) scope X.env _ (newList []) false (eval iter X.env) (some (assign (.Name y py) X.env))) _ _ s
 refine wpAny_bind (wpAny_mono (wpAny_comprehension_free (use:=some (assign (.Name y py) X.env)) (Q:=fun _ s' => SP X pins D .next s') rfl hs (JeW hfr) hkind hnames
  (thn (hi pins s σ H _ I h) fun v s1 h1 => thn h1 fun itv s2 h2 => ?_)) (fun _ s' hq => wpAny_pure (wpAny_pure hq)) fun _ _ e => e)
 obtain ⟨it,fp,tn,J,H2,rfl,I2,T,st2,f2,W,⟨m0,w0⟩,turn⟩:=h2
 refine Jc5 (QN:=fun ys H5 => ∀ p,H5 p = none→D.nx (σ.set j (some (.ref p))) (upd H5 p (.lst ys))) hc hg ht he hcell hkind hcl (fun z hz => Jca scope.names [] z (.inr (Je2 hcell hz))) hcs I2 T st2 f2 w0 turn ?_
 intro D' C s6 H5 ys inv dN cN dc hm hC q
 obtain ⟨m6,hn6⟩:=hm
 have I8:Inv X pins σ (upd H5 D' (.lst ys)) s6:=inv s6.heap (Heap.SameBut.refl _ _)
 show wpAny _ X.A (assign (.Name y py) X.env (.ref D')) _ _ s6
 refine wpAny_assign_Name (Jdt (v:=.ref D') I8 hN hj hy rfl (fun s7 I7 hsb => ?_) hf)
 obtain ⟨a,sb,ha⟩:=hsb
 have nC:C ≠ a:=by
  rcases ha with rfl | ha
  ·exact Nat.ne_of_gt (Nat.lt_of_lt_of_le I2.lt hC)
  ·obtain ⟨v,o,ho,_⟩:=I2.cell y a ha
   exact Nat.ne_of_gt (Nat.lt_of_lt_of_le (Heap.lt_size ho) hC)
 refine ⟨m6,hn6.sameBut sb nC,fun h8 hs8 => ⟨_,_, ?_,q D' dN⟩⟩
 exact I7.turned (it:=C) (t':=s7.toks) (fun b o hb e => (hs8.2 b hb).trans e) (by rw [Jah (Ne.symm dc)]; exact cN) (Nat.ne_of_gt (Nat.lt_of_lt_of_le I2.lt hC)) (.inr (Nat.le_trans I2.sz hC)) (fun x c e z => by
  obtain ⟨v,o,ho,_⟩:=I2.cell x c e
  exact absurd (Nat.lt_of_lt_of_le (Heap.lt_size ho) hC) (by rw [z]; exact Nat.lt_irrefl _)) (fun p hp z => absurd (Nat.lt_of_lt_of_le (Heap.lt_size (I2.pin p hp).1) hC) (by rw [z]; exact Nat.lt_irrefl _))
end
end L2
namespace L2
open PySem PySem.Spec PyProof.Rows
section
variable {X:Cx} {pins:List (Addr × Obj)} {σ : St} {H:Hp} {s:Shared} {h':Heap}
theorem Inv.turnedL {t':Nat} {ch:List Addr} (I:Inv X pins σ H s) (k:∀ b o,b ∉ ch→s.heap.get? b = some o→h'.get? b = some o) (hf:∀ b ∈ ch,FpOk X pins H b):Inv X pins σ H { s with heap:=h',toks:=t' }:=by
 have nit:∀ b u,H b = some u→b ∉ ch:=fun b u e z => by rw [(hf b z).1] at e; cases e
 refine I.step (g':=s.gens) (d':=s.drawn) (ch:=ch) (fun b hb => ?_) (fun b o _ _ hc e _ => k b o hc e) (fun b o _ _ hc e _ => ⟨o.slots,k b o hc e⟩) (fun _ _ _ _ n => n)
  (fun b o hc e => ⟨o,k b o hc e⟩) (fun _ _ e => e) (fun _ _ _ e => e) (fun b ps e => ⟨#[],by rw [e]; simp⟩) (fun m hm => ?_) (fun b u e => ?_) I.bare
 ·obtain ⟨_,f1,_,f3,f4,f5⟩:=hf b hb
  exact ⟨f3,f1,f4,f5⟩
 ·obtain ⟨o,es,ep,ho,r⟩:=hm
  exact ⟨o,es,ep,k _ o (fun z => (hf _ z).2.1 rfl) ho,r⟩
 ·refine (I.hok b u e).stay (fun c v hc q => k c v ?_ q) (fun _ q => q) fun _ _ q => q
  rcases hc with z | z
  ·rw [z]; exact nit b u e
  ·exact nit c _ z
end
theorem za (n a b:Nat) (h1:a < n) (h2:b < n):ZipApart (n + 4) (n + 2) (n + 3) n (n + 1) a b where
 TIz:=Nat.ne_of_lt (show n + 2 < n + 4 by omega)
 TOz:=Nat.ne_of_lt (show n + 3 < n + 4 by omega)
 i1z:=Nat.ne_of_lt (show n < n + 4 by omega)
 i2z:=Nat.ne_of_lt (show n + 1 < n + 4 by omega)
 TITO:=Nat.ne_of_lt (show n + 2 < n + 3 by omega)
 TIi1:=Nat.ne_of_gt (show n < n + 2 by omega)
 TIi2:=Nat.ne_of_gt (show n + 1 < n + 2 by omega)
 TOi1:=Nat.ne_of_gt (show n < n + 3 by omega)
 TOi2:=Nat.ne_of_gt (show n + 1 < n + 3 by omega)
 i12:=Nat.ne_of_lt (show n < n + 1 by omega)
 l1z:=Nat.ne_of_lt (show a < n + 4 by omega)
 l1TO:=Nat.ne_of_lt (show a < n + 3 by omega)
 l1i1:=Nat.ne_of_lt (show a < n by omega)
 l1i2:=Nat.ne_of_lt (show a < n + 1 by omega)
 l2z:=Nat.ne_of_lt (show b < n + 4 by omega)
 l2TO:=Nat.ne_of_lt (show b < n + 3 by omega)
 l2i1:=Nat.ne_of_lt (show b < n by omega)
 l2i2:=Nat.ne_of_lt (show b < n + 1 by omega)
def Itz (K:PySem.W.Frag) (a b:Addr):It :=
  ⟨fun i H => ∃ xs ys x y,SqL K H a xs∧SqL K H b ys∧xs[i]? = some x∧ys[i]? = some y,
   fun i H v H' => ∃ p x y,(∀ xs,SqL K H a xs→xs[i]? = some x)∧(∀ ys,SqL K H b ys→ys[i]? = some y)∧H p = none∧v = .ref p∧H' = upd H p (.tup [x,y]),
   fun i H => ∃ xs ys,SqL K H a xs∧SqL K H b ys∧(xs.length ≤ i ∨ ys.length ≤ i)⟩
theorem JhM {P:Program} {w:World} {K:PySem.W.Frag} {elts:List Expr} {x1:Nat} {tp:Pos} {z TI TO i1 i2 a b:Addr} (D:ZipApart z TI TO i1 i2 a b) :
  Turn P w K (.Tuple elts x1 tp) (Itz K a b) [z,TI,TO,i1,i2] z (fun i h => IsZip h z TI TO .none∧IsPair h TI (.ref i1) (.ref i2)∧(∃ u v,IsPair h TO u v)∧h.IsListIter i1 a i∧h.IsListIter i2 b i) where
 mem:=by simp
 obj:=fun i h st c hc => by
  obtain ⟨hz,hTI,⟨u,v,hTO⟩,h1,h2⟩:=st
  simp only [List.mem_cons,List.not_mem_nil,or_false] at hc
  rcases hc with rfl | rfl | rfl | rfl | rfl
  ·exact ⟨_,hz,fun v z => by cases z⟩
  ·exact ⟨_,hTI,fun v z => by cases z⟩
  ·exact ⟨_,hTO,fun v z => by cases z⟩
  ·obtain ⟨o,e,c,d⟩:=h1; exact ⟨o,e,fun v z => by rw [d] at z; cases z⟩
  ·obtain ⟨o,e,c,d⟩:=h2; exact ⟨o,e,fun v z => by rw [d] at z; cases z⟩
 keep:=fun i h h' st k => by
  obtain ⟨hz,hTI,⟨u,v,hTO⟩,h1,h2⟩:=st
  exact ⟨k z (by simp) _ hz,k TI (by simp) _ hTI,⟨u,v,k TO (by simp) _ hTO⟩,h1.at fun o e => k i1 (by simp) o e,h2.at fun o e => k i2 (by simp) o e⟩
 item:=by
  intro X hP hw hK hc i pins s σ H E I hf st hg
  subst hP hw hK
  obtain ⟨hz,hTI,⟨u,v,hTO⟩,h1,h2⟩:=st
  obtain ⟨xs,ys,x,y,sx,sy,hx,hy⟩:=hg
  obtain ⟨its,rx,px,zx⟩:=I.list sx
  obtain ⟨jts,ry,py,zy⟩:=I.list sy
  obtain ⟨ux,hux,rux⟩:=rx.get hx
  obtain ⟨uy,huy,ruy⟩:=ry.get hy
  refine wpAny_pyNext_zip_item D hz hTI hTO h1 h2 px.isList py.isList (x:=ux) (y:=uy) (by simpa using hux) (by simpa using huy) fun h' a1 a2 a3 a4 a5 a6 hk => ?_
  refine ⟨_,rfl, ?_⟩
  refine wpAny_letOwnedTupleGo_zip (s:={ s with heap:=h' }) a1 fun h2' hz' hs' => ?_
  have lt:∀ {c o},s.heap.get? c = some o→c ≠ s.heap.objs.size:=fun e => Nat.ne_of_lt (Heap.lt_size e)
  have nz:s.heap.objs.size ≠ z:=fun q => lt hz q.symm
  have I1:Inv X pins σ H { s with heap:=h2',toks:=s.toks }:=I.turnedL (ch:=[z,TI,TO,i1,i2]) (fun c o hc e => by
   simp only [List.mem_cons,List.not_mem_nil,or_false,not_or] at hc
   exact hs'.extBut _ _ hc.1 (hk c o hc.1 hc.2.2.1 hc.2.2.2.1 hc.2.2.2.2 e)) hf
  have fr:H s.heap.objs.size = none:=I.hok.fresh (Nat.le_refl _)
  have hT:h2'.get? s.heap.objs.size = some { cls:=.type "tuple",data:=.seq #[ux,uy] }:=hs'.extBut _ _ nz a5
  have I2:=I1.track (a:=s.heap.objs.size) (o:=.tup [x,y]) fr (Heap.get?_none_of_le I.sz) (Nat.ne_of_gt I.lt) (fun n c e q => by
   obtain ⟨v,o,ho,_⟩:=I.cell n c e
   exact lt ho q) (fun p hp q => lt (I.pin p hp).1 q) ⟨by show 2 ≤ sizeLine; decide,[ux,uy], .cons rux (.cons ruy .nil),⟨_,hT,rfl,_,rfl⟩⟩
  refine ⟨.ref s.heap.objs.size,_,I2,rfl,⟨_,x,y,fun zs q => by rw [I.list_inj q sx]; exact hx,fun zs q => by rw [I.list_inj q sy]; exact hy,fr,rfl,rfl⟩, ?_,fun c hc => ?_⟩
  ·exact ⟨hz',hs'.extBut _ _ D.TIz (hk _ _ D.TIz D.TITO D.TIi1 D.TIi2 hTI),⟨_,_,hs'.extBut _ _ D.TOz a2⟩,a3.extBut hs'.extBut D.i1z,a4.extBut hs'.extBut D.i2z⟩
  ·have ne:c ≠ s.heap.objs.size:=by
    simp only [List.mem_cons,List.not_mem_nil,or_false] at hc
    rcases hc with rfl | rfl | rfl | rfl | rfl
    ·exact lt hz
    ·exact lt hTI
    ·exact lt hTO
    ·obtain ⟨o,e,_⟩:=h1; exact lt e
    ·obtain ⟨o,e,_⟩:=h2; exact lt e
   rw [Jah ne]
   exact (hf c hc).1
 done:=by
  intro X hP hw hK hc i pins s σ H E I hf st hg
  subst hP hw hK
  obtain ⟨hz,hTI,⟨u,v,hTO⟩,h1,h2⟩:=st
  obtain ⟨xs,ys,sx,sy,he⟩:=hg
  obtain ⟨its,rx,px,zx⟩:=I.list sx
  obtain ⟨jts,ry,py,zy⟩:=I.list sy
  have lx:=rx.length
  have ly:=ry.length
  refine wpAny_pyNext_zip_end (I.ok.hd hc) D hz hTI hTO h1 h2 px.isList py.isList (by
   rcases he with he | he
   ·exact .inl (by simp; omega)
   ·exact .inr (by simp; omega)) fun h' hk => ⟨rfl, ?_⟩
  exact I.turnedL (t':=s.toks) (ch:=[z,TI,TO,i1,i2]) (fun c o hc e => by
   simp only [List.mem_cons,List.not_mem_nil,or_false,not_or] at hc
   exact hk c o hc.1 hc.2.2.1 hc.2.2.2.1 hc.2.2.2.2 e) hf
 self:=fun A i s Q E st q => wpAny_pyIter_zip st.1 q
section
variable {X:Cx} {elts:List Expr} {x1:Nat} {tp:Pos}
def iZip (K:PySem.W.Frag) (ta:TA):TI:=fun σ H R => ta σ H fun vs H1 => ∃ a b,vs = [.ref a, .ref b]∧(∃ xs,SqL K H1 a xs)∧(∃ ys,SqL K H1 b ys)∧R (Itz K a b) H1
theorem Jjl {a b:Expr} {ta:TA} {p pos:Pos} (hg:Gl X "zip") (hm:X.mg "zip" = none) (hv:bootBuiltins "zip" = some (.type "zip")) (ha:PA X [a,b] ta)
  (he:starEach [a,b] X.env = (false,eval a X.env) :: starEach [b] X.env:=by rfl) (hpl:(backTo pos (starEach [b] X.env)).any (·.1) = false:=by rfl) :
  PI X (.Tuple elts x1 tp) (.Call (.Name "zip" p) [a,b] [] pos) (iZip X.K ta):=by
 intro pins s σ H R I h
 refine wpAny_Call_Name_kw (JdK I hg hm hv ?_)
 refine PyProof.Rows.callWith_type1 (thn (ha pos pins s σ H _ I h) fun us s1 ⟨vs,H1,I1,r1,q1⟩ => ?_) he hpl
 obtain ⟨l1,l2,e,⟨xs,sx⟩,⟨ys,sy⟩,q⟩:=q1
 subst e
 obtain ⟨u,v,rfl,ru,rv⟩:=vals2 r1
 cases (show u = Value.ref l1 from ru)
 cases (show v = Value.ref l2 from rv)
 obtain ⟨its,rx,px,zx⟩:=I1.list sx
 obtain ⟨jts,ry,py,zy⟩:=I1.list sy
 have n1:l1 < s1.heap.objs.size:=by obtain ⟨_,e,_⟩:=px.isList; exact Heap.lt_size e
 have n2:l2 < s1.heap.objs.size:=by obtain ⟨_,e,_⟩:=py.isList; exact Heap.lt_size e
 refine call_zip_2 px.isList py.isList fun h' b1 b2 b3 b4 b5 b6 hk => ?_
 have ZA:ZipApart (s1.heap.objs.size + 4) (s1.heap.objs.size + 2) (s1.heap.objs.size + 3) s1.heap.objs.size (s1.heap.objs.size + 1) l1 l2:=za _ l1 l2 n1 n2
 refine wpAny_pyIter_zip b1 ?_
 refine ⟨s1.heap.objs.size + 4,[s1.heap.objs.size + 4,s1.heap.objs.size + 2,s1.heap.objs.size + 3,s1.heap.objs.size,s1.heap.objs.size + 1],_,_,H1,rfl,I1.kept (t':=s1.toks) hk,JhM ZA,⟨b1,b2,⟨_,_,b3⟩,b4,b5⟩,fun c hc => ?_,q⟩
 have hge:s1.heap.objs.size ≤ c:=by
  simp only [List.mem_cons,List.not_mem_nil,or_false] at hc
  rcases hc with rfl | rfl | rfl | rfl | rfl
  ·exact Nat.le_add_right _ _
  ·exact Nat.le_add_right _ _
  ·exact Nat.le_add_right _ _
  ·exact Nat.le_refl _
  ·exact Nat.le_add_right _ _
 exact I1.fpOk hge (I1.hok.fresh hge)
end
section
variable {σ : St} {H:Hp} {Q:VK} {td ty tv tx:TE} {K:PySem.W.Frag} {En:Ends}
theorem y3ay:tDGet td ty σ H Q = td σ H fun x H1 => ty σ H1 fun y H2 => ∃ a v,x = .ref a∧DGet H2 a y (some v)∧Q v H2:=rfl
theorem y43y:sDPut td ty tv En σ H = tv σ H fun v H1 => td σ H1 fun x H2 => ty σ H2 fun y H3 => ∃ a H4,x = .ref a∧DPut H3 a y v H4∧En.nx σ H4:=rfl
theorem y40y:Jjt σ H Q = ∀ p,H p = none→Q (.ref p) (upd H p (.dT [])):=rfl
theorem y3fy:Jh1 σ H Q = ∀ p,H p = none→Q (.ref p) (upd H p (.dK [])):=rfl
end
end L2
namespace L2
open PySem PySem.Spec PyProof.Rows
theorem hu1 {a b:Nat} (h:a + 64 < b):a + 1 < b:=by omega
section
variable {X:Cx}
def rMul0:R2:=fun x y H Q => match x,y with
 | .str z, .int n => 0 ≤ n∧n < 1000∧z.length ≤ 1000∧∀ z':Str,z'.cps.toList = (List.replicate n.toNat z.cps.toList).flatten→Q (.str z') H
 | x,y => rMulS x y H Q
theorem Jay:OpR X (binaryOp .Mult) rMul0:=fun pins s σ H x y v u Q I rx ry q => by
 unfold rMul0 at q
 split at q
 ·rename_i z n
  obtain ⟨h0,h1,h2,q⟩:=q
  by_cases hn:n = 0
  ·subst hn
   obtain ⟨t,rfl⟩:=rx
   obtain ⟨t',rfl⟩:=ry
   exact PySem.P.mul_str_none (by decide) (by decide) ⟨.str _,H,I.tok _,⟨_,rfl⟩,q Str.empty rfl⟩
  ·exact JgW pins s σ H _ _ v u Q I rx ry ⟨by omega,h1,h2,q⟩
 ·exact JgW pins s σ H _ _ v u Q I rx ry q
end
section
variable {K:PySem.W.Frag} {H:Hp} {Q:VK} {σ : St} {td ty:TE}
theorem y68y {i j:Int}:rMul0 (.int i) (.int j) H Q = (IntMulOk i j∧Q (.int (i * j)) H):=rfl
theorem y3by:JhZ td ty σ H Q = td σ H fun x H1 => ∃ a,x = .ref a∧IsD H1 a∧ty σ H1 fun y H2 => ∃ o,DGet H2 a y o∧Q (o.getD .non) H2:=rfl
end
end L2
namespace L2
open PySem PySem.Spec PyProof.Rows
theorem ForA.byL {K:PySem.W.Frag} {a:Addr} {xs:List V} {g:TG} {tb:TS} {D:Ends} {σ : St} {H:Hp} (hA:SqL K H a xs) (Pv:Nat→St→Hp→Prop) (h0:Pv 0 σ H) (hl:∀ i σ H',Pv i σ H'→SqL K H' a xs)
  (hs:∀ i x σ H,xs[i]? = some x→Pv i σ H→g x σ H fun σ2 H2 => tb { D with nx:=Pv (i + 1),ct:=Pv (i + 1),bk:=D.nx } σ2 H2) (hd:∀ σ H,Pv xs.length σ H→D.nx σ H):ForA K a g tb D σ H:=by
 refine .inl ⟨⟨xs,hA⟩,fun i m σ H => Pv i σ H∧i ≤ xs.length∧m = xs.length - i,⟨_,h0,Nat.zero_le _,rfl⟩, ?_⟩
 rintro i m σ H ⟨hp,hi,rfl⟩
 have hq:=hl i σ H hp
 by_cases lt:i < xs.length
 ·refine .inr ⟨⟨xs,xs[i],hq,List.getElem?_eq_getElem lt⟩,Pv (i + 1),fun σ' H' p => ⟨_,Nat.sub_lt_sub_left lt (Nat.lt_succ_self i),p,lt,rfl⟩, ?_⟩
  rintro x H' ⟨rfl,hx⟩
  exact hs i x σ _ (hx xs hq) hp
 ·have e:i = xs.length:=by omega
  subst e
  exact .inl ⟨⟨xs,hq,Nat.le_refl _⟩,hd σ H hp⟩
def ForJ (J:It) (g:TG) (tb:TS) (D:Ends) (σ : St) (H:Hp):Prop:=∃ W:Nat→Nat→St→Hp→Prop,(∃ m,W 0 m σ H)∧∀ i m σ H,W i m σ H →
 (J.stop i H∧D.nx σ H) ∨ (J.go i H∧∃ N:St→Hp→Prop,(∀ σ' H',N σ' H'→∃ m',m' < m∧W (i + 1) m' σ' H')∧∀ x H',J.yld i H x H'→g x σ H' fun σ2 H2 => tb { D with nx:=N,ct:=N,bk:=D.nx } σ2 H2)
theorem y51y {K:PySem.W.Frag} {ta:TA} {g:TG} {tb:TS} {D:Ends} {σ : St} {H:Hp}:tFor (iZip K ta) g tb D σ H = ta σ H fun vs H1 => ∃ a b,vs = [.ref a, .ref b]∧(∃ xs,SqL K H1 a xs)∧(∃ ys,SqL K H1 b ys)∧ForJ (Itz K a b) g tb D σ H1:=rfl
theorem ForJ.zip {K:PySem.W.Frag} {a b:Addr} {xs ys:List V} {g:TG} {tb:TS} {D:Ends} {σ : St} {H:Hp} (Pv:Nat→St→Hp→Prop) (h0:Pv 0 σ H) (hl:∀ i σ H',Pv i σ H'→SqL K H' a xs∧SqL K H' b ys)
  (hs:∀ i x y σ H p H',xs[i]? = some x→ys[i]? = some y→Pv i σ H→H p = none→Same H H'→H' p = some (.tup [x,y])→g (.ref p) σ H' fun σ2 H2 => tb { D with nx:=Pv (i + 1),ct:=Pv (i + 1),bk:=D.nx } σ2 H2)
  (hd:∀ σ H,Pv (min xs.length ys.length) σ H→D.nx σ H):ForJ (Itz K a b) g tb D σ H:=by
 refine ⟨fun i m σ H => Pv i σ H∧i ≤ min xs.length ys.length∧m = min xs.length ys.length - i,⟨_,h0,Nat.zero_le _,rfl⟩, ?_⟩
 rintro i m σ H ⟨hp,hi,rfl⟩
 obtain ⟨qa,qb⟩:=hl i σ H hp
 by_cases lt:i < min xs.length ys.length
 ·have l1:i < xs.length:=by omega
  have l2:i < ys.length:=by omega
  refine .inr ⟨⟨xs,ys,xs[i],ys[i],qa,qb,List.getElem?_eq_getElem l1,List.getElem?_eq_getElem l2⟩,Pv (i + 1),fun σ' H' p => ⟨_,Nat.sub_lt_sub_left lt (Nat.lt_succ_self i),p,lt,rfl⟩, ?_⟩
  rintro v H' ⟨p,x,y,hx,hy,hn,rfl,rfl⟩
  exact hs i x y σ H p _ (hx xs qa) (hy ys qb) hp hn (newS hn rfl) (newE rfl)
 ·have e:i = min xs.length ys.length:=by omega
  subst e
  exact .inl ⟨⟨xs,ys,qa,qb,by omega⟩,hd σ H hp⟩
theorem compL {K:PySem.W.Frag} {cs:List (Nat × Str)} {k:Nat} {g:TG} {te:TE} {σ : St} {a:Addr} {xs:List V} {H1:Hp} {Q:VK} (Pv:Nat→List V→Hp→Prop) (h0:Pv 0 [] H1) (hl:∀ i ys H',i ≤ xs.length→Pv i ys H'→SqL K H' a xs∧ys.length ≤ sizeLine)
  (hs:∀ i x ys H2,xs[i]? = some x→Pv i ys H2→g x (List.replicate k none ++ JaA cs σ) H2 fun σ4 H4 => te σ4 H4 fun y H5 => Pv (i + 1) (ys ++ [y]) H5) (hd:∀ ys H2,Pv xs.length ys H2→∀ p,H2 p = none→Q (.ref p) (upd H2 p (.lst ys))) :
  ∃ W:Nat→Nat→List V→Hp→Prop,(∃ m,W 0 m [] H1)∧∀ i m ys H2,W i m ys H2→ys.length ≤ sizeLine∧(((Itl K a).stop i H2∧∀ p,H2 p = none→Q (.ref p) (upd H2 p (.lst ys))) ∨
   ((Itl K a).go i H2∧∀ x H3,(Itl K a).yld i H2 x H3→g x (List.replicate k none ++ JaA cs σ) H3 fun σ4 H4 => te σ4 H4 fun y H5 => ∃ m',m' < m∧W (i + 1) m' (ys ++ [y]) H5)):=by
 refine ⟨fun i m ys H2 => Pv i ys H2∧i ≤ xs.length∧m = xs.length - i,⟨_,h0,Nat.zero_le _,rfl⟩, ?_⟩
 rintro i m ys H2 ⟨hp,hi,rfl⟩
 obtain ⟨hq,hz⟩:=hl i ys H2 hi hp
 refine ⟨hz, ?_⟩
 by_cases lt:i < xs.length
 ·refine .inr ⟨⟨xs,xs[i],hq,List.getElem?_eq_getElem lt⟩, ?_⟩
  rintro x H3 ⟨rfl,hx⟩
  have e:(fun (σ4:St) (H4:Hp) => te σ4 H4 fun y H5 => Pv (i + 1) (ys ++ [y]) H5) = fun σ4 H4 => te σ4 H4 fun y H5 => ∃ m',m' < xs.length - i∧Pv (i + 1) (ys ++ [y]) H5∧i + 1 ≤ xs.length∧m' = xs.length - (i + 1):=by
   funext σ4 H4
   congr 1
   funext y H5
   exact propext ⟨fun q => ⟨_,Nat.sub_lt_sub_left lt (Nat.lt_succ_self i),q,lt,rfl⟩,fun ⟨_,_,q,_⟩ => q⟩
  rw [← e]
  exact hs i x ys _ (hx xs hq) hp
 ·have e:i = xs.length:=by omega
  subst e
  exact .inl ⟨⟨xs,hq,Nat.le_refl _⟩,hd ys H2 hp⟩
theorem JiV {K:PySem.W.Frag} {cs:List (Nat × Str)} {k:Nat} {g:TG} {tt:TT} {te:TE} {σ : St} {a:Addr} {xs:List V} {H1:Hp} {Q:VK} (Pv:Nat→List V→Hp→Prop) (h0:Pv 0 [] H1) (hl:∀ i ys H',i ≤ xs.length→Pv i ys H'→SqL K H' a xs∧ys.length ≤ sizeLine)
  (hs:∀ i x ys H2,xs[i]? = some x→Pv i ys H2→g x (List.replicate k none ++ JaA cs σ) H2 fun σ4 H4 => tt σ4 H4 fun b H5 => if b = true then te σ4 H5 fun y H6 => Pv (i + 1) (ys ++ [y]) H6 else Pv (i + 1) ys H5) (hd:∀ ys H2,Pv xs.length ys H2→∀ p,H2 p = none→Q (.ref p) (upd H2 p (.lst ys))) :
  ∃ W:Nat→Nat→List V→Hp→Prop,(∃ m,W 0 m [] H1)∧∀ i m ys H2,W i m ys H2→ys.length ≤ sizeLine∧(((Itl K a).stop i H2∧∀ p,H2 p = none→Q (.ref p) (upd H2 p (.lst ys))) ∨
   ((Itl K a).go i H2∧∀ x H3,(Itl K a).yld i H2 x H3→g x (List.replicate k none ++ JaA cs σ) H3 fun σ4 H4 => tt σ4 H4 fun b H5 => if b = true then te σ4 H5 fun y H6 => ∃ m',m' < m∧W (i + 1) m' (ys ++ [y]) H6 else ∃ m',m' < m∧W (i + 1) m' ys H5)):=by
 refine ⟨fun i m ys H2 => Pv i ys H2∧i ≤ xs.length∧m = xs.length - i,⟨_,h0,Nat.zero_le _,rfl⟩, ?_⟩
 rintro i m ys H2 ⟨hp,hi,rfl⟩
 obtain ⟨hq,hz⟩:=hl i ys H2 hi hp
 refine ⟨hz, ?_⟩
 by_cases lt:i < xs.length
 ·refine .inr ⟨⟨xs,xs[i],hq,List.getElem?_eq_getElem lt⟩, ?_⟩
  rintro x H3 ⟨rfl,hx⟩
  have w:∀ (zs:List V) (H5:Hp),Pv (i + 1) zs H5 = ∃ m',m' < xs.length - i∧Pv (i + 1) zs H5∧i + 1 ≤ xs.length∧m' = xs.length - (i + 1):=fun zs H5 =>
   propext ⟨fun q => ⟨_,Nat.sub_lt_sub_left lt (Nat.lt_succ_self i),q,lt,rfl⟩,fun ⟨_,_,q,_⟩ => q⟩
  have w1:(fun (y:V) (H6:Hp) => Pv (i + 1) (ys ++ [y]) H6) = fun y H6 => ∃ m',m' < xs.length - i∧Pv (i + 1) (ys ++ [y]) H6∧i + 1 ≤ xs.length∧m' = xs.length - (i + 1):=by
   funext y H6
   exact w _ _
  have e:(fun (σ4:St) (H4:Hp) => tt σ4 H4 fun b H5 => if b = true then te σ4 H5 fun y H6 => Pv (i + 1) (ys ++ [y]) H6 else Pv (i + 1) ys H5) = fun σ4 H4 => tt σ4 H4 fun b H5 => if b = true then te σ4 H5 fun y H6 => ∃ m',m' < xs.length - i∧Pv (i + 1) (ys ++ [y]) H6∧i + 1 ≤ xs.length∧m' = xs.length - (i + 1) else ∃ m',m' < xs.length - i∧Pv (i + 1) ys H5∧i + 1 ≤ xs.length∧m' = xs.length - (i + 1):=by
   funext σ4 H4
   congr 1
   funext b H5
   by_cases hb:b = true
   ·rw [if_pos hb,if_pos hb, ← w1]
   ·rw [if_neg hb,if_neg hb]
    exact w ys H5
  have:=hs i x ys _ (hx xs hq) hp
  rw [e] at this
  exact this
 ·have e:i = xs.length:=by omega
  subst e
  exact .inl ⟨⟨xs,hq,Nat.le_refl _⟩,hd ys H2 hp⟩
end L2
namespace Ch
open PySem
structure TD where
 nm:Str
 st:Str
 en:Str
 lo:Option (Int × Int)
 hi:Option (Int × Int)
structure SD where
 src:Str
 dst:Str
 c:Int × Int
 nm:Str
 fw:Bool
def fwd (t:TD):List SD:=match t.hi with
 | some h => [⟨t.st,t.en,h,t.nm,true⟩]
 | none => []
def bwd (t:TD):List SD:=match t.lo with
 | some l => [⟨t.en,t.st,(-l.1,l.2),t.nm,false⟩]
 | none => []
def steps (t:TD):List SD:=fwd t ++ bwd t
def all (ts:List TD):List SD:=ts.flatMap steps
abbrev Pr:=Str × Bool
def key (s:SD):Pr:=(s.nm,s.fw)
def find (ss:List SD) (k:Pr):Option SD:=ss.find? fun s => decide (key s = k)
def lastA (acc:Option SD) (ss:List SD) (k:Pr):Option SD:=ss.foldl (fun a s => if key s = k then some s else a) acc
def last (ss:List SD) (k:Pr):Option SD:=lastA none ss k
def addF (a c:Int × Int):Int × Int:=(Mth.top (a.1 * c.2 + c.1 * a.2) (a.2 * c.2),Mth.bot (a.1 * c.2 + c.1 * a.2) (a.2 * c.2))
structure FOk (n:Nat) (a:Int × Int):Prop where
 s1:Mth.Sz n a.1
 s2:Mth.Sz n a.2
 b1:1 ≤ a.2
 g1:Mth.g a.1 a.2 = 1
end Ch
namespace L2
open PySem PySem.Spec PyProof.Rows Ch
def isTF:HO→Bool
 | .tup _ => true
 | .frz _ _ => true
 | _ => false
def SameT (H H':Hp):Prop:=∀ b u,isTF u = true→H b = some u→H' b = some u
theorem SameT.refl (H:Hp):SameT H H:=fun _ _ _ h => h
theorem SameT.trans {H H1 H2:Hp} (a:SameT H H1) (b:SameT H1 H2):SameT H H2:=fun c o t h => b c o t (a c o t h)
theorem Same.t {H H':Hp} (a:Same H H'):SameT H H':=fun b u _ h => a b u h
theorem SameT.put {H H':Hp} {l:Addr} {o o':HO} (e:upd H l o = H') (hl:H l = some o') (ht:isTF o' = false):SameT H H':=fun b u t h => by
 rw [← e,Jah (ne_of h hl fun q => by rw [q,ht] at t; cases t)]
 exact h
theorem SqT.sameT {K:PySem.W.Frag} {H H':Hp} {a:Addr} {xs:List V} (e:SameT H H') (h:SqT K H a xs):SqT K H' a xs:=by
 rcases h with (h | ⟨o,h⟩) | h
 ·exact .inl (.inl (e _ _ rfl h))
 ·exact .inl (.inr ⟨o,e _ _ rfl h⟩)
 ·exact .inr h
theorem FrV.sameT {K:PySem.W.Frag} {H H':Hp} {v:V} {a b:Int} (S:SameT H H') (h:FrV K H v a b):FrV K H' v a b:=by
 obtain ⟨p,e,q⟩:=h
 exact ⟨p,e,q.sameT S⟩
def frD (a:Int × Int):D:=.tup [.int a.1, .int a.2]
def bD:Option (Int × Int)→D
 | none => .non
 | some a => frD a
def tdD (t:TD):D:=.tup [.str t.nm, .str t.st, .str t.en,bD t.lo,bD t.hi]
def pD (s:SD):D:=.tup [.str s.src, .str s.dst,frD s.c, .bl s.fw]
def BV (K:PySem.W.Frag) (H:Hp):Option (Int × Int)→V→Prop
 | none,v => v = .non
 | some a,v => FrV K H v a.1 a.2
theorem BV.rep {K:PySem.W.Frag} {H:Hp} {o:Option (Int × Int)} {v:V} (h:BV K H o v):Rep K H (bD o) v:=by
 cases o with
 | none => simp only [bD,Rep]; exact h
 | some a => exact FrV.rep h
theorem BV.sameT {K:PySem.W.Frag} {H H':Hp} {o:Option (Int × Int)} {v:V} (S:SameT H H') (h:BV K H o v):BV K H' o v:=by
 cases o with
 | none => exact h
 | some a => exact FrV.sameT S h
def TV (K:PySem.W.Frag) (H:Hp) (t:TD) (x:V):Prop:=∃ b vl vg,x = .ref b∧SqT K H b [.str t.nm, .str t.st, .str t.en,vl,vg]∧BV K H t.lo vl∧BV K H t.hi vg
def PV (K:PySem.W.Frag) (H:Hp) (s:SD) (x:V):Prop:=∃ b v,x = .ref b∧SqT K H b [.str s.src, .str s.dst,v, .bl s.fw]∧FrV K H v s.c.1 s.c.2
def CV (H:Hp) (c:Pr) (x:V):Prop:=∃ b,x = .ref b∧H b = some (.tup [.str c.1, .bl c.2])
def LV (K:PySem.W.Frag) (H:Hp) (s:SD) (x:V):Prop:=∃ b v w,x = .ref b∧SqT K H b [.str s.src, .str s.dst,v,w]∧FrV K H v s.c.1 s.c.2∧CV H (key s) w
section
variable {K:PySem.W.Frag} {H H':Hp}
theorem TV.sameT {t:TD} {x:V} (S:SameT H H'):TV K H t x→TV K H' t x:=fun ⟨b,vl,vg,e,q,h1,h2⟩ => ⟨b,vl,vg,e,q.sameT S,h1.sameT S,h2.sameT S⟩
theorem CV.sameT {c:Pr} {x:V} (S:SameT H H'):CV H c x→CV H' c x:=fun ⟨b,e,q⟩ => ⟨b,e,S _ _ rfl q⟩
theorem LV.sameT {s:SD} {x:V} (S:SameT H H'):LV K H s x→LV K H' s x:=fun ⟨b,v,w,e,q,h1,h2⟩ => ⟨b,v,w,e,q.sameT S,h1.sameT S,h2.sameT S⟩
theorem TV.rep {t:TD} {x:V}:TV K H t x→Rep K H (tdD t) x:=fun ⟨b,vl,vg,e,q,h1,h2⟩ => by
 simp only [tdD,Rep,RepL]
 exact ⟨b,_,e,q,_,_,rfl,rfl,_,_,rfl,rfl,_,_,rfl,rfl,_,_,rfl,h1.rep,_,_,rfl,h2.rep,rfl⟩
end
def All2 {α : Type} (P : α→V→Prop):List α→List V→Prop
 | [],xs => xs = []
 | a :: as,xs => ∃ x r,xs = x :: r∧P a x∧All2 P as r
section
variable {α : Type} {P P' : α→V→Prop}
theorem All2.mono:∀ {as:List α} {xs:List V},(∀ a x,P a x→P' a x)→All2 P as xs→All2 P' as xs
 | [],_,_,h => h
 | a :: as,xs,f,h => by
  obtain ⟨x,r,e,h1,h2⟩:=h
  exact ⟨x,r,e,f _ _ h1,All2.mono f h2⟩
theorem All2.length:∀ {as:List α} {xs:List V},All2 P as xs→xs.length = as.length
 | [],_,h => by rw [show _ = _ from h]; rfl
 | a :: as,xs,h => by
  obtain ⟨x,r,e,h1,h2⟩:=h
  rw [e,List.length_cons,List.length_cons,h2.length]
theorem All2.at_:∀ {as:List α} {xs:List V} {i:Nat} {x:V},All2 P as xs→xs[i]? = some x→∃ a,as[i]? = some a∧P a x
 | [],_,_,_,h,hx => by rw [show _ = _ from h] at hx; simp at hx
 | a :: as,xs,i,y,h,hx => by
  obtain ⟨x,r,e,h1,h2⟩:=h
  subst e
  cases i with
  | zero => simp at hx; subst hx; exact ⟨a,rfl,h1⟩
  | succ i => simpa using All2.at_ h2 (by simpa using hx)
theorem All2.get:∀ {as:List α} {xs:List V} {i:Nat} {a : α},All2 P as xs→as[i]? = some a→∃ x,xs[i]? = some x∧P a x
 | [],_,_,_,h,hx => by simp at hx
 | a :: as,xs,i,b,h,hx => by
  obtain ⟨x,r,e,h1,h2⟩:=h
  subst e
  cases i with
  | zero => simp at hx; subst hx; exact ⟨x,rfl,h1⟩
  | succ i => simpa using All2.get h2 (by simpa using hx)
theorem All2.append:∀ {as bs:List α} {xs ys:List V},All2 P as xs→All2 P bs ys→All2 P (as ++ bs) (xs ++ ys)
 | [],bs,xs,ys,h,g => by rw [show xs = [] from h]; exact g
 | a :: as,bs,xs,ys,h,g => by
  obtain ⟨x,r,e,h1,h2⟩:=h
  subst e
  exact ⟨x,r ++ ys,rfl,h1,All2.append h2 g⟩
theorem All2.one {a : α} {x:V} (h:P a x):All2 P [a] [x]:=⟨x,[],rfl,h,rfl⟩
theorem All2.take:∀ {as:List α} {xs:List V} (j:Nat),All2 P as xs→All2 P (as.take j) (xs.take j)
 | as,xs,0,_ => by simp only [List.take_zero]; exact rfl
 | [],xs,j + 1,h => by rw [show xs = [] from h]; simp; exact rfl
 | a :: as,xs,j + 1,h => by
  obtain ⟨x,r,e,h1,h2⟩:=h
  subst e
  exact ⟨x,r.take j,by simp,h1,All2.take j h2⟩
theorem All2.drop:∀ {as:List α} {xs:List V} (j:Nat),All2 P as xs→All2 P (as.drop j) (xs.drop j)
 | as,xs,0,h => by simpa using h
 | [],xs,j + 1,h => by rw [show xs = [] from h]; simp; exact rfl
 | a :: as,xs,j + 1,h => by
  obtain ⟨x,r,e,h1,h2⟩:=h
  subst e
  simpa using All2.drop j h2
theorem All2.repL {K:PySem.W.Frag} {H:Hp} {f : α→D} (g:∀ a x,P a x→Rep K H (f a) x):∀ {as:List α} {xs:List V},All2 P as xs→RepL K H (as.map f) xs
 | [],xs,h => by simp only [List.map_nil,RepL]; exact h
 | a :: as,xs,h => by
  obtain ⟨x,r,e,h1,h2⟩:=h
  simp only [List.map_cons,RepL]
  exact ⟨x,r,e,g _ _ h1,All2.repL g h2⟩
end
structure TOk (t:TD):Prop where
 n1:nameS t.nm = true
 n2:nameS t.st = true
 n3:nameS t.en = true
 ne:t.st ≠ t.en
 lo:∀ a,t.lo = some a→FOk 600 a
 hi:∀ a,t.hi = some a→FOk 600 a
 le:lessD (bD t.hi) (bD t.lo) = false
theorem len8 {z:Str} (h:nameS z = true):z.length ≤ 8:=by
 unfold nameS at h
 simp only [Bool.and_eq_true,decide_eq_true_eq] at h
 exact h.1.2
theorem bD_ok {o:Option (Int × Int)} (h:∀ a,o = some a→FOk 600 a):Jcf (bD o) = true∧szD (bD o):=by
 cases o with
 | none => exact ⟨rfl,by simp only [bD,szD]⟩
 | some a =>
  have k:=h a rfl
  refine ⟨by simp [bD,frD,Jcf,fracB,k.b1,k.g1], ?_⟩
  simp only [bD,frD,szD,szL]
  exact ⟨k.s1.mono (by decide),k.s2.mono (by decide),trivial⟩
theorem TOk.tie {t:TD} (h:TOk t):tieB (tdD t) = true:=by
 have e:eqD (.str t.st) (.str t.en) = false:=by simp only [eqD,beq_eq_false_iff_ne]; exact h.ne
 simp [tdD,tieB,nameB,Jcg,h.n1,h.n2,h.n3,e,JdU,(bD_ok h.lo).1,(bD_ok h.hi).1,h.le]
theorem TOk.sz {t:TD} (h:TOk t):szD (tdD t):=by
 simp only [tdD,szD,szL]
 have:=len8 h.n1
 have:=len8 h.n2
 have:=len8 h.n3
 exact ⟨by omega,by omega,by omega,(bD_ok h.lo).2,(bD_ok h.hi).2,trivial⟩
def kP (c:Pr):List Key:=[.inr c.1, .inl c.2]
def DOk (K:PySem.W.Frag) (H:Hp) (kvs:List (List Key × V)) (ss:List SD):Prop:=∀ c:Pr,match last ss c with
 | none => valV kvs (kP c) = none
 | some s => ∃ v,valV kvs (kP c) = some v∧PV K H s v
theorem DOk.nil {K:PySem.W.Frag} {H:Hp}:DOk K H [] []:=fun c => rfl
end L2
namespace L2
open PySem PySem.Spec PyProof.Rows Ch
section
variable {K:PySem.W.Frag} {H:Hp} {kvs:List (List Key × V)} {ss:List SD}
end
def CompJ (J:It) (k:Nat) (cs:List (Nat × Str)) (g:TG) (te:TE) (σ : St) (Q:VK) (H1:Hp):Prop:=∃ W:Nat→Nat→List V→Hp→Prop,(∃ m,W 0 m [] H1)∧∀ i m ys H2,W i m ys H2→ys.length ≤ sizeLine ∧
  ((J.stop i H2∧∀ p,H2 p = none→Q (.ref p) (upd H2 p (.lst ys))) ∨
   (J.go i H2∧∀ x H3,J.yld i H2 x H3→g x (List.replicate k none ++ JaA cs σ) H3 fun σ4 H4 => te σ4 H4 fun y H5 => ∃ m',m' < m∧W (i + 1) m' (ys ++ [y]) H5))
def Jc1 (J:It) (k:Nat) (cs:List (Nat × Str)) (g:TG) (tt:TT) (te:TE) (σ : St) (Q:VK) (H1:Hp):Prop:=∃ W:Nat→Nat→List V→Hp→Prop,(∃ m,W 0 m [] H1)∧∀ i m ys H2,W i m ys H2→ys.length ≤ sizeLine ∧
  ((J.stop i H2∧∀ p,H2 p = none→Q (.ref p) (upd H2 p (.lst ys))) ∨
   (J.go i H2∧∀ x H3,J.yld i H2 x H3→g x (List.replicate k none ++ JaA cs σ) H3 fun σ4 H4 => tt σ4 H4 fun b H5 => if b = true then te σ4 H5 fun y H6 => ∃ m',m' < m∧W (i + 1) m' (ys ++ [y]) H6 else ∃ m',m' < m∧W (i + 1) m' ys H5))
section
variable {K:PySem.W.Frag} {k:Nat} {cs:List (Nat × Str)} {g:TG} {tt:TT} {te tl:TE} {σ : St} {H H1:Hp} {Q:VK} {a:Addr} {xs:List V}
theorem y33y:tComp k cs (iAny K tl) g te σ H Q = tl σ H fun x H1 => ∃ a,x = .ref a∧(((∃ xs,SqL K H1 a xs)∧CompJ (Itl K a) k cs g te σ Q H1) ∨ ((∃ xs,SqT K H1 a xs)∧CompJ (Itt K a) k cs g te σ Q H1)):=rfl
theorem y35y:Jhd k cs (iAny K tl) g tt te σ H Q = tl σ H fun x H1 => ∃ a,x = .ref a∧(((∃ xs,SqL K H1 a xs)∧Jc1 (Itl K a) k cs g tt te σ Q H1) ∨ ((∃ xs,SqT K H1 a xs)∧Jc1 (Itt K a) k cs g tt te σ Q H1)):=rfl
theorem CompJ.list (Pv:Nat→List V→Hp→Prop) (h0:Pv 0 [] H1) (hl:∀ i ys H',i ≤ xs.length→Pv i ys H'→SqL K H' a xs∧ys.length ≤ sizeLine)
  (hs:∀ i x ys H2,xs[i]? = some x→Pv i ys H2→g x (List.replicate k none ++ JaA cs σ) H2 fun σ4 H4 => te σ4 H4 fun y H5 => Pv (i + 1) (ys ++ [y]) H5) (hd:∀ ys H2,Pv xs.length ys H2→∀ p,H2 p = none→Q (.ref p) (upd H2 p (.lst ys))) :
  CompJ (Itl K a) k cs g te σ Q H1:=compL Pv h0 hl hs hd
theorem Jc1.list (Pv:Nat→List V→Hp→Prop) (h0:Pv 0 [] H1) (hl:∀ i ys H',i ≤ xs.length→Pv i ys H'→SqL K H' a xs∧ys.length ≤ sizeLine)
  (hs:∀ i x ys H2,xs[i]? = some x→Pv i ys H2→g x (List.replicate k none ++ JaA cs σ) H2 fun σ4 H4 => tt σ4 H4 fun b H5 => if b = true then te σ4 H5 fun y H6 => Pv (i + 1) (ys ++ [y]) H6 else Pv (i + 1) ys H5) (hd:∀ ys H2,Pv xs.length ys H2→∀ p,H2 p = none→Q (.ref p) (upd H2 p (.lst ys))) :
  Jc1 (Itl K a) k cs g tt te σ Q H1:=JiV Pv h0 hl hs hd
end
theorem Jfs (x y:Str):(x ++ y).cps.toList = x.cps.toList ++ y.cps.toList:=by
 show (x.cps ++ y.cps).toList = _
 simp
theorem JcW (z:Str):z.length = z.cps.toList.length:=by simp [Str.length]
end L2
namespace L2
open PySem PySem.Spec PyProof.Rows Ch
section
variable {ss:List SD} {c:Pr} {cs:List Pr} {s:SD} {tot:Int × Int} {f l:Str}
end
end L2
namespace L2
open PySem PySem.Spec PyProof.Rows Ch
theorem JcU {α : Type} {f : α→D} {n:Nat} (h:∀ a,depD (f a) ≤ n):∀ as:List α,depL (as.map f) ≤ n
 | [] => by simp [depL]
 | a :: as => by
  rw [List.map_cons,depL]
  exact Nat.max_le.mpr ⟨h a,JcU h as⟩
section
variable {K:PySem.W.Frag} {H:Hp} {Q:VK}
end
end L2
namespace L2
open PySem PySem.Spec PyProof.Rows
section
variable {prog:Program} {w:World} {A:Around} {E:Value→Shared→Prop} {s:Shared}
theorem stored {h:Heap} {a:Addr} {es es':Array (Int × Value)} {ep:Nat} {t t':SetTable} (ho:h.get? a = some { cls:=.type "set",dict:=none,data:=.set es ep t,slots:=#[] }) :
  (h.update a (Obj.putSet es' t')).get? a = some { cls:=.type "set",dict:=none,data:=.set es' (ep + 1) t',slots:=#[] }:=by
 have e:=Heap.get?_update_self (Obj.putSet es' t') ho (by rw [putSet_of es' t' rfl]; rfl)
 rw [e,putSet_of es' t' rfl]
end
end L2
namespace L2
open PySem PySem.Spec PyProof.Rows
def addS (l:List Str) (z:Str):List Str:=if z ∈ l then l else l ++ [z]
def met (val:Nat→Str) (i:Nat):List Str:=((List.range i).map val).foldl addS []
section
variable {prog:Program} {w:World} {A:Around} {E:Value→Shared→Prop} {s:Shared}
end
end L2
namespace L2
open PySem PySem.Spec PyProof.Rows
section
variable {prog:Program} {w:World} {A:Around} {E:Value→Shared→Prop} {s:Shared}
end
end L2
namespace L2
open PySem PySem.Spec PyProof.Rows
end L2
namespace L2
open PySem PySem.Spec PyProof.Rows
section
variable {M:Model} {A:Around} {E:Value→Shared→Prop} {s:Shared}
end
section
variable {prog:Program} {w:World} {A:Around} {E:Value→Shared→Prop} {s:Shared}
section
variable {I a:Addr} {es:Array (Int × Value)} {i ep:Nat} {t:SetTable} {Q:Option Value→Shared→Prop}
end
end
end L2
namespace L2
open PySem PySem.Spec PyProof.Rows
section
variable {prog:Program} {w:World} {A:Around} {E:Value→Shared→Prop} {s:Shared}
end
end L2
namespace L2
open PySem PySem.Spec PyProof.Rows
section
variable {prog:Program} {w:World} {A:Around} {E:Value→Shared→Prop} {s:Shared}
theorem Jil {S r:Addr} {R:Result→Shared→Prop} (h:wpAny (model prog w) A.in1 (Builtin.List.listExtendWith (.ref S) (.ref r) (.ref S)) (fun fin s' => match fin with | .done f => R (.ok f) s' | .again c' => c'.quiet = true∧codeAny (model prog w) A c' R s') (fun e s' => R (.error e) s') s) :
  codeAny (model prog w) A (.builtin "list.__iadd__" ⟨[.ref S, .ref r],[]⟩) R s:=by
 refine codeAny_builtin (PySem.F.entry_list_iadd) ?_
 rw [Around.under_plainId (PySem.F.plain_list_iadd) _]
 exact h
theorem Jgh {r:Addr} {ss:List Str} {Q:Value→Shared→Prop} (h64:ss.length < 64)
  (hx:∀ (R:Result→Shared→Prop),(∀ s' (vs:List Value) c' ss',(∀ b o,s.heap.get? b = some o→s'.heap.get? b = some o)→s'.gens = s.gens→s'.os = s.os→s.toks ≤ s'.toks →
    s'.heap.get? s.heap.objs.size = some { cls:=.type "list",dict:=none,data:=.seq vs.toArray c',slots:=#[] }→StrsAre vs ss'→ss'.Perm ss→R (.ok (.ret (.ref s.heap.objs.size))) s') →
   codeAny (model prog w) A.in1 (.builtin "list.__iadd__" ⟨[.ref s.heap.objs.size, .ref r],[]⟩) R { s with heap:=s.heap.push { cls:=.type "list",data:=.seq ([]:List Value).toArray } })
  (q:∀ s' l (out:Array Value) ss' e,(∀ b o,s.heap.get? b = some o→s'.heap.get? b = some o)→s'.gens = s.gens→s'.os = s.os→s.toks ≤ s'.toks→s.heap.objs.size ≤ l→s'.heap.get? l = some (seqObj "list" out e)→StrsAre out.toList ss'→ss'.Perm ss→sortedS ss' = true→Q (.ref l) s') :
  wpAny (model prog w) A (call (.builtin "sorted") [.ref r]) Q E s:=by
 refine Calls.call_function_entry kind_sorted plain_sorted entry_sorted (args_sorted1 _) ?_
 unfold Builtin.«sorted»
 refine wpAny_bind (m:=checkCount "sorted" 1 1 _) (wpAny_pure ?_)
 refine wpAny_bind ?_
 unfold collect
 refine wpAny_bind (wpAny_runValue (codeAny_builtin (PySem.F.entry_proto_collect) ?_))
 rw [Around.under_plainId (PySem.F.plain_proto_collect) _]
 show wpAny _ A.in1.in1 (newList [] >>= fun l => again (.builtin "list.__iadd__" ⟨[l, .ref r],[]⟩)) _ _ s
 refine wpAny_bind (wpAny_newObj_type ?_)
 refine wpAny_pure ⟨plainId_quiet (PySem.F.plain_list_iadd) _,hx _ fun s' vs c' ss0 k eg eo et hS hs hp => ?_⟩
 refine wpAny_bind (m:=load s.heap.objs.size) (wpAny_load hS (wpAny_pure ?_))
 have vl:vs.length < 64:=by rw [hs.length,hp.length_eq]; exact h64
 have slb:(64:Nat) ≤ sizeLine:=by decide
 dsimp only
 refine wpAny_bind (wpAny_newList ?_ (by show vs.length ≤ sizeLine; omega))
 have o1:(s'.heap.push (seqObj "list" vs.toArray 0)).get? s'.heap.objs.size = some (seqObj "list" vs.toArray 0):=Heap.get?_push_size _ rfl
 refine wpAny_bind (wpAny_holding (wpAny_call_entry slot_list_sort ⟨_,o1,rfl⟩ entry_list_sort (list_sort_treeK strKind_oneLt o1 hs.keysOf (fun v1 v2 rest e => keyKind_strs (by rw [← e]; exact hs)) vl fun st hp2 hs2 => ⟨_,rfl, ?_⟩) (args_list_sort _)))
 obtain ⟨ss1,r1,r2,r3⟩:=sorted_out_str hs hp2 hs2
 obtain ⟨e1,o2⟩:=sortedHeap_at (out:=(arrOf st).map (·.2)) o1
 refine wpAny_pure ⟨_,rfl,q _ s'.heap.objs.size _ ss1 e1 (fun b o e => ?_) eg eo et ?_ o2 r1 (r2.trans hp) r3⟩
 ·have lb:=Heap.lt_size (k b o e)
  rw [sortedHeap_old (Nat.ne_of_lt lb) (by rw [size_push']; exact Nat.lt_succ_of_lt lb)]
  exact Heap.get?_push_of_some _ (k b o e)
 ·exact Nat.le_of_lt (Heap.lt_size hS)
theorem Jhc:∀ (vs:List Value),(∀ v ∈ vs, ∃ x t,v = .str x t)→StrsAre vs (vs.map strOf)
 | [],_ => .nil
 | v :: vs,h => by
  obtain ⟨x,t,rfl⟩:=h v (by simp)
  exact .cons x t (Jhc vs fun u hu => h u (by simp [hu]))
theorem Jfp {K:Type} [DecidableEq K] {knd:PySem.KeyKind prog w K} {d:Addr} {kvs:List (K × Value)} {ep:Nat} {ss:List Str} {Q:Value→Shared→Prop} (hh:A.handled = none) (lo:(d == sysModules) = false) (hd:s.heap.DictAt knd d kvs ep) (h64:kvs.length < 64)
  (hl:ss.length = kvs.length) (hk:∀ i k x v,kvs[i]? = some (k,x)→knd.is k v = true→∃ t,v = .str (ss.getD i ⟨#[]⟩) t)
  (q:∀ s' l (out:Array Value) ss' e,(∀ b o,s.heap.get? b = some o→s'.heap.get? b = some o)→s'.gens = s.gens→s'.os = s.os→s.toks ≤ s'.toks→s.heap.objs.size ≤ l→s'.heap.get? l = some (seqObj "list" out e)→StrsAre out.toList ss'→ss'.Perm ss→sortedS ss' = true→Q (.ref l) s') :
  wpAny (model prog w) A (call (.builtin "sorted") [.ref d]) Q E s:=by
 have slb:(64:Nat) ≤ sizeLine:=by decide
 have la:=hd.lt_size
 have h1:A.in1.handled = none:=by simp [hh]
 refine Jgh (ss:=ss) (by omega) (fun R k => ?_) q
 obtain ⟨R0,hR0⟩:∃ R0:Result→Shared→Prop, ∀ r s',R0 r s' ↔ ∃ h' tk acc c',r = .ok (.ret (.ref s.heap.objs.size))∧s' = { s with heap:=h',toks:=tk }∧(∀ b o,b ≠ s.heap.objs.size→(s.heap.push { cls:=.type "list",data:=.seq ([]:List Value).toArray }).get? b = some o→h'.get? b = some o)∧h'.get? s.heap.objs.size = some { cls:=.type "list",dict:=none,data:=.seq acc c',slots:=#[] }∧ItemsOf (fun i v => ∃ k x,kvs[i]? = some (k,x)∧knd.is k v = true) acc kvs.length:=⟨_,fun _ _ => Iff.rfl⟩
 have base:=codeAny_toks_of (n:=s.toks) (s:={ s with heap:=s.heap.push { cls:=.type "list",data:=.seq ([]:List Value).toArray } }) (Nat.le_refl _) (Jil (A:=A.in1) (R:=R0)
  (PySem.W.kdl_extend (R:=R0) (s:={ s with heap:=s.heap.push { cls:=.type "list",data:=.seq ([]:List Value).toArray } }) (PySem.W.kdl_dict (knd:=knd) (kvs:=kvs) (ep:=ep) lo) h1 (hd.push _) s.heap.objs.size (Nat.ne_of_gt la) (Nat.ne_of_gt la) (.ref s.heap.objs.size) 0 (Heap.get?_push_size _ rfl) (fun h' tk acc c' kk hl hacc => (hR0 _ _).mpr ⟨h',tk,acc,c',rfl,rfl,kk,hl,hacc⟩) (by omega)))
 refine codeAny_mono base ?_
 rintro r s' ⟨ht,hr⟩
 obtain ⟨h',tk,acc,c',rfl,rfl,kk,hlst,hacc⟩:=(hR0 _ _).mp hr
 have ha:StrsAre acc.toList ss:=by
  have hall:∀ v ∈ acc.toList, ∃ x t,v = .str x t:=fun v hv => by
   obtain ⟨i,hi⟩:=List.getElem?_of_mem hv
   rw [Array.getElem?_toList] at hi
   obtain ⟨k',x,e1,e2⟩:=hacc.2 i v hi
   obtain ⟨t,e⟩:=hk i k' x v e1 e2
   exact ⟨_,t,e⟩
  have:=Jhc _ hall
  have e:acc.toList.map strOf = ss:=by
   refine List.ext_getElem? fun i => ?_
   rw [List.getElem?_map,Array.getElem?_toList]
   have l2:acc.size = kvs.length:=hacc.1
   by_cases c:i < kvs.length
   ·have e1:acc[i]? = some acc[i]:=Array.getElem?_eq_getElem (by omega)
    obtain ⟨k',x,e2,e3⟩:=hacc.2 i _ e1
    obtain ⟨t,e4⟩:=hk i k' x _ e2 e3
    rw [e1,Option.map_some,e4,List.getElem?_eq_getElem (by omega)]
    simp [strOf,List.getD_eq_getElem?_getD,List.getElem?_eq_getElem (show i < ss.length by omega)]
   ·rw [Array.getElem?_eq_none (by omega),List.getElem?_eq_none (by omega)]
    rfl
  rw [e] at this
  exact this
 exact k _ acc.toList c' ss (fun b o e => kk b o (Nat.ne_of_lt (Heap.lt_size e)) (Heap.get?_push_of_some _ e)) rfl rfl ht (by rw [Array.toArray_toList]; exact hlst) ha (.refl _)
end
end L2
namespace L2
open PySem PySem.Spec PyProof.Rows
section
variable {prog:Program} {w:World} {A:Around} {E:Value→Shared→Prop} {s:Shared} {a:Addr} {its:Array Value} {n:Nat}
end
end L2
namespace L2
open PySem PySem.Spec PyProof.Rows
section
variable {prog:Program} {w:World} {A:Around} {E:Value→Shared→Prop} {s:Shared}
end
end L2
namespace L2
open PySem PySem.Spec PyProof.Rows
section
variable {X:Cx} {pins:List (Addr × Obj)} {σ : List (Option V)} {H:Hp} {s s':Shared}
theorem Inv.like (I:Inv X pins σ H { s with heap:=s'.heap,toks:=s'.toks }) (eg:s'.gens = s.gens) (eo:s'.os = s.os):Inv X pins σ H s' :=
 ⟨I.ok,by rw [eo]; exact I.os,by rw [eg]; exact I.bare,I.base,I.loc,I.cell,I.free,I.freeC,I.pin,I.hok,I.len⟩
theorem JeT:∀ {vs:List Value} {ss:List Str},StrsAre vs ss→Vals (ss.map V.str) vs
 | _,_, .nil => .nil
 | _,_, .cons z t r => .cons ⟨t,rfl⟩ (JeT r)
def Jh5 (out ss:List Str):Prop:=out.Perm ss∧sortedS out = true
def Jjp (xs:List V) (H:Hp) (Q:VK):Prop:=∃ d kvs ss,xs = [.ref d]∧H d = some (.dK kvs)∧kvs.map (·.1) = ss.map Sum.inr∧ss.length < 64∧∀ l out,H l = none→Jh5 out ss→Q (.ref l) (upd H l (.lst (out.map V.str)))
theorem JdC (hc:X.calm = true):CallR X (.builtin "sorted") Jjp:=by
 intro pins s σ H xs us Q I r h
 obtain ⟨d,kvs,ss,rfl,e,hk,h64,q⟩:=h
 obtain ⟨u,rfl,rx⟩:=vals1 r
 cases rx
 obtain ⟨hz,hS,vs,rel,dd⟩:=dk_of I.hok e
 obtain ⟨ep,da⟩:=dd.dictAt
 have sl:(64:Nat) ≤ sizeLine:=by decide
 have lk:ss.length = kvs.length:=by simpa using (congrArg List.length hk).symm
 have lv:vs.length = kvs.length:=rel.length.symm
 have keys:vs.map (·.1) = kvs.map (·.1):=by
  clear dd da hk lk lv hz q e
  induction rel with
  | nil => rfl
  | cons h1 _ ih =>
   rw [List.map_cons,List.map_cons,ih,h1.1]
 refine Jfp (ss:=ss) (I.ok.hd hc) hS da (by omega) (by omega) (fun i k x v hi hv => ?_) fun s' l out ss' ex k eg eo et hl ho hs hp hso => ?_
 ·have e1:(vs.map (·.1))[i]? = some k:=by rw [List.getElem?_map,hi]; rfl
  rw [keys,hk,List.getElem?_map] at e1
  obtain ⟨z,hz1,rfl⟩:=Option.map_eq_some_iff.mp e1
  rcases JaS (show keyIs (Sum.inr z) v = true from hv) with ⟨b,hb,_⟩ | ⟨y,t,hy,rfl⟩
  ·cases hb
  ·cases hy
   exact ⟨t,by rw [List.getD_eq_getElem?_getD,hz1]; rfl⟩
 ·have lo:out.toList.length ≤ sizeLine:=by
   rw [hs.length,hp.length_eq]
   omega
  refine ⟨.ref l,_,Inv.like (s:=s) (I.laid (t':=s'.toks) (o:=.lst (ss'.map V.str)) k hl (show ObjOk X.prog X.w _ s'.heap l (.lst (ss'.map V.str)) from ⟨by rw [List.length_map,hp.length_eq]; omega,out.toList,ex,JeT hs,by rw [Array.toArray_toList]; exact ho⟩)) eg eo,rfl,q l ss' (I.hok.fresh hl) ⟨hp,hso⟩⟩
end
end L2
namespace L2
open PySem PySem.Spec PyProof.Rows Ch
def Jgl (ts:List TD) (out:List Str):Prop:=out.Nodup∧sortedS out = true∧∀ z,z ∈ out ↔ ∃ t ∈ ts,z = t.st ∨ z = t.en
theorem Jgl.nil {l:List Str} (h:Jgl [] l):l = []:=by
 cases l with
 | nil => rfl
 | cons a l =>
  have:=(h.2.2 a).mp (by simp)
  simp at this
abbrev Pl:=List (Str × (Int × Int))
def look (ps:Pl) (z:Str):Int × Int:=((ps.find? fun p => decide (p.1 = z)).map (·.2)).getD (0,1)
def negF (a:Int × Int):Int × Int:=(-a.1,a.2)
def apart (ps:Pl) (t:TD):Int × Int:=addF (look ps t.en) (negF (look ps t.st))
def lessF (a c:Int × Int):Bool:=decide (a.1 * c.2 < c.1 * a.2)
structure FB (A B:Nat) (a:Int × Int):Prop where
 s1:Mth.Sz A a.1
 s2:Mth.Sz B a.2
 b1:1 ≤ a.2
 g1:Mth.g a.1 a.2 = 1
theorem FB.ok {A B n:Nat} {a:Int × Int} (h:FB A B a) (h1:A ≤ n) (h2:B ≤ n):FOk n a:=⟨h.s1.mono h1,h.s2.mono h2,h.b1,h.g1⟩
theorem FB.neg {A B:Nat} {a:Int × Int} (h:FB A B a):FB A B (negF a):=⟨by
 have:=h.s1
 unfold Mth.Sz at this ⊢
 unfold negF
 rw [Int.natAbs_neg]
 exact this,h.s2,h.b1,by
 have:=h.g1
 unfold Mth.g negF at *
 simpa using this⟩
theorem FB.add {A B C D n m:Nat} {a c:Int × Int} (h:FB A B a) (k:FB C D c) (h1:A + D ≤ n) (h2:C + B ≤ n) (h3:B + D ≤ m):FB (n + 1) m (addF a c):=by
 have b0:a.2 * c.2 ≠ 0:=Int.mul_ne_zero (by have:=h.b1; omega) (by have:=k.b1; omega)
 have z1:=(h.s1.mul k.s2).mono h1
 have z2:=(k.s1.mul h.s2).mono h2
 exact ⟨Mth.Sz.top b0 (z1.add z2),(Mth.Sz.bot b0 (h.s2.mul k.s2)).mono h3,Mth.Jc4 b0,Mth.g_low b0⟩
theorem FB.low {A B:Nat} {t b:Int} (hb:1 ≤ b) (h1:Mth.Sz A t) (h2:Mth.Sz B b):FB A B (Mth.top t b,Mth.bot t b):=by
 have b0:b ≠ 0:=by omega
 exact ⟨Mth.Sz.top b0 h1,Mth.Sz.bot b0 h2,Mth.Jc4 b0,Mth.g_low b0⟩
end L2
namespace L2
open PySem PySem.Spec PyProof.Rows Ch
end L2
namespace L2
open PySem PySem.Spec PyProof.Rows Ch
end L2
namespace L2
open PySem PySem.Spec PyProof.Rows Ch
end L2
namespace L2
open PySem PySem.Spec PyProof.Rows Ch
end L2
namespace L2
open PySem PySem.Spec PyProof.Rows Ch
structure FW (A B:Nat) (a:Int × Int):Prop where
 s1:Mth.Sz A a.1
 s2:Mth.Sz B a.2
 b1:1 ≤ a.2
theorem FB.w {A B:Nat} {a:Int × Int} (h:FB A B a):FW A B a:=⟨h.s1,h.s2,h.b1⟩
theorem FW.mono {A B C D:Nat} {a:Int × Int} (h:FW A B a) (h1:A ≤ C) (h2:B ≤ D):FW C D a:=⟨h.s1.mono h1,h.s2.mono h2,h.b1⟩
end L2
namespace L2
open PySem PySem.Spec PyProof.Rows Ch
end L2
namespace L2
open PySem PySem.Spec PyProof.Rows Ch
section
variable {X:Cx} {K:PySem.W.Frag} {o e:Expr} {es:List Expr} {to:TE} {t:TA} {name:Str} {apos cpos:Pos} {T id:String} {r:V→List V→Hp→VK→Prop}
end
end L2
namespace L2
open PySem PySem.Spec PyProof.Rows
section
variable {X:Cx}
theorem JiO {kvs:List (Key × V)} {vs:List (Key × Value)} (r:KV kvs vs):Vals (kvs.map (·.2)) (vs.map (·.2)):=by
 unfold KV at r
 induction r with
 | nil => exact .nil
 | cons h _ ih => exact .cons h.2 ih
end
section
variable {prog:Program} {w:World} {A:Around} {E:Value→Shared→Prop} {s:Shared}
end
end L2
namespace L2
open PySem PySem.Spec PyProof.Rows
section
variable {X:Cx}
end
section
variable {X:Cx} {k k':Nat} {x mn:Str} {C:Addr} {Cs:Addr→Prop} {ps:List Str} {sp:Sp} {p pos apos:Pos} {e o:Expr} {es:List Expr} {t:TA} {ta:TE}
abbrev TX:=St→Hp→VK→XK→Prop
end
end L2
namespace L2
open PySem PySem.Spec PyProof.Rows
section
variable {X:Cx}
theorem JgX:OpR X (compareOp .NotIn) (rIn X.K true):=JeH
end
section
variable {σ : St} {H:Hp} {Q:VK} {E:XK} {ta td ty:TE} {ts:TA} {tc:TT} {t u:TX} {C:Addr} {sp:Sp} {Cs:Addr→Prop} {m:Str}
theorem y3dy:tDIn ty td σ H Q = ty σ H fun y H1 => td σ H1 fun x H2 => ∃ a o,x = .ref a∧DGet H2 a y o∧Q (.bl o.isSome) H2:=rfl
theorem y41y:Jhe ty td σ H Q = ty σ H fun y H1 => td σ H1 fun x H2 => ∃ a o,x = .ref a∧DGet H2 a y o∧Q (.bl (!o.isSome)) H2:=rfl
end
section
variable {α κ : Type} [DecidableEq κ] {f : α→κ} {k : κ} {u y : α}
end
section
variable {α : Type} {P : α→V→Prop}
theorem All2.set:∀ {as:List α} {xs:List V} {i:Nat} {a : α} {x:V},All2 P as xs→P a x→All2 P (as.set i a) (xs.set i x)
 | [],xs,i,a,x,h,_ => by
  have : xs = []:=h
  subst this
  simp
  exact h
 | b :: as,xs,0,a,x,h,p => by
  obtain ⟨y,r,rfl,_,h2⟩:=h
  exact ⟨x,r,rfl,p,h2⟩
 | b :: as,xs,i + 1,a,x,h,p => by
  obtain ⟨y,r,rfl,h1,h2⟩:=h
  exact ⟨y,r.set i x,rfl,h1,All2.set h2 p⟩
end
end L2
namespace L2
open PySem PySem.Spec PyProof.Rows Ch
abbrev nms (ts:List TD):List Str:=ts.map (·.nm)
def BD (P:TD→V→Prop) (ts:List TD) (kvs:List (Key × V)):Prop:=kvs.map (·.1) = ts.map (fun t => Sum.inr t.nm)∧All2 P ts (kvs.map (·.2))
section
variable {P P':TD→V→Prop} {ts:List TD} {kvs:List (Key × V)} {t:TD} {v:V}
theorem BD.cons:BD P (t :: ts) kvs ↔ ∃ w r,kvs = (Sum.inr t.nm,w) :: r∧P t w∧BD P ts r:=by
 constructor
 ·rintro ⟨h1,h2⟩
  match kvs,h1,h2 with
  | (k,w) :: r,h1,h2 =>
   rw [List.map_cons,List.map_cons,List.cons.injEq] at h1
   obtain ⟨y,r',e,p,h2⟩:=h2
   rw [List.map_cons,List.cons.injEq] at e
   obtain ⟨rfl,rfl⟩:=e
   obtain ⟨h0,h1⟩:=h1
   have h0:k = Sum.inr t.nm:=h0
   subst h0
   exact ⟨_,r,rfl,p,h1,h2⟩
 ·rintro ⟨w,r,rfl,p,h⟩
  exact ⟨by rw [List.map_cons,List.map_cons,h.1],w,r.map (·.2),rfl,p,h.2⟩
theorem BD.nil:BD P [] kvs ↔ kvs = []:=by
 constructor
 ·rintro ⟨h,_⟩
  simpa using h
 ·rintro rfl
  exact ⟨rfl,rfl⟩
end
end L2
namespace L2
open PySem PySem.Spec PyProof.Rows Ch
def nameL:List Str:=["a", "aa", "aaa", "b", "ab", "zzzzzzzz"]
theorem sub_len {α : Type} [DecidableEq α]:∀ (l m:List α),l.Nodup→l ⊆ m→l.length ≤ m.length
 | [],m,_,_ => by simp
 | a :: l,m,hn,hs => by
  rw [List.nodup_cons] at hn
  have ha:a ∈ m:=hs (by simp)
  have:=sub_len l (m.erase a) hn.2 fun x hx => (List.mem_erase_of_ne (show x ≠ a from fun e => hn.1 (e ▸ hx))).mpr (hs (by simp [hx]))
  rw [List.length_erase_of_mem ha] at this
  have:=List.length_pos_of_mem ha
  rw [List.length_cons]
  omega
structure Good (ts:List TD):Prop where
 nd:(nms ts).Nodup
 ok:∀ t ∈ ts,TOk t
 nm:∀ t ∈ ts,t.nm ∈ nameL
theorem Good.len {ts:List TD} (g:Good ts):ts.length ≤ 6:=by
 have:=sub_len (nms ts) nameL g.nd fun z hz => by
  obtain ⟨t,ht,rfl⟩:=List.mem_map.mp hz
  exact g.nm t ht
 rw [List.length_map] at this
 exact this
end L2
namespace L2
open PySem PySem.Spec PyProof.Rows
section
variable {X:Cx} {pins:List (Addr × Obj)} {σ : St} {H:Hp} {s:Shared} {a:Addr} {kvs:List (Key × V)} {k:Key} {u r:Value} {y:V} {A:Around} {E:Value→Shared→Prop}
theorem JhI {v:Option V} {o:Option Value} {w:Value} (h:RelO v o) (e:o = some w):∃ x,v = some x∧RelV x w:=by
 subst e
 cases v with
 | none => exact absurd h (by simp [RelO])
 | some x => exact ⟨x,rfl,h⟩
theorem JhH {v:Option V} {o:Option Value} (h:RelO v o) (e:o = none):v = none:=by
 subst e
 cases v with
 | none => rfl
 | some x => exact absurd h (by simp [RelO])
theorem Jhn {Q:Value→Shared→Prop} (I:Inv X pins σ H s) (e:H a = some (.dK kvs)) (ry:RelV (kV k) u) (rd:RelV y r) (hl:kvs.length < sizeLine)
  (h1:∀ v w' s',valV kvs k = some v→Inv X pins σ H s'→RelV v w'→Q w' s') (h2:∀ s',valV kvs k = none→Inv X pins σ (upd H a (.dK (putK kvs k y))) s'→Q r s') :
  wpAny (model X.prog X.w) A (call (.builtin "dict.setdefault") [.ref a,u,r]) Q E s:=by
 obtain ⟨z,hd,vs,rel,dd⟩:=dk_of I.hok e
 refine call_meetsIn PySem.F.slot_dict_setdefault dd.typeIs PySem.F.entry_dict_setdefault (PySem.F.args_dict_setdefault_3 _ _ _) (PySem.kt_meets_setdefault (JaQ X.prog X.w) a (kV_is ry) hd r) ⟨vs,dd,by rw [← rel.length]; exact z,fun w hw => ?_,fun hn h' dd' hs => ?_⟩
 ·obtain ⟨x,hx,rx⟩:=JhI (rel.val k) hw
  exact h1 x w _ hx (I.tok _) rx
 ·have hv:=JhH (rel.val k) hn
  refine h2 _ hv ?_
  have he:∃ q,h'.get? a = some q:=let ⟨q,_,_,hq,_⟩:=dd'; ⟨q,hq⟩
  have hz:(putK kvs k y).length ≤ sizeLine:=by have:=Ja8 kvs k y; omega
  exact JdY I (by rw [e]; exact True.intro) hs he (Jgz hz hd (rel.put k rd) dd')
end
def tDSet (td ty tx:TE):TE:=fun σ H Q => td σ H fun x H1 => ∃ a,x = .ref a∧IsD H1 a∧ty σ H1 fun y H2 => tx σ H2 fun z H3 => ∃ kvs k,H3 a = some (.dK kvs)∧y = kV k∧kvs.length < sizeLine ∧
 (∀ v,valV kvs k = some v→Q v H3)∧(valV kvs k = none→Q z (upd H3 a (.dK (putK kvs k z))))
section
variable {X:Cx} {o e f:Expr} {apos cpos:Pos} {td ty tx:TE}
theorem Jg0 (ho:PE X o td) (he:PE X e ty) (hf:PE X f tx) (m:M2 X o "setdefault" apos e f cpos):PE X (.Call (.Attribute o "setdefault" apos) [e,f] [] cpos) (tDSet td ty tx):=by
 intro pins s σ H Q I h
 refine wpAny_Call_method m.base m.few m.line PySem.F.plainAttrs_dict PySem.F.slot_dict_setdefault PySem.F.type_dict_setdefault (thn (ho pins s σ H _ I h) fun u s1 ⟨x,H1,I1,rx,a,ex,d,q1⟩ => ?_)
 subst ex
 obtain rfl:u = Value.ref a:=rx
 obtain ⟨t1,t2,_⟩:=JfC I1 d
 refine ⟨t1,t2, ?_⟩
 rw [m.trees]
 refine Calls.callWith_builtin rfl (Calls.evalArgs_plain (Calls.spliced_cons (thn (he pins s1 σ H1 _ I1 q1) fun iv s2 ⟨y,H2,I2,ry,q2⟩ =>
  Calls.spliced_cons (thn (hf pins s2 σ H2 _ I2 q2) fun fv s3 ⟨z,H3,I3,rz,kvs,k,ea,ey,hl,q3,q4⟩ => Calls.spliced_nil ?_))))
 subst ey
 exact Jhn I3 ea ry rz hl (fun v w' s4 hv I4 rw' => ⟨v,H3,I4,rw',q3 v hv⟩) fun s4 hv I4 => ⟨z,_,I4,rz,q4 hv⟩
end
section
variable {X:Cx}
def JiI:V→List V→Hp→VK→Prop:=fun x vs H Q => ∃ l xs y n,x = .ref l∧vs = [.int ((n:Nat):Int),y]∧H l = some (.lst xs)∧n ≤ xs.length∧xs.length < sizeLine∧Q .non (upd H l (.lst (xs.take n ++ y :: xs.drop n)))
theorem JgL:MtM X "list.insert" JiI:=by
 intro pins s σ H x vs v us Q I rx rv h
 obtain ⟨l,xs,y,i,rfl,rfl,hH,hi,hz,q⟩:=h
 cases rx
 cases rv with
 | cons r1 rv =>
  obtain ⟨t,rfl⟩:=r1
  obtain ⟨u,rfl,ru⟩:=vals1 rv
  obtain ⟨z,its,n,r,hl,e⟩:=I.lstM hH
  have hs:=sizeLine_eq
  have hf:=fitsIndex_both (k:=(i:Int)) (by omega) (by omega)
  have hc:¬ (!Builtin.List.listFitsIndex (i:Int)) = true:=by rw [hf]; decide
  have h1:its.toArray.size ≤ sizeLine:=by rw [List.size_toArray]; omega
  clear hs
  generalize hj:(i:Int) = j at hc ⊢
  have hm:=@AutoSeq1.list_insert_list_int_val_1 l its.toArray n j t u hc h1
  refine call_meets F.slot_list_insert ⟨_,e,rfl⟩ F.entry_list_insert (F.args_list_insert_3 _ _ _) hm ⟨e, ?_⟩
  refine ⟨.non,_,I.lset (its':=its.take i ++ u :: its.drop i) hH e ?_ ?_ ?_,rfl,q⟩
  ·subst hj
   have ei:min i its.length = i:=by omega
   have ek:(if (i:Int) < 0 then ((i:Int) + (its.toArray.size:Int)).toNat else min (i:Int).toNat its.toArray.size) = i:=by
    rw [if_neg (by omega),Int.toNat_natCast,List.size_toArray,ei]
   show (its.toArray.extract 0 (if (i:Int) < 0 then ((i:Int) + (its.toArray.size:Int)).toNat else min (i:Int).toNat its.toArray.size)).push u ++ its.toArray.extract (if (i:Int) < 0 then ((i:Int) + (its.toArray.size:Int)).toNat else min (i:Int).toNat its.toArray.size) = _
   rw [ek]
   apply Array.ext'
   simp
   exact List.take_of_length_le (by rw [List.length_drop]; exact Nat.le_refl _)
  ·exact (r.take i).append (.cons ru (r.drop i))
  ·rw [List.length_append,List.length_cons,List.length_take,List.length_drop]
   omega
end
section
variable {σ : St} {H:Hp} {Q:VK} {td ty tx:TE}
theorem y45y:tDSet td ty tx σ H Q = td σ H fun x H1 => ∃ a,x = .ref a∧IsD H1 a∧ty σ H1 fun y H2 => tx σ H2 fun z H3 => ∃ kvs k,H3 a = some (.dK kvs)∧y = kV k∧kvs.length < sizeLine∧(∀ v,valV kvs k = some v→Q v H3)∧(valV kvs k = none→Q z (upd H3 a (.dK (putK kvs k z)))):=rfl
theorem y3cy:Jh0 td ty tx σ H Q = td σ H fun x H1 => ∃ a,x = .ref a∧IsD H1 a∧ty σ H1 fun y H2 => tx σ H2 fun z H3 => ∃ o,DGet H3 a y o∧Q (o.getD z) H3:=rfl
theorem y3ey {trs:List (TE × TE)}:tDisp trs σ H Q = ∀ p,H p = none→JeP trs σ (upd H p (.dK [])) fun ps H2 => H2 p = some (.dK [])∧∃ kvs:List (Key × V),ps = kvs.map (fun kv => (kV kv.1,kv.2))∧kvs.length ≤ 15∧Q (.ref p) (upd H2 p (.dK (JdM [] kvs))):=rfl
theorem y79y {tk tv:TE} {R:List (V × V)→Hp→Prop}:JeP [(tk,tv)] σ H R = tk σ H fun x H1 => tv σ H1 fun y H2 => R [(x,y)] H2:=rfl
theorem y2cy {K:PySem.W.Frag} {T:String} {r:V→List V→Hp→VK→Prop} {to:TE}:tBM0 K T r to σ H Q = to σ H fun x H1 => tyV K T x H1∧r x [] H1 Q:=rfl
end
end L2
namespace L2
open PySem PySem.Spec PyProof.Rows Ch
def BG {α : Type} (f : α→Str) (P : α→V→Prop) (as:List α) (kvs:List (Key × V)):Prop:=kvs.map (·.1) = as.map (fun a => Sum.inr (f a))∧All2 P as (kvs.map (·.2))
section
variable {α : Type} {f : α→Str} {P P' : α→V→Prop} {as:List α} {kvs:List (Key × V)} {a : α} {v:V}
theorem BG.mono (h:BG f P as kvs) (m:∀ a x,P a x→P' a x):BG f P' as kvs:=⟨h.1,h.2.mono m⟩
theorem BG.length (h:BG f P as kvs):kvs.length = as.length:=by simpa using congrArg List.length h.1
theorem BG.cons:BG f P (a :: as) kvs ↔ ∃ w r,kvs = (Sum.inr (f a),w) :: r∧P a w∧BG f P as r:=by
 constructor
 ·rintro ⟨h1,h2⟩
  match kvs,h1,h2 with
  | (k,w) :: r,h1,h2 =>
   rw [List.map_cons,List.map_cons,List.cons.injEq] at h1
   obtain ⟨y,r',e,p,h2⟩:=h2
   rw [List.map_cons,List.cons.injEq] at e
   obtain ⟨rfl,rfl⟩:=e
   obtain ⟨h0,h1⟩:=h1
   have h0:k = Sum.inr (f a):=h0
   subst h0
   exact ⟨_,r,rfl,p,h1,h2⟩
 ·rintro ⟨w,r,rfl,p,h⟩
  exact ⟨by rw [List.map_cons,List.map_cons,h.1],w,r.map (·.2),rfl,p,h.2⟩
theorem BG.nil:BG f P [] kvs ↔ kvs = []:=by
 constructor
 ·rintro ⟨h,_⟩
  simpa using h
 ·rintro rfl
  exact ⟨rfl,rfl⟩
theorem BG.any:∀ {as:List α} {kvs:List (Key × V)} {z:Str},BG f P as kvs→(kvs.any fun kv => decide (kv.1 = Sum.inr z)) = decide (z ∈ as.map f)
 | [],kvs,z,h => by rw [BG.nil.mp h]; simp
 | a :: as,kvs,z,h => by
  obtain ⟨w,r,rfl,_,h⟩:=BG.cons.mp h
  rw [List.any_cons,BG.any h]
  by_cases c:f a = z
  ·subst c
   simp
  ·have c1:(Sum.inr (f a):Key) ≠ Sum.inr z:=fun e => c (by injection e)
   have c2:z ≠ f a:=fun e => c e.symm
   simp [c1,c2]
theorem BG.get:∀ {as:List α} {kvs:List (Key × V)} {z:Str},BG f P as kvs→(∃ a v,a ∈ as∧f a = z∧valV kvs (Sum.inr z) = some v∧P a v) ∨ (z ∉ as.map f∧valV kvs (Sum.inr z) = none)
 | [],kvs,z,h => by
  rw [BG.nil.mp h]
  exact .inr ⟨by simp,rfl⟩
 | a :: as,kvs,z,h => by
  obtain ⟨w,r,rfl,p,h⟩:=BG.cons.mp h
  by_cases c:f a = z
  ·subst c
   exact .inl ⟨a,w,by simp,rfl,Ja7 rfl,p⟩
  ·have c1:(Sum.inr (f a):Key) ≠ Sum.inr z:=fun e => c (by injection e)
   have c2:z ≠ f a:=fun e => c e.symm
   have e:valV ((Sum.inr (f a),w) :: r) (Sum.inr z) = valV r (Sum.inr z):=by simp [valV,List.find?_cons,c1]
   rw [e]
   rcases BG.get h (z:=z) with ⟨b,v,h1,h2,h3,h4⟩ | ⟨h1,h2⟩
   ·exact .inl ⟨b,v,by simp [h1],h2,h3,h4⟩
   ·exact .inr ⟨by simp [c2]; simpa using h1,h2⟩
theorem BG.some {z:Str} (h:BG f P as kvs) (hz:z ∈ as.map f):∃ a v,a ∈ as∧f a = z∧valV kvs (Sum.inr z) = some v∧P a v:=by
 rcases h.get (z:=z) with h | ⟨h,_⟩
 ·exact h
 ·exact absurd hz h
theorem BG.none {z:Str} (h:BG f P as kvs) (hz:z ∉ as.map f):valV kvs (Sum.inr z) = none:=by
 rcases h.get (z:=z) with ⟨a,v,h1,h2,_⟩ | ⟨_,h⟩
 ·exact absurd (h2 ▸ List.mem_map_of_mem (f:=f) h1) hz
 ·exact h
theorem BG.val {z:Str} (h:BG f P as kvs):(valV kvs (Sum.inr z)).isSome = decide (z ∈ as.map f):=by
 by_cases c:z ∈ as.map f
 ·obtain ⟨a,v,_,_,e,_⟩:=h.some c
  rw [e,decide_eq_true c]
  rfl
 ·rw [h.none c,decide_eq_false c]
  rfl
theorem BG.new (h:BG f P as kvs) (hn:f a ∉ as.map f) (p:P a v):BG f P (as ++ [a]) (putK kvs (Sum.inr (f a)) v):=by
 have e:putK kvs (Sum.inr (f a)) v = kvs ++ [(Sum.inr (f a),v)]:=by
  unfold putK
  rw [h.any,if_neg (by simpa using hn)]
 rw [e]
 exact ⟨by rw [List.map_append,List.map_append,h.1]; rfl,by rw [List.map_append]; exact h.2.append (.one p)⟩
end
structure PD where
 nm:Str
 st:Str
 en:Str
 sz:Int × Int
 mo:Int × Int
 wt:Int
def JcN (p:PD) (f:Str):List (Str × Pr):=if p.st = f then [(p.en,(p.nm,true))] else if p.en = f then [(p.st,(p.nm,false))] else []
def JaE (ls:List PD) (f:Str):List (Str × Pr):=ls.flatMap fun p => JcN p f
theorem Jdc (ls:List PD) (p:PD) (f:Str):JaE (ls ++ [p]) f = JaE ls f ++ JcN p f:=by simp [JaE]
theorem Jbe {ls:List PD} {f g:Str} {pr:Pr}:(g,pr) ∈ JaE ls f ↔ ∃ p ∈ ls,(p.st = f∧p.en = g∧pr = (p.nm,true)) ∨ (p.st ≠ f∧p.en = f∧p.st = g∧pr = (p.nm,false)):=by
 unfold JaE
 rw [List.mem_flatMap]
 refine exists_congr fun p => and_congr_right fun _ => ?_
 unfold JcN
 by_cases c1:p.st = f
 ·rw [if_pos c1,List.mem_singleton,Prod.mk.injEq]
  exact ⟨fun h => .inl ⟨c1,h.1.symm,h.2⟩,fun h => h.elim (fun h => ⟨h.2.1.symm,h.2.2⟩) fun h => absurd c1 h.1⟩
 ·rw [if_neg c1]
  by_cases c2:p.en = f
  ·rw [if_pos c2,List.mem_singleton,Prod.mk.injEq]
   exact ⟨fun h => .inr ⟨c1,c2,h.1.symm,h.2⟩,fun h => h.elim (fun h => absurd h.1 c1) fun h => ⟨h.2.2.1.symm,h.2.2.2⟩⟩
  ·rw [if_neg c2]
   exact ⟨fun h => by simp at h,fun h => h.elim (fun h => absurd h.1 c1) fun h => absurd h.2.1 c2⟩
theorem JgO:∀ {ls:List PD} {p q:PD},(ls.map (·.nm)).Nodup→p ∈ ls→q ∈ ls→p.nm = q.nm→p = q
 | [],_,_,_,hp,_,_ => by cases hp
 | a :: ls,p,q,hn,hp,hq,e => by
  rw [List.map_cons,List.nodup_cons] at hn
  rcases List.mem_cons.mp hp with h1 | h1 <;> rcases List.mem_cons.mp hq with h2 | h2
  ·rw [h1,h2]
  ·subst h1
   exact absurd (e ▸ List.mem_map.mpr ⟨q,h2,rfl⟩) hn.1
  ·subst h2
   exact absurd (e ▸ List.mem_map.mpr ⟨p,h1,rfl⟩) hn.1
  ·exact JgO hn.2 h1 h2 e
inductive Jbc (ls:List PD) (a:Str):List Pr→Str→Prop
 | nil:Jbc ls a [] a
 | snoc {w:List Pr} {f g:Str} {pr:Pr}:Jbc ls a w f→(g,pr) ∈ JaE ls f→Jbc ls a (w ++ [pr]) g
def Conn (ls:List PD) (a b:Str):Prop:=∃ w,Jbc ls a w b
theorem Jie {ls:List PD} {a b:Str} {S:List Str} (ha:a ∈ S) (hc:∀ f ∈ S, ∀ e ∈ JaE ls f,e.1 ∈ S) (h:Conn ls a b):b ∈ S:=by
 obtain ⟨w,h⟩:=h
 induction h with
 | nil => exact ha
 | snoc _ hm ih => exact hc _ ih _ hm
def fcsOf (ls:List PD):List Str:=ls.flatMap fun p => [p.st,p.en]
theorem JfE {ls:List PD} {f:Str} {e:Str × Pr} (h:e ∈ JaE ls f):e.1 ∈ fcsOf ls:=by
 obtain ⟨p,hp,he⟩:=List.mem_flatMap.mp h
 refine List.mem_flatMap.mpr ⟨p,hp, ?_⟩
 unfold JcN at he
 split at he
 ·rw [List.mem_singleton.mp he]
  simp
 ·split at he
  ·rw [List.mem_singleton.mp he]
   simp
  ·simp at he
theorem JfU {ls:List PD} {a b:Str} {w:List Pr} (h:Jbc ls a w b):b ∈ a :: fcsOf ls:=by
 cases h with
 | nil => simp
 | snoc _ hm => exact List.mem_cons_of_mem _ (JfE hm)
theorem Jii (ls:List PD):(fcsOf ls).length = 2 * ls.length:=by
 unfold fcsOf
 induction ls with
 | nil => rfl
 | cons p ls ih =>
  rw [List.flatMap_cons,List.length_append,ih]
  simp
  omega
end L2
namespace L2
open PySem PySem.Spec PyProof.Rows
section
variable {X:Cx} {pins:List (Addr × Obj)} {σ : List (Option V)} {H H':Hp} {s s':Shared} {d:Addr} {kvs kvs':List (Key × V)} {od:Obj}
theorem Inv.freeze (I:Inv X pins σ H s) (e:H d = some (.dK kvs)) (ho:s.heap.get? d = some od):Inv X pins σ (upd H d (.frz od (.dK kvs))) s:=by
 refine I.un (h':=s.heap) (t':=s.toks) ⟨fun b o q _ _ _ => q,fun b o q _ _ _ => ⟨o.slots,q⟩,fun b o q n _ => ?_,fun b o q _ => ⟨o,q⟩,fun b xs q => ?_,fun b o u q => ?_,fun b ps q => ⟨#[], ?_⟩⟩ fun a o q => ?_
 ·rw [Jah (fun z => by rw [z,e] at n; cases n)]
  exact n
 ·rw [Jah (fun z => by rw [z,e] at q; cases q)]
  exact q
 ·rw [Jah (fun z => by rw [z,e] at q; cases q)]
  exact q
 ·rw [Jah (fun z => by rw [z,e] at q; cases q),Array.append_empty]
  exact q
 ·have ho':∀ a' b,H b = some (.own a')→upd H d (.frz od (.dK kvs)) b = some (.own a'):=fun a' b q => by
   rw [Jah (fun z => by rw [z,e] at q; cases q)]
   exact q
  have ht':∀ b xs,H b = some (.tup xs)→upd H d (.frz od (.dK kvs)) b = some (.tup xs):=fun b xs q => by
   rw [Jah (fun z => by rw [z,e] at q; cases q)]
   exact q
  by_cases c:a = d
  ·subst c
   rw [Jak] at q
   cases q
   exact ⟨ho,(I.hok a _ e).stay (fun _ _ _ z => z) (ho' a) ht'⟩
  ·rw [Jah c] at q
   exact (I.hok a o q).stay (fun _ _ _ z => z) (ho' a) ht'
theorem Inv.thaw (I:Inv X pins σ H s) (e:H d = some (.dK kvs)) (I':Inv X pins σ H' s') (e':H' d = some (.frz od (.dK kvs'))):Inv X pins σ (upd H' d (.dK kvs')) s':=by
 have ne:∀ {b:Addr} {o:HO},H' b = some o→(∀ u v,o ≠ .frz u v)→b ≠ d:=fun q h z => by rw [z,e'] at q; cases q; exact h _ _ rfl
 refine ⟨I'.ok,I'.os,I'.bare,⟨I'.base.keep,I'.base.slot,fun b o q n hx => ?_,I'.base.there,fun b xs q => ?_,fun b o u q => ?_,fun b ps q => ?_⟩,I'.loc,I'.cell, ?_,fun x c z => ?_,fun p hp => ?_,fun a o q => ?_,I'.len⟩
 ·have:=I'.base.free b o q n hx
  rw [Jah (fun z => by rw [z,e'] at this; cases this)]
  exact this
 ·have:=I'.base.tups b xs q
  rw [Jah (ne this (by intro u v z; cases z))]
  exact this
 ·have h1:=I'.base.frzs b o u q
  have h2:=I.base.frzs b o u q
  rw [Jah (fun z => by rw [z,e] at h2; cases h2)]
  exact h1
 ·obtain ⟨more,h1⟩:=I'.base.tbls b ps q
  exact ⟨more,by rw [Jah (ne h1 (by intro u v z; cases z))]; exact h1⟩
 ·have:=I'.free
  rw [Jah (fun z => by rw [z,e'] at this; cases this)]
  exact this
 ·have:=I'.freeC x c z
  rw [Jah (fun z => by rw [z,e'] at this; cases this)]
  exact this
 ·obtain ⟨h1,h2,h3⟩:=I'.pin p hp
  exact ⟨h1,by rw [Jah (fun z => by rw [z,e'] at h2; cases h2)]; exact h2,h3⟩
 ·have ho':∀ a' b,H' b = some (.own a')→upd H' d (.dK kvs') b = some (.own a'):=fun a' b q => by
   rw [Jah (ne q (by intro u v z; cases z))]
   exact q
  have ht':∀ b xs,H' b = some (.tup xs)→upd H' d (.dK kvs') b = some (.tup xs):=fun b xs q => by
   rw [Jah (ne q (by intro u v z; cases z))]
   exact q
  by_cases c:a = d
  ·subst c
   rw [Jak] at q
   cases q
   have h1:ObjOk X.prog X.w H' s'.heap a (.dK kvs'):=(I'.hok a _ e').2
   exact h1.stay (fun _ _ _ z => z) (ho' a) ht'
  ·rw [Jah c] at q
   exact (I'.hok a o q).stay (fun _ _ _ z => z) (ho' a) ht'
end
def Itv (d:Addr) (od:Obj) (kvs:List (Key × V)):It :=
 ⟨fun i H => H d = some (.frz od (.dK kvs))∧i < kvs.length,fun i H x H' => H' = H∧(kvs.map (·.2))[i]? = some x,fun i H => H d = some (.frz od (.dK kvs))∧kvs.length ≤ i⟩
theorem Jhh {P:Program} {w:World} {K:PySem.W.Frag} {tg:Expr} {d it:Addr} {od:Obj} {kvs:List (Key × V)} {vs:List (Key × Value)} {ep:Nat} (rel:KV kvs vs) (hd:∀ h:Heap,h.get? d = some od→h.DictAt (JaQ P w) d vs ep) :
  Turn P w K tg (Itv d od kvs) [it] it (fun i h => h.IsValIter it d i vs.length ep) where
 mem:=by simp
 obj:=fun i h st b hb => by
  obtain rfl:b = it:=by simpa using hb
  obtain ⟨o,e,c,z⟩:=st
  exact ⟨o,e,fun v q => by rw [z] at q; cases q⟩
 keep:=fun i h h' st k => st.at fun o e => k it (by simp) o e
 item:=by
  intro X hP hw hK hc i pins s σ H E I hf st hg
  subst hP hw hK
  obtain ⟨hfz,hi⟩:=hg
  obtain ⟨f0,f1,f2,f3,f4,f5⟩:=hf it (by simp)
  have g:=(I.hok d _ hfz).1
  have lv:=rel.length
  have r2:=JiO rel
  obtain ⟨x,hx⟩:∃ x,(kvs.map (·.2))[i]? = some x:=⟨_,List.getElem?_eq_getElem (by rw [List.length_map]; exact hi)⟩
  obtain ⟨u,hu,ru⟩:=r2.get hx
  rw [List.getElem?_map] at hu
  obtain ⟨⟨k,u'⟩,hk,rfl⟩:=Option.map_eq_some_iff.mp hu
  refine wpAny_pyNext_values_item st (hd _ g) hk fun h' st' sb => ?_
  have I1:Inv X pins σ H { s with heap:=h' }:=I.turned (t':=s.toks) (fun b o hb e => (sb.2 b hb).trans e) f0 f1 f3 f4 f5
  obtain ⟨o,e,c,z⟩:=id st'
  exact ⟨_,rfl,go_of (s:={ s with heap:=h' }) e c z (by decide) ⟨x,H,I1,ru,⟨rfl,hx⟩,st',fun b hb => (hf b hb).1⟩⟩
 done:=by
  intro X hP hw hK hc i pins s σ H E I hf st hg
  subst hP hw hK
  obtain ⟨hfz,hi⟩:=hg
  obtain ⟨f0,f1,f2,f3,f4,f5⟩:=hf it (by simp)
  have g:=(I.hok d _ hfz).1
  have lv:=rel.length
  exact wpAny_pyNext_values_end (I.ok.hd hc) st (hd _ g) (List.getElem?_eq_none (by omega)) fun h' eb => ⟨rfl,I.turned (t':=s.toks) (fun b o hb e => eb b o hb e) f0 f1 f3 f4 f5⟩
 self:=fun _ _ _ _ _ st h => wpAny_pyIter_valiter st h
section
variable {X:Cx} {tg:Expr}
def iVals (td:TE):TI:=fun σ H R => td σ H fun x H1 => ∃ d kvs,x = .ref d∧H1 d = some (.dK kvs)∧∀ od,R (Itv d od kvs) (upd H1 d (.frz od (.dK kvs)))
theorem Jg3 {o:Expr} {td:TE} {apos cpos:Pos} (ho:PE X o td) (hb:attributeBase o "values" X.env (eval o X.env) = eval o X.env:=by rfl) (hn:(apos.endLine == cpos.line) = true:=by rfl) :
  PI X tg (.Call (.Attribute o "values" apos) [] [] cpos) (iVals td):=by
 intro pins s σ H R I h
 refine wpAny_Call_method0_late hb hn (thn (ho pins s σ H _ I h) fun v s1 ⟨y,H1,I1,r1,d,kvs,ex,e,q1⟩ => ?_)
 subst ex
 obtain rfl:v = Value.ref d:=r1
 obtain ⟨t1,t2,hS⟩:=JfC I1 (.inl ⟨kvs, .inl e⟩)
 obtain ⟨hz,_,vs,rel,dd⟩:=dk_of I1.hok e
 refine ⟨"dict", "dict.values",PySem.F.plainAttrs_dict,PySem.F.slot_dict_values,PySem.F.type_dict_values,t1,t2,Calls.callWith_builtin rfl (PySem.evalArgs_none ?_)⟩
 refine call_meetsIn PySem.F.slot_dict_values t1 PySem.F.entry_dict_values (PySem.F.args_dict_values_1 _) (meets_dict_values (JaQ X.prog X.w) d hS) ⟨⟨vs,dd⟩, ?_⟩
 obtain ⟨ep,da⟩:=dd.dictAt
 obtain ⟨od,es,hod,rest⟩:=id da
 refine wpAny_pyIter_values (knd:=JaQ X.prog X.w) (v:=s1.heap.objs.size) (d:=d) (kvs:=vs) (ep:=ep) ⟨_,Heap.get?_push_size _ rfl,rfl,rfl⟩ (da.push _) ?_
 have kk:∀ b o,s1.heap.get? b = some o→((s1.heap.push { cls:=.type "dict_values",data:=.fields #[.ref d] }).push { cls:=.type "dict_valueiterator",data:=.fields #[.ref d, .int 0 0, .int vs.length 0, .int ep 0] }).get? b = some o:=fun b o z => Heap.get?_push_of_some _ (Heap.get?_push_of_some _ z)
 have I2:=(I1.freeze e hod).kept (t':=s1.toks) kk
 have sz:s1.heap.objs.size ≤ (s1.heap.push { cls:=.type "dict_values",data:=.fields #[.ref d] }).objs.size:=by
  rw [Heap.size_push]
  exact Nat.le_succ _
 refine ⟨_,[_],_,_,_,rfl,I2,Jhh (vs:=vs) (ep:=ep) rel (fun h q => ⟨od,es,q,rest⟩),⟨_,Heap.get?_push_size _ rfl,rfl,rfl⟩,fun b hb' => ?_,q1 od⟩
 obtain rfl:=List.mem_singleton.mp hb'
 exact I1.fpOk sz ((I1.freeze e hod).hok.fresh sz)
def tThaw (t:TE):TE:=fun σ H Q => ∃ d kvs,H d = some (.dK kvs)∧t σ H fun v H' => ∃ od kvs',H' d = some (.frz od (.dK kvs'))∧Q v (upd H' d (.dK kvs'))
theorem Jg1 {e:Expr} {t:TE} (h:PE X e t):PE X e (tThaw t):=by
 intro pins s σ H Q I ⟨d,kvs,hd,q⟩
 exact thn (h pins s σ H _ I q) fun v s1 ⟨x,H1,I1,r1,od,kvs',e',q1⟩ => ⟨x,_,I.thaw hd I1 e',r1,q1⟩
end
section
variable {k:Nat} {cs:List (Nat × Str)} {g:TG} {te tl td:TE} {σ : St} {H H1:Hp} {Q:VK} {d:Addr} {od:Obj} {kvs:List (Key × V)}
theorem y37y:tThaw (tComp k cs (iVals td) g te) σ H Q = ∃ d kvs,H d = some (.dK kvs)∧td σ H fun x H1 => ∃ d1 kvs1,x = .ref d1∧H1 d1 = some (.dK kvs1)∧∀ od,CompJ (Itv d1 od kvs1) k cs g te σ (fun v H' => ∃ od kvs',H' d = some (.frz od (.dK kvs'))∧Q v (upd H' d (.dK kvs'))) (upd H1 d1 (.frz od (.dK kvs1))):=rfl
theorem CompJ.vals (Pv:Nat→List V→Hp→Prop) (h0:Pv 0 [] H1) (hl:∀ i ys H',i ≤ kvs.length→Pv i ys H'→H' d = some (.frz od (.dK kvs))∧ys.length ≤ sizeLine)
  (hs:∀ i x ys H2,(kvs.map (·.2))[i]? = some x→Pv i ys H2→g x (List.replicate k none ++ JaA cs σ) H2 fun σ4 H4 => te σ4 H4 fun y H5 => Pv (i + 1) (ys ++ [y]) H5) (hd:∀ ys H2,Pv kvs.length ys H2→∀ p,H2 p = none→Q (.ref p) (upd H2 p (.lst ys))) :
  CompJ (Itv d od kvs) k cs g te σ Q H1:=by
 refine ⟨fun i m ys H' => Pv i ys H'∧i ≤ kvs.length∧m = kvs.length - i,⟨_,h0,Nat.zero_le _,rfl⟩, ?_⟩
 rintro i m ys H2 ⟨hp,hi,rfl⟩
 obtain ⟨h1,h2⟩:=hl i ys H2 hi hp
 refine ⟨h2, ?_⟩
 by_cases c:i < kvs.length
 ·refine .inr ⟨⟨h1,c⟩, ?_⟩
  rintro x H3 ⟨rfl,hx⟩
  have e:(fun (σ4:St) (H4:Hp) => te σ4 H4 fun y H5 => Pv (i + 1) (ys ++ [y]) H5) = fun σ4 H4 => te σ4 H4 fun y H5 => ∃ m',m' < kvs.length - i∧Pv (i + 1) (ys ++ [y]) H5∧i + 1 ≤ kvs.length∧m' = kvs.length - (i + 1):=by
   funext σ4 H4
   congr 1
   funext y H5
   exact propext ⟨fun q => ⟨_,Nat.sub_lt_sub_left c (Nat.lt_succ_self i),q,c,rfl⟩,fun ⟨_,_,q,_⟩ => q⟩
  rw [← e]
  exact hs i x ys H3 hx hp
 ·have ei:i = kvs.length:=by omega
  subst ei
  exact .inl ⟨⟨h1,Nat.le_refl _⟩,hd ys H2 hp⟩
end
section
variable {X:Cx} {k k':Nat} {x:Str} {C:Addr} {ps:List Str} {sp:Sp} {E:XK} {p pos:Pos}
theorem KCal.ev0 (G:KCal X.prog X.w X.K X.mg X.base k x C ps sp) (hr:Room k' X.A) (hk:k + 1 ≤ k') (hg:Gl X x) (hx:JbC (CX1 X.prog X.w) X E) (hdb:(x == ("__debug__" : Str)) = false:=by decide) :
  PE X (.Call (.Name x p) [] [] pos) (tMake C sp [] E tNil):=by
 obtain ⟨f,fd,F,hm,M,hb⟩:=G.ex
 exact JhE M F (hr.mono hk) hg hm hb .nil hx hdb
end
end L2
namespace L2
open PySem PySem.Spec PyProof.Rows Ch
def wtB:D→Bool
 | .int i => decide (1 ≤ i)
 | _ => false
def partB:D→Bool
 | .tup [n,s,e,z,m,w] => nameB n && Jcg s e && (fracB z && fracB m && JbJ w) && (!lessD m (.tup [.int 0, .int 1]) && wtB w)
 | _ => false
def gapB:D→Bool
 | .tup [n,s,e,l,g] => tieB (.tup [n,s,e,l,g]) && !nonD l && !nonD g
 | _ => false
structure POk (p:PD):Prop where
 n1:nameS p.nm = true
 n2:nameS p.st = true
 n3:nameS p.en = true
 ne:p.st ≠ p.en
 z:FOk 200 p.sz
 m:FOk 200 p.mo
 m0:0 ≤ p.mo.1
 w:1 ≤ p.wt
 ws:Mth.Sz 200 p.wt
structure GD where
 nm:Str
 st:Str
 en:Str
 lo:Int × Int
 hi:Int × Int
def GD.td (g:GD):TD:=⟨g.nm,g.st,g.en,some g.lo,some g.hi⟩
def pdD (p:PD):D:=.tup [.str p.nm, .str p.st, .str p.en,frD p.sz,frD p.mo, .int p.wt]
theorem POk.part {p:PD} (h:POk p):partB (pdD p) = true:=by
 have e:eqD (.str p.st) (.str p.en) = false:=by simp only [eqD,beq_eq_false_iff_ne]; exact h.ne
 have l:lessD (frD p.mo) (.tup [.int 0, .int 1]) = false:=by
  simp [frD,lessD]
  exact h.m0
 simp [pdD,partB,nameB,Jcg,h.n1,h.n2,h.n3,e,l,frD,fracB,JbJ,wtB,h.z.b1,h.z.g1,h.m.b1,h.m.g1,h.w]
 simpa [frD,lessD] using h.m0
theorem POk.sz {p:PD} (h:POk p):szD (pdD p):=by
 simp only [pdD,frD,szD,szL]
 have:=len8 h.n1
 have:=len8 h.n2
 have:=len8 h.n3
 exact ⟨by omega,by omega,by omega,⟨h.z.s1.mono (by decide),h.z.s2.mono (by decide),trivial⟩,⟨h.m.s1.mono (by decide),h.m.s2.mono (by decide),trivial⟩,h.ws.mono (by decide),trivial⟩
theorem JiZ {g:GD} (h:TOk g.td):gapB (tdD g.td) = true:=by
 have:=h.tie
 simp only [tdD,gapB] at this ⊢
 rw [this]
 rfl
def PDV (K:PySem.W.Frag) (H:Hp) (p:PD) (x:V):Prop:=∃ b vz vm,x = .ref b∧SqT K H b [.str p.nm, .str p.st, .str p.en,vz,vm, .int p.wt]∧FrV K H vz p.sz.1 p.sz.2∧FrV K H vm p.mo.1 p.mo.2
section
variable {K:PySem.W.Frag} {H H':Hp}
theorem PDV.sameT {p:PD} {x:V} (S:SameT H H'):PDV K H p x→PDV K H' p x:=fun ⟨b,vz,vm,e,q,h1,h2⟩ => ⟨b,vz,vm,e,q.sameT S,h1.sameT S,h2.sameT S⟩
theorem PDV.rep {p:PD} {x:V}:PDV K H p x→Rep K H (pdD p) x:=fun ⟨b,vz,vm,e,q,h1,h2⟩ => by
 simp only [pdD,Rep,RepL]
 exact ⟨b,_,e,q,_,_,rfl,rfl,_,_,rfl,rfl,_,_,rfl,rfl,_,_,rfl,FrV.rep h1,_,_,rfl,FrV.rep h2,_,_,rfl,rfl,rfl⟩
end
def LeV (H:Hp) (e:Str × Pr) (x:V):Prop:=∃ b c,x = .ref b∧H b = some (.tup [.str e.1, .ref c])∧H c = some (.tup [.str e.2.1, .bl e.2.2])
theorem LeV.sameT {H H':Hp} {e:Str × Pr} {x:V} (S:SameT H H'):LeV H e x→LeV H' e x:=fun ⟨b,c,h1,h2,h3⟩ => ⟨b,c,h1,S _ _ rfl h2,S _ _ rfl h3⟩
structure JD (H0 H:Hp) (L:Str→List (Str × Pr)) (kvs:List (Key × V)):Prop where
 at_:∀ (f:Str),(valV kvs (Sum.inr f) = none∧L f = []) ∨ ∃ l xs,valV kvs (Sum.inr f) = some (.ref l)∧H0 l = none∧H l = some (.lst xs)∧All2 (LeV H) (L f) xs
 inj:∀ (f g:Str) (l:Addr),valV kvs (Sum.inr f) = some (.ref l)→valV kvs (Sum.inr g) = some (.ref l)→f = g
theorem JD.same {H0 H H':Hp} {L:Str→List (Str × Pr)} {kvs:List (Key × V)} (S:Same H H') (h:JD H0 H L kvs):JD H0 H' L kvs where
 at_:=fun f => by
  rcases h.at_ f with h | ⟨l,xs,h1,h2,h3,h4⟩
  ·exact .inl h
  ·exact .inr ⟨l,xs,h1,h2,S _ _ h3,h4.mono fun _ _ z => z.sameT S.t⟩
 inj:=h.inj
theorem JD.sx {H0 H H':Hp} {L:Str→List (Str × Pr)} {kvs kv2:List (Key × V)} {d:Addr} (S:∀ b u,b ≠ d→H b = some u→H' b = some u) (hd:H d = some (.dK kv2)) (h:JD H0 H L kvs):JD H0 H' L kvs where
 at_:=fun f => by
  have T:SameT H H':=fun b u t q => S b u (fun z => by rw [z,hd] at q; cases q; simp [isTF] at t) q
  rcases h.at_ f with h | ⟨l,xs,h1,h2,h3,h4⟩
  ·exact .inl h
  ·exact .inr ⟨l,xs,h1,h2,S _ _ (fun z => by rw [z,hd] at h3; cases h3) h3,h4.mono fun _ _ z => z.sameT T⟩
 inj:=h.inj
theorem JD.sy {H0 H H':Hp} {L:Str→List (Str × Pr)} {kvs:List (Key × V)} {x:Addr} {o:HO} (S:∀ b u,b ≠ x→H b = some u→H' b = some u) (hx:H x = some o) (hn:∀ xs,o ≠ .lst xs) (ht:isTF o = false) (h:JD H0 H L kvs):JD H0 H' L kvs where
 at_:=fun f => by
  have T:SameT H H':=fun b u t q => S b u (fun z => by rw [z,hx] at q; cases q; rw [ht] at t; cases t) q
  rcases h.at_ f with h | ⟨l,xs,h1,h2,h3,h4⟩
  ·exact .inl h
  ·exact .inr ⟨l,xs,h1,h2,S _ _ (fun z => by rw [z,hx] at h3; exact hn _ (Option.some.inj h3)) h3,h4.mono fun _ _ z => z.sameT T⟩
 inj:=h.inj
theorem JD.nil {H0 H:Hp}:JD H0 H (fun _ => []) []:=⟨fun f => .inl ⟨rfl,rfl⟩,fun f g l h => by simp [valV] at h⟩
def addL (L:Str→List (Str × Pr)) (f:Str) (e:Str × Pr):Str→List (Str × Pr):=fun g => if g = f then L g ++ [e] else L g
theorem JD.more {H0 H H':Hp} {L:Str→List (Str × Pr)} {kvs:List (Key × V)} {f:Str} {e:Str × Pr} {l b:Addr} {xs:List V} (h:JD H0 H L kvs) (hv:valV kvs (Sum.inr f) = some (.ref l)) (hl:H l = some (.lst xs)) (hb:LeV H e (.ref b)) (e':upd H l (.lst (xs ++ [.ref b])) = H'):JD H0 H' (addL L f e) kvs where
 at_:=fun g => by
  have T:SameT H H':=SameT.put e' hl rfl
  have hl':H' l = some (.lst (xs ++ [.ref b])):=by rw [← e',Jak]
  by_cases c:g = f
  ·subst c
   rcases h.at_ g with ⟨h1,_⟩ | ⟨l2,xs2,h1,h2,h3,h4⟩
   ·rw [hv] at h1
    cases h1
   ·rw [hv] at h1
    cases h1
    rw [hl] at h3
    cases h3
    refine .inr ⟨l,_,hv,h2,hl', ?_⟩
    unfold addL
    rw [if_pos rfl]
    exact (h4.mono fun _ _ z => z.sameT T).append (.one (hb.sameT T))
  ·unfold addL
   rw [if_neg c]
   rcases h.at_ g with h1 | ⟨l2,xs2,h1,h2,h3,h4⟩
   ·exact .inl h1
   ·have ne:l2 ≠ l:=fun z => c (h.inj g f l (by rw [h1,z]) hv)
    exact .inr ⟨l2,xs2,h1,h2,by rw [← e',Jah ne]; exact h3,h4.mono fun _ _ z => z.sameT T⟩
 inj:=h.inj
theorem JD.first {H0 H H':Hp} {L:Str→List (Str × Pr)} {kvs:List (Key × V)} {f:Str} {e:Str × Pr} {l b:Addr} (h:JD H0 H L kvs) (hv:valV kvs (Sum.inr f) = none) (h0:H0 l = none) (hn:∀ g l',valV kvs (Sum.inr g) = some (.ref l')→l' ≠ l) (hl:H l = some (.lst [])) (hb:LeV H e (.ref b)) (e':upd H l (.lst [.ref b]) = H'):JD H0 H' (addL L f e) (putK kvs (Sum.inr f) (.ref l)) where
 at_:=fun g => by
  have T:SameT H H':=SameT.put e' hl rfl
  have hl':H' l = some (.lst [.ref b]):=by rw [← e',Jak]
  rw [JfS]
  by_cases c:g = f
  ·subst c
   rw [if_pos rfl]
   refine .inr ⟨l,_,rfl,h0,hl', ?_⟩
   unfold addL
   rw [if_pos rfl]
   rcases h.at_ g with ⟨_,h2⟩ | ⟨l2,xs2,h1,_⟩
   ·rw [h2]
    exact .one (hb.sameT T)
   ·rw [hv] at h1
    cases h1
  ·have c':(Sum.inr g:Key) ≠ Sum.inr f:=fun z => c (by injection z)
   rw [if_neg c']
   unfold addL
   rw [if_neg c]
   rcases h.at_ g with h1 | ⟨l2,xs2,h1,h2,h3,h4⟩
   ·exact .inl h1
   ·exact .inr ⟨l2,xs2,h1,h2,by rw [← e',Jah (hn g l2 h1)]; exact h3,h4.mono fun _ _ z => z.sameT T⟩
 inj:=fun g1 g2 l' h1 h2 => by
  rw [JfS] at h1 h2
  by_cases c1:(Sum.inr g1:Key) = Sum.inr f
  ·by_cases c2:(Sum.inr g2:Key) = Sum.inr f
   ·have:=c1.trans c2.symm
    injection this
   ·rw [if_pos c1] at h1
    rw [if_neg c2] at h2
    cases h1
    exact absurd rfl (hn g2 l h2)
  ·by_cases c2:(Sum.inr g2:Key) = Sum.inr f
   ·rw [if_neg c1] at h1
    rw [if_pos c2] at h2
    cases h2
    exact absurd rfl (hn g1 l h1)
   ·rw [if_neg c1] at h1
    rw [if_neg c2] at h2
    exact h.inj g1 g2 l' h1 h2
theorem Jcr {ls:List PD} {p:PD} (h:p.st ≠ p.en):addL (addL (JaE ls) p.st (p.en,(p.nm,true))) p.en (p.st,(p.nm,false)) = JaE (ls ++ [p]):=by
 funext g
 rw [Jdc]
 unfold addL JcN
 by_cases c1:g = p.en
 ·subst c1
  have h':p.en ≠ p.st:=fun z => h z.symm
  simp [h,h']
 ·have c1':p.en ≠ g:=fun z => c1 z.symm
  by_cases c2:g = p.st
  ·subst c2
   simp [c1]
  ·have c2':p.st ≠ g:=fun z => c2 z.symm
   simp [c1,c2,c1',c2']
theorem Jd1 (ls:List PD) (f:Str):(JaE ls f).length ≤ ls.length:=by
 unfold JaE
 induction ls with
 | nil => simp
 | cons p ls ih =>
  rw [List.flatMap_cons,List.length_append,List.length_cons]
  have : (JcN p f).length ≤ 1:=by
   unfold JcN
   split
   ·simp
   ·split <;> simp
  omega
end L2
namespace L2
open PySem PySem.Spec PyProof.Rows Ch
def PWy (H H':Hp) (wl:Addr) (a:Str × List Pr) (v:V):Prop:=∃ l xs,v = .ref l∧H l = none∧l ≠ wl∧H' l = some (.lst xs)∧All2 (CV H') a.2 xs
structure Srch (H:Hp) (ls:List PD) (one:Str) (fd wl:Addr) (H':Hp) (ws:List (Str × List Pr)) (wt:List Str):Prop where
 same:Same H H'
 dict:∃ kvs,H' fd = some (.dK kvs)∧BG (·.1) (PWy H H' wl) ws kvs
 nd:(ws.map (·.1)).Nodup
 here:one ∈ ws.map (·.1)
 walk:∀ a ∈ ws,Jbc ls one a.2 a.1
 wait:H' wl = some (.lst (wt.map V.str))
 sub:∀ f ∈ wt,f ∈ ws.map (·.1)
 lw:∀ a ∈ ws,a.2.length ≤ ws.length
 sim:∀ a ∈ ws,(a.2.map (·.1)).Nodup∧∀ p ∈ ls,p.nm ∈ a.2.map (·.1)→p.st ∈ ws.map (·.1)∧p.en ∈ ws.map (·.1)
section
variable {H H' H'':Hp} {ls:List PD} {one:Str} {fd wl:Addr} {ws:List (Str × List Pr)} {wt:List Str}
theorem Srch.len (h:Srch H ls one fd wl H' ws wt) (hl:ls.length ≤ 20):ws.length ≤ 41:=by
 have:=sub_len (ws.map (·.1)) (one :: fcsOf ls) h.nd fun z hz => by
  obtain ⟨a,ha,rfl⟩:=List.mem_map.mp hz
  exact JfU (h.walk a ha)
 rw [List.length_map,List.length_cons,Jii] at this
 omega
theorem Srch.grow (h:Srch H ls one fd wl H' ws wt) (S:Same H' H''):Srch H ls one fd wl H'' ws wt:=by
 obtain ⟨kvs,h1,h2⟩:=h.dict
 exact ⟨h.same.trans S,⟨kvs,S _ _ h1,h2.mono fun a v ⟨l,xs,e,hn,hw,hx,ha⟩ => ⟨l,xs,e,hn,hw,S _ _ hx,ha.mono fun _ _ z => z.sameT S.t⟩⟩,h.nd,h.here,h.walk,S _ _ h.wait,h.sub,h.lw,h.sim⟩
theorem Srch.wait' {wt':List Str} (h:Srch H ls one fd wl H' ws wt) (hw:H wl = none) (e:upd H' wl (.lst (wt'.map V.str)) = H'') (hs:∀ f ∈ wt',f ∈ ws.map (·.1)):Srch H ls one fd wl H'' ws wt':=by
 obtain ⟨kvs,h1,h2⟩:=h.dict
 have T:SameT H' H'':=SameT.put e h.wait rfl
 have nfw:fd ≠ wl:=fun z => by have:=h.wait; rw [← z,h1] at this; cases this
 refine ⟨fun b u q => by rw [← e,Jah (Jag q hw)]; exact h.same _ _ q,⟨kvs,by rw [← e,Jah nfw]; exact h1,h2.mono fun a v ⟨l,xs,e1,hn,hne,hx,ha⟩ => ⟨l,xs,e1,hn,hne,by rw [← e,Jah hne]; exact hx,ha.mono fun _ _ z => z.sameT T⟩⟩,h.nd,h.here,h.walk,by rw [← e,Jak],hs,h.lw,h.sim⟩
theorem Srch.find {g:Str} {w:List Pr} {l:Addr} {xs:List V} {kvs:List (Key × V)} (h:Srch H ls one fd wl H' ws wt) (hk:H' fd = some (.dK kvs)) (hb:BG (·.1) (PWy H H' wl) ws kvs) (hf:H fd = none) (hg:g ∉ ws.map (·.1)) (hwk:Jbc ls one w g) (hlw:w.length ≤ ws.length + 1) (hsm:(w.map (·.1)).Nodup∧∀ p ∈ ls,p.nm ∈ w.map (·.1)→p.st ∈ (ws ++ [(g,w)]).map (·.1)∧p.en ∈ (ws ++ [(g,w)]).map (·.1)) (hl:H l = none) (hne:l ≠ wl) (hx:H' l = some (.lst xs)) (ha:All2 (CV H') w xs)
  (e:upd H' fd (.dK (putK kvs (Sum.inr g) (.ref l))) = H''):Srch H ls one fd wl H'' (ws ++ [(g,w)]) wt:=by
 have T:SameT H' H'':=SameT.put e hk rfl
 have nfw:wl ≠ fd:=fun z => by have:=h.wait; rw [z,hk] at this; cases this
 have nl:∀ {b:Addr} {ys:List V},H' b = some (.lst ys)→H'' b = some (.lst ys):=fun q => by rw [← e,Jah (fun z => by rw [z,hk] at q; cases q)]; exact q
 refine ⟨fun b u q => by rw [← e,Jah (Jag q hf)]; exact h.same _ _ q,⟨_,by rw [← e,Jak], ?_⟩, ?_, ?_, ?_,nl h.wait, ?_, ?_, ?_⟩
 ·have:=hb.mono (P':=PWy H H'' wl) fun a v ⟨l,xs,e1,hn,hne,hx,ha⟩ => ⟨l,xs,e1,hn,hne,nl hx,ha.mono fun _ _ z => z.sameT T⟩
  exact this.new (a:=(g,w)) hg ⟨l,xs,rfl,hl,hne,nl hx,ha.mono fun _ _ z => z.sameT T⟩
 ·rw [List.map_append,List.nodup_append]
  refine ⟨h.nd,by simp,fun a ha b hb z => hg ?_⟩
  rw [List.map_cons,List.map_nil,List.mem_singleton] at hb
  have hb:b = g:=hb
  rw [← hb, ← z]
  exact ha
 ·rw [List.map_append]
  exact List.mem_append.mpr (.inl h.here)
 ·intro a ha
  rcases List.mem_append.mp ha with ha | ha
  ·exact h.walk a ha
  ·rw [List.mem_singleton.mp ha]
   exact hwk
 ·intro f hf'
  rw [List.map_append]
  exact List.mem_append.mpr (.inl (h.sub f hf'))
 ·intro a ha
  rw [List.length_append,List.length_singleton]
  rcases List.mem_append.mp ha with ha | ha
  ·have:=h.lw a ha
   omega
  ·rw [List.mem_singleton.mp ha]
   exact hlw
 ·intro a ha
  rcases List.mem_append.mp ha with ha | ha
  ·refine ⟨(h.sim a ha).1,fun p hp hn => ?_⟩
   have:=(h.sim a ha).2 p hp hn
   rw [List.map_append]
   exact ⟨List.mem_append.mpr (.inl this.1),List.mem_append.mpr (.inl this.2)⟩
  ·rw [List.mem_singleton.mp ha]
   exact hsm
end
end L2
namespace L2
open PySem PySem.Spec PyProof.Rows Ch
inductive PR
 | ok (ls:List PD)
 | noPart
 | twice
 | ring
open Classical in
noncomputable def partsW:List PD→List (PD ⊕ D)→PR
 | acc,[] => .ok acc
 | _, .inr _ :: _ => .noPart
 | acc, .inl p :: r => if p.nm ∈ acc.map (·.nm) then .twice else if Conn acc p.st p.en then .ring else partsW (acc ++ [p]) r
inductive GR
 | ok (gs:List GD)
 | noGap
 | twice
 | apart
open Classical in
noncomputable def gapsW (ls:List PD):List GD→List (GD ⊕ D)→GR
 | acc,[] => .ok acc
 | _, .inr _ :: _ => .noGap
 | acc, .inl g :: r => if g.nm ∈ acc.map (·.nm) then .twice else if Conn ls g.st g.en then gapsW ls (acc ++ [g]) r else .apart
theorem Jga (acc:List PD) (c:D) (r:List (PD ⊕ D)):partsW acc (.inr c :: r) = .noPart:=rfl
theorem Jgb {acc:List PD} {p:PD} {r:List (PD ⊕ D)} (h:p.nm ∈ acc.map (·.nm)):partsW acc (.inl p :: r) = .twice:=by
 rw [partsW,if_pos h]
theorem Jff {acc:List PD} {p:PD} {r:List (PD ⊕ D)} (h:p.nm ∉ acc.map (·.nm)) (hc:Conn acc p.st p.en):partsW acc (.inl p :: r) = .ring:=by
 rw [partsW,if_neg h,if_pos hc]
theorem Jcy {acc:List PD} {p:PD} {r:List (PD ⊕ D)} (h:p.nm ∉ acc.map (·.nm)) (hc:¬ Conn acc p.st p.en):partsW acc (.inl p :: r) = partsW (acc ++ [p]) r:=by
 rw [partsW,if_neg h,if_neg hc]
theorem JgC (ls:List PD) (acc:List GD) (c:D) (r:List (GD ⊕ D)):gapsW ls acc (.inr c :: r) = .noGap:=rfl
theorem JgD {ls:List PD} {acc:List GD} {g:GD} {r:List (GD ⊕ D)} (h:g.nm ∈ acc.map (·.nm)):gapsW ls acc (.inl g :: r) = .twice:=by
 rw [gapsW,if_pos h]
theorem Je3 {ls:List PD} {acc:List GD} {g:GD} {r:List (GD ⊕ D)} (h:g.nm ∉ acc.map (·.nm)) (hc:¬ Conn ls g.st g.en):gapsW ls acc (.inl g :: r) = .apart:=by
 rw [gapsW,if_neg h,if_neg hc]
theorem Jfz {ls:List PD} {acc:List GD} {g:GD} {r:List (GD ⊕ D)} (h:g.nm ∉ acc.map (·.nm)) (hc:Conn ls g.st g.en):gapsW ls acc (.inl g :: r) = gapsW ls (acc ++ [g]) r:=by
 rw [gapsW,if_neg h,if_pos hc]
def WOV (H:Hp) (ls:List PD) (g:GD) (v:V):Prop:=∃ l xs w,v = .ref l∧H l = some (.lst xs)∧All2 (CV H) w xs∧Jbc ls g.st w g.en∧(w.map (·.1)).Nodup
theorem WOV.same {H H':Hp} {ls:List PD} {g:GD} {v:V} (S:Same H H'):WOV H ls g v→WOV H' ls g v:=fun ⟨l,xs,w,h1,h2,h3,h4⟩ => ⟨l,xs,w,h1,S _ _ h2,h3.mono fun _ _ z => z.sameT S.t,h4⟩
end L2
namespace L2
open PySem PySem.Spec PyProof.Rows Ch
theorem JiD {X:Cx} {K:PySem.W.Frag} {pos:Pos} {es:List Expr} {k:Nat} {t:TGs} {n:Nat} (hK:X.K = K) (hc:X.calm = true) (h:PGs X es t) (hn:(assignEach es X.env).length = n:=by rfl) (hst:(assignEach es X.env).findIdx? (·.1) = none:=by rfl):PG X (.Tuple es k pos) (gTup K n t):=by
 subst hK
 exact JdP hc h hn hst
abbrev Fr2:=Int × Int
end L2
namespace L2
open PySem PySem.Spec PyProof.Rows Ch
section
variable {K:PySem.W.Frag} {k:Nat} {cs:List (Nat × Str)} {g:TG} {te:TE} {ta:TA} {σ : St} {H H1:Hp} {Q:VK} {a b:Addr} {xs zs:List V}
theorem CompJ.zip (Pv:Nat→List V→Hp→Prop) (h0:Pv 0 [] H1) (hll:zs.length = xs.length) (hl:∀ i ys H',i ≤ xs.length→Pv i ys H'→SqL K H' a xs∧SqL K H' b zs∧ys.length ≤ sizeLine)
  (hs:∀ i x z ys H2 p,xs[i]? = some x→zs[i]? = some z→Pv i ys H2→H2 p = none→g (.ref p) (List.replicate k none ++ JaA cs σ) (upd H2 p (.tup [x,z])) fun σ4 H4 => te σ4 H4 fun y H5 => Pv (i + 1) (ys ++ [y]) H5) (hd:∀ ys H2,Pv xs.length ys H2→∀ p,H2 p = none→Q (.ref p) (upd H2 p (.lst ys))) :
  CompJ (Itz K a b) k cs g te σ Q H1:=by
 refine ⟨fun i m ys H' => Pv i ys H'∧i ≤ xs.length∧m = xs.length - i,⟨_,h0,Nat.zero_le _,rfl⟩, ?_⟩
 rintro i m ys H2 ⟨hp,hi,rfl⟩
 obtain ⟨h1,h2,h3⟩:=hl i ys H2 hi hp
 refine ⟨h3, ?_⟩
 by_cases c:i < xs.length
 ·have c':i < zs.length:=by omega
  refine .inr ⟨⟨xs,zs,_,_,h1,h2,List.getElem?_eq_getElem c,List.getElem?_eq_getElem c'⟩, ?_⟩
  rintro v H3 ⟨p,x,z,hx,hz,hn,rfl,rfl⟩
  have e:(fun (σ4:St) (H4:Hp) => te σ4 H4 fun y H5 => Pv (i + 1) (ys ++ [y]) H5) = fun σ4 H4 => te σ4 H4 fun y H5 => ∃ m',m' < xs.length - i∧Pv (i + 1) (ys ++ [y]) H5∧i + 1 ≤ xs.length∧m' = xs.length - (i + 1):=by
   funext σ4 H4
   congr 1
   funext y H5
   exact propext ⟨fun q => ⟨_,Nat.sub_lt_sub_left c (Nat.lt_succ_self i),q,c,rfl⟩,fun ⟨_,_,q,_⟩ => q⟩
  rw [← e]
  exact hs i x z ys H2 p (hx xs h1) (hz zs h2) hp hn
 ·have ei:i = xs.length:=by omega
  subst ei
  exact .inl ⟨⟨xs,zs,h1,h2, .inl (Nat.le_refl _)⟩,hd ys H2 hp⟩
end
end L2
namespace L2
open PySem PySem.Spec PyProof.Rows Ch
section
variable {X:Cx}
end
section
variable {K:PySem.W.Frag} {H:Hp} {Q:VK}
end
end L2
namespace L2
open PySem PySem.Spec PyProof.Rows Ch
def fc (j:Nat):Str:=⟨#[102 + j]⟩
theorem All2.map {α β : Type} {P : α→V→Prop} {P' : β→V→Prop} {f : α→β}:∀ {as:List α} {xs:List V},All2 P as xs→(∀ a ∈ as, ∀ x,P a x→P' (f a) x)→All2 P' (as.map f) xs
 | [],xs,h,_ => h
 | a :: as,xs,h,m => by
  obtain ⟨x,r,rfl,h1,h2⟩:=h
  exact ⟨x,r,rfl,m a (by simp) x h1,All2.map h2 fun b hb => m b (by simp [hb])⟩
theorem JgE {ls:List PD}:∀ (gs acc:List GD),((acc ++ gs).map (·.nm)).Nodup→(∀ g ∈ gs,Conn ls g.st g.en)→gapsW ls acc (gs.map Sum.inl) = .ok (acc ++ gs)
 | [],acc,_,_ => by
  rw [List.map_nil,gapsW,List.append_nil]
 | g :: gs,acc,hn,hc => by
  have ea:acc ++ g :: gs = (acc ++ [g]) ++ gs:=by simp
  have ne:g.nm ∉ acc.map (·.nm):=by
   have h2:=hn
   rw [List.map_append,List.map_cons,List.nodup_append] at h2
   exact fun z => h2.2.2 _ z _ (by simp) rfl
  rw [List.map_cons,Jfz ne (hc g (by simp)),JgE gs (acc ++ [g]) (by rw [← ea]; exact hn) (fun u hu => hc u (by simp [hu])),ea]
end L2
namespace L2
open PySem PySem.Spec PyProof.Rows Ch
section
variable {prog:Program} {w:World} {A:Around} {E:Value→Shared→Prop} {s:Shared}
end
end L2
namespace L2
open PySem PySem.Spec PyProof.Rows Ch
section
variable {prog:Program} {w:World} {A:Around} {E:Value→Shared→Prop} {s:Shared}
end
section
variable {X:Cx}
end
section
variable {X:Cx} {elts:List Expr} {x1:Nat} {tp:Pos}
end
section
variable {K:PySem.W.Frag} {k:Nat} {cs:List (Nat × Str)} {g:TG} {te:TE} {ta:TA} {σ : St} {H H1:Hp} {Q:VK} {a:Addr} {xs:List V}
theorem CompJ.range {lo:Int} {n:Nat} (Pv:Nat→List V→Hp→Prop) (h0:Pv 0 [] H1) (hl:∀ i ys H',i ≤ n→Pv i ys H'→ys.length ≤ sizeLine)
  (hs:∀ i ys H2,i < n→Pv i ys H2→g (.int (lo + i)) (List.replicate k none ++ JaA cs σ) H2 fun σ4 H4 => te σ4 H4 fun y H5 => Pv (i + 1) (ys ++ [y]) H5) (hd:∀ ys H2,Pv n ys H2→∀ p,H2 p = none→Q (.ref p) (upd H2 p (.lst ys))) :
  CompJ (Itr lo n) k cs g te σ Q H1:=by
 refine ⟨fun i m ys H' => Pv i ys H'∧i ≤ n∧m = n - i,⟨_,h0,Nat.zero_le _,rfl⟩, ?_⟩
 rintro i m ys H2 ⟨hp,hi,rfl⟩
 refine ⟨hl i ys H2 hi hp, ?_⟩
 by_cases c:i < n
 ·refine .inr ⟨c, ?_⟩
  rintro v H3 ⟨rfl,rfl⟩
  have e:(fun (σ4:St) (H4:Hp) => te σ4 H4 fun y H5 => Pv (i + 1) (ys ++ [y]) H5) = fun σ4 H4 => te σ4 H4 fun y H5 => ∃ m',m' < n - i∧Pv (i + 1) (ys ++ [y]) H5∧i + 1 ≤ n∧m' = n - (i + 1):=by
   funext σ4 H4
   congr 1
   funext y H5
   exact propext ⟨fun q => ⟨_,Nat.sub_lt_sub_left c (Nat.lt_succ_self i),q,c,rfl⟩,fun ⟨_,_,q,_⟩ => q⟩
  rw [← e]
  exact hs i ys _ c hp
 ·have ei:i = n:=by omega
  subst ei
  exact .inl ⟨Nat.le_refl _,hd ys H2 hp⟩
end
end L2
namespace L2
open PySem PySem.Spec PyProof.Rows Ch
def Itq (lo c:Int) (n:Nat):It:=⟨fun i _ => i < n,fun i H x H' => H' = H∧x = .int (lo + i * c),fun i _ => n ≤ i⟩
theorem Jfr {P:Program} {w:World} {K:PySem.W.Frag} {tg:Expr} (it:Addr) (lo c:Int) (n:Nat):Turn P w K tg (Itq lo c n) [it] it (fun i h => IsRangeIter h it (lo + (i:Nat) * c) ((n:Int) - (i:Nat)) c) where
 mem:=by simp
 obj:=fun i h st b hb => by
  have e:b = it:=by simpa using hb
  subst e
  exact ⟨_,st,fun v z => by
   have z':Data.fields _ = Data.cell v:=z
   cases z'⟩
 keep:=fun i h h' st k => k it (by simp) _ st
 item:=by
  intro X hP hw hK hc i pins s σ H E I hf st hg
  subst hP hw hK
  obtain ⟨f0,f1,f2,f3,f4,f5⟩:=hf it (by simp)
  have W:=Walks.range (prog:=X.prog) (w:=X.w) (I.ok.hd hc) it lo c n
  refine W.item i s _ _ hg st fun v h' tk hv st' kk => ?_
  obtain ⟨t,rfl⟩:=hv
  have I1:Inv X pins σ H { s with heap:=h',toks:=tk }:=I.turned (fun b o hb e => kk b o (by simpa using hb) e) f0 f1 f3 f4 f5
  exact ⟨_,rfl,go_of (s:={ s with heap:=h',toks:=tk }) (n:="range_iterator") st' rfl rfl (by decide) ⟨.int (lo + i * c),H,I1,⟨t,rfl⟩,⟨rfl,rfl⟩,st',fun b hb => (hf b hb).1⟩⟩
 done:=by
  intro X hP hw hK hc i pins s σ H E I hf st hg
  subst hP hw hK
  obtain ⟨f0,f1,f2,f3,f4,f5⟩:=hf it (by simp)
  exact wpAny_pyNext_range_end (I.ok.hd hc) st (by have : n ≤ i:=hg; omega) fun h' eb => ⟨rfl,I.turned (t':=s.toks) (fun b o hb e => eb b o hb e) f0 f1 f3 f4 f5⟩
 self:=fun _ _ _ _ _ st h => wpAny_pyIter_rangeiter st h
def rsz (lo hi c:Int):Nat:=(if lo < hi then (hi - lo - 1) / c + 1 else 0).toNat
theorem JdR {lo hi c:Int} (hc:1 ≤ c):((rsz lo hi c:Nat):Int) = Builtin.Range.rangeSize lo hi c:=by
 unfold rsz Builtin.Range.rangeSize
 rw [if_pos (show c > 0 by omega)]
 split
 ·have:=Int.ediv_nonneg (a:=hi - lo - 1) (b:=c) (by omega) (by omega)
  omega
 ·rfl
theorem Jfj {lo hi c:Int} (h1:0 ≤ lo) (h2:lo < 2 ^ 40) (h3:0 ≤ hi) (h4:hi < 2 ^ 40) (h5:1 ≤ c) (h6:c < 2 ^ 30):Builtin.Range.small lo hi c = true:=by
 unfold Builtin.Range.small
 have e:0 ≤ Builtin.Range.rangeSize lo hi c∧Builtin.Range.rangeSize lo hi c < 2 ^ 41:=by
  rw [← JdR h5]
  refine ⟨by omega, ?_⟩
  unfold rsz
  split
  ·have a1:=Int.ediv_nonneg (a:=hi - lo - 1) (b:=c) (by omega) (by omega)
   have a2:=Int.ediv_le_self c (show 0 ≤ hi - lo - 1 by omega)
   omega
  ·simp
 generalize Builtin.Range.rangeSize lo hi c = z at e ⊢
 simp only [Builtin.Range.rangeFitsLong,Bool.and_eq_true,Bool.or_eq_true,decide_eq_true_eq,beq_iff_eq]
 rw [if_pos (by omega)]
 simp only [Bool.and_eq_true,decide_eq_true_eq]
 omega
section
variable {X:Cx} {tg:Expr}
theorem Jjq {pins:List (Addr × Obj)} {σ : St} {H:Hp} {s:Shared} {R:It→Hp→Prop} {h:Heap} {lo c:Int} {n:Nat} {t':Nat} (I:Inv X pins σ H { s with heap:=h,toks:=t' }) (q:R (Itq lo c n) H) :
  PIE X pins σ tg R (.ref h.objs.size) { s with heap:=h.push { cls:=.type "range_iterator",data:=.fields #[rawInt lo,rawInt (n:Int),rawInt c] },toks:=t' }:=by
 refine ⟨h.objs.size,[h.objs.size],_,_,H,rfl,I.kept (t':=t') fun b o e => Heap.get?_push_of_some _ e,Jfr _ lo c n, ?_,fun b hb => ?_,q⟩
 ·have e1:lo + ((0:Nat):Int) * c = lo:=by simp
  have e2:(n:Int) - ((0:Nat):Int) = n:=by simp
  show IsRangeIter _ _ (lo + ((0:Nat):Int) * c) ((n:Int) - ((0:Nat):Int)) c
  rw [e1,e2]
  exact Heap.get?_push_size _ rfl
 ·have e:b = h.objs.size:=by simpa using hb
  subst e
  exact I.fpOk (Nat.le_refl _) (I.hok.fresh (Nat.le_refl _))
def iRng3 (ta:TA):TI:=fun σ H R => ta σ H fun vs H1 => ∃ i j c:Int,vs = [.int i, .int j, .int c]∧(0 ≤ i∧i < 2 ^ 40∧0 ≤ j∧j < 2 ^ 40∧1 ≤ c∧c < 2 ^ 30)∧R (Itq i c (rsz i j c)) H1
theorem Jg2 {a b d:Expr} {ta:TA} {p pos:Pos} (hg:Gl X "range") (hm:X.mg "range" = none) (ha:PA X [a,b,d] ta)
  (hs:starEach [a,b,d] X.env = [(false,eval a X.env),(false,eval b X.env),(false,eval d X.env)]:=by rfl) (hs2:starEach [b,d] X.env = [(false,eval b X.env),(false,eval d X.env)]:=by rfl):PI X tg (.Call (.Name "range" p) [a,b,d] [] pos) (iRng3 ta):=by
 intro pins s σ H R I h
 refine wpAny_Call_Name_kw (JdK I hg hm Jhk ?_)
 refine PyProof.Rows.callWith_type1 (thn (ha pos pins s σ H _ I h) fun us s1 ⟨vs,H1,I1,r1,q1⟩ => ?_) (by rw [hs,hs2]) (by rw [hs2]; rfl)
 obtain ⟨i,j,c,e,⟨q1,q2,q3,q4,q5,q6⟩,q⟩:=q1
 subst e
 cases r1 with
 | cons r rr =>
  cases rr with
  | cons r' rr =>
   cases rr with
   | cons r'' rr =>
    cases rr
    obtain ⟨t,rfl⟩:=r
    obtain ⟨t',rfl⟩:=r'
    obtain ⟨t'',rfl⟩:=r''
    refine call_range_3 (by omega) ?_ (Or.inl (PyProof.noPylong_small (by omega)))
    refine wpAny_pyIter_range (IsRange.new ..) (Jfj q1 q2 q3 q4 q5 q6) ?_
    rw [← JdR q5]
    exact Jjq (I1.kept (t':=s1.toks) fun b o e => Heap.get?_push_of_some _ e) q
end
section
variable {ta:TA} {g:TG} {tb:TS} {D:Ends} {σ : St} {H:Hp}
def ForQ (lo c:Int) (n:Nat) (g:TG) (tb:TS) (D:Ends) (σ : St) (H:Hp):Prop:=∃ W:Nat→Nat→St→Hp→Prop,(∃ m,W 0 m σ H)∧∀ i m σ H,W i m σ H →
 ((Itq lo c n).stop i H∧D.nx σ H) ∨ ((Itq lo c n).go i H∧∃ N:St→Hp→Prop,(∀ σ' H',N σ' H'→∃ m',m' < m∧W (i + 1) m' σ' H')∧∀ x H',(Itq lo c n).yld i H x H'→g x σ H' fun σ2 H2 => tb { D with nx:=N,ct:=N,bk:=D.nx } σ2 H2)
theorem y4fy:tFor (iRng3 ta) g tb D σ H = ta σ H fun vs H1 => ∃ i j c:Int,vs = [.int i, .int j, .int c]∧(0 ≤ i∧i < 2 ^ 40∧0 ≤ j∧j < 2 ^ 40∧1 ≤ c∧c < 2 ^ 30)∧ForQ i c (rsz i j c) g tb D σ H1:=rfl
theorem ForQ.by {lo c:Int} {n:Nat} (Pv:Nat→St→Hp→Prop) (h0:Pv 0 σ H)
  (hs:∀ i σ H,i < n→Pv i σ H→g (.int (lo + i * c)) σ H fun σ2 H2 => tb { D with nx:=Pv (i + 1),ct:=Pv (i + 1),bk:=D.nx } σ2 H2) (hd:∀ σ H,Pv n σ H→D.nx σ H):ForQ lo c n g tb D σ H:=by
 refine ⟨fun i m σ H => m = n - i∧i ≤ n∧Pv i σ H,⟨n,by simp,Nat.zero_le _,h0⟩, ?_⟩
 rintro i m σ H ⟨rfl,hi,p⟩
 by_cases hlt:i < n
 ·refine .inr ⟨hlt,Pv (i + 1),fun σ' H' p' => ⟨n - (i + 1),by omega,rfl,hlt,p'⟩,fun x H' y => ?_⟩
  obtain ⟨e,y⟩:=y
  subst e y
  exact hs i σ _ hlt p
 ·have e:i = n:=by omega
  subst e
  exact .inl ⟨Nat.le_refl _,hd σ H p⟩
end
theorem y59y {c:TT} {ta tb:TE} {σ : St} {H:Hp} {Q:VK}:tIf c ta tb σ H Q = c σ H fun b H1 => if b = true then ta σ H1 Q else tb σ H1 Q:=rfl
def rLenD (xs:List V) (H:Hp) (Q:VK):Prop:=∃ d kvs,xs = [.ref d]∧H d = some (.dK kvs)∧Q (.int (kvs.length:Int)) H
theorem Jct {X:Cx}:CallR X (.builtin "len") rLenD:=by
 intro pins s σ H xs us Q I r h
 obtain ⟨d,kvs,rfl,e,q⟩:=h
 obtain ⟨u,rfl,rx⟩:=vals1 r
 cases rx
 obtain ⟨hz,hS,vs,rel,dd⟩:=dk_of I.hok e
 have hn:=Jde
 have lv:vs.length = kvs.length:=rel.length.symm
 exact call_len_dict hS dd (by omega) ⟨.int (kvs.length:Int),H,I.tok _,⟨s.toks + 1,by rw [lv]⟩,q⟩
end L2
namespace L2
open PySem Ch
def vl (a:Int × Int):Rat:=(a.1:Rat) / (a.2:Rat)
theorem JcA {a:Int} (h:1 ≤ a):(a:Rat) ≠ 0:=fun z => by
 have : a = 0:=by exact_mod_cast z
 omega
theorem vl_eq {a c:Int × Int} (ha:1 ≤ a.2) (hc:1 ≤ c.2):vl a = vl c ↔ a.1 * c.2 = c.1 * a.2:=by
 unfold vl
 have h1:=JcA ha
 have h2:=JcA hc
 have e:((a.1 * c.2 = c.1 * a.2) ↔ ((a.1:Rat) * (c.2:Rat) = (c.1:Rat) * (a.2:Rat))):=by
  constructor
  ·intro h
   exact_mod_cast h
  ·intro h
   exact_mod_cast h
 rw [e]
 generalize (a.1:Rat) = x at *
 generalize (a.2:Rat) = y at *
 generalize (c.1:Rat) = z at *
 generalize (c.2:Rat) = u at *
 constructor
 ·intro h
  grind
 ·intro h
  grind
theorem Jjz {a c:Int × Int} (ha:1 ≤ a.2) (hc:1 ≤ c.2) (h1:Mth.g a.1 a.2 = 1) (h2:Mth.g c.1 c.2 = 1) (h:vl a = vl c):a = c:=by
 have:=Mth.JdL ha hc h1 h2 ((vl_eq ha hc).mp h)
 exact Prod.ext this.1 this.2
theorem JfT {a c:Int × Int} (ha:1 ≤ a.2) (hc:1 ≤ c.2):vl (addF a c) = vl a + vl c:=by
 have b0:a.2 * c.2 ≠ 0:=Int.mul_ne_zero (by omega) (by omega)
 have cr:=Mth.cross (t:=a.1 * c.2 + c.1 * a.2) b0
 have bp:=Mth.Jc4 (t:=a.1 * c.2 + c.1 * a.2) b0
 unfold vl addF
 dsimp only
 generalize Mth.top (a.1 * c.2 + c.1 * a.2) (a.2 * c.2) = t at *
 generalize Mth.bot (a.1 * c.2 + c.1 * a.2) (a.2 * c.2) = b at *
 have h1:=JcA ha
 have h2:=JcA hc
 have h3:=JcA bp
 have e:(t:Rat) * ((a.2:Rat) * (c.2:Rat)) = ((a.1:Rat) * (c.2:Rat) + (c.1:Rat) * (a.2:Rat)) * (b:Rat):=by exact_mod_cast cr
 generalize (a.1:Rat) = x at *
 generalize (a.2:Rat) = y at *
 generalize (c.1:Rat) = z at *
 generalize (c.2:Rat) = u at *
 generalize (t:Rat) = t at *
 generalize (b:Rat) = b at *
 grind
theorem JcQ (a:Int × Int):vl (negF a) = - vl a:=by
 unfold vl negF
 rw [Rat.intCast_neg]
 grind
theorem JbZ {a c:Int × Int} (ha:1 ≤ a.2) (hc:1 ≤ c.2):lessF a c = true ↔ vl a < vl c:=by
 unfold lessF vl
 rw [decide_eq_true_iff]
 have h1:(0:Rat) < (a.2:Rat):=by exact_mod_cast (show 0 < a.2 by omega)
 have h2:(0:Rat) < (c.2:Rat):=by exact_mod_cast (show 0 < c.2 by omega)
 have e:((a.1 * c.2 < c.1 * a.2) ↔ ((a.1:Rat) * (c.2:Rat) < (c.1:Rat) * (a.2:Rat))):=by
  constructor
  ·intro h
   exact_mod_cast h
  ·intro h
   exact_mod_cast h
 rw [e]
 rw [Rat.div_lt_iff h1]
 generalize (a.1:Rat) = x at *
 generalize (a.2:Rat) = y at *
 generalize (c.1:Rat) = z at *
 generalize (c.2:Rat) = u at *
 have e2:z / u * y = z * y / u:=by grind
 rw [e2,Rat.lt_div_iff h2]
end L2
namespace L2
open PySem Ch
theorem Jbc.trans {ls:List PD} {a b c:Str} {w w':List Pr} (h:Jbc ls a w b) (h':Jbc ls b w' c):Jbc ls a (w ++ w') c:=by
 induction h' with
 | nil =>
  rw [List.append_nil]
  exact h
 | snoc _ hm ih =>
  rw [← List.append_assoc]
  exact .snoc ih hm
theorem Conn.trans {ls:List PD} {a b c:Str}:Conn ls a b→Conn ls b c→Conn ls a c:=fun ⟨w,h⟩ ⟨w',h'⟩ => ⟨w ++ w',h.trans h'⟩
theorem Conn.refl {ls:List PD} {a:Str}:Conn ls a a:=⟨[], .nil⟩
theorem Conn.lead {ls:List PD} {f g:Str} {pr:Pr} (h:(g,pr) ∈ JaE ls f):Conn ls f g:=⟨[] ++ [pr], .snoc .nil h⟩
theorem Conn.symm {ls:List PD} (hn:∀ p ∈ ls,p.st ≠ p.en) {a b:Str} (h:Conn ls a b):Conn ls b a:=by
 obtain ⟨w,h⟩:=h
 induction h with
 | nil => exact .refl
 | snoc _ hm ih =>
  obtain ⟨p,hp,h | h⟩:=Jbe.mp hm
  ·exact Conn.trans (.lead (Jbe.mpr ⟨p,hp, .inr ⟨fun z => hn p hp (z.trans h.2.1.symm),h.2.1,h.1,rfl⟩⟩)) ih
  ·exact Conn.trans (.lead (Jbe.mpr ⟨p,hp, .inl ⟨h.2.2.1,h.2.1,rfl⟩⟩)) ih
theorem Conn.mono {ls:List PD} {p:PD} {a b:Str} (h:Conn ls a b):Conn (ls ++ [p]) a b:=by
 obtain ⟨w,h⟩:=h
 refine ⟨w, ?_⟩
 induction h with
 | nil => exact .nil
 | snoc _ hm ih => exact .snoc ih (by rw [Jdc]; exact List.mem_append.mpr (.inl hm))
theorem Jgs {ls:List PD} {p:PD} (hp:p ∈ ls):Conn ls p.st p.en:=.lead (pr:=(p.nm,true)) (Jbe.mpr ⟨p,hp, .inl ⟨rfl,rfl,rfl⟩⟩)
theorem Jhm {ls:List PD} (hn:∀ p ∈ ls,p.st ≠ p.en) {a b:Str} (h:Conn ls a b) (hne:a ≠ b):a ∈ fcsOf ls∧b ∈ fcsOf ls:=by
 have one:∀ {a b:Str},Conn ls a b→a ≠ b→b ∈ fcsOf ls:=fun {a b} h hne => by
  obtain ⟨w,h⟩:=h
  rcases List.mem_cons.mp (JfU h) with e | e
  ·exact absurd e.symm hne
  ·exact e
 exact ⟨one (h.symm hn) (Ne.symm hne),one h hne⟩
theorem Jdj {p:PD}:∀ (l1 acc:List PD),partsW acc (l1.map Sum.inl) = .ok (acc ++ l1)→p.nm ∉ (acc ++ l1).map (·.nm)→¬ Conn (acc ++ l1) p.st p.en→partsW acc ((l1 ++ [p]).map Sum.inl) = .ok (acc ++ (l1 ++ [p]))
 | [],acc,_,h2,h3 => by
  rw [List.append_nil] at h2 h3
  rw [List.nil_append,List.map_cons,List.map_nil,Jcy h2 h3,partsW]
 | q :: l1,acc,h1,h2,h3 => by
  have ea:acc ++ q :: l1 = (acc ++ [q]) ++ l1:=by simp
  rw [ea] at h1 h2 h3
  rw [List.cons_append,List.map_cons]
  rw [List.map_cons,partsW] at h1
  split at h1
  ·cases h1
  ·rename_i c1
   split at h1
   ·cases h1
   ·rename_i c2
    rw [Jcy c1 c2,Jdj l1 (acc ++ [q]) h1 h2 h3]
    simp
theorem Conn.sub {L L':List PD} (hs:∀ p ∈ L,p ∈ L') {a b:Str} (h:Conn L a b):Conn L' a b:=by
 obtain ⟨w,h⟩:=h
 refine ⟨w, ?_⟩
 induction h with
 | nil => exact .nil
 | snoc _ hm ih =>
  obtain ⟨p,hp,h⟩:=Jbe.mp hm
  exact .snoc ih (Jbe.mpr ⟨p,hs p hp,h⟩)
def Tree (ls:List PD):Prop:=∀ p ∈ ls, ¬ Conn (ls.filter fun x => decide (x.nm ≠ p.nm)) p.st p.en
theorem JgK {L:List PD} {x:Str} {e:Str × Pr} (h:e ∈ JaE L x):x ∈ fcsOf L∧e.1 ∈ fcsOf L:=by
 refine ⟨?_,JfE h⟩
 obtain ⟨p,hp,h⟩:=(Jbe (g:=e.1) (pr:=e.2)).mp h
 refine List.mem_flatMap.mpr ⟨p,hp, ?_⟩
 rcases h with h | h
 ·rw [← h.1]; simp
 ·rw [← h.2.1]; simp
theorem Conn.retract {L:List PD} {q:PD} {f s0:Str} (hq:(q.st = f∧q.en = s0) ∨ (q.st = s0∧q.en = f)) (hf:f ∉ fcsOf L) {a b:Str} (h:Conn (L ++ [q]) a b):Conn L (if a = f then s0 else a) (if b = f then s0 else b):=by
 obtain ⟨w,h⟩:=h
 induction h with
 | nil => exact .refl
 | snoc _ hm ih =>
  refine ih.trans ?_
  rw [Jdc] at hm
  rcases List.mem_append.mp hm with h | h
  ·have e:=JgK h
   have n1:∀ x ∈ fcsOf L,x ≠ f:=fun x hx z => hf (z ▸ hx)
   rw [if_neg (n1 _ e.1),if_neg (n1 _ e.2)]
   exact .lead h
  ·have eq1:∀ x,JaE [q] x = JcN q x:=fun x => by simp [JaE]
   have h':=h
   rw [← eq1] at h'
   obtain ⟨p,hp,k⟩:=Jbe.mp h'
   rw [List.mem_singleton] at hp
   subst hp
   have e:∀ x:Str,x = p.st ∨ x = p.en→(if x = f then s0 else x) = s0:=fun x hx => by
    split
    ·rfl
    ·rename_i n
     rcases hq with ⟨h1,h2⟩ | ⟨h1,h2⟩ <;> rcases hx with hx | hx
     ·exact absurd (hx.trans h1) n
     ·exact hx.trans h2
     ·exact hx.trans h1
     ·exact absurd (hx.trans h2) n
   rcases k with k | k
   ·rw [e _ (.inl k.1.symm),e _ (.inr k.2.1.symm)]
    exact .refl
   ·rw [e _ (.inr k.2.1.symm),e _ (.inl k.2.2.1.symm)]
    exact .refl
theorem Jdk {ls:List PD} (ht:Tree ls):∀ (l acc:List PD),((acc ++ l).map (·.nm)).Nodup→(∀ x ∈ acc ++ l,x ∈ ls)→partsW acc (l.map Sum.inl) = .ok (acc ++ l)
 | [],acc,_,_ => by rw [List.map_nil,partsW,List.append_nil]
 | p :: l,acc,hn,hs => by
  have ea:acc ++ p :: l = (acc ++ [p]) ++ l:=by simp
  have ne:p.nm ∉ acc.map (·.nm):=by
   have h2:=hn
   rw [List.map_append,List.map_cons,List.nodup_append] at h2
   exact fun z => h2.2.2 _ z _ (by simp) rfl
  have nc:¬ Conn acc p.st p.en:=fun z => ht p (hs p (by simp)) (z.sub fun x hx => List.mem_filter.mpr ⟨hs x (by simp [hx]),by
   rw [decide_eq_true_iff]
   exact fun e => ne (by rw [← e]; exact List.mem_map.mpr ⟨x,hx,rfl⟩)⟩)
  rw [List.map_cons,Jcy ne nc,Jdk ht l (acc ++ [p]) (by rw [← ea]; exact hn) (by rw [← ea]; exact hs),ea]
def sgn (b:Bool) (a:Int × Int):Int × Int:=if b then a else negF a
inductive Legs (ls:List PD) (pl:Str→Int × Int):Str→List Pr→Str→Prop
 | nil {a:Str}:Legs ls pl a [] a
 | cons {a g b:Str} {p:PD} {fw:Bool} {w:List Pr}:p ∈ ls→vl (pl g) = vl (pl a) + vl (sgn fw p.sz)→Legs ls pl g w b→Legs ls pl a ((p.nm,fw) :: w) b
theorem Legs.snoc {ls:List PD} {pl:Str→Int × Int} {a f g:Str} {w:List Pr} {p:PD} {fw:Bool} (h:Legs ls pl a w f) (hp:p ∈ ls) (e:vl (pl g) = vl (pl f) + vl (sgn fw p.sz)):Legs ls pl a (w ++ [(p.nm,fw)]) g:=by
 induction h with
 | nil => exact .cons hp e .nil
 | cons h1 h2 _ ih => exact .cons h1 h2 (ih e)
theorem Jio {ls:List PD} {pl:Str→Int × Int} (hpl:∀ p ∈ ls,vl (pl p.en) = vl (pl p.st) + vl p.sz) {a b:Str} {w:List Pr} (h:Jbc ls a w b):Legs ls pl a w b:=by
 induction h with
 | nil => exact .nil
 | snoc _ hm ih =>
  obtain ⟨p,hp,h | h⟩:=Jbe.mp hm
  ·obtain ⟨h1,h2,rfl⟩:=h
   refine ih.snoc hp ?_
   rw [← h1, ← h2]
   exact hpl p hp
  ·obtain ⟨_,h1,h2,rfl⟩:=h
   refine ih.snoc hp ?_
   have:=hpl p hp
   rw [← h1, ← h2,this]
   show _ = _ + vl (negF p.sz)
   rw [JcQ]
   grind
def nmK (s st k:Nat):Str:=⟨(List.replicate st s ++ ([97 + k] ++ List.replicate (3 - st) s)).toArray⟩
theorem Jb3 {s st i j:Nat} (h:nmK s st i = nmK s st j):i = j:=by
 unfold nmK at h
 injection h with h
 have h:=congrArg Array.toList h
 simp at h
 exact h
theorem JcX {s st k:Nat} (hs:97 ≤ s∧s ≤ 122) (hst:st ≤ 3) (hk:k ≤ 25):nameS (nmK s st k) = true:=by
 unfold nameS nmK
 simp [Str.length,lowB]
 exact ⟨by omega, .inr hs,by omega, .inr hs⟩
theorem FB.mono {A B C D:Nat} {a:Int × Int} (h:FB A B a) (h1:A ≤ C) (h2:B ≤ D):FB C D a:=⟨h.s1.mono h1,h.s2.mono h2,h.b1,h.g1⟩
theorem Jcp:FB 1 1 (0,1):=⟨.lit (by decide) (by decide), .lit (by decide) (by decide),by decide,by decide⟩
structure SpD where
 f:Str
 r:Str
 p:Int × Int
structure Grn (st:Nat) (ls:List PD) (sp:List SpD):Prop where
 nm:∀ i p,ls[i]? = some p→p.nm = nmK 112 st i
 fc:∀ i s,sp[i]? = some s→s.f = nmK 102 st i
 ok:∀ p ∈ ls,POk p
 sub:∀ p ∈ ls,p.st ∈ sp.map (·.f)∧p.en ∈ sp.map (·.f)
 con:∀ s ∈ sp,Conn ls s.r s.f
 pl:∀ p ∈ ls, ∀ s ∈ sp, ∀ t ∈ sp,s.f = p.st→t.f = p.en→vl t.p = vl s.p + vl p.sz
 fb:∀ s ∈ sp,FB (134 + 21 * ls.length) (20 * ls.length + 1) s.p
 good:partsW [] (ls.map Sum.inl) = .ok ls
 tr:Tree ls
theorem Grn.new {st:Nat} {ls:List PD} {sp:List SpD} (h:Grn st ls sp) {n:Nat} (hn:sp.length ≤ n):nmK 102 st n ∉ sp.map (·.f):=fun z => by
 obtain ⟨s,hs,e⟩:=List.mem_map.mp z
 obtain ⟨i,hi⟩:=List.getElem?_of_mem hs
 have li:=(List.getElem?_eq_some_iff.mp hi).1
 have e2:s.f = nmK 102 st n:=e
 rw [h.fc i s hi] at e2
 have:=Jb3 e2
 omega
theorem Grn.nil {st:Nat}:Grn st [] []:=⟨by simp,by simp,by simp,by simp,by simp,by simp,by simp,by rw [List.map_nil,partsW],fun p hp => by cases hp⟩
theorem Grn.inj {st:Nat} {ls:List PD} {sp:List SpD} (h:Grn st ls sp) {s t:SpD} (hs:s ∈ sp) (ht:t ∈ sp) (e:s.f = t.f):s = t:=by
 obtain ⟨i,hi⟩:=List.getElem?_of_mem hs
 obtain ⟨j,hj⟩:=List.getElem?_of_mem ht
 rw [h.fc i s hi,h.fc j t hj] at e
 have:=Jb3 e
 subst this
 rw [hi] at hj
 exact Option.some.inj hj
theorem JcY {α : Type} {l:List α} {a x : α} {i:Nat} (h:(l ++ [a])[i]? = some x):l[i]? = some x ∨ (i = l.length∧x = a):=by
 by_cases c:i < l.length
 ·rw [List.getElem?_append_left c] at h
  exact .inl h
 ·have li:=(List.getElem?_eq_some_iff.mp h).1
  rw [List.length_append,List.length_singleton] at li
  have e:i = l.length:=by omega
  subst e
  rw [List.getElem?_append_right (Nat.le_refl _),Nat.sub_self] at h
  cases h
  exact .inr ⟨rfl,rfl⟩
theorem Grn.face {st:Nat} {ls:List PD} {sp:List SpD} (h:Grn st ls sp):Grn st ls (sp ++ [⟨nmK 102 st sp.length,nmK 102 st sp.length,(0,1)⟩]) where
 nm:=h.nm
 fc:=fun i s hi => by
  rcases JcY hi with hi | ⟨rfl,rfl⟩
  ·exact h.fc i s hi
  ·rfl
 ok:=h.ok
 sub:=fun p hp => by
  rw [List.map_append]
  exact ⟨List.mem_append.mpr (.inl (h.sub p hp).1),List.mem_append.mpr (.inl (h.sub p hp).2)⟩
 con:=fun s hs => by
  rcases List.mem_append.mp hs with hs | hs
  ·exact h.con s hs
  ·rw [List.mem_singleton.mp hs]
   exact .refl
 pl:=fun p hp s hs t ht e1 e2 => by
  have nw:=h.new (Nat.le_refl sp.length)
  rcases List.mem_append.mp hs with hs | hs
  ·rcases List.mem_append.mp ht with ht | ht
   ·exact h.pl p hp s hs t ht e1 e2
   ·rw [List.mem_singleton.mp ht] at e2
    dsimp only at e2
    exact absurd (e2 ▸ (h.sub p hp).2) nw
  ·rw [List.mem_singleton.mp hs] at e1
   dsimp only at e1
   exact absurd (e1 ▸ (h.sub p hp).1) nw
 fb:=fun s hs => by
  rcases List.mem_append.mp hs with hs | hs
  ·exact h.fb s hs
  ·rw [List.mem_singleton.mp hs]
   exact Jcp.mono (by omega) (by omega)
 good:=h.good
 tr:=h.tr
theorem Grn.part {st:Nat} {ls:List PD} {sp:List SpD} (h:Grn st ls sp) (hst:st ≤ 3) {s0:SpD} (h0:s0 ∈ sp) {p:PD} {d:Bool} (hnm:p.nm = nmK 112 st ls.length)
  (h1:p.st = if d then s0.f else nmK 102 st sp.length) (h2:p.en = if d then nmK 102 st sp.length else s0.f) (hz:FB 133 20 p.sz) (hok:POk p):Grn st (ls ++ [p]) (sp ++ [⟨nmK 102 st sp.length,s0.r,addF s0.p (sgn d p.sz)⟩]):=by
 have nw:=h.new (Nat.le_refl sp.length)
 have m0:s0.f ∈ sp.map (·.f):=List.mem_map.mpr ⟨s0,h0,rfl⟩
 have ne0:nmK 102 st sp.length ≠ s0.f:=fun z => nw (z ▸ m0)
 have hn:∀ q ∈ ls,q.st ≠ q.en:=fun q hq => (h.ok q hq).ne
 have nf:nmK 102 st sp.length ∉ fcsOf ls:=fun z => by
  obtain ⟨q,hq,hm⟩:=List.mem_flatMap.mp z
  simp at hm
  rcases hm with e | e
  ·exact nw (e ▸ (h.sub q hq).1)
  ·exact nw (e ▸ (h.sub q hq).2)
 have nc:¬ Conn ls p.st p.en:=fun z => by
  have:=Jhm hn z hok.ne
  cases d with
  | true =>
   rw [if_pos rfl] at h1 h2
   exact nf (h2 ▸ this.2)
  | false =>
   rw [if_neg (by decide)] at h1 h2
   exact nf (h1 ▸ this.1)
 have nn:p.nm ∉ ls.map (·.nm):=fun z => by
  obtain ⟨q,hq,e⟩:=List.mem_map.mp z
  obtain ⟨i,hi⟩:=List.getElem?_of_mem hq
  have li:=(List.getElem?_eq_some_iff.mp hi).1
  have e2:q.nm = p.nm:=e
  rw [h.nm i q hi,hnm] at e2
  have:=Jb3 e2
  omega
 have fb0:=h.fb s0 h0
 have fbz:FB 133 20 (sgn d p.sz):=by
  cases d with
  | true => exact hz
  | false => exact hz.neg
 have fbn:FB (134 + 21 * (ls.length + 1)) (20 * (ls.length + 1) + 1) (addF s0.p (sgn d p.sz)):=by
  have:=FB.add (n:=154 + 21 * ls.length) (m:=20 * (ls.length + 1) + 1) fb0 fbz (by omega) (by omega) (by omega)
  have e:134 + 21 * (ls.length + 1) = 154 + 21 * ls.length + 1:=by omega
  rw [e]
  exact this
 have va:vl (addF s0.p (sgn d p.sz)) = vl s0.p + vl (sgn d p.sz):=JfT fb0.b1 fbz.b1
 refine ⟨fun i q hi => ?_,fun i s hi => ?_,fun q hq => ?_,fun q hq => ?_,fun s hs => ?_,fun q hq s hs t ht e1 e2 => ?_,fun s hs => ?_, ?_,fun q hq z => ?_⟩
 ·rcases JcY hi with hi | ⟨rfl,rfl⟩
  ·exact h.nm i q hi
  ·exact hnm
 ·rcases JcY hi with hi | ⟨rfl,rfl⟩
  ·exact h.fc i s hi
  ·rfl
 ·rcases List.mem_append.mp hq with hq | hq
  ·exact h.ok q hq
  ·rw [List.mem_singleton.mp hq]
   exact hok
 ·rw [List.map_append]
  rcases List.mem_append.mp hq with hq | hq
  ·exact ⟨List.mem_append.mpr (.inl (h.sub q hq).1),List.mem_append.mpr (.inl (h.sub q hq).2)⟩
  ·rw [List.mem_singleton.mp hq,h1,h2]
   have mn:nmK 102 st sp.length ∈ [(⟨nmK 102 st sp.length,s0.r,addF s0.p (sgn d p.sz)⟩:SpD)].map (·.f):=by simp
   cases d with
   | true => exact ⟨List.mem_append.mpr (.inl m0),List.mem_append.mpr (.inr mn)⟩
   | false => exact ⟨List.mem_append.mpr (.inr mn),List.mem_append.mpr (.inl m0)⟩
 ·rcases List.mem_append.mp hs with hs | hs
  ·exact (h.con s hs).mono
  ·rw [List.mem_singleton.mp hs]
   have hp:p ∈ ls ++ [p]:=by simp
   have hn':∀ q ∈ ls ++ [p],q.st ≠ q.en:=fun q hq => by
    rcases List.mem_append.mp hq with hq | hq
    ·exact hn q hq
    ·rw [List.mem_singleton.mp hq]
     exact hok.ne
   have c:=Jgs hp
   cases d with
   | true =>
    rw [if_pos rfl] at h1 h2
    rw [h1,h2] at c
    exact ((h.con s0 h0).mono).trans c
   | false =>
    rw [if_neg (by decide)] at h1 h2
    rw [h1,h2] at c
    exact ((h.con s0 h0).mono).trans (c.symm hn')
 ·rcases List.mem_append.mp hq with hq | hq
  ·rcases List.mem_append.mp hs with hs | hs
   ·rcases List.mem_append.mp ht with ht | ht
    ·exact h.pl q hq s hs t ht e1 e2
    ·rw [List.mem_singleton.mp ht] at e2
     dsimp only at e2
     exact absurd (e2 ▸ (h.sub q hq).2) nw
   ·rw [List.mem_singleton.mp hs] at e1
    dsimp only at e1
    exact absurd (e1 ▸ (h.sub q hq).1) nw
  ·have hq:=List.mem_singleton.mp hq
   subst hq
   cases d with
   | true =>
    rw [if_pos rfl] at h1 h2
    rw [h1] at e1
    rw [h2] at e2
    have s_:s = s0:=by
     rcases List.mem_append.mp hs with hs | hs
     ·exact h.inj hs h0 e1
     ·rw [List.mem_singleton.mp hs] at e1
      dsimp only at e1
      exact absurd e1 ne0
    have t_:t.p = addF s0.p (sgn true q.sz):=by
     rcases List.mem_append.mp ht with ht | ht
     ·exact absurd (e2 ▸ List.mem_map.mpr ⟨t,ht,rfl⟩) nw
     ·rw [List.mem_singleton.mp ht]
    rw [s_,t_,va]
    rfl
   | false =>
    rw [if_neg (by decide)] at h1 h2
    rw [h1] at e1
    rw [h2] at e2
    have t_:t = s0:=by
     rcases List.mem_append.mp ht with ht | ht
     ·exact h.inj ht h0 e2
     ·rw [List.mem_singleton.mp ht] at e2
      dsimp only at e2
      exact absurd e2 ne0
    have s_:s.p = addF s0.p (sgn false q.sz):=by
     rcases List.mem_append.mp hs with hs | hs
     ·exact absurd (e1 ▸ List.mem_map.mpr ⟨s,hs,rfl⟩) nw
     ·rw [List.mem_singleton.mp hs]
    have vn:vl (sgn false q.sz) = - vl q.sz:=JcQ q.sz
    rw [t_,s_,va,vn]
    grind
 ·rw [List.length_append,List.length_singleton]
  rcases List.mem_append.mp hs with hs | hs
  ·have:=h.fb s hs
   exact this.mono (by omega) (by omega)
  ·rw [List.mem_singleton.mp hs]
   exact fbn
 ·have:=Jdj (p:=p) ls [] (by rw [List.nil_append]; exact h.good) (by rw [List.nil_append]; exact nn) (by rw [List.nil_append]; exact nc)
  rw [List.nil_append] at this
  exact this
 ·rw [List.filter_append] at z
  rcases List.mem_append.mp hq with hq | hq
  ·have sf:∀ x ∈ ls.filter (fun x => decide (x.nm ≠ q.nm)),x ∈ ls:=fun x hx => (List.mem_filter.mp hx).1
   have fn:nmK 102 st sp.length ∉ fcsOf (ls.filter fun x => decide (x.nm ≠ q.nm)):=fun y => nf (by
    obtain ⟨x,hx,hm⟩:=List.mem_flatMap.mp y
    exact List.mem_flatMap.mpr ⟨x,sf x hx,hm⟩)
   have z':Conn (ls.filter (fun x => decide (x.nm ≠ q.nm)) ++ [p]) q.st q.en:=z.sub fun x hx => by
    rcases List.mem_append.mp hx with hx | hx
    ·exact List.mem_append.mpr (.inl hx)
    ·exact List.mem_append.mpr (.inr (List.mem_filter.mp hx).1)
   have:=z'.retract (s0:=s0.f) (f:=nmK 102 st sp.length) (by
    cases d with
    | true => exact .inr ⟨h1,h2⟩
    | false => exact .inl ⟨h1,h2⟩) fn
   have n1:∀ x ∈ sp.map (·.f),x ≠ nmK 102 st sp.length:=fun x hx y => nw (y ▸ hx)
   rw [if_neg (n1 _ (h.sub q hq).1),if_neg (n1 _ (h.sub q hq).2)] at this
   exact h.tr q hq this
  ·rw [List.mem_singleton.mp hq] at z
   exact nc (z.sub fun x hx => by
    rcases List.mem_append.mp hx with hx | hx
    ·exact (List.mem_filter.mp hx).1
    ·have:=(List.mem_filter.mp hx)
     have e:=List.mem_singleton.mp this.1
     rw [e] at this
     simp at this)
def Two (sp:List SpD):Prop:=∀ s ∈ sp, ∃ t ∈ sp,t.f ≠ s.f∧t.r = s.r
theorem JhN {st:Nat} {ls:List PD} {sp:List SpD} (h:Grn st ls sp) {s0:SpD} (h0:s0 ∈ sp) (ht:∀ s ∈ sp,s.r = s0.r ∨ ∃ t ∈ sp,t.f ≠ s.f∧t.r = s.r) {z:Int × Int}:Two (sp ++ [⟨nmK 102 st sp.length,s0.r,z⟩]):=by
 have nw:=h.new (Nat.le_refl sp.length)
 intro s hs
 rcases List.mem_append.mp hs with hs | hs
 ·rcases ht s hs with e | ⟨t,ht,e1,e2⟩
  ·exact ⟨⟨nmK 102 st sp.length,s0.r,z⟩,by simp,fun q => nw (List.mem_map.mpr ⟨s,hs,q.symm⟩),e.symm⟩
  ·exact ⟨t,List.mem_append.mpr (.inl ht),e1,e2⟩
 ·rw [List.mem_singleton.mp hs]
  exact ⟨s0,List.mem_append.mpr (.inl h0),fun q => nw (List.mem_map.mpr ⟨s0,h0,q⟩),rfl⟩
theorem Grn.joined {st:Nat} {ls:List PD} {sp:List SpD} (h:Grn st ls sp) {s t:SpD} (hs:s ∈ sp) (ht:t ∈ sp) (e:s.r = t.r):Conn ls s.f t.f:=by
 have hn:∀ q ∈ ls,q.st ≠ q.en:=fun q hq => (h.ok q hq).ne
 exact ((h.con s hs).symm hn).trans (e ▸ h.con t ht)
def spOf (sp:List SpD) (f:Str):Int × Int:=((sp.find? fun s => decide (s.f = f)).map (·.p)).getD (0,1)
theorem Grn.pl_at {st:Nat} {ls:List PD} {sp:List SpD} (h:Grn st ls sp) {s:SpD} (hs:s ∈ sp):spOf sp s.f = s.p:=by
 unfold spOf
 cases e:sp.find? fun t => decide (t.f = s.f) with
 | none =>
  have:=List.find?_eq_none.mp e s hs
  simp at this
 | some t =>
  have h1:=List.mem_of_find?_eq_some e
  have h2:=List.find?_some e
  have h3:t.f = s.f:=by simpa using h2
  rw [h.inj h1 hs h3]
  rfl
theorem Grn.pls {st:Nat} {ls:List PD} {sp:List SpD} (h:Grn st ls sp):∀ p ∈ ls,vl (spOf sp p.en) = vl (spOf sp p.st) + vl p.sz:=fun p hp => by
 obtain ⟨s,hs,e1⟩:=List.mem_map.mp (h.sub p hp).1
 obtain ⟨t,ht,e2⟩:=List.mem_map.mp (h.sub p hp).2
 have e1:s.f = p.st:=e1
 have e2:t.f = p.en:=e2
 rw [← e1, ← e2,h.pl_at hs,h.pl_at ht]
 exact h.pl p hp s hs t ht e1 e2
theorem Grn.plb {st:Nat} {ls:List PD} {sp:List SpD} (h:Grn st ls sp) (hl:ls.length ≤ 8) (f:Str):FB 302 161 (spOf sp f):=by
 unfold spOf
 cases e:sp.find? fun t => decide (t.f = f) with
 | none => exact Jcp.mono (by omega) (by omega)
 | some t =>
  have:=h.fb t (List.mem_of_find?_eq_some e)
  exact this.mono (by omega) (by omega)
end L2
namespace L2
open PySem Ch
theorem Jh4 {t b:Int} (hb:1 ≤ b):vl (Mth.top t b,Mth.bot t b) = (t:Rat) / (b:Rat):=by
 have b0:b ≠ 0:=by omega
 have cr:=Mth.cross (t:=t) b0
 have bp:=Mth.Jc4 (t:=t) b0
 unfold vl
 dsimp only
 generalize Mth.top t b = x at *
 generalize Mth.bot t b = y at *
 have h1:=JcA hb
 have h2:=JcA bp
 have e:(x:Rat) * (b:Rat) = (t:Rat) * (y:Rat):=by exact_mod_cast cr
 generalize (x:Rat) = x at *
 generalize (y:Rat) = y at *
 generalize (t:Rat) = t at *
 generalize (b:Rat) = b at *
 grind
theorem FOk.fb {n:Nat} {a:Int × Int} (h:FOk n a):FB n n a:=⟨h.s1,h.s2,h.b1,h.g1⟩
def mid (pl:Str→Int × Int) (g:GD):Int × Int:=addF (pl g.en) (negF (pl g.st))
def roomF (pl:Str→Int × Int) (g:GD):Int × Int:=if lessF (addF g.hi (negF (mid pl g))) (addF (mid pl g) (negF g.lo)) then addF g.hi (negF (mid pl g)) else addF (mid pl g) (negF g.lo)
section
variable {A B A' B' C D C' D':Nat} {x y z w m a b:Int × Int}
theorem FB.inj (h:FB A B x) (k:FB C D y) (e:vl x = vl y):x = y:=Jjz h.b1 k.b1 h.g1 k.g1 e
theorem FB.add' (h:FB A B x) (k:FB C D y):FB (A + D + (C + B) + 1) (B + D) (addF x y):=FB.add h k (by omega) (by omega) (Nat.le_refl _)
theorem FB.vadd (h:FB A B x) (k:FB C D y):vl (addF x y) = vl x + vl y:=JfT h.b1 k.b1
theorem Jin (hx:FB A B x) (hy:FB A B y) (hz:FB C D z) (hw:FB A B w) (e:vl y = vl x + vl z):addF (addF x (negF w)) z = addF y (negF w):=by
 refine FB.inj ((hx.add' hw.neg).add' hz) (hy.add' hw.neg) ?_
 rw [FB.vadd (hx.add' hw.neg) hz,hx.vadd hw.neg,hy.vadd hw.neg,e,JcQ]
 grind
theorem Jhs (hx:FB A B x):addF x (negF x) = (0,1):=by
 refine FB.inj (hx.add' hx.neg) Jcp ?_
 rw [hx.vadd hx.neg,JcQ]
 have : vl (0,1) = 0:=by
  unfold vl
  grind
 rw [this]
 grind
theorem Jia (hm:FB A B m) (ha:FB C D a):addF (addF m a) (negF m) = a:=by
 refine FB.inj ((hm.add' ha).add' hm.neg) ha ?_
 rw [FB.vadd (hm.add' ha) hm.neg,hm.vadd ha,JcQ]
 grind
theorem Jib (hm:FB A B m) (hb:FB C D b):addF m (negF (addF m (negF b))) = b:=by
 have h1:=hm.add' hb.neg
 refine FB.inj (hm.add' h1.neg) hb ?_
 rw [hm.vadd h1.neg,JcQ,hm.vadd hb.neg,JcQ]
 grind
theorem JhJ (ha:FB A B a) (hb:FB C D b):(if lessF a b then a else b) = if lessF b a then b else a:=by
 have h1:=JbZ (a:=a) (c:=b) ha.b1 hb.b1
 have h2:=JbZ (a:=b) (c:=a) hb.b1 ha.b1
 by_cases c1:lessF a b = true
 ·rw [if_pos c1,if_neg fun c2 => by
   have:=h1.mp c1
   have:=h2.mp c2
   grind]
 ·rw [if_neg c1]
  by_cases c2:lessF b a = true
  ·rw [if_pos c2]
  ·rw [if_neg c2]
   refine FB.inj hb ha ?_
   have n1:¬ vl a < vl b:=fun q => c1 (h1.mpr q)
   have n2:¬ vl b < vl a:=fun q => c2 (h2.mpr q)
   grind
theorem hi_lo (hm:FB A B m) (ha:FB C D a) (hb:FB C' D' b) (h:0 ≤ vl a + vl b):lessF (addF m a) (addF m (negF b)) = false:=by
 have h1:=hm.add' ha
 have h2:=hm.add' hb.neg
 have h3:=JbZ h1.b1 h2.b1
 rw [hm.vadd ha,hm.vadd hb.neg,JcQ] at h3
 cases e:lessF (addF m a) (addF m (negF b)) with
 | false => rfl
 | true =>
  have:=h3.mp e
  grind
theorem Jiq {t u d:Int} (hd:1 ≤ d) (h:0 ≤ t + u):0 ≤ vl (Mth.top t d,Mth.bot t d) + vl (Mth.top u d,Mth.bot u d):=by
 rw [Jh4 hd,Jh4 hd]
 have h1:(0:Rat) < (d:Rat):=by exact_mod_cast (show 0 < d by omega)
 have h2:(0:Rat) ≤ (t:Rat) + (u:Rat):=by exact_mod_cast h
 have e:(t:Rat) / (d:Rat) + (u:Rat) / (d:Rat) = ((t:Rat) + (u:Rat)) / (d:Rat):=by
  generalize (d:Rat) = d at *
  grind
 rw [e]
 refine Rat.not_lt.mp fun q => ?_
 have:=(Rat.div_lt_iff h1).mp q
 rw [Rat.zero_mul] at this
 exact Rat.not_lt.mpr h2 this
theorem Ji8 {pl:Str→Int × Int} {g:GD} (h:∀ f,FB 302 161 (pl f)):FB 464 322 (mid pl g):=FB.add (h _) (h _).neg (by decide) (by decide) (by decide)
end
end L2
namespace L2
open PySem Ch
section
variable {α : Type} {f : α→Str} {l:List α} {s st:Nat}
theorem Jhu (h:∀ i a,l[i]? = some a→f a = nmK s st i) {a b : α} (ha:a ∈ l) (hb:b ∈ l) (e:f a = f b):a = b:=by
 obtain ⟨i,hi⟩:=List.getElem?_of_mem ha
 obtain ⟨j,hj⟩:=List.getElem?_of_mem hb
 rw [h i a hi,h j b hj] at e
 have:=Jb3 e
 subst this
 rw [hi] at hj
 exact Option.some.inj hj
theorem JeC (h:∀ i a,l[i]? = some a→f a = nmK s st i):(l.map f).Nodup:=by
 rw [List.Nodup,List.pairwise_iff_getElem]
 intro i j hi hj hij e
 rw [List.length_map] at hi hj
 rw [List.getElem_map,List.getElem_map,h i _ (List.getElem?_eq_getElem hi),h j _ (List.getElem?_eq_getElem hj)] at e
 have:=Jb3 e
 omega
end
theorem Grn.fname {st:Nat} {ls:List PD} {sp:List SpD} (h:Grn st ls sp) (hst:st ≤ 3) (hl:sp.length ≤ 16) {s:SpD} (hs:s ∈ sp):nameS s.f = true:=by
 obtain ⟨i,hi⟩:=List.getElem?_of_mem hs
 have:=(List.getElem?_eq_some_iff.mp hi).1
 rw [h.fc i s hi]
 exact JcX (by decide) hst (by omega)
end L2
namespace L2
open PySem PySem.Spec PyProof.Rows Ch
section
variable {K:PySem.W.Frag} {H H':Hp} {x:V}
end
theorem Jex {H0 H:Hp} {b:Addr} (S:Same H0 H) (h:H b = none):H0 b = none:=by
 cases e:H0 b with
 | none => rfl
 | some o => rw [S _ _ e] at h; cases h
theorem JfB {c:TT} {t u:TS} {D:Ends} {σ : St} {H:Hp} (J:St→Hp→Prop) (hJ:∀ σ' H',J σ' H'→D.nx σ' H') (h:∀ N:St→Hp→Prop,(∀ σ' H',J σ' H'→N σ' H')→tIfS c t u { D with nx:=N } σ H):tIfS c t u D σ H:=h D.nx hJ
end L2
namespace L2
open PySem Ch
theorem Jjx {t b:Int} (ht:0 ≤ t) (hb:1 ≤ b):0 ≤ Mth.top t b:=by
 have h1:=Mth.Jen (t:=t) (b:=b) (by omega)
 have h2:=Mth.g_pos (a:=t) (b:=b) (by omega)
 have e:Mth.by_ t b = Mth.g t b:=by unfold Mth.by_; rw [if_neg (by omega)]
 rw [e] at h1
 rcases Int.lt_or_le (Mth.top t b) 0 with z | z
 ·have:=Int.mul_neg_of_neg_of_pos z h2
  omega
 ·exact z
inductive Path (ls:List PD):Str→List Pr→Str→Prop
 | nil {a:Str}:Path ls a [] a
 | cons {a g b:Str} {p:PD} {fw:Bool} {w:List Pr}:p ∈ ls→(a = if fw then p.st else p.en)→(g = if fw then p.en else p.st)→Path ls g w b→Path ls a ((p.nm,fw) :: w) b
theorem Path.snoc {ls:List PD} {a f g:Str} {w:List Pr} {p:PD} {fw:Bool} (h:Path ls a w f) (hp:p ∈ ls) (e1:f = if fw then p.st else p.en) (e2:g = if fw then p.en else p.st):Path ls a (w ++ [(p.nm,fw)]) g:=by
 induction h with
 | nil => exact .cons hp e1 e2 .nil
 | cons h1 h2 h3 _ ih => exact .cons h1 h2 h3 (ih e1)
theorem Jdl {ls:List PD} {a b:Str} {w:List Pr} (h:Jbc ls a w b):Path ls a w b:=by
 induction h with
 | nil => exact .nil
 | snoc _ hm ih =>
  obtain ⟨p,hp,h | h⟩:=Jbe.mp hm
  ·obtain ⟨h1,h2,rfl⟩:=h
   exact ih.snoc hp h1.symm h2.symm
  ·obtain ⟨_,h1,h2,rfl⟩:=h
   exact ih.snoc hp h1.symm h2.symm
theorem JcH {ls:List PD} {a b:Str} {w:List Pr} (h:Path ls a w b):∀ n ∈ w.map (·.1),n ∈ ls.map (·.nm):=by
 induction h with
 | nil => simp
 | cons h1 _ _ _ ih =>
  intro n hn
  rw [List.map_cons] at hn
  rcases List.mem_cons.mp hn with e | e
  ·rw [e]
   exact List.mem_map.mpr ⟨_,h1,rfl⟩
  ·exact ih n e
theorem Path.sub {ls ls':List PD} (hs:∀ p ∈ ls,p ∈ ls') {a b:Str} {w:List Pr} (h:Path ls a w b):Path ls' a w b:=by
 induction h with
 | nil => exact .nil
 | cons h1 h2 h3 _ ih => exact .cons (hs _ h1) h2 h3 ih
theorem Jiz {ls:List PD} {a b:Str} {w:List Pr} (h:Path ls a w b) (hn:a ≠ b):w ≠ []:=fun z => by
 subst z
 cases h
 exact hn rfl
open PySem.Spec PyProof.Rows
theorem JcV (z:Str):∀ ss:List Str,inV (.str z) (ss.map V.str) = decide (z ∈ ss)
 | [] => by simp [inV]
 | s :: ss => by
  have h:=JcV z ss
  unfold inV at h ⊢
  rw [List.map_cons,List.any_cons,h]
  have e:eqV (.str s) (.str z) = decide (s = z):=by first | rfl | simp [eqV]
  rw [e]
  by_cases c:s = z
  ·subst c
   simp
  ·have c':¬ z = s:=fun q => c q.symm
   simp [c,c']
theorem Jc7 (ss:List Str):(ss.map V.str).all flatV = true:=by
 induction ss with
 | nil => rfl
 | cons s ss ih => rw [List.map_cons,List.all_cons,ih]; rfl
theorem JgN {ks:List PD} (h:(ks.map (·.nm)).Nodup) {i:Nat} {p:PD} (hp:ks[i]? = some p):p.nm ∉ (ks.take i).map (·.nm):=fun z => by
 obtain ⟨q,hq,e⟩:=List.mem_map.mp z
 have e:q.nm = p.nm:=e
 have lt:=(List.getElem?_eq_some_iff.mp hp).1
 obtain ⟨j,hj⟩:=List.getElem?_of_mem hq
 have lj:=(List.getElem?_eq_some_iff.mp hj).1
 rw [List.length_take] at lj
 rw [List.getElem?_take_of_lt (by omega)] at hj
 have ltj:=(List.getElem?_eq_some_iff.mp hj).1
 rw [List.Nodup,List.pairwise_iff_getElem] at h
 refine h j i (by rw [List.length_map]; exact ltj) (by rw [List.length_map]; exact lt) (by omega) ?_
 rw [List.getElem_map,List.getElem_map]
 rw [List.getElem?_eq_getElem ltj] at hj
 rw [List.getElem?_eq_getElem lt] at hp
 rw [Option.some.inj hj,Option.some.inj hp]
 exact e
theorem ForR.byN {lo:Int} {n:Nat} {g:TG} {tb:TS} {D:Ends} {σ : St} {H:Hp} (Pv:Nat→St→Hp→Prop) (h0:Pv 0 σ H)
  (hs:∀ i σ H,i < n→Pv i σ H→∀ N:St→Hp→Prop,(∀ σ' H',Pv (i + 1) σ' H'→N σ' H')→g (.int (lo + i)) σ H fun σ2 H2 => tb { D with nx:=N,ct:=N,bk:=D.nx } σ2 H2) (hd:∀ σ H,Pv n σ H→D.nx σ H):ForR lo n g tb D σ H :=
 ForR.by Pv h0 (fun i σ H hi hp => hs i σ H hi hp _ fun _ _ h => h) hd
theorem ForA.byLN {K:PySem.W.Frag} {a:Addr} {xs:List V} {g:TG} {tb:TS} {D:Ends} {σ : St} {H:Hp} (hA:SqL K H a xs) (Pv:Nat→St→Hp→Prop) (h0:Pv 0 σ H) (hl:∀ i σ H',Pv i σ H'→SqL K H' a xs)
  (hs:∀ i x σ H,xs[i]? = some x→Pv i σ H→∀ N:St→Hp→Prop,(∀ σ' H',Pv (i + 1) σ' H'→N σ' H')→g x σ H fun σ2 H2 => tb { D with nx:=N,ct:=N,bk:=D.nx } σ2 H2) (hd:∀ σ H,Pv xs.length σ H→D.nx σ H):ForA K a g tb D σ H :=
 ForA.byL hA Pv h0 hl (fun i x σ H hx hp => hs i x σ H hx hp _ fun _ _ h => h) hd
end L2
namespace L2
open PySem Ch
structure Nms (ls:List PD) (xs:List (SpD × List Str)):Prop where
 nd:∀ x ∈ xs,x.2.Nodup
 sub:∀ x ∈ xs, ∀ n ∈ x.2,n ∈ ls.map (·.nm)
 stp:∀ p ∈ ls, ∀ x ∈ xs, ∀ y ∈ xs,x.1.f = p.st→y.1.f = p.en→(∀ n,n ≠ p.nm→(n ∈ x.2 ↔ n ∈ y.2))∧(p.nm ∈ x.2 ↔ p.nm ∉ y.2)
 fb:∀ x ∈ xs,FB (134 + 5 * ls.length) (4 * ls.length + 1) x.1.p
 pb:∀ p ∈ ls,FB 133 4 p.sz∧FB 100 6 p.mo
 ln:∀ x ∈ xs,x.2.length ≤ ls.length
theorem Nms.nil:Nms [] []:=⟨by simp,by simp,by simp,by simp,by simp,by simp⟩
theorem Nms.face {st:Nat} {ls:List PD} {xs:List (SpD × List Str)} (h:Nms ls xs) (hG:Grn st ls (xs.map (·.1))):Nms ls (xs ++ [(⟨nmK 102 st (xs.map (·.1)).length,nmK 102 st (xs.map (·.1)).length,(0,1)⟩,[])]):=by
 have nw:=hG.new (Nat.le_refl _)
 refine ⟨fun x hx => ?_,fun x hx => ?_,fun p hp x hx y hy e1 e2 => ?_,fun x hx => ?_,h.pb,fun x hx => ?_⟩
 ·rcases List.mem_append.mp hx with hx | hx
  ·exact h.nd x hx
  ·rw [List.mem_singleton.mp hx]; exact .nil
 ·rcases List.mem_append.mp hx with hx | hx
  ·exact h.sub x hx
  ·rw [List.mem_singleton.mp hx]; intro n hn; cases hn
 ·rcases List.mem_append.mp hx with hx | hx
  ·rcases List.mem_append.mp hy with hy | hy
   ·exact h.stp p hp x hx y hy e1 e2
   ·rw [List.mem_singleton.mp hy] at e2
    dsimp only at e2
    exact absurd (e2 ▸ (hG.sub p hp).2) nw
  ·rw [List.mem_singleton.mp hx] at e1
   dsimp only at e1
   exact absurd (e1 ▸ (hG.sub p hp).1) nw
 ·rcases List.mem_append.mp hx with hx | hx
  ·exact h.fb x hx
  ·rw [List.mem_singleton.mp hx]
   exact Jcp.mono (by omega) (by omega)
 ·rcases List.mem_append.mp hx with hx | hx
  ·exact h.ln x hx
  ·rw [List.mem_singleton.mp hx]; exact Nat.zero_le _
theorem Nms.part {st:Nat} {ls:List PD} {xs:List (SpD × List Str)} (h:Nms ls xs) (hG:Grn st ls (xs.map (·.1))) {s0:SpD × List Str} (h0:s0 ∈ xs) {p:PD} {d:Bool} (hnm:p.nm = nmK 112 st ls.length)
  (h1:p.st = if d then s0.1.f else nmK 102 st (xs.map (·.1)).length) (h2:p.en = if d then nmK 102 st (xs.map (·.1)).length else s0.1.f) (hz:FB 133 4 p.sz) (hm:FB 100 6 p.mo) :
  Nms (ls ++ [p]) (xs ++ [(⟨nmK 102 st (xs.map (·.1)).length,s0.1.r,addF s0.1.p (sgn d p.sz)⟩,s0.2 ++ [p.nm])]):=by
 have nw:=hG.new (Nat.le_refl _)
 have inj:∀ x ∈ xs,x.1.f = s0.1.f→(∀ n,n ∈ x.2 ↔ n ∈ s0.2):=fun x hx e => by
  obtain ⟨i,hi⟩:=List.getElem?_of_mem hx
  obtain ⟨j,hj⟩:=List.getElem?_of_mem h0
  have ei:=hG.fc i x.1 (by rw [List.getElem?_map,hi]; rfl)
  have ej:=hG.fc j s0.1 (by rw [List.getElem?_map,hj]; rfl)
  rw [ei,ej] at e
  have:=Jb3 e
  subst this
  rw [hi] at hj
  rw [Option.some.inj hj]
  exact fun _ => Iff.rfl
 have nn:p.nm ∉ ls.map (·.nm):=fun z => by
  obtain ⟨q,hq,e⟩:=List.mem_map.mp z
  obtain ⟨i,hi⟩:=List.getElem?_of_mem hq
  have li:=(List.getElem?_eq_some_iff.mp hi).1
  have e2:q.nm = p.nm:=e
  rw [hG.nm i q hi,hnm] at e2
  have:=Jb3 e2
  omega
 have n0:p.nm ∉ s0.2:=fun z => nn (h.sub s0 h0 _ z)
 have fbz:FB 133 4 (sgn d p.sz):=by
  cases d with
  | true => exact hz
  | false => exact hz.neg
 refine ⟨fun x hx => ?_,fun x hx n hn => ?_,fun q hq x hx y hy e1 e2 => ?_,fun x hx => ?_,fun q hq => ?_,fun x hx => ?_⟩
 ·rcases List.mem_append.mp hx with hx | hx
  ·exact h.nd x hx
  ·rw [List.mem_singleton.mp hx]
   show (s0.2 ++ [p.nm]).Nodup
   rw [List.nodup_append]
   refine ⟨h.nd s0 h0,by simp,fun a ha b hb e => ?_⟩
   rw [List.mem_singleton.mp hb] at e
   exact n0 (e ▸ ha)
 ·rw [List.map_append]
  rcases List.mem_append.mp hx with hx | hx
  ·exact List.mem_append.mpr (.inl (h.sub x hx n hn))
  ·rw [List.mem_singleton.mp hx] at hn
   rcases List.mem_append.mp hn with hn | hn
   ·exact List.mem_append.mpr (.inl (h.sub s0 h0 n hn))
   ·rw [List.mem_singleton.mp hn]
    simp
 ·rcases List.mem_append.mp hq with hq | hq
  ·rcases List.mem_append.mp hx with hx | hx
   ·rcases List.mem_append.mp hy with hy | hy
    ·exact h.stp q hq x hx y hy e1 e2
    ·rw [List.mem_singleton.mp hy] at e2
     dsimp only at e2
     exact absurd (e2 ▸ (hG.sub q hq).2) nw
   ·rw [List.mem_singleton.mp hx] at e1
    dsimp only at e1
    exact absurd (e1 ▸ (hG.sub q hq).1) nw
  ·have hq:=List.mem_singleton.mp hq
   subst hq
   have m0:∀ z ∈ xs,z.1.f ≠ nmK 102 st (xs.map (·.1)).length:=fun z hz' e => nw (e ▸ List.mem_map.mpr ⟨z.1,List.mem_map.mpr ⟨z,hz',rfl⟩,rfl⟩)
   have mn:∀ n,n ≠ q.nm→(n ∈ s0.2 ↔ n ∈ s0.2 ++ [q.nm]):=fun n hn => by simp [hn]
   cases d with
   | true =>
    rw [if_pos rfl] at h1 h2
    rw [h1] at e1
    rw [h2] at e2
    rcases List.mem_append.mp hx with hx | hx
    ·rcases List.mem_append.mp hy with hy | hy
     ·exact absurd e2 (m0 y hy)
     ·rw [List.mem_singleton.mp hy]
      have ix:=inj x hx e1
      refine ⟨fun n hn => (ix n).trans (mn n hn), ?_⟩
      rw [ix]
      simp [n0]
    ·rw [List.mem_singleton.mp hx] at e1
     dsimp only at e1
     exact absurd e1.symm (m0 s0 h0)
   | false =>
    rw [if_neg (by decide)] at h1 h2
    rw [h1] at e1
    rw [h2] at e2
    rcases List.mem_append.mp hy with hy | hy
    ·rcases List.mem_append.mp hx with hx | hx
     ·exact absurd e1 (m0 x hx)
     ·rw [List.mem_singleton.mp hx]
      have iy:=inj y hy e2
      refine ⟨fun n hn => (mn n hn).symm.trans (iy n).symm, ?_⟩
      rw [iy]
      simp [n0]
    ·rw [List.mem_singleton.mp hy] at e2
     dsimp only at e2
     exact absurd e2.symm (m0 s0 h0)
 ·rw [List.length_append,List.length_singleton]
  rcases List.mem_append.mp hx with hx | hx
  ·exact (h.fb x hx).mono (by omega) (by omega)
  ·rw [List.mem_singleton.mp hx]
   have:=FB.add (n:=138 + 5 * ls.length) (m:=4 * (ls.length + 1) + 1) (h.fb s0 h0) fbz (by omega) (by omega) (by omega)
   exact this.mono (by omega) (by omega)
 ·rcases List.mem_append.mp hq with hq | hq
  ·exact h.pb q hq
  ·rw [List.mem_singleton.mp hq]
   exact ⟨hz,hm⟩
 ·rw [List.length_append,List.length_singleton]
  rcases List.mem_append.mp hx with hx | hx
  ·have:=h.ln x hx
   omega
  ·rw [List.mem_singleton.mp hx]
   have:=h.ln s0 h0
   show (s0.2 ++ [p.nm]).length ≤ _
   rw [List.length_append,List.length_singleton]
   omega
theorem JcP {st:Nat} {ls:List PD} {xs:List (SpD × List Str)} (hG:Grn st ls (xs.map (·.1))) {x y:SpD × List Str} (hx:x ∈ xs) (hy:y ∈ xs) (e:x.1.f = y.1.f):x = y:=by
 obtain ⟨i,hi⟩:=List.getElem?_of_mem hx
 obtain ⟨j,hj⟩:=List.getElem?_of_mem hy
 have ei:=hG.fc i x.1 (by rw [List.getElem?_map,hi]; rfl)
 have ej:=hG.fc j y.1 (by rw [List.getElem?_map,hj]; rfl)
 rw [ei,ej] at e
 have:=Jb3 e
 subst this
 rw [hi] at hj
 exact Option.some.inj hj
theorem JhA {st:Nat} {ls:List PD} {xs:List (SpD × List Str)} (hG:Grn st ls (xs.map (·.1))) (hM:Nms ls xs) {a b:Str} {w:List Pr} (h:Path ls a w b):(w.map (·.1)).Nodup→∀ x ∈ xs, ∀ y ∈ xs,x.1.f = a→y.1.f = b→∀ n,n ∈ w.map (·.1) ↔ ¬ (n ∈ x.2 ↔ n ∈ y.2):=by
 induction h with
 | nil =>
  intro _ x hx y hy e1 e2 n
  have:=JcP hG hx hy (e1.trans e2.symm)
  subst this
  simp
 | @cons a g b p fw w hp h1 h2 _ ih =>
  intro nd x hx y hy e1 e2 n
  rw [List.map_cons,List.nodup_cons] at nd
  obtain ⟨z,hz,ez⟩:∃ z ∈ xs,z.1.f = g:=by
   have hs:=hG.sub p hp
   have : g ∈ (xs.map (·.1)).map (·.f):=by
    rw [h2]
    cases fw
    ·exact hs.1
    ·exact hs.2
   obtain ⟨s,hs,e⟩:=List.mem_map.mp this
   obtain ⟨z,hz,rfl⟩:=List.mem_map.mp hs
   exact ⟨z,hz,e⟩
  have i:=ih nd.2 z hz y hy ez e2 n
  have sx:(∀ n,n ≠ p.nm→(n ∈ x.2 ↔ n ∈ z.2))∧(p.nm ∈ x.2 ↔ p.nm ∉ z.2):=by
   rw [← e1] at h1
   rw [← ez] at h2
   cases fw with
   | true =>
    rw [if_pos rfl] at h1 h2
    exact hM.stp p hp x hx z hz h1 h2
   | false =>
    rw [if_neg (by decide)] at h1 h2
    have:=hM.stp p hp z hz x hx h2 h1
    exact ⟨fun n hn => (this.1 n hn).symm,by have:=this.2; grind⟩
  rw [List.map_cons,List.mem_cons]
  by_cases c:n = p.nm
  ·subst c
   have q:¬ p.nm ∈ w.map (·.1):=nd.1
   have:=sx.2
   grind
  ·have:=sx.1 n c
   grind
def NmOk (xs:List (SpD × List Str)) (e:GD × List Str):Prop:=e.2.Nodup∧∀ x ∈ xs, ∀ y ∈ xs,x.1.f = e.1.st→y.1.f = e.1.en→∀ n,n ∈ e.2 ↔ ¬ (n ∈ x.2 ↔ n ∈ y.2)
theorem JhO {st:Nat} {ls:List PD} {xs:List (SpD × List Str)} (hG:Grn st ls (xs.map (·.1))) (hM:Nms ls xs) {e:GD × List Str} (he:NmOk xs e) (h1:e.1.st ∈ (xs.map (·.1)).map (·.f)) (h2:e.1.en ∈ (xs.map (·.1)).map (·.f)) {w:List Pr} (h:Path ls e.1.st w e.1.en) (nd:(w.map (·.1)).Nodup):e.2.Perm (w.map (·.1)):=by
 obtain ⟨s,hs,es⟩:=List.mem_map.mp h1
 obtain ⟨x,hx,rfl⟩:=List.mem_map.mp hs
 obtain ⟨t,ht,et⟩:=List.mem_map.mp h2
 obtain ⟨y,hy,rfl⟩:=List.mem_map.mp ht
 refine (List.perm_ext_iff_of_nodup he.1 nd).mpr fun n => ?_
 rw [he.2 x hx y hy es et n,JhA hG hM h nd x hx y hy es et n]
theorem Jjr {a b:List Str} (ha:a.Nodup) (hb:b.Nodup):(a.filter (fun n => decide (n ∉ b)) ++ b.filter (fun n => decide (n ∉ a))).Nodup∧∀ n,n ∈ a.filter (fun n => decide (n ∉ b)) ++ b.filter (fun n => decide (n ∉ a)) ↔ ¬ (n ∈ a ↔ n ∈ b):=by
 constructor
 ·rw [List.nodup_append]
  refine ⟨ha.filter _,hb.filter _,fun x hx y hy e => ?_⟩
  subst e
  have h1:=(List.mem_filter.mp hx)
  have h2:=(List.mem_filter.mp hy)
  simp at h1 h2
  exact h1.2 h2.1
 ·intro n
  rw [List.mem_append,List.mem_filter,List.mem_filter]
  simp
  grind
def sm (f:Str→Rat):List Str→Rat
 | [] => 0
 | n :: r => f n + sm f r
theorem JiK {f:Str→Rat} {a b:List Str} (h:a.Perm b):sm f a = sm f b:=by
 induction h with
 | nil => rfl
 | cons _ _ ih => simp only [sm,ih]
 | swap x y l =>
  simp only [sm]
  grind
 | trans _ _ ih1 ih2 => exact ih1.trans ih2
theorem Jfo {f:Str→Rat} (n:Str):∀ a:List Str,sm f (a ++ [n]) = sm f a + f n
 | [] => by simp only [List.nil_append,sm]; grind
 | m :: a => by
  rw [List.cons_append]
  simp only [sm,Jfo n a]
  grind
def svl (ks:List PD) (ss:List (Int × Int)) (n:Str):Rat:=(((ks.zip ss).find? fun x => decide (x.1.nm = n)).map fun x => vl x.2).getD 0
theorem JhY {ks:List PD} {ss:List (Int × Int)} {x:PD × (Int × Int)} (hn:(ks.map (·.nm)).Nodup) (hx:x ∈ ks.zip ss):svl ks ss x.1.nm = vl x.2:=by
 unfold svl
 cases e:(ks.zip ss).find? fun y => decide (y.1.nm = x.1.nm) with
 | none =>
  have:=List.find?_eq_none.mp e x hx
  simp at this
 | some y =>
  have h1:=List.mem_of_find?_eq_some e
  have h2:=List.find?_some e
  have h3:y.1.nm = x.1.nm:=by simpa using h2
  obtain ⟨i,hi⟩:=List.getElem?_of_mem hx
  obtain ⟨j,hj⟩:=List.getElem?_of_mem h1
  rw [List.getElem?_zip_eq_some] at hi hj
  have li:=(List.getElem?_eq_some_iff.mp hi.1).1
  have lj:=(List.getElem?_eq_some_iff.mp hj.1).1
  rw [List.Nodup,List.pairwise_iff_getElem] at hn
  have ei:(ks.map (·.nm))[i]'(by rw [List.length_map]; exact li) = x.1.nm:=by
   rw [List.getElem_map]
   have:=hi.1
   rw [List.getElem?_eq_getElem li] at this
   rw [Option.some.inj this]
  have ej:(ks.map (·.nm))[j]'(by rw [List.length_map]; exact lj) = y.1.nm:=by
   rw [List.getElem_map]
   have:=hj.1
   rw [List.getElem?_eq_getElem lj] at this
   rw [Option.some.inj this]
  have : i = j:=by
   rcases Nat.lt_trichotomy i j with c | c | c
   ·exact absurd (ei.trans (h3.symm.trans ej.symm)) (hn i j _ _ c)
   ·exact c
   ·exact absurd (ej.trans (h3.trans ei.symm)) (hn j i _ _ c)
  subst this
  have:=hi.2.symm.trans hj.2
  show vl y.2 = vl x.2
  rw [Option.some.inj this]
def ShP (ks:List PD) (es:List (GD × List Str)) (ss:List (Int × Int)) (pl:Str→Int × Int):Prop:=(∀ (i:Nat) (p:PD) (s:Int × Int),ks[i]? = some p→ss[i]? = some s→0 ≤ vl s∧vl s ≤ vl p.mo)∧∀ e ∈ es,sm (svl ks ss) e.2 ≤ vl (roomF pl e.1)
def prodI:List Int→Int
 | [] => 1
 | f :: r => f * prodI r
theorem Jce (f:Int):∀ fs:List Int,prodI (fs ++ [f]) = prodI fs * f
 | [] => by simp [prodI]
 | g :: fs => by rw [List.cons_append]; simp only [prodI,Jce f fs]; rw [Int.mul_assoc]
structure Scl (b:Int) (fs:List Int):Prop where
 b1:1 ≤ b
 f1:∀ f ∈ fs,1 ≤ f
 pr:prodI fs = b
theorem Jdn:∀ {fs:List Int},(∀ f ∈ fs,1 ≤ f)→1 ≤ prodI fs
 | [],_ => by simp [prodI]
 | f :: fs,h => by
  have h1:=h f (by simp)
  have h2:=Jdn (fs:=fs) fun g hg => h g (by simp [hg])
  have:=Int.mul_pos (show 0 < f by omega) (show 0 < prodI fs by omega)
  simp only [prodI]
  omega
theorem JeL:∀ (as bs:List Int),prodI (as ++ bs) = prodI as * prodI bs
 | [],bs => by simp [prodI]
 | a :: as,bs => by rw [List.cons_append]; simp only [prodI,JeL as bs]; rw [Int.mul_assoc]
theorem Jg5 {a b:Int} (ha:1 ≤ a) (hb:1 ≤ b):a ≤ a * b∧b ≤ a * b:=by
 have h1:=Int.mul_le_mul_of_nonneg_left hb (show 0 ≤ a by omega)
 have h2:=Int.mul_le_mul_of_nonneg_right ha (show 0 ≤ b by omega)
 constructor <;> omega
theorem Scl.take {b:Int} {fs:List Int} (h:Scl b fs) (i:Nat):1 ≤ prodI (fs.take i)∧prodI (fs.take i) ≤ b:=by
 have h1:=Jdn (fs:=fs.take i) fun f hf => h.f1 f (List.mem_of_mem_take hf)
 have h2:=Jdn (fs:=fs.drop i) fun f hf => h.f1 f (List.mem_of_mem_drop hf)
 have e:=JeL (fs.take i) (fs.drop i)
 rw [List.take_append_drop,h.pr] at e
 have:=Jg5 h1 h2
 omega
theorem Scl.mem {b f:Int} {fs:List Int} (h:Scl b fs) (hf:f ∈ fs):f ≤ b:=by
 obtain ⟨i,hi⟩:=List.getElem?_of_mem hf
 have li:=(List.getElem?_eq_some_iff.mp hi).1
 have t:=h.take (i + 1)
 rw [List.take_succ,hi] at t
 have e:=Jce f (fs.take i)
 have:=Jg5 (h.take i).1 (h.f1 f hf)
 simp only [Option.toList_some] at t
 omega
theorem sz_le {n:Nat} {a b:Int} (h:Mth.Sz n b) (h0:0 ≤ a) (h1:a ≤ b):Mth.Sz n a:=Nat.lt_of_le_of_lt (by omega:a.natAbs ≤ b.natAbs) h
theorem Scl.nil:Scl 1 []:=⟨by decide,by simp,rfl⟩
theorem Scl.snoc {b f:Int} {fs:List Int} (h:Scl b fs) (hf:1 ≤ f):Scl (b * f) (fs ++ [f]):=⟨by
 have:=Int.mul_pos (show 0 < b by have:=h.b1; omega) (show 0 < f by omega)
 omega,fun g hg => by
 rcases List.mem_append.mp hg with hg | hg
 ·exact h.f1 g hg
 ·rw [List.mem_singleton.mp hg]; exact hf,by rw [Jce,h.pr]⟩
structure LInv (n:Int × Int) (q:Int) (t:Int × Int):Prop where
 b1:1 ≤ t.2
 g1:Mth.g t.1 t.2 = 1
 dv:t.2 ∣ n.2
 cr:t.1 * n.2 = n.1 * q * t.2
 ab:t.1.natAbs ≤ n.1.natAbs * q.natAbs
theorem LInv.nil {n:Int × Int} (h:1 ≤ n.2) (g:Mth.g n.1 n.2 = 1):LInv n 1 n:=⟨h,g,Int.dvd_refl _,by rw [Int.mul_one],by simp⟩
theorem LInv.step {n t:Int × Int} {q f:Int} (h:LInv n q t) (hf:1 ≤ f):LInv n (q * f) (t.1 * f.fdiv (Mth.g t.2 f),t.2.fdiv (Mth.g t.2 f)):=by
 have sp:0 < Mth.g t.2 f:=Mth.g_pos (by omega)
 have s1:=Mth.Jc8 t.2 f
 have s2:=Mth.Jch t.2 f
 have e1:=Mth.JaZ s1 (by omega)
 have e2:=Mth.JaZ s2 (by omega)
 have cq:=Mth.JdX (b:=t.2) (d:=f) rfl (by omega)
 have p1:=Mth.Jcu s1 (by omega) h.b1
 have le:=Mth.Je1 s2 (by omega)
 have dr:t.2.fdiv (Mth.g t.2 f) ∣ t.2:=⟨_,e1.symm⟩
 have cg:Int.gcd t.1 (t.2.fdiv (Mth.g t.2 f)) = 1:=Mth.Jbd (Mth.Jc6 (Mth.Jbd (Mth.Jd0 h.g1)) dr)
 have hcr:=h.cr
 have hab:=h.ab
 generalize t.2.fdiv (Mth.g t.2 f) = r at *
 generalize f.fdiv (Mth.g t.2 f) = f' at *
 generalize Mth.g t.2 f = s at *
 refine ⟨p1,Mth.Jfy (Mth.Jbd (Mth.JcT (Mth.Jbd cg) cq)),Int.dvd_trans dr h.dv, ?_, ?_⟩
 ·show t.1 * f' * n.2 = n.1 * (q * f) * r
  have : t.1 * f' * n.2 = (t.1 * n.2) * f':=by rw [Int.mul_assoc,Int.mul_comm f', ← Int.mul_assoc]
  rw [this,hcr, ← e1, ← e2]
  simp only [Int.mul_assoc,Int.mul_comm,Int.mul_left_comm]
 ·show (t.1 * f').natAbs ≤ n.1.natAbs * (q * f).natAbs
  rw [Int.natAbs_mul,Int.natAbs_mul, ← Nat.mul_assoc]
  exact Nat.mul_le_mul hab le
theorem LInv.all {n:Int × Int} {b:Int} (h:1 ≤ n.2) (hd:b.fmod n.2 = 0):LInv n b (n.1 * b.fdiv n.2,1):=by
 have dv:n.2 ∣ b:=by
  rw [Int.fmod_eq_emod_of_nonneg _ (by omega)] at hd
  exact Int.dvd_of_emod_eq_zero hd
 have e:=Mth.JaZ dv (by omega)
 have le:=Mth.Je1 dv h
 refine ⟨Int.le_refl _,by unfold Mth.g; simp,Int.one_dvd _, ?_, ?_⟩
 ·show n.1 * b.fdiv n.2 * n.2 = n.1 * b * 1
  rw [Int.mul_assoc,e,Int.mul_one]
 ·show (n.1 * b.fdiv n.2).natAbs ≤ _
  rw [Int.natAbs_mul]
  exact Nat.mul_le_mul_left _ le
theorem LInv.vl {n t:Int × Int} {q:Int} (h:LInv n q t) (hn:1 ≤ n.2):vl t = vl n * (q:Rat):=by
 have h1:=JcA hn
 have h2:=JcA h.b1
 have e:(t.1:Rat) * (n.2:Rat) = (n.1:Rat) * (q:Rat) * (t.2:Rat):=by exact_mod_cast h.cr
 unfold L2.vl
 generalize (t.1:Rat) = a at *
 generalize (t.2:Rat) = b at *
 generalize (n.1:Rat) = c at *
 generalize (n.2:Rat) = d at *
 generalize (q:Rat) = q at *
 grind
theorem LInv.fb {n t:Int × Int} {q:Int} {A B C:Nat} (h:LInv n q t) (hn:FB A B n) (hq:Mth.Sz C q):FB (A + C) B t:=by
 refine ⟨?_, ?_,h.b1,h.g1⟩
 ·refine Nat.lt_of_le_of_lt h.ab ?_
  have:=hn.s1.mul hq
  unfold Mth.Sz at this
  rw [Int.natAbs_mul] at this
  exact this
 ·refine Nat.lt_of_le_of_lt ?_ hn.s2
  have:=Int.natAbs_dvd_natAbs.mpr h.dv
  exact Nat.le_of_dvd (by have:=hn.b1; omega) this
def smF:List (Int × Int)→Rat
 | [] => 0
 | a :: r => vl a + smF r
theorem Jem (n:Int × Int):∀ a,smF (a ++ [n]) = smF a + vl n
 | [] => by simp only [List.nil_append,smF]; grind
 | m :: a => by
  rw [List.cons_append]
  simp only [smF,Jem n a]
  grind
theorem scaled {x y q:Rat} (h:0 < q):x * q ≤ y * q ↔ x ≤ y:=by
 constructor
 ·intro hh
  refine Rat.not_lt.mp fun z => ?_
  have:=Rat.mul_lt_mul_of_pos_right z h
  exact Rat.not_lt.mpr hh this
 ·intro hh
  exact Rat.mul_le_mul_of_nonneg_right hh (Rat.le_of_lt h)
end L2
namespace L2
open PySem PySem.Spec PyProof.Rows Ch
section
variable {X:Cx} {tg:Expr}
theorem JeK {iter elt tst:Expr} {scope:Scope} {pos:Pos} {own:List Str} {cs:List (Nat × Str)} {wi:TI} {g:TG} {te:TE} {tt:TT} (hc:X.calm = true) (hi:PI X tg iter wi)
  (hg:∀ fp s2 H2 C,PG (X.inc (own ++ cs.map (·.2)) scope (Jbj X.env.cells scope.names []) fp s2 H2 C) tg g) (ht:∀ fp s2 H2 C,PT (X.inc (own ++ cs.map (·.2)) scope (Jbj X.env.cells scope.names []) fp s2 H2 C) tst tt) (he:∀ fp s2 H2 C,PE (X.inc (own ++ cs.map (·.2)) scope (Jbj X.env.cells scope.names []) fp s2 H2 C) elt te)
  (hfree:∀ p ∈ scope.names,p.2 = .free→X.env.scope.names.lookup p.1 = some .cell) (hcell:∀ y ∈ scope.names,y.2 ≠ .cell) (hkind:scope.kind = .function) (hnames:∀ y ∈ scope.names,y.2 = .local→scope.names.lookup y.1 = some .local)
  (hcs:∀ p ∈ cs,X.N[p.1]? = some p.2∧X.env.scope.names.lookup p.2 = some .cell∧(relabel scope X.env).names.lookup p.2 = some .cell)
  (hs:∀ x,foldedSetIterable iter X.env x = pure x:=by intro _; rfl):PE X (.ListComp elt [⟨tg,iter,[tst],0⟩] scope pos) (Jhd own.length cs wi g tt te):=by
 intro pins s σ H Q I h
 have hfr:∀ p ∈ scope.names,p.2 = .free→∃ c,X.env.cells.lookup p.1 = some c:=fun p hp hk => I.ok.has p.1 (.inl (hfree p hp hk))
 have hcl:=Jcb (cells:=X.env.cells) scope.names [] (fun _ _ z => by simp at z) hfr
 rw [eval_ListComp]
 refine wpAny_comprehension_free (use:=none) rfl hs (JeW hfr) hkind hnames (thn (hi pins s σ H _ I h) fun v s1 h1 => thn h1 fun itv s2 h2 => ?_)
 obtain ⟨it,fp,tn,J,H2,rfl,I2,T,st2,f2,W,⟨m0,w0⟩,turn⟩:=h2
 refine Jc5 (QN:=fun ys H5 => ∀ p,H5 p = none→Q (.ref p) (upd H5 p (.lst ys))) (RR:=fun acc C => compPost (model X.prog X.w) X.A X.xe none (EP X pins σ Q) acc C) hc hg ht he hcell hkind hcl (fun z hz => Jca scope.names [] z (.inr (Je2 hcell hz))) hcs I2 T st2 f2 w0 turn ?_
 intro D' C s6 H5 ys inv dN cN dc hm hC q
 obtain ⟨m6,hn6⟩:=hm
 exact ⟨m6,hn6,fun h7 hs7 => ⟨.ref D',_,inv h7 hs7,rfl,q D' dN⟩⟩
end
def notStar:Expr→Bool
 | .Starred _ _ => false
 | _ => true
theorem Jaf {e:Expr} {es:List Expr} {env:Env} (h:notStar e = true):starEach (e :: es) env = (false,eval e env) :: starEach es env:=by
 cases e <;> first | rfl | (simp [notStar] at h)
theorem Jaa {X:Cx} {e:Expr} {es:List Expr} {te:TE} {t:TA} (ha:PE X e te) (hr:PA X es t) (hs:notStar e = true:=by rfl):PA X (e :: es) (tCons te t):=JgY ha hr (Jaf hs)
theorem Jb0 {X:Cx} {i:Int} {j pos} {es:List Expr} {t:TA} (hr:PA X es t):PA X (.Constant (.int i) j pos :: es) (tCons (tC (.int i)) t):=JgY Jac hr (by rfl)
section
variable {K:PySem.W.Frag} {H H':Hp} {x:V} {a c:Addr}
def Same2 (a c:Addr) (H H':Hp):Prop:=∀ b u,b ≠ a→b ≠ c→H b = some u→H' b = some u
theorem Same.two (S:Same H H'):Same2 a c H H':=fun b u _ _ h => S b u h
theorem Same2.trans {H'':Hp} (S:Same2 a c H H') (S':Same2 a c H' H''):Same2 a c H H'':=fun b u h1 h2 h => S' b u h1 h2 (S b u h1 h2 h)
def SNV (K:PySem.W.Frag) (a c:Addr) (H:Hp) (s:SpD × List Str) (x:V):Prop:=∃ b w l,x = .ref b∧SqT K H b [.str s.1.r,w, .ref l]∧FrV K H w s.1.p.1 s.1.p.2∧l ≠ a∧l ≠ c∧H l = some (.lst (s.2.map V.str))
theorem SNV.keep {s:SpD × List Str} (T:SameT H H') (S:Same2 a c H H'):SNV K a c H s x→SNV K a c H' s x:=fun ⟨b,w,l,h1,h2,h3,h4,h5,h6⟩ => ⟨b,w,l,h1,h2.sameT T,h3.sameT T,h4,h5,S _ _ h4 h5 h6⟩
theorem SNV.same {s:SpD × List Str} (S:Same H H'):SNV K a c H s x→SNV K a c H' s x:=SNV.keep S.t S.two
def RWV (K:PySem.W.Frag) (a c:Addr) (pl:Str→Int × Int) (H:Hp) (e:GD × List Str) (x:V):Prop:=∃ b w l,x = .ref b∧SqT K H b [w, .ref l]∧FrV K H w (roomF pl e.1).1 (roomF pl e.1).2∧l ≠ a∧l ≠ c∧H l = some (.lst (e.2.map V.str))
theorem RWV.keep {pl:Str→Int × Int} {e:GD × List Str} (T:SameT H H') (S:Same2 a c H H'):RWV K a c pl H e x→RWV K a c pl H' e x:=fun ⟨b,w,l,h1,h2,h3,h4,h5,h6⟩ => ⟨b,w,l,h1,h2.sameT T,h3.sameT T,h4,h5,S _ _ h4 h5 h6⟩
theorem RWV.same {pl:Str→Int × Int} {e:GD × List Str} (S:Same H H'):RWV K a c pl H e x→RWV K a c pl H' e x:=RWV.keep S.t S.two
def FLV (K:PySem.W.Frag) (H:Hp) (s:Int × Int) (x:V):Prop:=FrV K H x s.1 s.2
theorem FLV.sameT {s:Int × Int} (T:SameT H H') (h:FLV K H s x):FLV K H' s x:=FrV.sameT T h
def LFV (K:PySem.W.Frag) (H:Hp) (b:Int) (e:PD × (Int × Int)) (x:V):Prop:=∃ t,LInv e.2 b t∧FrV K H x t.1 t.2
theorem LFV.sameT {b:Int} {e:PD × (Int × Int)} (T:SameT H H'):LFV K H b e x→LFV K H' b e x:=fun ⟨t,h1,h2⟩ => ⟨t,h1,h2.sameT T⟩
end
theorem Jhj:∀ {ls:List PD} {ss:List (Int × Int)},ss.length = ls.length→(ls.zip ss).map (·.1.nm) = ls.map (·.nm)
 | [],ss,_ => by simp
 | p :: ls,[],h => by simp at h
 | p :: ls,s :: ss,h => by
  rw [List.zip_cons_cons,List.map_cons,List.map_cons,Jhj (by simpa using h)]
theorem JgZ:∀ {ls:List PD} {p q:PD},(ls.map (·.nm)).Nodup→p ∈ ls→q ∈ ls→p.nm = q.nm→p = q
 | [],_,_,_,hp,_,_ => by cases hp
 | a :: ls,p,q,hn,hp,hq,e => by
  rw [List.map_cons,List.nodup_cons] at hn
  rcases List.mem_cons.mp hp with h1 | h1 <;> rcases List.mem_cons.mp hq with h2 | h2
  ·rw [h1,h2]
  ·subst h1
   exact absurd (e ▸ List.mem_map.mpr ⟨q,h2,rfl⟩) hn.1
  ·subst h2
   exact absurd (e ▸ List.mem_map.mpr ⟨p,h1,rfl⟩) hn.1
  ·exact JgZ hn.2 h1 h2 e
structure ISC (ls:List PD) (es:List (GD × List Str)) (pl:Str→Int × Int):Prop where
 l7:ls.length ≤ 7
 l6:es.length ≤ 6
 nd:(ls.map (·.nm)).Nodup
 gn:∀ e ∈ es, ∀ u ∈ es.map (·.1),u.nm = e.1.nm→u = e.1
 pok:∀ p ∈ ls,POk p
 pb:∀ p ∈ ls,FB 133 4 p.sz∧FB 100 6 p.mo
 tok:∀ e ∈ es,TOk e.1.td
 gb:∀ e ∈ es,(1 ≤ e.1.lo.2∧Mth.Sz 64 e.1.lo.2)∧1 ≤ e.1.hi.2∧Mth.Sz 64 e.1.hi.2
 rb:∀ e ∈ es,FB 101 3 (roomF pl e.1)
 plb:∀ f,FB 302 161 (pl f)
 pls:∀ p ∈ ls,vl (pl p.en) = vl (pl p.st) + vl p.sz
 way:∀ e ∈ es, ∀ w:List Pr,Jbc ls e.1.st w e.1.en→(w.map (·.1)).Nodup→e.2.Perm (w.map (·.1))
theorem Jjm {n:Nat} (h:n < 12):∃ bt:Int,[V.int 1, .int 2, .int 3, .int 4, .int 5, .int 6, .int 10, .int 12, .int 15, .int 20, .int 30, .int 60][n]? = some (.int bt)∧1 ≤ bt∧bt ≤ 60:=by
 match n,h with
 | 0,_ | 1,_ | 2,_ | 3,_ | 4,_ | 5,_ | 6,_ | 7,_ | 8,_ | 9,_ | 10,_ | 11,_ => exact ⟨_,rfl,by decide,by decide⟩
 | n + 12,h => omega
theorem pick3 {n:Nat} (h:n < 3):∃ om:Int,[V.int 13, .int 13, .int 1000000000000000000000000000000][n]? = some (.int om)∧1 ≤ om∧om ≤ 1000000000000000000000000000000:=by
 match n,h with
 | 0,_ | 1,_ | 2,_ => exact ⟨_,rfl,by decide,by decide⟩
 | n + 3,h => omega
theorem Jjn {n:Nat} (h:n < 3):∃ om:Int,[V.int 23, .int 23, .int 1000000000000000000000000000000][n]? = some (.int om)∧1 ≤ om∧om ≤ 1000000000000000000000000000000:=by
 match n,h with
 | 0,_ | 1,_ | 2,_ => exact ⟨_,rfl,by decide,by decide⟩
 | n + 3,h => omega
theorem JeI {X:Cx} {K:PySem.W.Frag} (hK:X.K = K):OpR X (compareOp .NotIn) (rIn K true):=hK ▸ JgX
structure GOK (ls:List PD) (xs:List (SpD × List Str)) (e:GD × List Str):Prop where
 tok:TOk e.1.td
 con:Conn ls e.1.st e.1.en
 nm:NmOk xs e
 rb:FB 101 3 (roomF (spOf (xs.map (·.1))) e.1)
 gb:(1 ≤ e.1.lo.2∧Mth.Sz 64 e.1.lo.2)∧1 ≤ e.1.hi.2∧Mth.Sz 64 e.1.hi.2
 f1:e.1.st ∈ (xs.map (·.1)).map (·.f)
 f2:e.1.en ∈ (xs.map (·.1)).map (·.f)
 sub:∀ n ∈ e.2,n ∈ ls.map (·.nm)
end L2
open PySem L2
local macro_rules | `(tactic| infer_instance) => `(tactic| simp only [y80y,y4cy,y4dy,y4ey,y6fy,y2ay,y6ay,y7dy,y7ey,y44y,y2dy,y76y,y8cy,y2fy,y39y,y70y,y2ey,y85y,y23y,y28y,y77y,y72y,y29y,y78y,y74y,y58y,y8ey,y26y,y84y,y6ey,y67y,y49y,y66y,y7by,y32y,y47y,y6cy,y48y,y6dy,y46y,y6by,y87y,y62y,y5ey,y89y,y8by,y88y,y8ay,y25y,y65y,y24y,true_and,if_true,if_false,Bool.not_true,Bool.not_false,Bool.false_eq_true,yby,ydy,yay,ycy,yey,y15y,y17y,y14y,y16y,y18y,y6y,y8y,y5y,y7y,y9y,y1y,y3y,y0y,y2y,y4y,y10y,y12y,yfy,y11y,y13y,y1ay,y1cy,y19y,y1by,y1dy,y1fy,y21y,y1ey,y20y,y22y,y82y,y7ay,y71y,y30y,y31y,y52y,y60y,y61y,y4by,y83y,y86y,y8fy,y7cy,y27y,V.int.injEq,V.str.injEq,List.set_cons_zero,List.set_cons_succ,List.getElem?_cons_zero,List.getElem?_cons_succ,Option.some.injEq,exists_eq_left,exists_eq_left',V.bl.injEq,Int.reduceToNat,Int.reducePow,List.append_nil,List.nil_append,List.cons_append,y54y,y56y,y2by,y2cy,y68y,y5dy,y73y,y63y,y64y,y3ay,y3by,y3cy,y43y,y45y,y3ey,y79y,y40y,y3fy,y33y,y35y,y37y,y3dy,y41y,y4fy,y51y,y59y,reduceCtorEq,decide_false,decide_true])
local macro_rules | `(tactic| contradiction) => `(tactic| simp only [y80y,y4cy,y4dy,y4ey,y6fy,y2ay,y6ay,y7dy,y7ey,y44y,y2dy,y76y,y8cy,y2fy,y39y,y70y,y2ey,y85y,y23y,y28y,y77y,y72y,y29y,y78y,y74y,y58y,y8ey,y26y,y84y,y6ey,y67y,y49y,y66y,y7by,y32y,y47y,y6cy,y48y,y6dy,y46y,y6by,y87y,y62y,y5ey,y89y,y8by,y88y,y8ay,y25y,y65y,y24y,true_and,if_true,if_false,Bool.not_true,Bool.not_false,Bool.false_eq_true,yby,ydy,yay,ycy,yey,y15y,y17y,y14y,y16y,y18y,y6y,y8y,y5y,y7y,y9y,y1y,y3y,y0y,y2y,y4y,y10y,y12y,yfy,y11y,y13y,y1ay,y1cy,y19y,y1by,y1dy,y1fy,y21y,y1ey,y20y,y22y,y82y,y7ay,y71y,y30y,y31y,y52y,y60y,y61y,y4by,y83y,y86y,y8fy,y7cy,y27y,V.int.injEq,V.str.injEq,List.set_cons_zero,List.set_cons_succ,List.getElem?_cons_zero,List.getElem?_cons_succ,Option.some.injEq,exists_eq_left,exists_eq_left',V.bl.injEq,Int.reduceToNat,Int.reducePow,List.append_nil,List.nil_append,List.cons_append,y54y,y56y,y2by,y2cy,y68y,y5dy,y73y,y63y,y64y,y3ay,y3by,y3cy,y43y,y45y,y3ey,y79y,y40y,y3fy,y33y,y35y,y37y,y3dy,y41y,y4fy,y51y,y59y,reduceCtorEq,decide_false,decide_true,y4ay])
local macro_rules | `(tactic| ac_rfl) => `(tactic| simp only [y80y,y4cy,y4dy,y4ey,y6fy,y2ay,y6ay,y7dy,y7ey,y44y,y2dy,y76y,y8cy,y2fy,y39y,y70y,y2ey,y85y,y23y,y28y,y77y,y72y,y29y,y78y,y74y,y58y,y8ey,y26y,y84y,y6ey,y67y,y49y,y66y,y7by,y32y,y47y,y6cy,y48y,y6dy,y46y,y6by,y87y,y62y,y5ey,y89y,y8by,y88y,y8ay,y25y,y65y,y24y,true_and,if_true,if_false,Bool.not_true,Bool.not_false,Bool.false_eq_true,yby,ydy,yay,ycy,yey,y15y,y17y,y14y,y16y,y18y,y6y,y8y,y5y,y7y,y9y,y1y,y3y,y0y,y2y,y4y,y10y,y12y,yfy,y11y,y13y,y1ay,y1cy,y19y,y1by,y1dy,y1fy,y21y,y1ey,y20y,y22y,y82y,y7ay,y71y,y30y,y31y,y52y,y60y,y61y,y4by,y83y,y86y,y8fy,y7cy,y27y,V.int.injEq,V.str.injEq,List.set_cons_zero,List.set_cons_succ,List.getElem?_cons_zero,List.getElem?_cons_succ,Option.some.injEq,exists_eq_left,exists_eq_left',V.bl.injEq,Int.reduceToNat,Int.reducePow,List.append_nil,List.nil_append,List.cons_append,y54y,y56y,y2by,y2cy,y68y,y5dy,y73y,y63y,y64y,y3ay,y3by,y3cy,y43y,y45y,y3ey,y79y,y40y,y3fy,y33y,y35y,y37y,y3dy,y41y,y4fy,y51y,y59y,reduceCtorEq,decide_false,decide_true,y81y])
local macro_rules | `(tactic| symm_saturate) => `(tactic| ((try simp only [y4cy,y4dy,y4ey,y6fy,y2ay,y6ay,y7dy,y7ey,y44y,y2dy,y76y,y8cy,y2fy,y39y,y70y,y2ey,y85y,y23y,y28y,y77y,y72y,y29y,y78y,y74y,y58y,y8ey,y26y,y84y,y6ey,y67y,y49y,y66y,y7by,y32y,y47y,y6cy,y48y,y6dy,y46y,y6by,y87y,y62y,y5ey,y89y,y8by,y88y,y8ay,y25y,y65y,y24y,true_and,if_true,if_false,Bool.not_true,Bool.not_false,Bool.false_eq_true,yby,ydy,yay,ycy,yey,y15y,y17y,y14y,y16y,y18y,y6y,y8y,y5y,y7y,y9y,y1y,y3y,y0y,y2y,y4y,y10y,y12y,yfy,y11y,y13y,y1ay,y1cy,y19y,y1by,y1dy,y1fy,y21y,y1ey,y20y,y22y,y82y,y7ay,y71y,y30y,y31y,y52y,y60y,y61y,y4by,y83y,y86y,y8fy,y7cy,y27y,V.int.injEq,V.str.injEq,List.set_cons_zero,List.set_cons_succ,List.getElem?_cons_zero,List.getElem?_cons_succ,Option.some.injEq,exists_eq_left,exists_eq_left',V.bl.injEq,Int.reduceToNat,Int.reducePow,List.append_nil,List.nil_append,List.cons_append,y54y,y56y,y2by,y2cy,y68y,y5dy,y73y,y63y,y64y,y3ay,y3by,y3cy,y43y,y45y,y3ey,y79y,y40y,y3fy,y33y,y35y,y37y,y3dy,y41y,y4fy,y51y,y59y,reduceCtorEq,decide_false,decide_true,y4ay,y81y]); repeat (rw [y80y]; (try simp only [y4cy,y4dy,y4ey,y6fy,y2ay,y6ay,y7dy,y7ey,y44y,y2dy,y76y,y8cy,y2fy,y39y,y70y,y2ey,y85y,y23y,y28y,y77y,y72y,y29y,y78y,y74y,y58y,y8ey,y26y,y84y,y6ey,y67y,y49y,y66y,y7by,y32y,y47y,y6cy,y48y,y6dy,y46y,y6by,y87y,y62y,y5ey,y89y,y8by,y88y,y8ay,y25y,y65y,y24y,true_and,if_true,if_false,Bool.not_true,Bool.not_false,Bool.false_eq_true,yby,ydy,yay,ycy,yey,y15y,y17y,y14y,y16y,y18y,y6y,y8y,y5y,y7y,y9y,y1y,y3y,y0y,y2y,y4y,y10y,y12y,yfy,y11y,y13y,y1ay,y1cy,y19y,y1by,y1dy,y1fy,y21y,y1ey,y20y,y22y,y82y,y7ay,y71y,y30y,y31y,y52y,y60y,y61y,y4by,y83y,y86y,y8fy,y7cy,y27y,V.int.injEq,V.str.injEq,List.set_cons_zero,List.set_cons_succ,List.getElem?_cons_zero,List.getElem?_cons_succ,Option.some.injEq,exists_eq_left,exists_eq_left',V.bl.injEq,Int.reduceToNat,Int.reducePow,List.append_nil,List.nil_append,List.cons_append,y54y,y56y,y2by,y2cy,y68y,y5dy,y73y,y63y,y64y,y3ay,y3by,y3cy,y43y,y45y,y3ey,y79y,y40y,y3fy,y33y,y35y,y37y,y3dy,y41y,y4fy,y51y,y59y,reduceCtorEq,decide_false,decide_true,y4ay,y81y]))))
local macro_rules | `(tactic| exfalso) => `(tactic| ((try simp only [y4cy,y4dy,y4ey,y6fy,y2ay,y6ay,y7dy,y7ey,y44y,y2dy,y76y,y8cy,y2fy,y39y,y70y,y2ey,y85y,y23y,y28y,y77y,y72y,y29y,y78y,y74y,y58y,y8ey,y26y,y84y,y6ey,y67y,y49y,y66y,y7by,y32y,y47y,y6cy,y48y,y6dy,y46y,y6by,y87y,y62y,y5ey,y89y,y8by,y88y,y8ay,y25y,y65y,y24y,true_and,if_true,if_false,Bool.not_true,Bool.not_false,Bool.false_eq_true,yby,ydy,yay,ycy,yey,y15y,y17y,y14y,y16y,y18y,y6y,y8y,y5y,y7y,y9y,y1y,y3y,y0y,y2y,y4y,y10y,y12y,yfy,y11y,y13y,y1ay,y1cy,y19y,y1by,y1dy,y1fy,y21y,y1ey,y20y,y22y,y82y,y7ay,y71y,y30y,y31y,y52y,y60y,y61y,y4by,y83y,y86y,y8fy,y7cy,y27y,V.int.injEq,V.str.injEq,List.set_cons_zero,List.set_cons_succ,List.getElem?_cons_zero,List.getElem?_cons_succ,Option.some.injEq,exists_eq_left,exists_eq_left',V.bl.injEq,Int.reduceToNat,Int.reducePow,List.append_nil,List.nil_append,List.cons_append,y54y,y56y,y2by,y2cy,y68y,y5dy,y73y,y63y,y64y,y3ay,y3by,y3cy,y43y,y45y,y3ey,y79y,y40y,y3fy,y33y,y35y,y37y,y3dy,y41y,y4fy,y51y,y59y,reduceCtorEq,decide_false,decide_true,y81y]); repeat (rw [y80y]; (try simp only [y4cy,y4dy,y4ey,y6fy,y2ay,y6ay,y7dy,y7ey,y44y,y2dy,y76y,y8cy,y2fy,y39y,y70y,y2ey,y85y,y23y,y28y,y77y,y72y,y29y,y78y,y74y,y58y,y8ey,y26y,y84y,y6ey,y67y,y49y,y66y,y7by,y32y,y47y,y6cy,y48y,y6dy,y46y,y6by,y87y,y62y,y5ey,y89y,y8by,y88y,y8ay,y25y,y65y,y24y,true_and,if_true,if_false,Bool.not_true,Bool.not_false,Bool.false_eq_true,yby,ydy,yay,ycy,yey,y15y,y17y,y14y,y16y,y18y,y6y,y8y,y5y,y7y,y9y,y1y,y3y,y0y,y2y,y4y,y10y,y12y,yfy,y11y,y13y,y1ay,y1cy,y19y,y1by,y1dy,y1fy,y21y,y1ey,y20y,y22y,y82y,y7ay,y71y,y30y,y31y,y52y,y60y,y61y,y4by,y83y,y86y,y8fy,y7cy,y27y,V.int.injEq,V.str.injEq,List.set_cons_zero,List.set_cons_succ,List.getElem?_cons_zero,List.getElem?_cons_succ,Option.some.injEq,exists_eq_left,exists_eq_left',V.bl.injEq,Int.reduceToNat,Int.reducePow,List.append_nil,List.nil_append,List.cons_append,y54y,y56y,y2by,y2cy,y68y,y5dy,y73y,y63y,y64y,y3ay,y3by,y3cy,y43y,y45y,y3ey,y79y,y40y,y3fy,y33y,y35y,y37y,y3dy,y41y,y4fy,y51y,y59y,reduceCtorEq,decide_false,decide_true,y81y]))))
local macro_rules | `(tactic| and_intros) => `(tactic| ((try simp only [y4cy,y4dy,y4ey,y6fy,y2ay,y6ay,y7dy,y7ey,y44y,y2dy,y76y,y8cy,y2fy,y39y,y70y,y2ey,y85y,y23y,y28y,y77y,y72y,y29y,y78y,y74y,y58y,y8ey,y26y,y84y,y6ey,y67y,y49y,y66y,y7by,y32y,y47y,y6cy,y48y,y6dy,y46y,y6by,y87y,y62y,y5ey,y89y,y8by,y88y,y8ay,y25y,y65y,y24y,true_and,if_true,if_false,Bool.not_true,Bool.not_false,Bool.false_eq_true,yby,ydy,yay,ycy,yey,y15y,y17y,y14y,y16y,y18y,y6y,y8y,y5y,y7y,y9y,y1y,y3y,y0y,y2y,y4y,y10y,y12y,yfy,y11y,y13y,y1ay,y1cy,y19y,y1by,y1dy,y1fy,y21y,y1ey,y20y,y22y,y82y,y7ay,y71y,y30y,y31y,y52y,y60y,y61y,y4by,y83y,y86y,y8fy,y7cy,y27y,V.int.injEq,V.str.injEq,List.set_cons_zero,List.set_cons_succ,List.getElem?_cons_zero,List.getElem?_cons_succ,Option.some.injEq,exists_eq_left,exists_eq_left',V.bl.injEq,Int.reduceToNat,Int.reducePow,List.append_nil,List.nil_append,List.cons_append,y54y,y56y,y2by,y2cy,y68y,y5dy,y73y,y63y,y64y,y3ay,y3by,y3cy,y43y,y45y,y3ey,y79y,y40y,y3fy,y33y,y35y,y37y,y3dy,y41y,y4fy,y51y,y59y,reduceCtorEq,decide_false,decide_true,y4ay]); repeat (rw [y80y]; (try simp only [y4cy,y4dy,y4ey,y6fy,y2ay,y6ay,y7dy,y7ey,y44y,y2dy,y76y,y8cy,y2fy,y39y,y70y,y2ey,y85y,y23y,y28y,y77y,y72y,y29y,y78y,y74y,y58y,y8ey,y26y,y84y,y6ey,y67y,y49y,y66y,y7by,y32y,y47y,y6cy,y48y,y6dy,y46y,y6by,y87y,y62y,y5ey,y89y,y8by,y88y,y8ay,y25y,y65y,y24y,true_and,if_true,if_false,Bool.not_true,Bool.not_false,Bool.false_eq_true,yby,ydy,yay,ycy,yey,y15y,y17y,y14y,y16y,y18y,y6y,y8y,y5y,y7y,y9y,y1y,y3y,y0y,y2y,y4y,y10y,y12y,yfy,y11y,y13y,y1ay,y1cy,y19y,y1by,y1dy,y1fy,y21y,y1ey,y20y,y22y,y82y,y7ay,y71y,y30y,y31y,y52y,y60y,y61y,y4by,y83y,y86y,y8fy,y7cy,y27y,V.int.injEq,V.str.injEq,List.set_cons_zero,List.set_cons_succ,List.getElem?_cons_zero,List.getElem?_cons_succ,Option.some.injEq,exists_eq_left,exists_eq_left',V.bl.injEq,Int.reduceToNat,Int.reducePow,List.append_nil,List.nil_append,List.cons_append,y54y,y56y,y2by,y2cy,y68y,y5dy,y73y,y63y,y64y,y3ay,y3by,y3cy,y43y,y45y,y3ey,y79y,y40y,y3fy,y33y,y35y,y37y,y3dy,y41y,y4fy,y51y,y59y,reduceCtorEq,decide_false,decide_true,y4ay]))))
local macro_rules | `(tactic| nofun) => `(tactic| ((try simp only [y4cy,y4dy,y4ey,y6fy,y2ay,y6ay,y7dy,y7ey,y44y,y2dy,y76y,y8cy,y2fy,y39y,y70y,y2ey,y85y,y23y,y28y,y77y,y72y,y29y,y78y,y74y,y58y,y8ey,y26y,y84y,y6ey,y67y,y49y,y66y,y7by,y32y,y47y,y6cy,y48y,y6dy,y46y,y6by,y87y,y62y,y5ey,y89y,y8by,y88y,y8ay,y25y,y65y,y24y,true_and,if_true,if_false,Bool.not_true,Bool.not_false,Bool.false_eq_true,yby,ydy,yay,ycy,yey,y15y,y17y,y14y,y16y,y18y,y6y,y8y,y5y,y7y,y9y,y1y,y3y,y0y,y2y,y4y,y10y,y12y,yfy,y11y,y13y,y1ay,y1cy,y19y,y1by,y1dy,y1fy,y21y,y1ey,y20y,y22y,y82y,y7ay,y71y,y30y,y31y,y52y,y60y,y61y,y4by,y83y,y86y,y8fy,y7cy,y27y,V.int.injEq,V.str.injEq,List.set_cons_zero,List.set_cons_succ,List.getElem?_cons_zero,List.getElem?_cons_succ,Option.some.injEq,exists_eq_left,exists_eq_left',V.bl.injEq,Int.reduceToNat,Int.reducePow,List.append_nil,List.nil_append,List.cons_append,y54y,y56y,y2by,y2cy,y68y,y5dy,y73y,y63y,y64y,y3ay,y3by,y3cy,y43y,y45y,y3ey,y79y,y40y,y3fy,y33y,y35y,y37y,y3dy,y41y,y4fy,y51y,y59y,reduceCtorEq,decide_false,decide_true]); repeat (rw [y80y]; (try simp only [y4cy,y4dy,y4ey,y6fy,y2ay,y6ay,y7dy,y7ey,y44y,y2dy,y76y,y8cy,y2fy,y39y,y70y,y2ey,y85y,y23y,y28y,y77y,y72y,y29y,y78y,y74y,y58y,y8ey,y26y,y84y,y6ey,y67y,y49y,y66y,y7by,y32y,y47y,y6cy,y48y,y6dy,y46y,y6by,y87y,y62y,y5ey,y89y,y8by,y88y,y8ay,y25y,y65y,y24y,true_and,if_true,if_false,Bool.not_true,Bool.not_false,Bool.false_eq_true,yby,ydy,yay,ycy,yey,y15y,y17y,y14y,y16y,y18y,y6y,y8y,y5y,y7y,y9y,y1y,y3y,y0y,y2y,y4y,y10y,y12y,yfy,y11y,y13y,y1ay,y1cy,y19y,y1by,y1dy,y1fy,y21y,y1ey,y20y,y22y,y82y,y7ay,y71y,y30y,y31y,y52y,y60y,y61y,y4by,y83y,y86y,y8fy,y7cy,y27y,V.int.injEq,V.str.injEq,List.set_cons_zero,List.set_cons_succ,List.getElem?_cons_zero,List.getElem?_cons_succ,Option.some.injEq,exists_eq_left,exists_eq_left',V.bl.injEq,Int.reduceToNat,Int.reducePow,List.append_nil,List.nil_append,List.cons_append,y54y,y56y,y2by,y2cy,y68y,y5dy,y73y,y63y,y64y,y3ay,y3by,y3cy,y43y,y45y,y3ey,y79y,y40y,y3fy,y33y,y35y,y37y,y3dy,y41y,y4fy,y51y,y59y,reduceCtorEq,decide_false,decide_true]))))
local macro_rules | `(tactic| simpa only [$xs,*]) => `(tactic| simp only [y80y,y4cy,y4dy,y4ey,y6fy,y2ay,y6ay,y7dy,y7ey,y44y,y2dy,y76y,y8cy,y2fy,y39y,y70y,y2ey,y85y,y23y,y28y,y77y,y72y,y29y,y78y,y74y,y58y,y8ey,y26y,y84y,y6ey,y67y,y49y,y66y,y7by,y32y,y47y,y6cy,y48y,y6dy,y46y,y6by,y87y,y62y,y5ey,y89y,y8by,y88y,y8ay,y25y,y65y,y24y,true_and,if_true,if_false,Bool.not_true,Bool.not_false,Bool.false_eq_true,yby,ydy,yay,ycy,yey,y15y,y17y,y14y,y16y,y18y,y6y,y8y,y5y,y7y,y9y,y1y,y3y,y0y,y2y,y4y,y10y,y12y,yfy,y11y,y13y,y1ay,y1cy,y19y,y1by,y1dy,y1fy,y21y,y1ey,y20y,y22y,y82y,y7ay,y71y,y30y,y31y,y52y,y60y,y61y,y4by,y83y,y86y,y8fy,y7cy,y27y,V.int.injEq,V.str.injEq,List.set_cons_zero,List.set_cons_succ,List.getElem?_cons_zero,List.getElem?_cons_succ,Option.some.injEq,exists_eq_left,exists_eq_left',V.bl.injEq,Int.reduceToNat,Int.reducePow,List.append_nil,List.nil_append,List.cons_append,y54y,y56y,y2by,y2cy,y68y,y5dy,y73y,y63y,y64y,y3ay,y3by,y3cy,y43y,y45y,y3ey,y79y,y40y,y3fy,y33y,y35y,y37y,y3dy,y41y,y4fy,y51y,y59y,reduceCtorEq,decide_false,decide_true, $xs,*])
namespace Prg
open PySem L2 Ch
def top (i:Nat):Stmt:=PySem.Challenge.pw_slackchain_k51_what_is_a_sharing.main.body.getD i (.Pass ⟨0,0,0,0⟩)
structure Adr where
 Twice:Addr
 NoName:Addr
 NoPart:Addr
 NoGap:Addr
 InRing:Addr
 Apart:Addr
 Part:Addr
 Gap:Addr
 Joints:Addr
 Thing:Addr
 Scale:Addr
 SMALL_LETTERS:Value
 LONGEST_NAME:Value
 ZERO:Addr
structure PartC (K:PySem.W.Frag) (C:Addr):Prop where
 cls:Cls K C
 n1:JaW K C "name"
 n2:JaW K C "start"
 n3:JaW K C "end"
 n4:JaW K C "size"
 n5:JaW K C "most"
 n6:JaW K C "weight"
def IsPart (Ad:Adr) (C:Addr):Prop:=C = Ad.Part
structure GapC (K:PySem.W.Frag) (C:Addr):Prop where
 cls:Cls K C
 n1:JaW K C "name"
 n2:JaW K C "one"
 n3:JaW K C "other"
 n4:JaW K C "low"
 n5:JaW K C "high"
def IsGap (Ad:Adr) (C:Addr):Prop:=C = Ad.Gap
structure Jh6 (K:PySem.W.Frag) (C:Addr):Prop where
 cls:Cls K C
 n1:JaW K C "leads"
def Jcq (Ad:Adr) (C:Addr):Prop:=C = Ad.Joints
structure JiQ (K:PySem.W.Frag) (C:Addr):Prop where
 cls:Cls K C
 n1:JaW K C "parts_by_name"
 n2:JaW K C "gaps_by_name"
 n3:JaW K C "ways"
def Ja3 (Ad:Adr) (C:Addr):Prop:=C = Ad.Thing
structure JiP (K:PySem.W.Frag) (C:Addr):Prop where
 cls:Cls K C
 n1:JaW K C "bottom"
 n2:JaW K C "factors"
def JeU (Ad:Adr) (C:Addr):Prop:=C = Ad.Scale
theorem SqT.put {K:PySem.W.Frag} {H:Hp} {x a C dx:Addr} {fs fs':List (Str × V)} {xs:List V} (hx:H x = some (.ins C dx fs)) (h:SqT K H a xs):SqT K (upd H x (.ins C dx fs')) a xs:=by
 rcases h with (h | ⟨o,h⟩) | h
 ·exact .inl (.inl (by rw [Jah (ne_of h hx (by intro z; cases z))]; exact h))
 ·exact .inl (.inr ⟨o,by rw [Jah (ne_of h hx (by intro z; cases z))]; exact h⟩)
 ·exact .inr h
def partF (n s e z m w:V):List (Str × V):=[("name",n),("start",s),("end",e),("size",z),("most",m),("weight",w)]
def gapF (n s e l g:V):List (Str × V):=[("name",n),("one",s),("other",e),("low",l),("high",g)]
structure Txt (K:PySem.W.Frag) (mg:Str→Option Value) (Ad:Adr):Prop where
 Bdr:mg "abs" = none
 Baq:mg "isinstance" = none
 Ba6:mg "len" = none
 BdA:mg "int" = none
 Bdy:mg "bool" = none
 BcY:mg "tuple" = none
 BdJ:mg "str" = none
 Bbo:mg "range" = none
 Bdz:mg "list" = none
 BdK:mg "min" = none
 Bda:mg "sorted" = none
 BdL:mg "all" = none
 BdM:mg "zip" = none
 Bdg:mg "Twice" = some (.ref Ad.Twice)
 Bds:mg "NoName" = some (.ref Ad.NoName)
 Bdt:mg "NoPart" = some (.ref Ad.NoPart)
 BdB:mg "NoGap" = some (.ref Ad.NoGap)
 Bdu:mg "InRing" = some (.ref Ad.InRing)
 BdC:mg "Apart" = some (.ref Ad.Apart)
 BdP:mg "Part" = some (.ref Ad.Part)
 BdQ:mg "Gap" = some (.ref Ad.Gap)
 BdH:mg "Joints" = some (.ref Ad.Joints)
 BdN:mg "Thing" = some (.ref Ad.Thing)
 BdO:mg "Scale" = some (.ref Ad.Scale)
 Bce:mg "SMALL_LETTERS" = some Ad.SMALL_LETTERS
 Bcf:RelV (.str "abcdefghijklmnopqrstuvwxyz") Ad.SMALL_LETTERS
 Bcz:mg "LONGEST_NAME" = some Ad.LONGEST_NAME
 BcA:RelV (.int 8) Ad.LONGEST_NAME
 Bdb:mg "ZERO" = some (.ref Ad.ZERO)
 Bdc:RelV (.ref Ad.ZERO) (.ref Ad.ZERO)
 Bdd:∀ H:Hp,SqT K H Ad.ZERO [.int 0, .int 1]
 Bb7:PySem.W.excIn K Ad.Twice [.type "ValueError", .type "Exception", .type "BaseException", .type "object"] "ValueError.__new__" = true
 BbR:PySem.W.excIn K Ad.NoName [.type "ValueError", .type "Exception", .type "BaseException", .type "object"] "ValueError.__new__" = true
 BbS:PySem.W.excIn K Ad.NoPart [.type "ValueError", .type "Exception", .type "BaseException", .type "object"] "ValueError.__new__" = true
 Bcg:PySem.W.excIn K Ad.NoGap [.type "ValueError", .type "Exception", .type "BaseException", .type "object"] "ValueError.__new__" = true
 BbT:PySem.W.excIn K Ad.InRing [.type "ValueError", .type "Exception", .type "BaseException", .type "object"] "ValueError.__new__" = true
 Bch:PySem.W.excIn K Ad.Apart [.type "ValueError", .type "Exception", .type "BaseException", .type "object"] "ValueError.__new__" = true
 BbU:PySem.W.plainGet K Ad.Part Str.empty = true
 BbV:PySem.W.hasDictIn K Ad.Part = true
 BbW:PySem.W.plainOver K Ad.Part = true
 BbX:PySem.W.findIn K (.ref Ad.Part) "__setattr__" = some (some (.builtin "object.__setattr__"))
 BbY:PySem.W.findIn K (.ref Ad.Part) "name" = some none
 BbZ:PySem.W.findIn K (.ref Ad.Part) "start" = some none
 Bb0:PySem.W.findIn K (.ref Ad.Part) "end" = some none
 Bb1:PySem.W.findIn K (.ref Ad.Part) "size" = some none
 Bb2:PySem.W.findIn K (.ref Ad.Part) "most" = some none
 Bb3:PySem.W.findIn K (.ref Ad.Part) "weight" = some none
 Bci:PySem.W.plainGet K Ad.Gap Str.empty = true
 Bcj:PySem.W.hasDictIn K Ad.Gap = true
 Bck:PySem.W.plainOver K Ad.Gap = true
 Bcl:PySem.W.findIn K (.ref Ad.Gap) "__setattr__" = some (some (.builtin "object.__setattr__"))
 Bcm:PySem.W.findIn K (.ref Ad.Gap) "name" = some none
 Bcn:PySem.W.findIn K (.ref Ad.Gap) "one" = some none
 Bco:PySem.W.findIn K (.ref Ad.Gap) "other" = some none
 Bcp:PySem.W.findIn K (.ref Ad.Gap) "low" = some none
 Bcq:PySem.W.findIn K (.ref Ad.Gap) "high" = some none
 Ba7:PySem.W.plainGet K Ad.Joints Str.empty = true
 Ba8:PySem.W.hasDictIn K Ad.Joints = true
 Ba9:PySem.W.plainOver K Ad.Joints = true
 Bba:PySem.W.findIn K (.ref Ad.Joints) "__setattr__" = some (some (.builtin "object.__setattr__"))
 Bbb:PySem.W.findIn K (.ref Ad.Joints) "leads" = some none
 Bbp:PySem.W.plainGet K Ad.Thing Str.empty = true
 Bbq:PySem.W.hasDictIn K Ad.Thing = true
 Bbr:PySem.W.plainOver K Ad.Thing = true
 Bbs:PySem.W.findIn K (.ref Ad.Thing) "__setattr__" = some (some (.builtin "object.__setattr__"))
 Bbt:PySem.W.findIn K (.ref Ad.Thing) "parts_by_name" = some none
 Bbu:PySem.W.findIn K (.ref Ad.Thing) "gaps_by_name" = some none
 Bbv:PySem.W.findIn K (.ref Ad.Thing) "ways" = some none
 Bbw:PySem.W.plainGet K Ad.Scale Str.empty = true
 Bbx:PySem.W.hasDictIn K Ad.Scale = true
 Bby:PySem.W.plainOver K Ad.Scale = true
 Bbz:PySem.W.findIn K (.ref Ad.Scale) "__setattr__" = some (some (.builtin "object.__setattr__"))
 BbA:PySem.W.findIn K (.ref Ad.Scale) "bottom" = some none
 BbB:PySem.W.findIn K (.ref Ad.Scale) "factors" = some none
 BcB:∀ C,IsPart Ad C→PartC K C
 Bdh:∀ C,IsGap Ad C→GapC K C
 Bb4:∀ C,Jcq Ad C→Jh6 K C
 BaV:∀ C,Ja3 Ad C→JiQ K C
 BcZ:∀ C,JeU Ad C→JiP K C
def PEV (K:PySem.W.Frag) (H:Hp) (e:PD ⊕ D) (x:V):Prop:=match e with
 | .inl p => PDV K H p x∧POk p
 | .inr c => Rep K H c x∧szD c∧partB c = false
def GEV (K:PySem.W.Frag) (H:Hp) (e:GD ⊕ D) (x:V):Prop:=match e with
 | .inl g => TV K H g.td x∧TOk g.td
 | .inr c => Rep K H c x∧szD c∧gapB c = false
def POV (K:PySem.W.Frag) (Ad:Adr) (H:Hp) (p:PD) (v:V):Prop:=∃ q dx vz vm,v = .ref q∧H q = some (.ins Ad.Part dx (partF (.str p.nm) (.str p.st) (.str p.en) vz vm (.int p.wt)))∧FrV K H vz p.sz.1 p.sz.2∧FrV K H vm p.mo.1 p.mo.2
def GOV (K:PySem.W.Frag) (Ad:Adr) (H:Hp) (g:GD) (v:V):Prop:=∃ q dx vl vg,v = .ref q∧H q = some (.ins Ad.Gap dx (gapF (.str g.nm) (.str g.st) (.str g.en) vl vg))∧FrV K H vl g.lo.1 g.lo.2∧FrV K H vg g.hi.1 g.hi.2
section
variable {K:PySem.W.Frag} {Ad:Adr} {H H':Hp} {v x:V}
def isTI:HO→Bool
 | .ins _ _ _ => true
 | u => isTF u
def SameI (H H':Hp):Prop:=∀ b u,isTI u = true→H b = some u→H' b = some u
theorem SameI.t (S:SameI H H'):SameT H H':=fun b u t h => S b u (by cases u <;> first | exact t | (simp [isTF] at t)) h
theorem Same.i (S:Same H H'):SameI H H':=fun b u _ h => S b u h
theorem PEV.same {e:PD ⊕ D} (S:Same H H') (h:PEV K H e x):PEV K H' e x:=by
 match e,h with
 | .inl t,h => exact ⟨h.1.sameT S.t,h.2⟩
 | .inr c,h => exact ⟨h.1.same S,h.2⟩
theorem GEV.same {e:GD ⊕ D} (S:Same H H') (h:GEV K H e x):GEV K H' e x:=by
 match e,h with
 | .inl t,h => exact ⟨h.1.sameT S.t,h.2⟩
 | .inr c,h => exact ⟨h.1.same S,h.2⟩
theorem POV.si {p:PD} (S:SameI H H'):POV K Ad H p v→POV K Ad H' p v:=fun ⟨q,dx,vz,vm,h1,h2,h3,h4⟩ => ⟨q,dx,vz,vm,h1,S _ _ rfl h2,h3.sameT S.t,h4.sameT S.t⟩
theorem GOV.si {g:GD} (S:SameI H H'):GOV K Ad H g v→GOV K Ad H' g v:=fun ⟨q,dx,vz,vm,h1,h2,h3,h4⟩ => ⟨q,dx,vz,vm,h1,S _ _ rfl h2,h3.sameT S.t,h4.sameT S.t⟩
end
def JK (Ad:Adr) (H0 H:Hp) (j d:Addr) (ls:List PD):Prop:=(∃ dx,H j = some (.ins Ad.Joints dx [("leads", .ref d)]))∧H0 d = none∧∃ kvs,H d = some (.dK kvs)∧kvs.length ≤ 2 * ls.length∧JD H0 H (JaE ls) kvs
theorem JK.same {Ad:Adr} {H0 H H':Hp} {j d:Addr} {ls:List PD} (S:Same H H'):JK Ad H0 H j d ls→JK Ad H0 H' j d ls:=fun ⟨⟨dx,h1⟩,h2,kvs,h3,h4,h5⟩ => ⟨⟨dx,S _ _ h1⟩,h2,kvs,S _ _ h3,h4,h5.same S⟩
def TK (K:PySem.W.Frag) (Ad:Adr) (H:Hp) (x:Addr) (ls:List PD) (gs:List GD):Prop:=∃ dx d1 d2 d3 k1 k2 k3,H x = some (.ins Ad.Thing dx [("parts_by_name", .ref d1),("gaps_by_name", .ref d2),("ways", .ref d3)])∧H d1 = some (.dK k1)∧BG (·.nm) (POV K Ad H) ls k1∧H d2 = some (.dK k2)∧BG (·.nm) (GOV K Ad H) gs k2∧H d3 = some (.dK k3)∧BG (·.nm) (WOV H ls) gs k3
theorem TK.same {K:PySem.W.Frag} {Ad:Adr} {H H':Hp} {x:Addr} {ls:List PD} {gs:List GD} (S:Same H H'):TK K Ad H x ls gs→TK K Ad H' x ls gs:=fun ⟨dx,d1,d2,d3,k1,k2,k3,h0,h1,b1,h2,b2,h3,b3⟩ => ⟨dx,d1,d2,d3,k1,k2,k3,S _ _ h0,S _ _ h1,b1.mono fun _ _ z => z.si (Same.i S),S _ _ h2,b2.mono fun _ _ z => z.si (Same.i S),S _ _ h3,b3.mono fun _ _ z => z.same S⟩
def SameJ (d:Addr) (H H':Hp):Prop:=∀ b u,b ≠ d→(∀ xs,u ≠ .lst xs)→H b = some u→H' b = some u
def SCK (Ad:Adr) (H:Hp) (x:Addr) (b:Int) (fs:List Int):Prop:=∃ dx fl,H x = some (.ins Ad.Scale dx [("bottom", .int b),("factors", .ref fl)])∧H fl = some (.lst (fs.map V.int))∧Scl b fs∧Mth.Sz 2000 b∧fs.length ≤ 30
theorem SCK.same {Ad:Adr} {H H':Hp} {x:Addr} {b:Int} {fs:List Int} (S:Same H H'):SCK Ad H x b fs→SCK Ad H' x b fs:=fun ⟨dx,fl,h1,h2,h3⟩ => ⟨dx,fl,S _ _ h1,S _ _ h2,h3⟩
section
variable {P:Program} {w:World} {K:PySem.W.Frag} {mg:Str→Option Value} {base:Heap} {Ad:Adr}
seal PE PA PS PSs PT PW PG PGs PI PO
abbrev Bai:Stmt:=top 10
theorem JaO:Jan ["one", "other", "greater", "lesser", "rest"] ["one", "other"] (Jae Bai):=⟨rfl,rfl,rfl,by decide +kernel,rfl,by decide +kernel,by decide +kernel⟩
def JaP  : Sp:=fun vs H Q E => ∃ (a b:Int),vs = [.int a, .int b]∧Q (.int (Mth.g a b)) H
theorem JcG {f:Addr} {fd:FuncData} {dV:Value} (F:FunD K "common_divisor" "common_divisor" Bai dV f fd) (T:Txt K mg Ad)  : FnOk P w K mg base (CX1 P w) 1 f fd ["one", "other"] (JaP):=by
 refine F.okn JaO (fun vs H Q E h => ?_) (fun cdv A outer s H vs Q E hr h => ?_)
 ·obtain ⟨a,b,rfl,_⟩:=h; rfl
 obtain ⟨a,b,rfl,h⟩:=h
 have hu:=hr.units
 refine ⟨_,(Jab (Jaj (i:=2) JaO.nd rfl (Or.inl rfl) (Jaq Jcs rfl T.Bdr Jft (Jaa (pv 0) Jad)))
   (Jab (Jaj (i:=3) JaO.nd rfl (Or.inl rfl) (Jaq Jcs rfl T.Bdr Jft (Jaa (pv 1) Jad)))
   (Jab (Jee PassesOwn.never (Jaz (Jci hu) (pv 3) Jac (JaD _))
   (Jab (Jaj (i:=4) JaO.nd rfl (Or.inl rfl) (pe_op Jar (pv 2) (pv 3)))
   (Jab (Jaj (i:=2) JaO.nd rfl (Or.inl rfl) (pv 3))
   (Jai (Jaj (i:=3) JaO.nd rfl (Or.inl rfl) (pv 4))))))
   (Jai (Jas (pv 2)))))), ?_⟩
 show tSeq _ _ _ [some (.int a),some (.int b),none,none,none] H
 try infer_instance
 refine ⟨fun m σ H' => ∃ (x y:Int) (z:Option V), σ = [some (.int a),some (.int b),some (.int x),some (.int y),z]∧H' = H∧0 ≤ x∧0 ≤ y∧Mth.g x y = Mth.g a b∧y.toNat = m,⟨_,_,_,none,rfl,rfl,Mth.JhP a,Mth.JhP b,Mth.BdI a b,rfl⟩, ?_⟩
 rintro m σ H' ⟨x,y,z,rfl,rfl,hx,hy,hg,rfl⟩
 try infer_instance
 by_cases c:y = 0
 ·subst c
  rw [if_neg (by simp)]
  have e:Mth.g a b = x:=by rw [← hg,Mth.JhT]; omega
  rw [e] at h
  exact h
 ·rw [if_pos (by simp [c])]
  have f:=Mth.fm (x:=x) (y:=y) (by omega)
  exact ⟨_,fun _ _ q => q,c,(x.fmod y).toNat,by omega,y,x.fmod y,_,rfl,rfl,hy,f.1,by rw [Mth.JgB (by omega)]; exact hg,rfl⟩
abbrev BcC:Stmt:=top 11
theorem Jel:Jan ["one", "other", "shared", "top", "rest"] ["one", "other"] (Jae BcC):=⟨rfl,rfl,rfl,by decide +kernel,rfl,by decide +kernel,by decide +kernel⟩
def Jds (K:PySem.W.Frag):Sp:=fun vs H Q E => ∃ (x y:V) (a b c d:Int),vs = [x,y]∧FrV K H x a b∧FrV K H y c d∧Mth.Sz 4000 a∧Mth.Sz 4000 b∧Mth.Sz 4000 c∧Mth.Sz 4000 d∧1 ≤ b∧1 ≤ d∧Mth.g a b = 1∧Mth.g c d = 1∧∀ p H',Same H H'→H' p = some (.tup [.int (Mth.top (a * d + c * b) (b * d)), .int (Mth.bot (a * d + c * b) (b * d))])→Q (.ref p) H'
theorem Jit {f:Addr} {fd:FuncData} {dV:Value} (F:FunD K "plus" "plus" BcC dV f fd) (T:Txt K mg Ad) (Bac:Cal P w K mg base 1 "common_divisor" ["one", "other"] [] (JaP)):FnOk P w K mg base (CX1 P w) 2 f fd ["one", "other"] (Jds K):=by
 refine F.okn Jel (fun vs H Q E h => ?_) (fun cdv A outer s H vs Q E hr h => ?_)
 ·obtain ⟨x,y,a,b,c,d,rfl,_⟩:=h; rfl
 obtain ⟨x,y,a,b,c,d,rfl,h⟩:=h
 have hu:=hr.units
 refine ⟨_,(Jab (Jaj (i:=2) Jel.nd rfl (Or.inl rfl) (Bac.ev hr (by decide) rfl passF (Jaa (pe_ix ix_U (pv 0) Jac (fun _ _ => rfl)) (Jaa (pe_ix ix_U (pv 1) Jac (fun _ _ => rfl)) Jad)) (he:=by exact Jaf rfl)))
   (Jab (Jaj (i:=3) Jel.nd rfl (Or.inl rfl) (pe_op JaL (pe_op Jay (pe_ix ix_U (pv 0) Jac (fun _ _ => rfl)) (pe_op Jao (pe_ix ix_U (pv 1) Jac (fun _ _ => rfl)) (pv 2))) (pe_op Jay (pe_ix ix_U (pv 1) Jac (fun _ _ => rfl)) (pe_op Jao (pe_ix ix_U (pv 0) Jac (fun _ _ => rfl)) (pv 2)))))
   (Jab (Jaj (i:=4) Jel.nd rfl (Or.inl rfl) (Bac.ev hr (by decide) rfl passF (Jaa (pv 3) (Jaa (pv 2) Jad)) (he:=by exact Jaf rfl)))
   (Jai (Jas (Ja0 (Jaa (pe_op Jao (pv 3) (pv 4)) (Jaa (pe_op Jay (pe_op Jao (pe_ix ix_U (pv 0) Jac (fun _ _ => rfl)) (pv 2)) (pe_op Jao (pe_ix ix_U (pv 1) Jac (fun _ _ => rfl)) (pv 4))) Jad)))))))), ?_⟩
 obtain ⟨hx,hy,sa,sb,sc,sd,hb,hd,la,lc,k⟩:=h
 show tSeq _ _ _ [some x,some y,none,none,none] H
 try infer_instance
 refine ixF1 hx (ixF1 hy ?_)
 try infer_instance
 refine ⟨_,_,rfl, ?_⟩
 try infer_instance
 have sp:=Mth.g_pos (a:=b) (b:=d) (by omega)
 have s1:=Mth.Jc8 b d
 have s2:=Mth.Jch b d
 have sl:Mth.Sz 4000 (Mth.g b d):=Nat.lt_of_le_of_lt (by have:=Mth.g_le (a:=b) (b:=d) (by omega); omega:(Mth.g b d).natAbs ≤ d.natAbs) sd
 have dv:DivOk (Mth.g b d):=divOk (by omega) sl
 have qb:=sb.fdiv s1 (by omega)
 have qd:=sd.fdiv s2 (by omega)
 refine ixF0 hx (ixF1 hy ?_)
 try infer_instance
 refine ⟨dv,mulOk sa qd,ixF0 hy (ixF1 hx ?_)⟩
 try infer_instance
 refine ⟨dv,mulOk sc qb, ?_⟩
 refine ⟨_,_,rfl, ?_⟩
 have pe:=Mth.JiE hb hd la lc (s:=Mth.g b d) rfl rfl rfl
 generalize ht:a * d.fdiv (Mth.g b d) + c * b.fdiv (Mth.g b d) = t at pe ⊢
 have rp:=Mth.g_pos (a:=t) (b:=Mth.g b d) (by omega)
 have r2:=Mth.Jch t (Mth.g b d)
 have rl:Mth.Sz 4000 (Mth.g t (Mth.g b d)):=Nat.lt_of_le_of_lt (by have:=Mth.g_le (a:=t) (b:=Mth.g b d) (by omega); omega:(Mth.g t (Mth.g b d)).natAbs ≤ (Mth.g b d).natAbs) sl
 have dr:DivOk (Mth.g t (Mth.g b d)):=divOk (by omega) rl
 try infer_instance
 refine ⟨dr,ixF1 hx ?_⟩
 try infer_instance
 refine ⟨dv,ixF1 hy ?_⟩
 try infer_instance
 refine ⟨dr,mulOk qb (sd.fdiv (Int.dvd_trans r2 s2) (by omega)),len2, ?_⟩
 refine Jd2 fun p H1 S hp => k p H1 S ?_
 rw [hp,pe.1,pe.2]
abbrev Bb8:Stmt:=top 12
theorem JhK:Jan ["one", "other"] ["one", "other"] (Jae Bb8):=⟨rfl,rfl,rfl,by decide +kernel,rfl,by decide +kernel,by decide +kernel⟩
def JcZ (K:PySem.W.Frag):Sp:=fun vs H Q E => ∃ (x y:V) (a b c d:Int),vs = [x,y]∧FrV K H x a b∧FrV K H y c d∧Mth.Sz 4000 a∧Mth.Sz 4000 b∧Mth.Sz 4000 c∧Mth.Sz 4000 d∧1 ≤ b∧1 ≤ d∧Mth.g a b = 1∧Mth.g c d = 1∧∀ p H',Same H H'→H' p = some (.tup [.int (Mth.top (a * d - c * b) (b * d)), .int (Mth.bot (a * d - c * b) (b * d))])→Q (.ref p) H'
theorem Jhx {f:Addr} {fd:FuncData} {dV:Value} (F:FunD K "minus" "minus" Bb8 dV f fd) (T:Txt K mg Ad) (Bb5:Cal P w K mg base 2 "plus" ["one", "other"] [] (Jds K)):FnOk P w K mg base (CX1 P w) 3 f fd ["one", "other"] (JcZ K):=by
 refine F.okn JhK (fun vs H Q E h => ?_) (fun cdv A outer s H vs Q E hr h => ?_)
 ·obtain ⟨x,y,a,b,c,d,rfl,_⟩:=h; rfl
 obtain ⟨x,y,a,b,c,d,rfl,h⟩:=h
 have hu:=hr.units
 refine ⟨_,(Jai (Jas (Bb5.ev hr (by decide) rfl passF (Jaa (pv 0) (Jaa (Ja0 (Jaa (pe_un JfQ (pe_ix ix_U (pv 1) Jac (fun _ _ => rfl))) (Jaa (pe_ix ix_U (pv 1) Jac (fun _ _ => rfl)) Jad))) Jad)) (he:=by exact Jaf rfl)))), ?_⟩
 obtain ⟨hx,hy,sa,sb,sc,sd,hb,hd,la,lc,k⟩:=h
 show tRet _ _ [some x,some y] H
 try infer_instance
 refine ixF0 hy ?_
 try infer_instance
 refine ixF1 hy ?_
 try infer_instance
 refine ⟨len2, ?_⟩
 intro p h_p
 generalize q_p:upd H p _ = H1
 have S:=newS h_p q_p
 have hp:=newE q_p
 refine ⟨_,_,a,b, -c,d,rfl,hx.same S,FrV.of hp,sa,sb,sc.neg,sd,hb,hd,la,by rw [Mth.g_neg]; exact lc,fun p2 H2 S2 e2 => k p2 H2 (S.trans S2) ?_⟩
 rw [e2,Int.neg_mul, ← Int.sub_eq_add_neg]
abbrev Bb9:Stmt:=top 13
theorem JhL:Jan ["one", "other"] ["one", "other"] (Jae Bb9):=⟨rfl,rfl,rfl,by decide +kernel,rfl,by decide +kernel,by decide +kernel⟩
def JbY (K:PySem.W.Frag):Sp:=fun vs H Q E => ∃ (x y:V) (a b c d:Int),vs = [x,y]∧FrV K H x a b∧FrV K H y c d∧Mth.Sz 4000 a∧Mth.Sz 4000 b∧Mth.Sz 4000 c∧Mth.Sz 4000 d∧Q (.bl (decide (a * d < c * b))) H
theorem Jhy {f:Addr} {fd:FuncData} {dV:Value} (F:FunD K "under" "under" Bb9 dV f fd) (T:Txt K mg Ad)  : FnOk P w K mg base (CX1 P w) 1 f fd ["one", "other"] (JbY K):=by
 refine F.okn JhL (fun vs H Q E h => ?_) (fun cdv A outer s H vs Q E hr h => ?_)
 ·obtain ⟨x,y,a,b,c,d,rfl,_⟩:=h; rfl
 obtain ⟨x,y,a,b,c,d,rfl,h⟩:=h
 have hu:=hr.units
 refine ⟨_,(Jai (Jas (Jbl JdO (pe_op Jay (pe_ix ix_U (pv 0) Jac (fun _ _ => rfl)) (pe_ix ix_U (pv 1) Jac (fun _ _ => rfl))) (pe_op Jay (pe_ix ix_U (pv 1) Jac (fun _ _ => rfl)) (pe_ix ix_U (pv 0) Jac (fun _ _ => rfl))) (JaD _)))), ?_⟩
 obtain ⟨hx,hy,sa,sb,sc,sd,k⟩:=h
 show tRet _ _ [some x,some y] H
 nofun
 refine ixF0 hx (ixF1 hy ?_)
 nofun
 refine ⟨mulOk sa sd,ixF0 hy (ixF1 hx ?_)⟩
 nofun
 exact ⟨mulOk sc sb,k⟩
abbrev Bbc:Stmt:=top 19
theorem Jgd:Jan ["thing"] ["thing"] (Jae Bbc):=⟨rfl,rfl,rfl,by decide +kernel,rfl,by decide +kernel,by decide +kernel⟩
def JbI (K:PySem.W.Frag):Sp:=fun vs H Q E => ∃ (x:V) (d:D),vs = [x]∧Rep K H d x∧szD d∧∀ H',Same H H'→Q (.bl (nameB d)) H'
theorem Jf4 {f:Addr} {fd:FuncData} {dV:Value} (F:FunD K "is_name" "is_name" Bbc dV f fd) (T:Txt K mg Ad)  : FnOk P w K mg base (CX1 P w) 1 f fd ["thing"] (JbI K):=by
 refine F.okn Jgd (fun vs H Q E h => ?_) (fun cdv A outer s H vs Q E hr h => ?_)
 ·obtain ⟨x,d,rfl,_⟩:=h; rfl
 obtain ⟨x,d,rfl,h⟩:=h
 have hu:=hr.units
 refine ⟨_,(Jab (ps_if (Jbs (Ja4 (Jaq JaK rfl T.Baq JaU (Jaa (pv 0) (Jaa (Jck (v:=.ty "str") rfl T.BdJ JiT rfl) Jad)))))
   (Jai (Jas pe_bl))
   JaB)
   (Jab (ps_if (PW.pt (pw_or (Jaz JdO (Jaq JaM rfl T.Ba6 Jbb (Jaa (pv 0) Jad)) Jac (JaD _)) (JbH (Jaz JfG (Jaq JaM rfl T.Ba6 Jbb (Jaa (pv 0) Jad)) (JcI (v:=.int 8) rfl T.Bcz T.BcA) (JaD _)))))
   (Jai (Jas pe_bl))
   JaB)
   (Jai (Jas (Jaq (Jgp rfl) rfl T.BdL JiR (Jaa (Jed (own:=["sign"]) (cs:=[]) (cl:=[]) rfl (Jjk (pv 0)) (fun _ _ _ _ => (Jav (i:=0) (show [("sign" : Str)].Nodup by decide) rfl (Or.inl rfl))) (fun _ _ _ _ => (Jbl (Jje (K:=K) rfl) (pv 0) (JcI (v:=.str "abcdefghijklmnopqrstuvwxyz") rfl T.Bce T.Bcf) (by with_unfolding_all rfl))) rfl (by decide) rfl (by decide) hcl0 (hhas0 (by decide)) hcs0) Jad)))))), ?_⟩
 obtain ⟨hx,sz,k⟩:=h
 show tSeq _ _ _ [some x] H
 nofun
 refine ⟨_,hx.tyN, ?_⟩
 by_cases hs:∃ z,d = .str z
 ·obtain ⟨z,rfl⟩:=hs
  simp only [Rep] at hx
  subst hx
  simp only [szD] at sz
  simpa only [tyD]
  have hz:z.length ≤ sizeLine:=Nat.le_trans sz (by decide)
  simp only [nameB,nameS] at k
  refine ⟨hz, ?_⟩
  nofun
  by_cases c1:z.length < 1
  ·rw [if_pos (by simp; omega)]
   nofun
   have e:decide (1 ≤ z.length) = false:=by simp; omega
   rw [e] at k
   exact k H (.refl H)
  ·rw [if_neg (by simp; omega)]
   nofun
   have e:decide (1 ≤ z.length) = true:=by simp; omega
   rw [e] at k
   refine ⟨hz, ?_⟩
   nofun
   by_cases c2:8 < z.length
   ·rw [if_pos (by simp; omega)]
    nofun
    have e:decide (z.length ≤ 8) = false:=by simp; omega
    rw [e] at k
    exact k H (.refl H)
   ·rw [if_neg (by simp; omega)]
    nofun
    have e:decide (z.length ≤ 8) = true:=by simp; omega
    rw [e] at k
    nofun
    simpa only [tComp,iStr]
    refine ⟨fun i m ys H2 => H2 = H∧i ≤ z.cps.size∧m = z.cps.size - i∧ys = (z.cps.toList.take i).map fun c => V.bl (lowB c),⟨_,rfl,Nat.zero_le _,rfl,by simp⟩, ?_⟩
    rintro i m ys H2 ⟨rfl,hi,rfl,rfl⟩
    have lz:z.cps.size = z.length:=rfl
    refine ⟨by simp; omega, ?_⟩
    by_cases lt:i < z.cps.size
    ·refine .inr ⟨lt, ?_⟩
     rintro x H3 ⟨rfl,c,hc,rfl⟩
     simpa only [List.length_singleton,List.replicate,JaA,List.map_nil,y5ay,JfY]
     refine ⟨_,Nat.sub_lt_sub_left lt (Nat.lt_succ_self i),lt,rfl, ?_⟩
     have hc':z.cps.toList[i]? = some c:=by simpa using hc
     rw [List.take_succ,hc']
     simp
    ·have ei:i = z.cps.size:=by omega
     refine .inl ⟨ei, ?_⟩
     subst ei
     rw [List.take_of_length_le (by simp)]
     intro p hp
     generalize qp:upd H2 p _ = H3
     have S:=newS hp qp
     have e3:=newE qp
     refine ⟨p,z.cps.toList.map lowB,rfl,SqL.of (by rw [e3,List.map_map]; rfl), ?_⟩
     have:=k H3 S
     simpa [List.all_map] using this
 ·have ef:nameB d = false:=by cases d <;> first | rfl | exact absurd ⟨_,rfl⟩ hs
  rw [ef] at k
  have et:isiB (tyD d) "str" = false:=by cases d <;> first | rfl | exact absurd ⟨_,rfl⟩ hs
  simpa only [et]
  exact k H (.refl H)
abbrev BaO:Stmt:=top 20
theorem Jfl:Jan ["thing"] ["thing"] (Jae BaO):=⟨rfl,rfl,rfl,by decide +kernel,rfl,by decide +kernel,by decide +kernel⟩
def JbT (K:PySem.W.Frag):Sp:=fun vs H Q E => ∃ (x:V) (d:D),vs = [x]∧Rep K H d x∧Q (.bl (JbJ d)) H
theorem Je7 {f:Addr} {fd:FuncData} {dV:Value} (F:FunD K "is_whole" "is_whole" BaO dV f fd) (T:Txt K mg Ad)  : FnOk P w K mg base (CX1 P w) 1 f fd ["thing"] (JbT K):=by
 refine F.okn Jfl (fun vs H Q E h => ?_) (fun cdv A outer s H vs Q E hr h => ?_)
 ·obtain ⟨x,d,rfl,_⟩:=h; rfl
 obtain ⟨x,d,rfl,h⟩:=h
 have hu:=hr.units
 refine ⟨_,(Jai (Jas (Jcj (Jaq JaK rfl T.Baq JaU (Jaa (pv 0) (Jaa (Jck (v:=.ty "int") rfl T.BdA Jgn rfl) Jad))) (JcO (JfJ (Jaq JaK rfl T.Baq JaU (Jaa (pv 0) (Jaa (Jck (v:=.ty "bool") rfl T.Bdy Jgm rfl) Jad)))))))), ?_⟩
 obtain ⟨hx,k⟩:=h
 show tRet _ _ [some x] H
 nofun
 refine ⟨_,hx.tyN, ?_⟩
 have hty:=hx.tyN
 cases d <;> simp only [tyD,JbJ,y80y,y4cy,y4dy,y4ey,y6fy,y2ay,y6ay,y7dy,y7ey,y44y,y2dy,y76y,y8cy,y2fy,y39y,y70y,y2ey,y85y,y23y,y28y,y77y,y72y,y29y,y78y,y74y,y58y,y8ey,y26y,y84y,y6ey,y67y,y49y,y66y,y7by,y32y,y47y,y6cy,y48y,y6dy,y46y,y6by,y87y,y62y,y5ey,y89y,y8by,y88y,y8ay,y25y,y65y,y24y,true_and,if_true,if_false,Bool.not_true,Bool.not_false,Bool.false_eq_true,yby,ydy,yay,ycy,yey,y15y,y17y,y14y,y16y,y18y,y6y,y8y,y5y,y7y,y9y,y1y,y3y,y0y,y2y,y4y,y10y,y12y,yfy,y11y,y13y,y1ay,y1cy,y19y,y1by,y1dy,y1fy,y21y,y1ey,y20y,y22y,y82y,y7ay,y71y,y30y,y31y,y52y,y60y,y61y,y4by,y83y,y86y,y8fy,y7cy,y27y,V.int.injEq,V.str.injEq,List.set_cons_zero,List.set_cons_succ,List.getElem?_cons_zero,List.getElem?_cons_succ,Option.some.injEq,exists_eq_left,exists_eq_left',V.bl.injEq,Int.reduceToNat,Int.reducePow,List.append_nil,List.nil_append,List.cons_append,y54y,y56y,y2by,y2cy,y68y,y5dy,y73y,y63y,y64y,y3ay,y3by,y3cy,y43y,y45y,y3ey,y79y,y40y,y3fy,y33y,y35y,y37y,y3dy,y41y,y4fy,y51y,y59y,reduceCtorEq,decide_false,decide_true] at k hty ⊢ <;> first | exact k | exact ⟨_,hty,by simpa only [y80y,y4cy,y4dy,y4ey,y6fy,y2ay,y6ay,y7dy,y7ey,y44y,y2dy,y76y,y8cy,y2fy,y39y,y70y,y2ey,y85y,y23y,y28y,y77y,y72y,y29y,y78y,y74y,y58y,y8ey,y26y,y84y,y6ey,y67y,y49y,y66y,y7by,y32y,y47y,y6cy,y48y,y6dy,y46y,y6by,y87y,y62y,y5ey,y89y,y8by,y88y,y8ay,y25y,y65y,y24y,true_and,if_true,if_false,Bool.not_true,Bool.not_false,Bool.false_eq_true,yby,ydy,yay,ycy,yey,y15y,y17y,y14y,y16y,y18y,y6y,y8y,y5y,y7y,y9y,y1y,y3y,y0y,y2y,y4y,y10y,y12y,yfy,y11y,y13y,y1ay,y1cy,y19y,y1by,y1dy,y1fy,y21y,y1ey,y20y,y22y,y82y,y7ay,y71y,y30y,y31y,y52y,y60y,y61y,y4by,y83y,y86y,y8fy,y7cy,y27y,V.int.injEq,V.str.injEq,List.set_cons_zero,List.set_cons_succ,List.getElem?_cons_zero,List.getElem?_cons_succ,Option.some.injEq,exists_eq_left,exists_eq_left',V.bl.injEq,Int.reduceToNat,Int.reducePow,List.append_nil,List.nil_append,List.cons_append,y54y,y56y,y2by,y2cy,y68y,y5dy,y73y,y63y,y64y,y3ay,y3by,y3cy,y43y,y45y,y3ey,y79y,y40y,y3fy,y33y,y35y,y37y,y3dy,y41y,y4fy,y51y,y59y,reduceCtorEq,decide_false,decide_true] using k⟩
abbrev Bat:Stmt:=top 21
theorem JdA:Jan ["thing"] ["thing"] (Jae Bat):=⟨rfl,rfl,rfl,by decide +kernel,rfl,by decide +kernel,by decide +kernel⟩
def Jbq (K:PySem.W.Frag):Sp:=fun vs H Q E => ∃ (x:V) (d:D),vs = [x]∧Rep K H d x∧Q (.bl (fracB d)) H
theorem Jdx {f:Addr} {fd:FuncData} {dV:Value} (F:FunD K "is_fraction" "is_fraction" Bat dV f fd) (T:Txt K mg Ad) (BaH:Cal P w K mg base 1 "is_whole" ["thing"] [] (JbT K)) (Bac:Cal P w K mg base 1 "common_divisor" ["one", "other"] [] (JaP)):FnOk P w K mg base (CX1 P w) 2 f fd ["thing"] (Jbq K):=by
 refine F.okn JdA (fun vs H Q E h => ?_) (fun cdv A outer s H vs Q E hr h => ?_)
 ·obtain ⟨x,d,rfl,_⟩:=h; rfl
 obtain ⟨x,d,rfl,h⟩:=h
 have hu:=hr.units
 refine ⟨_,(Jab (ps_if (PW.pt (pw_or (Jbs (Ja4 (Jaq JaK rfl T.Baq JaU (Jaa (pv 0) (Jaa (Jck (v:=.ty "tuple") rfl T.BcY JdV rfl) Jad))))) (JbH (Jaz (Jci hu) (Jaq JaM rfl T.Ba6 Jbb (Jaa (pv 0) Jad)) Jac (JaD _)))))
   (Jai (Jas pe_bl))
   JaB)
   (Jab (ps_if (PW.pt (pw_or (Jbs (Ja4 (BaH.ev hr (by decide) rfl passF (Jaa (pe_ix ix_U (pv 0) Jac (fun _ _ => rfl)) Jad) (he:=by exact Jaf rfl)))) (JbH (Jbs (Ja4 (BaH.ev hr (by decide) rfl passF (Jaa (pe_ix ix_U (pv 0) Jac (fun _ _ => rfl)) Jad) (he:=by exact Jaf rfl)))))))
   (Jai (Jas pe_bl))
   JaB)
   (Jai (Jas (Jcj (Jbl JhV (pe_ix ix_U (pv 0) Jac (fun _ _ => rfl)) Jac (JaD _)) (JcO (Jbl (JbG hu) (Bac.ev hr (by decide) rfl passF (Jaa (pe_ix ix_U (pv 0) Jac (fun _ _ => rfl)) (Jaa (pe_ix ix_U (pv 0) Jac (fun _ _ => rfl)) Jad)) (he:=by exact Jaf rfl)) Jac (JaD _)))))))), ?_⟩
 obtain ⟨hx,k⟩:=h
 show tSeq _ _ _ [some x] H
 nofun
 refine ⟨_,hx.tyN, ?_⟩
 by_cases ht:∃ ds,d = .tup ds
 ·obtain ⟨ds,rfl⟩:=ht
  simpa only [tyD]
  simp only [Rep] at hx
  obtain ⟨a,xs,rfl,hq,hr⟩:=hx
  have hl:=hr.length
  refine ⟨xs, .inr hq, ?_⟩
  nofun
  by_cases h2:ds.length = 2
  ·match ds,h2 with
   | [d0,d1],_ =>
    simp only [RepL] at hr
    obtain ⟨v0,r0,rfl,h0,v1,r1,rfl,h1,rfl⟩:=hr
    simpa only [List.length_cons,List.length_nil]
    rw [if_neg (by simp)]
    nofun
    nofun
    refine ixT0 hq ?_
    refine ⟨v0,d0,rfl,h0, ?_⟩
    nofun
    by_cases w0:JbJ d0 = true
    ·rw [if_neg (by simp [w0])]
     nofun
     refine ixT1 hq ?_
     refine ⟨v1,d1,rfl,h1, ?_⟩
     nofun
     by_cases w1:JbJ d1 = true
     ·rw [if_neg (by simp [w1])]
      nofun
      obtain ⟨i,rfl⟩:∃ i,d0 = .int i:=by cases d0 <;> simp [JbJ] at w0; exact ⟨_,rfl⟩
      obtain ⟨j,rfl⟩:∃ j,d1 = .int j:=by cases d1 <;> simp [JbJ] at w1; exact ⟨_,rfl⟩
      simp only [Rep] at h0 h1
      subst h0 h1
      simp only [fracB] at k
      nofun
      refine ixT1 hq ?_
      nofun
      by_cases c:1 ≤ j
      ·rw [if_pos (by simpa using c)]
       nofun
       refine ixT0 hq (ixT1 hq ?_)
       refine ⟨_,_,rfl, ?_⟩
       nofun
       simpa [c] using k
      ·rw [if_neg (by simpa using c)]
       nofun
       simpa [c] using k
     ·rw [if_pos (by simp [w1])]
      nofun
      nofun
      have ef:fracB (.tup [d0,d1]) = false:=by cases d0 <;> cases d1 <;> simp_all [fracB,JbJ]
      rw [ef] at k
      exact k
    ·rw [if_pos (by simp [w0])]
     nofun
     nofun
     have ef:fracB (.tup [d0,d1]) = false:=by cases d0 <;> cases d1 <;> simp_all [fracB,JbJ]
     rw [ef] at k
     exact k
  ·rw [if_pos (by simp; omega)]
   nofun
   have ef:fracB (.tup ds) = false:=by
    unfold fracB
    split
    ·rename_i e; cases e; simp at h2
    ·rfl
   rw [ef] at k
   nofun
   exact k
 ·have ef:fracB d = false:=by cases d <;> first | rfl | exact absurd ⟨_,rfl⟩ ht
  rw [ef] at k
  have et:isiB (tyD d) "tuple" = false:=by cases d <;> first | rfl | exact absurd ⟨_,rfl⟩ ht
  simpa only [et]
  exact k
abbrev BaP:Stmt:=top 22
theorem Jfk:Jan ["thing"] ["thing"] (Jae BaP):=⟨rfl,rfl,rfl,by decide +kernel,rfl,by decide +kernel,by decide +kernel⟩
def Jcm (K:PySem.W.Frag):Sp:=fun vs H Q E => ∃ (x:V) (d:D),vs = [x]∧Rep K H d x∧Q (.bl (Jcf d)) H
theorem Je6 {f:Addr} {fd:FuncData} {dV:Value} (F:FunD K "is_bound" "is_bound" BaP dV f fd) (T:Txt K mg Ad) (Bam:Cal P w K mg base 2 "is_fraction" ["thing"] [] (Jbq K)):FnOk P w K mg base (CX1 P w) 3 f fd ["thing"] (Jcm K):=by
 refine F.okn Jfk (fun vs H Q E h => ?_) (fun cdv A outer s H vs Q E hr h => ?_)
 ·obtain ⟨x,d,rfl,_⟩:=h; rfl
 obtain ⟨x,d,rfl,h⟩:=h
 have hu:=hr.units
 refine ⟨_,(Jai (Jas (pe_or (Jbl Jeb (pv 0) Jdm (JaD _)) (JcO (Bam.ev hr (by decide) rfl passF (Jaa (pv 0) Jad) (he:=by exact Jaf rfl)))))), ?_⟩
 obtain ⟨hx,k⟩:=h
 show tRet _ _ [some x] H
 nofun
 by_cases hn:d = .non
 ·subst hn
  simp only [Rep] at hx
  subst hx
  simpa only [decide_true]
  exact k
 ·have xn:x ≠ .non:=by
   rintro rfl
   cases d <;> simp [Rep] at hx
   exact hn rfl
  rw [if_neg (by simpa using xn)]
  nofun
  have ef:Jcf d = fracB d:=by cases d <;> first | rfl | exact absurd rfl hn
  rw [ef] at k
  exact ⟨x,d,rfl,hx,k⟩
abbrev BaI:Stmt:=top 23
theorem JeO:Jan ["one", "other"] ["one", "other"] (Jae BaI):=⟨rfl,rfl,rfl,by decide +kernel,rfl,by decide +kernel,by decide +kernel⟩
def JbE (K:PySem.W.Frag):Sp:=fun vs H Q E => ∃ (x y:V) (d e:D),vs = [x,y]∧Rep K H d x∧Rep K H e y∧szD d∧szD e∧∀ H',Same H H'→Q (.bl (Jcg d e)) H'
theorem JeF {f:Addr} {fd:FuncData} {dV:Value} (F:FunD K "are_faces" "are_faces" BaI dV f fd) (T:Txt K mg Ad) (Bax:Cal P w K mg base 1 "is_name" ["thing"] [] (JbI K)):FnOk P w K mg base (CX1 P w) 2 f fd ["one", "other"] (JbE K):=by
 refine F.okn JeO (fun vs H Q E h => ?_) (fun cdv A outer s H vs Q E hr h => ?_)
 ·obtain ⟨x,y,d,e,rfl,_⟩:=h; rfl
 obtain ⟨x,y,d,e,rfl,h⟩:=h
 have hu:=hr.units
 refine ⟨_,(Jai (Jas (Jcj (Bax.ev hr (by decide) rfl passF (Jaa (pv 0) Jad) (he:=by exact Jaf rfl)) (Jcj (Bax.ev hr (by decide) rfl passF (Jaa (pv 1) Jad) (he:=by exact Jaf rfl)) (JcO (Jbl (Jci hu) (pv 0) (pv 1) (JaD _))))))), ?_⟩
 obtain ⟨hx,hy,sx,sy,k⟩:=h
 show tRet _ _ [some x,some y] H
 nofun
 refine ⟨x,d,rfl,hx,sx,fun H1 S1 => ?_⟩
 nofun
 unfold Jcg at k
 by_cases c1:nameB d = true
 ·rw [if_pos c1]
  nofun
  refine ⟨y,e,rfl,hy.same S1,sy,fun H2 S2 => ?_⟩
  nofun
  by_cases c2:nameB e = true
  ·rw [if_pos c2]
   nofun
   obtain ⟨z,rfl,_⟩:=JdN c1
   obtain ⟨z',rfl,_⟩:=JdN c2
   have e1:=hx.str
   have e2:=hy.str
   subst e1 e2
   nofun
   have:=k H2 (S1.trans S2)
   rw [c1,c2] at this
   simpa [eqD,BEq.beq] using this
  ·rw [if_neg c2]
   nofun
   have:=k H2 (S1.trans S2)
   have e2:nameB e = false:=by simpa using c2
   rw [c1,e2] at this
   exact this
 ·rw [if_neg c1]
  nofun
  have:=k H1 S1
  have e1:nameB d = false:=by simpa using c1
  rw [e1] at this
  exact this
abbrev Bay:Stmt:=top 24
theorem Jei:Jan ["least", "greatest"] ["least", "greatest"] (Jae Bay):=⟨rfl,rfl,rfl,by decide +kernel,rfl,by decide +kernel,by decide +kernel⟩
def JbR (K:PySem.W.Frag):Sp:=fun vs H Q E => ∃ (x y:V) (d e:D),vs = [x,y]∧Rep K H d x∧Rep K H e y∧szD d∧szD e∧Q (.bl (JdU d e)) H
theorem Jd6 {f:Addr} {fd:FuncData} {dV:Value} (F:FunD K "are_bounds" "are_bounds" Bay dV f fd) (T:Txt K mg Ad) (BbL:Cal P w K mg base 3 "is_bound" ["thing"] [] (Jcm K)) (Baw:Cal P w K mg base 1 "under" ["one", "other"] [] (JbY K)):FnOk P w K mg base (CX1 P w) 4 f fd ["least", "greatest"] (JbR K):=by
 refine F.okn Jei (fun vs H Q E h => ?_) (fun cdv A outer s H vs Q E hr h => ?_)
 ·obtain ⟨x,y,d,e,rfl,_⟩:=h; rfl
 obtain ⟨x,y,d,e,rfl,h⟩:=h
 have hu:=hr.units
 refine ⟨_,(Jab (ps_if (PW.pt (pw_or (Jbs (Ja4 (BbL.ev hr (by decide) rfl passF (Jaa (pv 0) Jad) (he:=by exact Jaf rfl)))) (JbH (Jbs (Ja4 (BbL.ev hr (by decide) rfl passF (Jaa (pv 1) Jad) (he:=by exact Jaf rfl)))))))
   (Jai (Jas pe_bl))
   JaB)
   (Jab (ps_if (PW.pt (pw_or (Jaz Jeb (pv 0) Jdm (JaD _)) (JbH (Jaz Jeb (pv 1) Jdm (JaD _)))))
   (Jai (Jas pe_bl))
   JaB)
   (Jai (Jas (JfJ (Baw.ev hr (by decide) rfl passF (Jaa (pv 1) (Jaa (pv 0) Jad)) (he:=by exact Jaf rfl))))))), ?_⟩
 obtain ⟨hx,hy,sx,sy,k⟩:=h
 show tSeq _ _ _ [some x,some y] H
 nofun
 unfold JdU at k
 refine ⟨x,d,rfl,hx, ?_⟩
 nofun
 by_cases c1:Jcf d = true
 ·rw [if_neg (by simp [c1])]
  nofun
  refine ⟨y,e,rfl,hy, ?_⟩
  nofun
  by_cases c2:Jcf e = true
  ·rw [if_neg (by simp [c2])]
   nofun
   simpa only [hx.nonV,hy.nonV]
   rw [c1,c2] at k
   by_cases n1:d = .non
   ·rw [if_pos (by simp [n1,nonD])]
    nofun
    nofun
    have : lessD e d = false:=by subst n1; unfold lessD; split <;> first | rfl | simp_all
    rw [this] at k
    exact k
   ·rw [if_neg (by simp [JgP n1])]
    nofun
    by_cases n2:e = .non
    ·rw [if_pos (by simp [n2,nonD])]
     nofun
     nofun
     have : lessD e d = false:=by subst n2; rfl
     rw [this] at k
     exact k
    ·rw [if_neg (by simp [JgP n2])]
     nofun
     nofun
     have f1:fracB d = true:=by cases d <;> first | exact c1 | exact absurd rfl n1
     have f2:fracB e = true:=by cases e <;> first | exact c2 | exact absurd rfl n2
     obtain ⟨a,b,rfl,_,_⟩:=JcC f1
     obtain ⟨a',b',rfl,_,_⟩:=JcC f2
     simp only [szD,szL] at sx sy
     refine ⟨y,x,a',b',a,b,rfl,FrV.of_rep hy,FrV.of_rep hx,sy.1,sy.2.1,sx.1,sx.2.1, ?_⟩
     nofun
     simpa [lessD] using k
  ·rw [if_pos (by simp [c2])]
   nofun
   nofun
   have e2:Jcf e = false:=by simpa using c2
   rw [c1,e2] at k
   exact k
 ·rw [if_pos (by simp [c1])]
  nofun
  nofun
  have e1:Jcf d = false:=by simpa using c1
  rw [e1] at k
  exact k
abbrev BbM:Stmt:=top 25
theorem Jha:Jan ["thing"] ["thing"] (Jae BbM):=⟨rfl,rfl,rfl,by decide +kernel,rfl,by decide +kernel,by decide +kernel⟩
def Jdr (K:PySem.W.Frag):Sp:=fun vs H Q E => ∃ (x:V) (d:D),vs = [x]∧Rep K H d x∧szD d∧∀ H',Same H H'→Q (.bl (tieB d)) H'
theorem JgT {f:Addr} {fd:FuncData} {dV:Value} (F:FunD K "is_tie" "is_tie" BbM dV f fd) (T:Txt K mg Ad) (Bax:Cal P w K mg base 1 "is_name" ["thing"] [] (JbI K)) (BaJ:Cal P w K mg base 2 "are_faces" ["one", "other"] [] (JbE K)) (BbC:Cal P w K mg base 4 "are_bounds" ["least", "greatest"] [] (JbR K)):FnOk P w K mg base (CX1 P w) 5 f fd ["thing"] (Jdr K):=by
 refine F.okn Jha (fun vs H Q E h => ?_) (fun cdv A outer s H vs Q E hr h => ?_)
 ·obtain ⟨x,d,rfl,_⟩:=h; rfl
 obtain ⟨x,d,rfl,h⟩:=h
 have hu:=hr.units
 refine ⟨_,(Jab (ps_if (PW.pt (pw_or (Jbs (Ja4 (Jaq JaK rfl T.Baq JaU (Jaa (pv 0) (Jaa (Jck (v:=.ty "tuple") rfl T.BcY JdV rfl) Jad))))) (JbH (Jaz (Jci hu) (Jaq JaM rfl T.Ba6 Jbb (Jaa (pv 0) Jad)) Jac (JaD _)))))
   (Jai (Jas pe_bl))
   JaB)
   (Jai (Jas (Jcj (Bax.ev hr (by decide) rfl passF (Jaa (pe_ix ix_U (pv 0) Jac (fun _ _ => rfl)) Jad) (he:=by exact Jaf rfl)) (Jcj (BaJ.ev hr (by decide) rfl passF (Jaa (pe_ix ix_U (pv 0) Jac (fun _ _ => rfl)) (Jaa (pe_ix ix_U (pv 0) Jac (fun _ _ => rfl)) Jad)) (he:=by exact Jaf rfl)) (JcO (BbC.ev hr (by decide) rfl passF (Jaa (pe_ix ix_U (pv 0) Jac (fun _ _ => rfl)) (Jaa (pe_ix ix_U (pv 0) Jac (fun _ _ => rfl)) Jad)) (he:=by exact Jaf rfl)))))))), ?_⟩
 obtain ⟨hx,sz,k⟩:=h
 show tSeq _ _ _ [some x] H
 nofun
 refine ⟨_,hx.tyN, ?_⟩
 by_cases ht:∃ ds,d = .tup ds
 ·obtain ⟨ds,rfl⟩:=ht
  simpa only [tyD]
  simp only [Rep] at hx
  obtain ⟨a,xs,rfl,hq,hr⟩:=hx
  have hl:=hr.length
  refine ⟨xs, .inr hq, ?_⟩
  nofun
  by_cases h5:ds.length = 5
  ·match ds,h5 with
   | [d0,d1,d2,d3,d4],_ =>
    simp only [RepL] at hr
    obtain ⟨v0,r0,rfl,h0,v1,r1,rfl,h1,v2,r2,rfl,h2,v3,r3,rfl,h3,v4,r4,rfl,h4,rfl⟩:=hr
    simp only [szD,szL] at sz
    obtain ⟨s0,s1,s2,s3,s4,_⟩:=sz
    simp only [tieB] at k
    simpa only [List.length_cons,List.length_nil]
    rw [if_neg (by simp)]
    nofun
    nofun
    refine ixT (i:=0) hq rfl ?_
    refine ⟨v0,d0,rfl,h0,s0,fun H1 S1 => ?_⟩
    nofun
    by_cases c0:nameB d0 = true
    ·rw [if_pos c0]
     nofun
     rw [c0] at k
     refine ixT (i:=1) (hq.same S1) rfl ?_
     refine ixT (i:=2) (hq.same S1) rfl ?_
     refine ⟨v1,v2,d1,d2,rfl,h1.same S1,h2.same S1,s1,s2,fun H2 S2 => ?_⟩
     nofun
     have S12:=S1.trans S2
     by_cases c1:Jcg d1 d2 = true
     ·rw [if_pos c1]
      nofun
      rw [c1] at k
      refine ixT (i:=3) (hq.same S12) rfl ?_
      refine ixT (i:=4) (hq.same S12) rfl ?_
      exact ⟨v3,v4,d3,d4,rfl,h3.same S12,h4.same S12,s3,s4,k H2 S12⟩
     ·rw [if_neg c1]
      nofun
      have e1:Jcg d1 d2 = false:=by simpa using c1
      rw [e1] at k
      exact k H2 S12
    ·rw [if_neg c0]
     nofun
     have e0:nameB d0 = false:=by simpa using c0
     rw [e0] at k
     exact k H1 S1
  ·rw [if_pos (by simp; omega)]
   nofun
   have ef:tieB (.tup ds) = false:=by
    unfold tieB
    split
    ·rename_i e; cases e; simp at h5
    ·rfl
   rw [ef] at k
   nofun
   exact k H (.refl H)
 ·have ef:tieB d = false:=by cases d <;> first | rfl | exact absurd ⟨_,rfl⟩ ht
  rw [ef] at k
  have et:isiB (tyD d) "tuple" = false:=by cases d <;> first | rfl | exact absurd ⟨_,rfl⟩ ht
  simpa only [et]
  exact k H (.refl H)
abbrev Bal:Stmt:=inClass (top 34) 0
theorem JcS:Jan ["self", "row"] ["self", "row"] (Jae Bal):=⟨rfl,rfl,rfl,by decide +kernel,rfl,by decide +kernel,by decide +kernel⟩
def Jbu (K:PySem.W.Frag):Sp:=fun vs H Q E => ∃ (x C dx a:Addr) (n st en z m wt:V),vs = [.ref x, .ref a]∧H x = some (.ins C dx [])∧PartC K C∧SqT K H a [n,st,en,z,m,wt]∧∀ H',H' x = some (.ins C dx (partF n st en z m wt))→(∀ b,b ≠ x→H' b = H b)→Q .non H'
theorem JcR {f:Addr} {fd:FuncData} {dV:Value} (F:FunD K "__init__" "Part.__init__" Bal dV f fd) (T:Txt K mg Ad)  : FnOk P w K mg base (CX1 P w) 1 f fd ["self", "row"] (Jbu K):=by
 refine F.okn JcS (fun vs H Q E h => ?_) (fun cdv A outer s H vs Q E hr h => ?_)
 ·obtain ⟨x,C,dx,a,n,st,en,z,m,wt,rfl,_⟩:=h; rfl
 obtain ⟨x,C,dx,a,n,st,en,z,m,wt,rfl,h⟩:=h
 have hu:=hr.units
 refine ⟨_,(Jab (Jbk (pv 0) (pe_ix ix_U (pv 1) Jac (fun _ _ => rfl)) rfl)
   (Jab (Jbk (pv 0) (pe_ix ix_U (pv 1) Jac (fun _ _ => rfl)) rfl)
   (Jab (Jbk (pv 0) (pe_ix ix_U (pv 1) Jac (fun _ _ => rfl)) rfl)
   (Jab (Jbk (pv 0) (pe_ix ix_U (pv 1) Jac (fun _ _ => rfl)) rfl)
   (Jab (Jbk (pv 0) (pe_ix ix_U (pv 1) Jac (fun _ _ => rfl)) rfl)
   (Jai (Jbk (pv 0) (pe_ix ix_U (pv 1) Jac (fun _ _ => rfl)) rfl))))))), ?_⟩
 obtain ⟨e0,tc,hq0,k⟩:=h
 show tSeq _ _ _ [some (.ref x),some (.ref a)] H
 exfalso
 refine ixT (i:=0) hq0 rfl ?_
 exfalso
 refine ⟨x,C,dx,_,rfl,e0,tc.cls,tc.n1,by simp, ?_⟩
 have hq1:=SqT.put (fs':=putF "name" n []) e0 hq0
 generalize u0:upd H x _ = H1 at hq1 ⊢
 exfalso
 have e1:H1 x = some (.ins C dx [("name",n)]):=by rw [← u0]; exact Jak.trans rfl
 have o1:∀ b,b ≠ x→H1 b = H b:=fun b hb => by rw [← u0,Jah hb]
 exfalso
 refine ixT (i:=1) hq1 rfl ?_
 exfalso
 refine ⟨x,C,dx,_,rfl,e1,tc.cls,tc.n2,by simp, ?_⟩
 have hq2:=SqT.put (fs':=putF "start" st [("name",n)]) e1 hq1
 generalize u1:upd H1 x _ = H2 at hq2 ⊢
 exfalso
 have e2:H2 x = some (.ins C dx [("name",n),("start",st)]):=by rw [← u1]; exact Jak.trans rfl
 have o2:∀ b,b ≠ x→H2 b = H1 b:=fun b hb => by rw [← u1,Jah hb]
 exfalso
 refine ixT (i:=2) hq2 rfl ?_
 exfalso
 refine ⟨x,C,dx,_,rfl,e2,tc.cls,tc.n3,by simp, ?_⟩
 have hq3:=SqT.put (fs':=putF "end" en [("name",n),("start",st)]) e2 hq2
 generalize u2:upd H2 x _ = H3 at hq3 ⊢
 exfalso
 have e3:H3 x = some (.ins C dx [("name",n),("start",st),("end",en)]):=by rw [← u2]; exact Jak.trans rfl
 have o3:∀ b,b ≠ x→H3 b = H2 b:=fun b hb => by rw [← u2,Jah hb]
 exfalso
 refine ixT (i:=3) hq3 rfl ?_
 exfalso
 refine ⟨x,C,dx,_,rfl,e3,tc.cls,tc.n4,by simp, ?_⟩
 have hq4:=SqT.put (fs':=putF "size" z [("name",n),("start",st),("end",en)]) e3 hq3
 generalize u3:upd H3 x _ = H4 at hq4 ⊢
 exfalso
 have e4:H4 x = some (.ins C dx [("name",n),("start",st),("end",en),("size",z)]):=by rw [← u3]; exact Jak.trans rfl
 have o4:∀ b,b ≠ x→H4 b = H3 b:=fun b hb => by rw [← u3,Jah hb]
 exfalso
 refine ixT (i:=4) hq4 rfl ?_
 exfalso
 refine ⟨x,C,dx,_,rfl,e4,tc.cls,tc.n5,by simp, ?_⟩
 have hq5:=SqT.put (fs':=putF "most" m [("name",n),("start",st),("end",en),("size",z)]) e4 hq4
 generalize u4:upd H4 x _ = H5 at hq5 ⊢
 exfalso
 have e5:H5 x = some (.ins C dx [("name",n),("start",st),("end",en),("size",z),("most",m)]):=by rw [← u4]; exact Jak.trans rfl
 have o5:∀ b,b ≠ x→H5 b = H4 b:=fun b hb => by rw [← u4,Jah hb]
 exfalso
 refine ixT (i:=5) hq5 rfl ?_
 exfalso
 refine ⟨x,C,dx,_,rfl,e5,tc.cls,tc.n6,by simp, ?_⟩
 have hq6:=SqT.put (fs':=putF "weight" wt [("name",n),("start",st),("end",en),("size",z),("most",m)]) e5 hq5
 generalize u5:upd H5 x _ = H6 at hq6 ⊢
 exfalso
 have e6:H6 x = some (.ins C dx [("name",n),("start",st),("end",en),("size",z),("most",m),("weight",wt)]):=by rw [← u5]; exact Jak.trans rfl
 have o6:∀ b,b ≠ x→H6 b = H5 b:=fun b hb => by rw [← u5,Jah hb]
 exfalso
 exact k H6 e6 fun b hb => by rw [o6 b hb,o5 b hb,o4 b hb,o3 b hb,o2 b hb,o1 b hb]
abbrev Baz:Stmt:=inClass (top 34) 1
theorem Jeg:Jan ["self"] ["self"] (Jae Baz):=⟨rfl,rfl,rfl,by decide +kernel,rfl,by decide +kernel,by decide +kernel⟩
def JbP (K:PySem.W.Frag) (Ad:Adr):Sp:=fun vs H Q E => ∃ (p dx:Addr) (n st en z m wt:V),vs = [.ref p]∧H p = some (.ins Ad.Part dx (partF n st en z m wt))∧∀ q H',Same H H'→H' q = some (.tup [n,st,en,z,m,wt])→Q (.ref q) H'
theorem Jd3 {f:Addr} {fd:FuncData} {dV:Value} (F:FunD K "plain" "Part.plain" Baz dV f fd) (T:Txt K mg Ad)  : FnOk P w K mg base (CX1 P w) 1 f fd ["self"] (JbP K Ad):=by
 refine F.okn Jeg (fun vs H Q E h => ?_) (fun cdv A outer s H vs Q E hr h => ?_)
 ·obtain ⟨p,dx,n,st,en,z,m,wt,rfl,_⟩:=h; rfl
 obtain ⟨p,dx,n,st,en,z,m,wt,rfl,h⟩:=h
 have hu:=hr.units
 refine ⟨_,(Jai (Jas (Ja0 (Jaa (Jax (pv 0) rfl) (Jaa (Jax (pv 0) rfl) (Jaa (Jax (pv 0) rfl) (Jaa (Jax (pv 0) rfl) (Jaa (Jax (pv 0) rfl) (Jaa (Jax (pv 0) rfl) Jad))))))))), ?_⟩
 obtain ⟨hp,k⟩:=h
 have tc:=T.BcB Ad.Part rfl
 show tRet _ _ [some (.ref p)] H
 and_intros
 refine ⟨p,_,dx,_,n,rfl,hp,tc.cls,tc.n1,rfl, ?_⟩
 refine ⟨p,_,dx,_,st,rfl,hp,tc.cls,tc.n2,rfl, ?_⟩
 refine ⟨p,_,dx,_,en,rfl,hp,tc.cls,tc.n3,rfl, ?_⟩
 refine ⟨p,_,dx,_,z,rfl,hp,tc.cls,tc.n4,rfl, ?_⟩
 refine ⟨p,_,dx,_,m,rfl,hp,tc.cls,tc.n5,rfl, ?_⟩
 refine ⟨p,_,dx,_,wt,rfl,hp,tc.cls,tc.n6,rfl, ?_⟩
 and_intros
 refine ⟨by show 6 ≤ sizeLine; decide, ?_⟩
 exact Jd2 fun q H1 S e => k q H1 S e
abbrev Ban:Stmt:=inClass (top 35) 0
theorem Jdo:Jan ["self", "row"] ["self", "row"] (Jae Ban):=⟨rfl,rfl,rfl,by decide +kernel,rfl,by decide +kernel,by decide +kernel⟩
def Jbz (K:PySem.W.Frag):Sp:=fun vs H Q E => ∃ (x C dx a:Addr) (n st en l g:V),vs = [.ref x, .ref a]∧H x = some (.ins C dx [])∧GapC K C∧SqT K H a [n,st,en,l,g]∧∀ H',H' x = some (.ins C dx (gapF n st en l g))→(∀ b,b ≠ x→H' b = H b)→Q .non H'
theorem Jdg {f:Addr} {fd:FuncData} {dV:Value} (F:FunD K "__init__" "Gap.__init__" Ban dV f fd) (T:Txt K mg Ad)  : FnOk P w K mg base (CX1 P w) 1 f fd ["self", "row"] (Jbz K):=by
 refine F.okn Jdo (fun vs H Q E h => ?_) (fun cdv A outer s H vs Q E hr h => ?_)
 ·obtain ⟨x,C,dx,a,n,st,en,l,g,rfl,_⟩:=h; rfl
 obtain ⟨x,C,dx,a,n,st,en,l,g,rfl,h⟩:=h
 have hu:=hr.units
 refine ⟨_,(Jab (Jbk (pv 0) (pe_ix ix_U (pv 1) Jac (fun _ _ => rfl)) rfl)
   (Jab (Jbk (pv 0) (pe_ix ix_U (pv 1) Jac (fun _ _ => rfl)) rfl)
   (Jab (Jbk (pv 0) (pe_ix ix_U (pv 1) Jac (fun _ _ => rfl)) rfl)
   (Jab (Jbk (pv 0) (pe_ix ix_U (pv 1) Jac (fun _ _ => rfl)) rfl)
   (Jai (Jbk (pv 0) (pe_ix ix_U (pv 1) Jac (fun _ _ => rfl)) rfl)))))), ?_⟩
 obtain ⟨e0,tc,hq0,k⟩:=h
 show tSeq _ _ _ [some (.ref x),some (.ref a)] H
 exfalso
 refine ixT (i:=0) hq0 rfl ?_
 exfalso
 refine ⟨x,C,dx,_,rfl,e0,tc.cls,tc.n1,by simp, ?_⟩
 have hq1:=SqT.put (fs':=putF "name" n []) e0 hq0
 generalize u0:upd H x _ = H1 at hq1 ⊢
 exfalso
 have e1:H1 x = some (.ins C dx [("name",n)]):=by rw [← u0]; exact Jak.trans rfl
 have o1:∀ b,b ≠ x→H1 b = H b:=fun b hb => by rw [← u0,Jah hb]
 exfalso
 refine ixT (i:=1) hq1 rfl ?_
 exfalso
 refine ⟨x,C,dx,_,rfl,e1,tc.cls,tc.n2,by simp, ?_⟩
 have hq2:=SqT.put (fs':=putF "one" st [("name",n)]) e1 hq1
 generalize u1:upd H1 x _ = H2 at hq2 ⊢
 exfalso
 have e2:H2 x = some (.ins C dx [("name",n),("one",st)]):=by rw [← u1]; exact Jak.trans rfl
 have o2:∀ b,b ≠ x→H2 b = H1 b:=fun b hb => by rw [← u1,Jah hb]
 exfalso
 refine ixT (i:=2) hq2 rfl ?_
 exfalso
 refine ⟨x,C,dx,_,rfl,e2,tc.cls,tc.n3,by simp, ?_⟩
 have hq3:=SqT.put (fs':=putF "other" en [("name",n),("one",st)]) e2 hq2
 generalize u2:upd H2 x _ = H3 at hq3 ⊢
 exfalso
 have e3:H3 x = some (.ins C dx [("name",n),("one",st),("other",en)]):=by rw [← u2]; exact Jak.trans rfl
 have o3:∀ b,b ≠ x→H3 b = H2 b:=fun b hb => by rw [← u2,Jah hb]
 exfalso
 refine ixT (i:=3) hq3 rfl ?_
 exfalso
 refine ⟨x,C,dx,_,rfl,e3,tc.cls,tc.n4,by simp, ?_⟩
 have hq4:=SqT.put (fs':=putF "low" l [("name",n),("one",st),("other",en)]) e3 hq3
 generalize u3:upd H3 x _ = H4 at hq4 ⊢
 exfalso
 have e4:H4 x = some (.ins C dx [("name",n),("one",st),("other",en),("low",l)]):=by rw [← u3]; exact Jak.trans rfl
 have o4:∀ b,b ≠ x→H4 b = H3 b:=fun b hb => by rw [← u3,Jah hb]
 exfalso
 refine ixT (i:=4) hq4 rfl ?_
 exfalso
 refine ⟨x,C,dx,_,rfl,e4,tc.cls,tc.n5,by simp, ?_⟩
 have hq5:=SqT.put (fs':=putF "high" g [("name",n),("one",st),("other",en),("low",l)]) e4 hq4
 generalize u4:upd H4 x _ = H5 at hq5 ⊢
 exfalso
 have e5:H5 x = some (.ins C dx [("name",n),("one",st),("other",en),("low",l),("high",g)]):=by rw [← u4]; exact Jak.trans rfl
 have o5:∀ b,b ≠ x→H5 b = H4 b:=fun b hb => by rw [← u4,Jah hb]
 exfalso
 exact k H5 e5 fun b hb => by rw [o5 b hb,o4 b hb,o3 b hb,o2 b hb,o1 b hb]
abbrev BaK:Stmt:=inClass (top 35) 1
theorem JeM:Jan ["self"] ["self"] (Jae BaK):=⟨rfl,rfl,rfl,by decide +kernel,rfl,by decide +kernel,by decide +kernel⟩
def Jb6 (K:PySem.W.Frag) (Ad:Adr):Sp:=fun vs H Q E => ∃ (p dx:Addr) (n st en l g:V),vs = [.ref p]∧H p = some (.ins Ad.Gap dx (gapF n st en l g))∧∀ q H',Same H H'→H' q = some (.tup [n,st,en,l,g])→Q (.ref q) H'
theorem JeD {f:Addr} {fd:FuncData} {dV:Value} (F:FunD K "plain" "Gap.plain" BaK dV f fd) (T:Txt K mg Ad)  : FnOk P w K mg base (CX1 P w) 1 f fd ["self"] (Jb6 K Ad):=by
 refine F.okn JeM (fun vs H Q E h => ?_) (fun cdv A outer s H vs Q E hr h => ?_)
 ·obtain ⟨p,dx,n,st,en,l,g,rfl,_⟩:=h; rfl
 obtain ⟨p,dx,n,st,en,l,g,rfl,h⟩:=h
 have hu:=hr.units
 refine ⟨_,(Jai (Jas (Ja0 (Jaa (Jax (pv 0) rfl) (Jaa (Jax (pv 0) rfl) (Jaa (Jax (pv 0) rfl) (Jaa (Jax (pv 0) rfl) (Jaa (Jax (pv 0) rfl) Jad)))))))), ?_⟩
 obtain ⟨hp,k⟩:=h
 have tc:=T.Bdh Ad.Gap rfl
 show tRet _ _ [some (.ref p)] H
 and_intros
 refine ⟨p,_,dx,_,n,rfl,hp,tc.cls,tc.n1,rfl, ?_⟩
 refine ⟨p,_,dx,_,st,rfl,hp,tc.cls,tc.n2,rfl, ?_⟩
 refine ⟨p,_,dx,_,en,rfl,hp,tc.cls,tc.n3,rfl, ?_⟩
 refine ⟨p,_,dx,_,l,rfl,hp,tc.cls,tc.n4,rfl, ?_⟩
 refine ⟨p,_,dx,_,g,rfl,hp,tc.cls,tc.n5,rfl, ?_⟩
 and_intros
 refine ⟨by show 5 ≤ sizeLine; decide, ?_⟩
 exact Jd2 fun q H1 S e => k q H1 S e
abbrev Bbd:Stmt:=top 32
theorem Jge:Jan ["thing"] ["thing"] (Jae Bbd):=⟨rfl,rfl,rfl,by decide +kernel,rfl,by decide +kernel,by decide +kernel⟩
def JcK (K:PySem.W.Frag):Sp:=fun vs H Q E => ∃ (x:V) (d:D),vs = [x]∧Rep K H d x∧szD d∧∀ H',Same H H'→Q (.bl (partB d)) H'
theorem Jf5 {f:Addr} {fd:FuncData} {dV:Value} (F:FunD K "is_part" "is_part" Bbd dV f fd) (T:Txt K mg Ad) (Bax:Cal P w K mg base 1 "is_name" ["thing"] [] (JbI K)) (BaJ:Cal P w K mg base 2 "are_faces" ["one", "other"] [] (JbE K)) (Bam:Cal P w K mg base 2 "is_fraction" ["thing"] [] (Jbq K)) (BaH:Cal P w K mg base 1 "is_whole" ["thing"] [] (JbT K)) (Baw:Cal P w K mg base 1 "under" ["one", "other"] [] (JbY K)):FnOk P w K mg base (CX1 P w) 5 f fd ["thing"] (JcK K):=by
 refine F.okn Jge (fun vs H Q E h => ?_) (fun cdv A outer s H vs Q E hr h => ?_)
 ·obtain ⟨x,d,rfl,_⟩:=h; rfl
 obtain ⟨x,d,rfl,h⟩:=h
 have hu:=hr.units
 refine ⟨_,(Jab (ps_if (PW.pt (pw_or (Jbs (Ja4 (Jaq JaK rfl T.Baq JaU (Jaa (pv 0) (Jaa (Jck (v:=.ty "tuple") rfl T.BcY JdV rfl) Jad))))) (JbH (Jaz (Jci hu) (Jaq JaM rfl T.Ba6 Jbb (Jaa (pv 0) Jad)) Jac (JaD _)))))
   (Jai (Jas pe_bl))
   JaB)
   (Jab (ps_if (PW.pt (pw_or (Jbs (Ja4 (Bax.ev hr (by decide) rfl passF (Jaa (pe_ix ix_U (pv 0) Jac (fun _ _ => rfl)) Jad) (he:=by exact Jaf rfl)))) (JbH (Jbs (Ja4 (BaJ.ev hr (by decide) rfl passF (Jaa (pe_ix ix_U (pv 0) Jac (fun _ _ => rfl)) (Jaa (pe_ix ix_U (pv 0) Jac (fun _ _ => rfl)) Jad)) (he:=by exact Jaf rfl)))))))
   (Jai (Jas pe_bl))
   JaB)
   (Jab (ps_if (PW.pt (pw_or (Jbs (Ja4 (Bam.ev hr (by decide) rfl passF (Jaa (pe_ix ix_U (pv 0) Jac (fun _ _ => rfl)) Jad) (he:=by exact Jaf rfl)))) (pw_or (Jbs (Ja4 (Bam.ev hr (by decide) rfl passF (Jaa (pe_ix ix_U (pv 0) Jac (fun _ _ => rfl)) Jad) (he:=by exact Jaf rfl)))) (JbH (Jbs (Ja4 (BaH.ev hr (by decide) rfl passF (Jaa (pe_ix ix_U (pv 0) Jac (fun _ _ => rfl)) Jad) (he:=by exact Jaf rfl))))))))
   (Jai (Jas pe_bl))
   JaB)
   (Jai (Jas (Jcj (JfJ (Baw.ev hr (by decide) rfl passF (Jaa (pe_ix ix_U (pv 0) Jac (fun _ _ => rfl)) (Jaa (JcI (v:=.ref _) rfl T.Bdb T.Bdc) Jad)) (he:=by exact Jaf rfl))) (JcO (Jbl JhV (pe_ix ix_U (pv 0) Jac (fun _ _ => rfl)) Jac (JaD _))))))))), ?_⟩
 obtain ⟨hx,sz,k⟩:=h
 show tSeq _ _ _ [some x] H
 nofun
 refine ⟨_,hx.tyN, ?_⟩
 by_cases ht:∃ ds,d = .tup ds
 ·obtain ⟨ds,rfl⟩:=ht
  simpa only [tyD]
  simp only [Rep] at hx
  obtain ⟨a,xs,rfl,hq,hr⟩:=hx
  have hl:=hr.length
  refine ⟨xs, .inr hq, ?_⟩
  nofun
  by_cases h6:ds.length = 6
  ·match ds,h6 with
   | [d0,d1,d2,d3,d4,d5],_ =>
    simp only [RepL] at hr
    obtain ⟨v0,r0,rfl,h0,v1,r1,rfl,h1,v2,r2,rfl,h2,v3,r3,rfl,h3,v4,r4,rfl,h4,v5,r5,rfl,h5,rfl⟩:=hr
    simp only [szD,szL] at sz
    obtain ⟨s0,s1,s2,s3,s4,s5,_⟩:=sz
    simp only [partB] at k
    simpa only [List.length_cons,List.length_nil]
    rw [if_neg (by simp)]
    nofun
    nofun
    refine ixT (i:=0) hq rfl ?_
    refine ⟨v0,d0,rfl,h0,s0,fun H1 S1 => ?_⟩
    nofun
    by_cases c0:nameB d0 = true
    ·rw [c0] at k ⊢
     nofun
     refine ixT (i:=1) (hq.same S1) rfl ?_
     refine ixT (i:=2) (hq.same S1) rfl ?_
     refine ⟨v1,v2,d1,d2,rfl,h1.same S1,h2.same S1,s1,s2,fun H2 S2 => ?_⟩
     nofun
     have S02:=S1.trans S2
     by_cases c1:Jcg d1 d2 = true
     ·rw [c1] at k ⊢
      nofun
      refine ixT (i:=3) (hq.same S02) rfl ?_
      refine ⟨v3,d3,rfl,h3.same S02, ?_⟩
      nofun
      by_cases c3:fracB d3 = true
      ·rw [c3] at k ⊢
       nofun
       refine ixT (i:=4) (hq.same S02) rfl ?_
       refine ⟨v4,d4,rfl,h4.same S02, ?_⟩
       nofun
       by_cases c4:fracB d4 = true
       ·rw [c4] at k ⊢
        nofun
        refine ixT (i:=5) (hq.same S02) rfl ?_
        refine ⟨v5,d5,rfl,h5.same S02, ?_⟩
        nofun
        by_cases c5:JbJ d5 = true
        ·rw [c5] at k ⊢
         nofun
         obtain ⟨p4,q4,rfl,_,_⟩:=JcC c4
         obtain ⟨w,rfl⟩:∃ w,d5 = .int w:=by cases d5 <;> first | exact ⟨_,rfl⟩ | simp [JbJ] at c5
         simp only [szD,szL] at s4
         have h5':v5 = .int w:=by simpa only [Rep] using h5
         subst h5'
         refine ixT (i:=4) (hq.same S02) rfl ?_
         refine ⟨v4, .ref Ad.ZERO,p4,q4,0,1,rfl,FrV.of_rep (h4.same S02),⟨Ad.ZERO,rfl,T.Bdd _⟩,s4.1,s4.2.1, .lit (by decide) (by decide), .lit (by decide) (by decide), ?_⟩
         nofun
         by_cases c6:p4 * 1 < 0 * q4
         ·have e6:lessD (.tup [.int p4, .int q4]) (.tup [.int 0, .int 1]) = true:=by simpa [lessD] using c6
          rw [e6] at k
          rw [if_neg (by simpa using c6)]
          nofun
          exact k H2 S02
         ·have e6:lessD (.tup [.int p4, .int q4]) (.tup [.int 0, .int 1]) = false:=by simpa [lessD] using c6
          rw [e6] at k
          rw [if_pos (by simpa using c6)]
          nofun
          refine ixT (i:=5) (hq.same S02) rfl ?_
          nofun
          exact k H2 S02
        ·have e5:JbJ d5 = false:=by simpa using c5
         rw [e5] at k ⊢
         nofun
         exact k H2 S02
       ·have e4:fracB d4 = false:=by simpa using c4
        rw [e4] at k ⊢
        nofun
        exact k H2 S02
      ·have e3:fracB d3 = false:=by simpa using c3
       rw [e3] at k ⊢
       nofun
       exact k H2 S02
     ·have e1:Jcg d1 d2 = false:=by simpa using c1
      rw [e1] at k ⊢
      nofun
      exact k H2 S02
    ·have e0:nameB d0 = false:=by simpa using c0
     rw [e0] at k ⊢
     nofun
     exact k H1 S1
  ·rw [if_pos (by simp; omega)]
   nofun
   have ef:partB (.tup ds) = false:=by
    unfold partB
    split
    ·rename_i e; cases e; simp at h6
    ·rfl
   rw [ef] at k
   nofun
   exact k H (.refl H)
 ·have ef:partB d = false:=by cases d <;> first | rfl | exact absurd ⟨_,rfl⟩ ht
  rw [ef] at k
  have et:isiB (tyD d) "tuple" = false:=by cases d <;> first | rfl | exact absurd ⟨_,rfl⟩ ht
  simpa only [et]
  exact k H (.refl H)
abbrev BbN:Stmt:=top 33
theorem Jg9:Jan ["thing"] ["thing"] (Jae BbN):=⟨rfl,rfl,rfl,by decide +kernel,rfl,by decide +kernel,by decide +kernel⟩
def Jdq (K:PySem.W.Frag):Sp:=fun vs H Q E => ∃ (x:V) (d:D),vs = [x]∧Rep K H d x∧szD d∧∀ H',Same H H'→Q (.bl (gapB d)) H'
theorem JgS {f:Addr} {fd:FuncData} {dV:Value} (F:FunD K "is_gap" "is_gap" BbN dV f fd) (T:Txt K mg Ad) (BcE:Cal P w K mg base 5 "is_tie" ["thing"] [] (Jdr K)):FnOk P w K mg base (CX1 P w) 6 f fd ["thing"] (Jdq K):=by
 refine F.okn Jg9 (fun vs H Q E h => ?_) (fun cdv A outer s H vs Q E hr h => ?_)
 ·obtain ⟨x,d,rfl,_⟩:=h; rfl
 obtain ⟨x,d,rfl,h⟩:=h
 have hu:=hr.units
 refine ⟨_,(Jai (Jas (Jcj (BcE.ev hr (by decide) rfl passF (Jaa (pv 0) Jad) (he:=by exact Jaf rfl)) (Jcj (Jbl Jec (pe_ix ix_U (pv 0) Jac (fun _ _ => rfl)) Jdm (JaD _)) (JcO (Jbl Jec (pe_ix ix_U (pv 0) Jac (fun _ _ => rfl)) Jdm (JaD _))))))), ?_⟩
 obtain ⟨hx,sz,k⟩:=h
 show tRet _ _ [some x] H
 nofun
 refine ⟨x,d,rfl,hx,sz,fun H1 S1 => ?_⟩
 nofun
 by_cases c:tieB d = true
 ·rw [if_pos c]
  nofun
  obtain ⟨n,s,e,l,g,rfl⟩:∃ n s e l g,d = .tup [n,s,e,l,g]:=by
   unfold tieB at c
   split at c
   ·exact ⟨_,_,_,_,_,rfl⟩
   ·cases c
  simp only [Rep,RepL] at hx
  obtain ⟨a,xs,rfl,hq,v0,r0,rfl,h0,v1,r1,rfl,h1,v2,r2,rfl,h2,v3,r3,rfl,h3,v4,r4,rfl,h4,rfl⟩:=hx
  simp only [gapB] at k
  rw [c] at k
  refine ixT (i:=3) (hq.same S1) rfl ?_
  simpa only [h3.nonV]
  by_cases n1:nonD l = true
  ·rw [n1] at k
   try rw [n1]
   nofun
   exact k H1 S1
  ·have n1':nonD l = false:=by simpa using n1
   rw [n1'] at k
   try rw [n1']
   nofun
   refine ixT (i:=4) (hq.same S1) rfl ?_
   simpa only [h4.nonV]
   exact k H1 S1
 ·rw [if_neg c]
  nofun
  have e0:gapB d = false:=by
   have c':tieB d = false:=by simpa using c
   unfold gapB
   split
   ·rw [c']; rfl
   ·rfl
  rw [e0] at k
  exact k H1 S1
abbrev Bbe:Stmt:=top 36
theorem Jgf:Jan ["thing"] ["thing"] (Jae Bbe):=⟨rfl,rfl,rfl,by decide +kernel,rfl,by decide +kernel,by decide +kernel⟩
def JcM (K:PySem.W.Frag) (Ad:Adr):Sp:=fun vs H Q E => ∃ (x:V) (e:PD ⊕ D),vs = [x]∧PEV K H e x∧(match e with | .inr _ => ∀ H',Same H H'→E (.ref Ad.NoPart) none H' | .inl p => ∀ v H',Same H H'→POV K Ad H' p v→Q v H')
theorem Jf8 {f:Addr} {fd:FuncData} {dV:Value} (F:FunD K "part_of" "part_of" Bbe dV f fd) (T:Txt K mg Ad) (Bcr:Cal P w K mg base 5 "is_part" ["thing"] [] (JcK K)) (Bdi:KCal P w K mg base 1 "Part" Ad.Part ["self", "row"] (Jbu K)):FnOk P w K mg base (CX1 P w) 6 f fd ["thing"] (JcM K Ad):=by
 refine F.okx Jgf (fun vs H Q E h => ?_) (fun cdv A outer s H vs Q E hr h => ?_)
 ·obtain ⟨x,e,rfl,_⟩:=h; rfl
 obtain ⟨x,e,rfl,h⟩:=h
 have hu:=hr.units
 refine ⟨_,(Jab (ps_if (Jbs (Ja4 (Bcr.ev hr (by decide) rfl pass1 (Jaa (pv 0) Jad) (he:=by exact Jaf rfl))))
   (Jai (JbL PySem.F.excBase_ValueError T.BbS rfl T.Bdt (Jaa Jb1 Jad)))
   JaB)
   (Jai (Jas (Bdi.ev hr (by decide) rfl pass1 (Jaa (pv 0) Jad))))), ?_⟩
 obtain ⟨he,k⟩:=h
 show tSeq _ _ _ [some x] H
 nofun
 match e,he,k with
 | .inr c,he,k =>
  refine ⟨x,c,rfl,he.1,he.2.1,fun H1 S1 => ?_⟩
  rw [he.2.2]
  nofun
  exact ⟨by show 1 ≤ sizeLine; decide,k H1 S1⟩
 | .inl p,he,k =>
  refine ⟨x,pdD p,rfl,he.1.rep,he.2.sz,fun H1 S1 => ?_⟩
  rw [he.2.part]
  nofun
  obtain ⟨b,vz,vm,rfl,hq,hz,hm⟩:=he.1
  intro y dx hy hdx ne
  have S2:Same H1 (upd (upd H1 dx (.own y)) y (.ins Ad.Part dx [])):=fun b u q => by rw [Jah (Jag q hy),Jah (Jag q hdx)]; exact q
  refine ⟨y,_,dx,b,_,_,_,vz,vm,_,rfl,Jak,T.BcB _ rfl,(hq.same S1).same S2,fun H' e o => ⟨rfl,k _ H' ?_ ⟨y,dx,vz,vm,rfl,e, ?_, ?_⟩⟩⟩
  ·exact S1.trans fun b u q => by rw [o b (Jag q hy)]; exact S2 _ _ q
  ·exact hz.same (S1.trans fun b u q => by rw [o b (Jag q hy)]; exact S2 _ _ q)
  ·exact hm.same (S1.trans fun b u q => by rw [o b (Jag q hy)]; exact S2 _ _ q)
abbrev BbO:Stmt:=top 37
theorem Jg8:Jan ["thing"] ["thing"] (Jae BbO):=⟨rfl,rfl,rfl,by decide +kernel,rfl,by decide +kernel,by decide +kernel⟩
def Jdp (K:PySem.W.Frag) (Ad:Adr):Sp:=fun vs H Q E => ∃ (x:V) (e:GD ⊕ D),vs = [x]∧GEV K H e x∧(match e with | .inr _ => ∀ H',Same H H'→E (.ref Ad.NoGap) none H' | .inl g => ∀ v H',Same H H'→GOV K Ad H' g v→Q v H')
theorem JgR {f:Addr} {fd:FuncData} {dV:Value} (F:FunD K "gap_of" "gap_of" BbO dV f fd) (T:Txt K mg Ad) (BcF:Cal P w K mg base 6 "is_gap" ["thing"] [] (Jdq K)) (BdD:KCal P w K mg base 1 "Gap" Ad.Gap ["self", "row"] (Jbz K)):FnOk P w K mg base (CX1 P w) 7 f fd ["thing"] (Jdp K Ad):=by
 refine F.okx Jg8 (fun vs H Q E h => ?_) (fun cdv A outer s H vs Q E hr h => ?_)
 ·obtain ⟨x,e,rfl,_⟩:=h; rfl
 obtain ⟨x,e,rfl,h⟩:=h
 have hu:=hr.units
 refine ⟨_,(Jab (ps_if (Jbs (Ja4 (BcF.ev hr (by decide) rfl pass1 (Jaa (pv 0) Jad) (he:=by exact Jaf rfl))))
   (Jai (JbL PySem.F.excBase_ValueError T.Bcg rfl T.BdB (Jaa Jb1 Jad)))
   JaB)
   (Jai (Jas (BdD.ev hr (by decide) rfl pass1 (Jaa (pv 0) Jad))))), ?_⟩
 obtain ⟨he,k⟩:=h
 show tSeq _ _ _ [some x] H
 nofun
 match e,he,k with
 | .inr c,he,k =>
  refine ⟨x,c,rfl,he.1,he.2.1,fun H1 S1 => ?_⟩
  rw [he.2.2]
  nofun
  exact ⟨by show 1 ≤ sizeLine; decide,k H1 S1⟩
 | .inl g,he,k =>
  refine ⟨x,tdD g.td,rfl,he.1.rep,he.2.sz,fun H1 S1 => ?_⟩
  rw [JiZ he.2]
  nofun
  obtain ⟨b,vz,vm,rfl,hq,hz,hm⟩:=he.1
  replace hz:FrV K H vz g.lo.1 g.lo.2:=hz
  replace hm:FrV K H vm g.hi.1 g.hi.2:=hm
  intro y dx hy hdx ne
  have S2:Same H1 (upd (upd H1 dx (.own y)) y (.ins Ad.Gap dx [])):=fun b u q => by rw [Jah (Jag q hy),Jah (Jag q hdx)]; exact q
  refine ⟨y,_,dx,b,_,_,_,vz,vm,rfl,Jak,T.Bdh _ rfl,(hq.same S1).same S2,fun H' e o => ⟨rfl,k _ H' ?_ ⟨y,dx,vz,vm,rfl,e, ?_, ?_⟩⟩⟩
  ·exact S1.trans fun b u q => by rw [o b (Jag q hy)]; exact S2 _ _ q
  ·exact hz.same (S1.trans fun b u q => by rw [o b (Jag q hy)]; exact S2 _ _ q)
  ·exact hm.same (S1.trans fun b u q => by rw [o b (Jag q hy)]; exact S2 _ _ q)
abbrev Bag:Stmt:=inClass (top 38) 0
theorem JcB:Jan ["self"] ["self"] (Jae Bag):=⟨rfl,rfl,rfl,by decide +kernel,rfl,by decide +kernel,by decide +kernel⟩
def Jbg (K:PySem.W.Frag) (Ad:Adr):Sp:=fun vs H Q E => ∃ (x dx:Addr),vs = [.ref x]∧H x = some (.ins Ad.Joints dx [])∧∀ d H',H d = none→d ≠ x→H' x = some (.ins Ad.Joints dx [("leads", .ref d)])→H' d = some (.dK [])→(∀ b u,b ≠ x→H b = some u→H' b = some u)→Q .non H'
theorem Jcx {f:Addr} {fd:FuncData} {dV:Value} (F:FunD K "__init__" "Joints.__init__" Bag dV f fd) (T:Txt K mg Ad)  : FnOk P w K mg base (CX1 P w) 1 f fd ["self"] (Jbg K Ad):=by
 refine F.okn JcB (fun vs H Q E h => ?_) (fun cdv A outer s H vs Q E hr h => ?_)
 ·obtain ⟨x,dx,rfl,_⟩:=h; rfl
 obtain ⟨x,dx,rfl,h⟩:=h
 have hu:=hr.units
 refine ⟨_,(Jai (Jbk (pv 0) JbK rfl)), ?_⟩
 obtain ⟨hx,k⟩:=h
 have tc:=T.Bb4 _ rfl
 show sFld _ _ _ _ _ [some (.ref x)] H
 exfalso
 intro d h_d
 generalize q_d:upd H d _ = H1
 have S1:=newS h_d q_d
 have e1:=newE q_d
 exfalso
 refine ⟨x,_,dx,_,rfl,S1 _ _ hx,tc.cls,tc.n1,by simp, ?_⟩
 have ne:d ≠ x:=fun z => by rw [z,hx] at h_d; cases h_d
 exact k d _ h_d ne (Jak.trans rfl) (by rw [Jah ne]; exact e1) fun b u hb h => by rw [Jah hb]; exact S1 _ _ h
abbrev Bau:Stmt:=inClass (top 38) 1
theorem Jdy:Jan ["self", "part"] ["self", "part"] (Jae Bau):=⟨rfl,rfl,rfl,by decide +kernel,rfl,by decide +kernel,by decide +kernel⟩
def JbF (K:PySem.W.Frag) (Ad:Adr):Sp:=fun vs H Q E => ∃ (j d:Addr) (v:V) (ls:List PD) (p:PD) (H0:Hp),vs = [.ref j,v]∧JK Ad H0 H j d ls∧Same H0 H∧POV K Ad H p v∧p.st ≠ p.en∧ls.length ≤ 20∧∀ H',Same H0 H'→SameJ d H H'→JK Ad H0 H' j d (ls ++ [p])→Q .non H'
theorem Jdv {f:Addr} {fd:FuncData} {dV:Value} (F:FunD K "link" "Joints.link" Bau dV f fd) (T:Txt K mg Ad)  : FnOk P w K mg base (CX1 P w) 1 f fd ["self", "part"] (JbF K Ad):=by
 refine F.okn Jdy (fun vs H Q E h => ?_) (fun cdv A outer s H vs Q E hr h => ?_)
 ·obtain ⟨j,d,v,ls,p,H0,rfl,_⟩:=h; rfl
 obtain ⟨j,d,v,ls,p,H0,rfl,h⟩:=h
 have hu:=hr.units
 refine ⟨_,(Jab (Jbt (pe_bm PySem.F.plainAttrs_list PySem.F.slot_list_append PySem.F.type_list_append Jbr (Jg0 (Jax (pv 0) rfl) (Jax (pv 1) rfl) (JaX Jad) ⟨rfl,rfl,rfl,rfl⟩) (Jaa (Ja0 (Jaa (Jax (pv 1) rfl) (Jaa (Ja0 (Jaa (Jax (pv 1) rfl) (Jaa pe_bl Jad))) Jad))) Jad) (hs:=by exact Jaf rfl)))
   (Jai (Jbt (pe_bm PySem.F.plainAttrs_list PySem.F.slot_list_append PySem.F.type_list_append Jbr (Jg0 (Jax (pv 0) rfl) (Jax (pv 1) rfl) (JaX Jad) ⟨rfl,rfl,rfl,rfl⟩) (Jaa (Ja0 (Jaa (Jax (pv 1) rfl) (Jaa (Ja0 (Jaa (Jax (pv 1) rfl) (Jaa pe_bl Jad))) Jad))) Jad) (hs:=by exact Jaf rfl))))), ?_⟩
 obtain ⟨⟨⟨dx,hj1⟩,hd0,kvs,hd1,hk,hJ1⟩,S01,hv,hne,hl,k⟩:=h
 obtain ⟨q,dq,vz,vm,rfl,hq1,hz,hm⟩:=hv
 have sl:(1000:Nat) ≤ sizeLine:=by decide
 have jc:=T.Bb4 _ rfl
 have pc:=T.BcB _ rfl
 have nj:j ≠ d:=fun z => by rw [z,hd1] at hj1; cases hj1
 have nq:q ≠ d:=fun z => by rw [z,hd1] at hq1; cases hq1
 have hLn1:∀ f,(JaE ls f).length ≤ 20:=fun f => by have:=Jd1 ls f; omega
 show tSeq _ _ _ [some (.ref j),some (.ref q)] H
 and_intros
 obtain ⟨H1,hH⟩:∃ H',H' = H:=⟨_,rfl⟩
 subst hH
 refine ⟨j,_,dx,_, .ref d,rfl,hj1,jc.cls,jc.n1,rfl, ?_⟩
 and_intros
 refine ⟨d,rfl, .inl ⟨kvs, .inl hd1⟩, ?_⟩
 refine ⟨q,_,dq,_, .str p.st,rfl,hq1,pc.cls,pc.n2,rfl, ?_⟩
 and_intros
 refine ⟨len0, ?_⟩
 intro l1 h_l1
 generalize q_l1:upd H1 l1 _ = Hb1
 have Sb1:=newS h_l1 q_l1
 have eb1:=newE q_l1
 and_intros
 refine ⟨kvs,Sum.inr p.st,Sb1 _ _ hd1,rfl,by omega,fun v hv => ?_,fun hv => ?_⟩
 ·obtain ⟨l,xs,hlx,hl0,hlh,hla⟩:∃ l xs,v = .ref l∧H0 l = none∧H1 l = some (.lst xs)∧All2 (LeV H1) ((JaE ls) p.st) xs:=by
   rcases hJ1.at_ p.st with ⟨h1,_⟩ | ⟨l,xs,h1,h2,h3,h4⟩
   ·rw [hv] at h1; cases h1
   ·rw [hv] at h1; cases h1; exact ⟨l,xs,rfl,h2,h3,h4⟩
  subst hlx
  have lxs:xs.length ≤ 20:=by rw [hla.length]; exact hLn1 _
  refine ⟨.inl ⟨rfl,_,SqL.of (Sb1 _ _ hlh)⟩, ?_⟩
  and_intros
  have hq_c:=Sb1 _ _ hq1
  obtain ⟨Hc1,hHc⟩:∃ H',H' = Hb1:=⟨_,rfl⟩
  rw [← hHc] at hq_c ⊢
  refine ⟨q,_,dq,_, .str p.en,rfl,hq_c,pc.cls,pc.n3,rfl, ?_⟩
  and_intros
  refine ⟨q,_,dq,_, .str p.nm,rfl,hq_c,pc.cls,pc.n1,rfl, ?_⟩
  and_intros
  refine ⟨len2, ?_⟩
  intro tc1 h_tc1
  generalize q_tc1:upd Hc1 tc1 _ = Hd1
  have Sd1:=newS h_tc1 q_tc1
  have ed1:=newE q_tc1
  and_intros
  refine ⟨len2, ?_⟩
  intro tb1 h_tb1
  generalize q_tb1:upd Hd1 tb1 _ = He1
  have Se1:=newS h_tb1 q_tb1
  have ee1:=newE q_tb1
  and_intros
  have lev1:LeV He1 (p.en,(p.nm,true)) (.ref tb1):=⟨tb1,tc1,rfl,ee1,Se1 _ _ ed1⟩
  have Sce1:=Sd1.trans Se1
  have hle:=Sce1 _ _ (by rw [hHc]; exact Sb1 _ _ hlh:Hc1 l = some (.lst xs))
  refine ⟨l,xs,_,rfl,rfl,hle,by omega, ?_⟩
  generalize u2:upd He1 l _ = H2
  and_intros
  have Sbe:Same H1 He1:=fun b u h => Sce1 _ _ (by rw [hHc]; exact Sb1 _ _ h)
  have hJ2:=(hJ1.same Sbe).more hv hle lev1 u2
  have sj2:SameJ d H1 H2:=fun b u _ hu h => by rw [← u2,Jah (fun z => by have:=Sbe _ _ h; rw [z,hle] at this; cases this; exact hu _ rfl)]; exact Sbe _ _ h
  have hd2:H2 d = some (.dK kvs):=by rw [← u2,Jah (fun z => by have:=Sbe _ _ hd1; rw [z,hle] at this; cases this)]; exact Sbe _ _ hd1
  have S02:Same H0 H2:=fun b u h => by rw [← u2,Jah (Jag h hl0)]; exact Sbe _ _ (S01 _ _ h)
  have hj2:=sj2 _ _ nj (by intro xs z; cases z) hj1
  have hq2:=sj2 _ _ nq (by intro xs z; cases z) hq1
  have hLn2:∀ f,(addL (JaE ls) p.st (p.en,(p.nm,true)) f).length ≤ 21:=fun f => by
   have:=Jd1 ls f
   unfold addL
   split
   ·rw [List.length_append,List.length_singleton]; omega
   ·omega
  and_intros
  refine ⟨j,_,dx,_, .ref d,rfl,hj2,jc.cls,jc.n1,rfl, ?_⟩
  and_intros
  refine ⟨d,rfl, .inl ⟨kvs, .inl hd2⟩, ?_⟩
  refine ⟨q,_,dq,_, .str p.en,rfl,hq2,pc.cls,pc.n3,rfl, ?_⟩
  and_intros
  refine ⟨len0, ?_⟩
  intro l2 h_l2
  generalize q_l2:upd H2 l2 _ = Hb2
  have Sb2:=newS h_l2 q_l2
  have eb2:=newE q_l2
  and_intros
  refine ⟨kvs,Sum.inr p.en,Sb2 _ _ hd2,rfl,by omega,fun v hv => ?_,fun hv => ?_⟩
  ·obtain ⟨l,xs,hlx,hl0,hlh,hla⟩:∃ l xs,v = .ref l∧H0 l = none∧H2 l = some (.lst xs)∧All2 (LeV H2) ((addL (JaE ls) p.st (p.en,(p.nm,true))) p.en) xs:=by
    rcases hJ2.at_ p.en with ⟨h1,_⟩ | ⟨l,xs,h1,h2,h3,h4⟩
    ·rw [hv] at h1; cases h1
    ·rw [hv] at h1; cases h1; exact ⟨l,xs,rfl,h2,h3,h4⟩
   subst hlx
   have lxs:xs.length ≤ 21:=by rw [hla.length]; exact hLn2 _
   refine ⟨.inl ⟨rfl,_,SqL.of (Sb2 _ _ hlh)⟩, ?_⟩
   and_intros
   have hq_c:=Sb2 _ _ hq2
   obtain ⟨Hc2,hHc⟩:∃ H',H' = Hb2:=⟨_,rfl⟩
   rw [← hHc] at hq_c ⊢
   refine ⟨q,_,dq,_, .str p.st,rfl,hq_c,pc.cls,pc.n2,rfl, ?_⟩
   and_intros
   refine ⟨q,_,dq,_, .str p.nm,rfl,hq_c,pc.cls,pc.n1,rfl, ?_⟩
   and_intros
   refine ⟨len2, ?_⟩
   intro tc2 h_tc2
   generalize q_tc2:upd Hc2 tc2 _ = Hd2
   have Sd2:=newS h_tc2 q_tc2
   have ed2:=newE q_tc2
   and_intros
   refine ⟨len2, ?_⟩
   intro tb2 h_tb2
   generalize q_tb2:upd Hd2 tb2 _ = He2
   have Se2:=newS h_tb2 q_tb2
   have ee2:=newE q_tb2
   and_intros
   have lev2:LeV He2 (p.st,(p.nm,false)) (.ref tb2):=⟨tb2,tc2,rfl,ee2,Se2 _ _ ed2⟩
   have Sce2:=Sd2.trans Se2
   have hle:=Sce2 _ _ (by rw [hHc]; exact Sb2 _ _ hlh:Hc2 l = some (.lst xs))
   refine ⟨l,xs,_,rfl,rfl,hle,by omega, ?_⟩
   generalize u3:upd He2 l _ = H3
   and_intros
   have Sbe:Same H2 He2:=fun b u h => Sce2 _ _ (by rw [hHc]; exact Sb2 _ _ h)
   have hJ3:=(hJ2.same Sbe).more hv hle lev2 u3
   have sj3:SameJ d H2 H3:=fun b u _ hu h => by rw [← u3,Jah (fun z => by have:=Sbe _ _ h; rw [z,hle] at this; cases this; exact hu _ rfl)]; exact Sbe _ _ h
   have hd3:H3 d = some (.dK kvs):=by rw [← u3,Jah (fun z => by have:=Sbe _ _ hd2; rw [z,hle] at this; cases this)]; exact Sbe _ _ hd2
   have S03:Same H0 H3:=fun b u h => by rw [← u3,Jah (Jag h hl0)]; exact Sbe _ _ (S02 _ _ h)
   rw [Jcr hne] at hJ3
   refine k H3 S03 (fun b u hb hu h => sj3 b u hb hu (sj2 b u hb hu h)) ⟨⟨dx,sj3 _ _ nj (by intro xs z; cases z) hj2⟩,hd0,_,hd3, ?_,hJ3⟩
   rw [List.length_append,List.length_singleton]
   omega
  ·have hn0:H0 l2 = none:=by
    cases e:H0 l2 with
    | none => rfl
    | some o => rw [S02 _ _ e] at h_l2; cases h_l2
   generalize uc:upd Hb2 d _ = Hc2
   and_intros
   have nd:l2 ≠ d:=fun z => by rw [z,hd2] at h_l2; cases h_l2
   have elc:Hc2 l2 = some (.lst []):=by rw [← uc,Jah nd]; exact eb2
   have scx:∀ b u,b ≠ d→H2 b = some u→Hc2 b = some u:=fun b u hb h => by rw [← uc,Jah hb]; exact Sb2 _ _ h
   have hdc:Hc2 d = some (.dK (putK kvs (Sum.inr p.en) (.ref l2))):=by rw [← uc,Jak]
   refine ⟨.inl ⟨rfl,_,SqL.of elc⟩, ?_⟩
   and_intros
   have hq_c:=scx _ _ (fun z => by rw [z,hd2] at hq2; cases hq2) hq2
   refine ⟨q,_,dq,_, .str p.st,rfl,hq_c,pc.cls,pc.n2,rfl, ?_⟩
   and_intros
   refine ⟨q,_,dq,_, .str p.nm,rfl,hq_c,pc.cls,pc.n1,rfl, ?_⟩
   and_intros
   refine ⟨len2, ?_⟩
   intro tc2 h_tc2
   generalize q_tc2:upd Hc2 tc2 _ = Hd2
   have Sd2:=newS h_tc2 q_tc2
   have ed2:=newE q_tc2
   and_intros
   refine ⟨len2, ?_⟩
   intro tb2 h_tb2
   generalize q_tb2:upd Hd2 tb2 _ = He2
   have Se2:=newS h_tb2 q_tb2
   have ee2:=newE q_tb2
   and_intros
   have lev2:LeV He2 (p.st,(p.nm,false)) (.ref tb2):=⟨tb2,tc2,rfl,ee2,Se2 _ _ ed2⟩
   have Sce2:=Sd2.trans Se2
   have hle:=Sce2 _ _ elc
   refine ⟨l2,[],_,rfl,rfl,hle,by show 0 < sizeLine; omega, ?_⟩
   generalize u3:upd He2 l2 _ = H3
   and_intros
   have hJ3:=((hJ2.sx scx hd2).same Sce2).first hv hn0 (fun g l' hl' z => by
    rcases hJ2.at_ g with ⟨h1,_⟩ | ⟨l2,xs2,h1,_,h3,_⟩
    ·rw [hl'] at h1; cases h1
    ·rw [hl'] at h1; cases h1; rw [z,h_l2] at h3; cases h3) hle lev2 u3
   have sj3:SameJ d H2 H3:=fun b u hb hu h => by rw [← u3,Jah (fun z => by rw [z,h_l2] at h; cases h)]; exact Sce2 _ _ (scx _ _ hb h)
   have hd3:=Sce2 _ _ hdc
   rw [show He2 d = H3 d by rw [← u3,Jah (Ne.symm nd)]] at hd3
   have S03:Same H0 H3:=fun b u h => by rw [← u3,Jah (Jag h hn0)]; exact Sce2 _ _ (scx _ _ (Jag h hd0) (S02 _ _ h))
   have lp:=Ja8 kvs (Sum.inr p.en) (V.ref l2)
   rw [Jcr hne] at hJ3
   refine k H3 S03 (fun b u hb hu h => sj3 b u hb hu (sj2 b u hb hu h)) ⟨⟨dx,sj3 _ _ nj (by intro xs z; cases z) hj2⟩,hd0,_,hd3, ?_,hJ3⟩
   rw [List.length_append,List.length_singleton]
   omega
 ·have hn0:H0 l1 = none:=by
   cases e:H0 l1 with
   | none => rfl
   | some o => rw [S01 _ _ e] at h_l1; cases h_l1
  generalize uc:upd Hb1 d _ = Hc1
  and_intros
  have nd:l1 ≠ d:=fun z => by rw [z,hd1] at h_l1; cases h_l1
  have elc:Hc1 l1 = some (.lst []):=by rw [← uc,Jah nd]; exact eb1
  have scx:∀ b u,b ≠ d→H1 b = some u→Hc1 b = some u:=fun b u hb h => by rw [← uc,Jah hb]; exact Sb1 _ _ h
  have hdc:Hc1 d = some (.dK (putK kvs (Sum.inr p.st) (.ref l1))):=by rw [← uc,Jak]
  refine ⟨.inl ⟨rfl,_,SqL.of elc⟩, ?_⟩
  and_intros
  have hq_c:=scx _ _ (fun z => by rw [z,hd1] at hq1; cases hq1) hq1
  refine ⟨q,_,dq,_, .str p.en,rfl,hq_c,pc.cls,pc.n3,rfl, ?_⟩
  and_intros
  refine ⟨q,_,dq,_, .str p.nm,rfl,hq_c,pc.cls,pc.n1,rfl, ?_⟩
  and_intros
  refine ⟨len2, ?_⟩
  intro tc1 h_tc1
  generalize q_tc1:upd Hc1 tc1 _ = Hd1
  have Sd1:=newS h_tc1 q_tc1
  have ed1:=newE q_tc1
  and_intros
  refine ⟨len2, ?_⟩
  intro tb1 h_tb1
  generalize q_tb1:upd Hd1 tb1 _ = He1
  have Se1:=newS h_tb1 q_tb1
  have ee1:=newE q_tb1
  and_intros
  have lev1:LeV He1 (p.en,(p.nm,true)) (.ref tb1):=⟨tb1,tc1,rfl,ee1,Se1 _ _ ed1⟩
  have Sce1:=Sd1.trans Se1
  have hle:=Sce1 _ _ elc
  refine ⟨l1,[],_,rfl,rfl,hle,by show 0 < sizeLine; omega, ?_⟩
  generalize u2:upd He1 l1 _ = H2
  and_intros
  have hJ2:=((hJ1.sx scx hd1).same Sce1).first hv hn0 (fun g l' hl' z => by
   rcases hJ1.at_ g with ⟨h1,_⟩ | ⟨l2,xs2,h1,_,h3,_⟩
   ·rw [hl'] at h1; cases h1
   ·rw [hl'] at h1; cases h1; rw [z,h_l1] at h3; cases h3) hle lev1 u2
  have sj2:SameJ d H1 H2:=fun b u hb hu h => by rw [← u2,Jah (fun z => by rw [z,h_l1] at h; cases h)]; exact Sce1 _ _ (scx _ _ hb h)
  have hd2:=Sce1 _ _ hdc
  rw [show He1 d = H2 d by rw [← u2,Jah (Ne.symm nd)]] at hd2
  have S02:Same H0 H2:=fun b u h => by rw [← u2,Jah (Jag h hn0)]; exact Sce1 _ _ (scx _ _ (Jag h hd0) (S01 _ _ h))
  have lp:=Ja8 kvs (Sum.inr p.st) (V.ref l1)
  have hj2:=sj2 _ _ nj (by intro xs z; cases z) hj1
  have hq2:=sj2 _ _ nq (by intro xs z; cases z) hq1
  have hLn2:∀ f,(addL (JaE ls) p.st (p.en,(p.nm,true)) f).length ≤ 21:=fun f => by
   have:=Jd1 ls f
   unfold addL
   split
   ·rw [List.length_append,List.length_singleton]; omega
   ·omega
  and_intros
  refine ⟨j,_,dx,_, .ref d,rfl,hj2,jc.cls,jc.n1,rfl, ?_⟩
  and_intros
  refine ⟨d,rfl, .inl ⟨(putK kvs (Sum.inr p.st) (V.ref l1)), .inl hd2⟩, ?_⟩
  refine ⟨q,_,dq,_, .str p.en,rfl,hq2,pc.cls,pc.n3,rfl, ?_⟩
  and_intros
  refine ⟨len0, ?_⟩
  intro l2 h_l2
  generalize q_l2:upd H2 l2 _ = Hb2
  have Sb2:=newS h_l2 q_l2
  have eb2:=newE q_l2
  and_intros
  refine ⟨(putK kvs (Sum.inr p.st) (V.ref l1)),Sum.inr p.en,Sb2 _ _ hd2,rfl,by omega,fun v hv => ?_,fun hv => ?_⟩
  ·obtain ⟨l,xs,hlx,hl0,hlh,hla⟩:∃ l xs,v = .ref l∧H0 l = none∧H2 l = some (.lst xs)∧All2 (LeV H2) ((addL (JaE ls) p.st (p.en,(p.nm,true))) p.en) xs:=by
    rcases hJ2.at_ p.en with ⟨h1,_⟩ | ⟨l,xs,h1,h2,h3,h4⟩
    ·rw [hv] at h1; cases h1
    ·rw [hv] at h1; cases h1; exact ⟨l,xs,rfl,h2,h3,h4⟩
   subst hlx
   have lxs:xs.length ≤ 21:=by rw [hla.length]; exact hLn2 _
   refine ⟨.inl ⟨rfl,_,SqL.of (Sb2 _ _ hlh)⟩, ?_⟩
   and_intros
   have hq_c:=Sb2 _ _ hq2
   obtain ⟨Hc2,hHc⟩:∃ H',H' = Hb2:=⟨_,rfl⟩
   rw [← hHc] at hq_c ⊢
   refine ⟨q,_,dq,_, .str p.st,rfl,hq_c,pc.cls,pc.n2,rfl, ?_⟩
   and_intros
   refine ⟨q,_,dq,_, .str p.nm,rfl,hq_c,pc.cls,pc.n1,rfl, ?_⟩
   and_intros
   refine ⟨len2, ?_⟩
   intro tc2 h_tc2
   generalize q_tc2:upd Hc2 tc2 _ = Hd2
   have Sd2:=newS h_tc2 q_tc2
   have ed2:=newE q_tc2
   and_intros
   refine ⟨len2, ?_⟩
   intro tb2 h_tb2
   generalize q_tb2:upd Hd2 tb2 _ = He2
   have Se2:=newS h_tb2 q_tb2
   have ee2:=newE q_tb2
   and_intros
   have lev2:LeV He2 (p.st,(p.nm,false)) (.ref tb2):=⟨tb2,tc2,rfl,ee2,Se2 _ _ ed2⟩
   have Sce2:=Sd2.trans Se2
   have hle:=Sce2 _ _ (by rw [hHc]; exact Sb2 _ _ hlh:Hc2 l = some (.lst xs))
   refine ⟨l,xs,_,rfl,rfl,hle,by omega, ?_⟩
   generalize u3:upd He2 l _ = H3
   and_intros
   have Sbe:Same H2 He2:=fun b u h => Sce2 _ _ (by rw [hHc]; exact Sb2 _ _ h)
   have hJ3:=(hJ2.same Sbe).more hv hle lev2 u3
   have sj3:SameJ d H2 H3:=fun b u _ hu h => by rw [← u3,Jah (fun z => by have:=Sbe _ _ h; rw [z,hle] at this; cases this; exact hu _ rfl)]; exact Sbe _ _ h
   have hd3:H3 d = some (.dK (putK kvs (Sum.inr p.st) (V.ref l1))):=by rw [← u3,Jah (fun z => by have:=Sbe _ _ hd2; rw [z,hle] at this; cases this)]; exact Sbe _ _ hd2
   have S03:Same H0 H3:=fun b u h => by rw [← u3,Jah (Jag h hl0)]; exact Sbe _ _ (S02 _ _ h)
   rw [Jcr hne] at hJ3
   refine k H3 S03 (fun b u hb hu h => sj3 b u hb hu (sj2 b u hb hu h)) ⟨⟨dx,sj3 _ _ nj (by intro xs z; cases z) hj2⟩,hd0,_,hd3, ?_,hJ3⟩
   rw [List.length_append,List.length_singleton]
   omega
  ·have hn0:H0 l2 = none:=by
    cases e:H0 l2 with
    | none => rfl
    | some o => rw [S02 _ _ e] at h_l2; cases h_l2
   generalize uc:upd Hb2 d _ = Hc2
   and_intros
   have nd:l2 ≠ d:=fun z => by rw [z,hd2] at h_l2; cases h_l2
   have elc:Hc2 l2 = some (.lst []):=by rw [← uc,Jah nd]; exact eb2
   have scx:∀ b u,b ≠ d→H2 b = some u→Hc2 b = some u:=fun b u hb h => by rw [← uc,Jah hb]; exact Sb2 _ _ h
   have hdc:Hc2 d = some (.dK (putK (putK kvs (Sum.inr p.st) (V.ref l1)) (Sum.inr p.en) (.ref l2))):=by rw [← uc,Jak]
   refine ⟨.inl ⟨rfl,_,SqL.of elc⟩, ?_⟩
   and_intros
   have hq_c:=scx _ _ (fun z => by rw [z,hd2] at hq2; cases hq2) hq2
   refine ⟨q,_,dq,_, .str p.st,rfl,hq_c,pc.cls,pc.n2,rfl, ?_⟩
   and_intros
   refine ⟨q,_,dq,_, .str p.nm,rfl,hq_c,pc.cls,pc.n1,rfl, ?_⟩
   and_intros
   refine ⟨len2, ?_⟩
   intro tc2 h_tc2
   generalize q_tc2:upd Hc2 tc2 _ = Hd2
   have Sd2:=newS h_tc2 q_tc2
   have ed2:=newE q_tc2
   and_intros
   refine ⟨len2, ?_⟩
   intro tb2 h_tb2
   generalize q_tb2:upd Hd2 tb2 _ = He2
   have Se2:=newS h_tb2 q_tb2
   have ee2:=newE q_tb2
   and_intros
   have lev2:LeV He2 (p.st,(p.nm,false)) (.ref tb2):=⟨tb2,tc2,rfl,ee2,Se2 _ _ ed2⟩
   have Sce2:=Sd2.trans Se2
   have hle:=Sce2 _ _ elc
   refine ⟨l2,[],_,rfl,rfl,hle,by show 0 < sizeLine; omega, ?_⟩
   generalize u3:upd He2 l2 _ = H3
   and_intros
   have hJ3:=((hJ2.sx scx hd2).same Sce2).first hv hn0 (fun g l' hl' z => by
    rcases hJ2.at_ g with ⟨h1,_⟩ | ⟨l2,xs2,h1,_,h3,_⟩
    ·rw [hl'] at h1; cases h1
    ·rw [hl'] at h1; cases h1; rw [z,h_l2] at h3; cases h3) hle lev2 u3
   have sj3:SameJ d H2 H3:=fun b u hb hu h => by rw [← u3,Jah (fun z => by rw [z,h_l2] at h; cases h)]; exact Sce2 _ _ (scx _ _ hb h)
   have hd3:=Sce2 _ _ hdc
   rw [show He2 d = H3 d by rw [← u3,Jah (Ne.symm nd)]] at hd3
   have S03:Same H0 H3:=fun b u h => by rw [← u3,Jah (Jag h hn0)]; exact Sce2 _ _ (scx _ _ (Jag h hd0) (S02 _ _ h))
   have lp:=Ja8 (putK kvs (Sum.inr p.st) (V.ref l1)) (Sum.inr p.en) (V.ref l2)
   rw [Jcr hne] at hJ3
   refine k H3 S03 (fun b u hb hu h => sj3 b u hb hu (sj2 b u hb hu h)) ⟨⟨dx,sj3 _ _ nj (by intro xs z; cases z) hj2⟩,hd0,_,hd3, ?_,hJ3⟩
   rw [List.length_append,List.length_singleton]
   omega
abbrev Bae:Stmt:=inClass (top 38) 2
theorem JaJ:Jan ["self", "one", "other", "found", "waiting", "face", "lead"] ["self", "one", "other"] (Jae Bae):=⟨rfl,rfl,rfl,by decide +kernel,rfl,by decide +kernel,by decide +kernel⟩
def Ja1 (K:PySem.W.Frag) (Ad:Adr):Sp:=fun vs H Q E => ∃ (j d:Addr) (one other:Str) (ls:List PD) (H0:Hp),vs = [.ref j, .str one, .str other]∧JK Ad H0 H j d ls∧ls.length ≤ 20∧(ls.map (·.nm)).Nodup∧(¬ Conn ls one other→∀ H',Same H H'→Q .non H')∧(∀ w l xs H',Same H H'→H l = none→H' l = some (.lst xs)→All2 (CV H') w xs→Jbc ls one w other→(w.map (·.1)).Nodup→Q (.ref l) H')
theorem Jb4 {f:Addr} {fd:FuncData} {dV:Value} (F:FunD K "way_between" "Joints.way_between" Bae dV f fd) (T:Txt K mg Ad)  : FnOk P w K mg base (CX1 P w) 1 f fd ["self", "one", "other"] (Ja1 K Ad):=by
 refine F.okn JaJ (fun vs H Q E h => ?_) (fun cdv A outer s H vs Q E hr h => ?_)
 ·obtain ⟨j,d,one,other,ls,H0,rfl,_⟩:=h; rfl
 obtain ⟨j,d,one,other,ls,H0,rfl,h⟩:=h
 have hu:=hr.units
 refine ⟨_,(Jab (Jaj (i:=3) JaJ.nd rfl (Or.inl rfl) (JiB (JhF (pv 1) (JaX Jad) JiF) rfl rfl (by simp) (by decide)))
   (Jab (Jaj (i:=4) JaJ.nd rfl (Or.inl rfl) (JaX (Jaa (pv 1) Jad)))
   (Jab (Jee PassesOwn.never (Jaz JfG (Jaq JaM rfl T.Ba6 Jbb (Jaa (pv 4) Jad)) Jac (JaD _))
   (Jab (Jaj (i:=5) JaJ.nd rfl (Or.inl rfl) (Jji PySem.F.plainAttrs_list PySem.F.slot_list_pop PySem.F.type_list_pop Ji9 (pv 4)))
   (Jai (Ja2 PassesOwn.never rfl (pi_U (JhD (hu1 hu) (Jax (pv 0) rfl) (pv 5) (JaX Jad) ⟨rfl,rfl,rfl,rfl⟩)) (Jav (i:=6) JaJ.nd rfl (Or.inl rfl))
   (Jai (ps_if (JfM (JeJ (hu1 hu) (pe_ix ix_U (pv 6) Jac (fun _ _ => rfl)) (pv 3)) (by with_unfolding_all rfl))
   (Jab (Jb5 (hu1 hu) (pv 3) (pe_ix ix_U (pv 6) Jac (fun _ _ => rfl)) (pe_op JaL (Ja9 (hu1 hu) (pv 3) (pv 5) (fun _ _ => rfl)) (JaX (Jaa (pe_ix ix_U (pv 6) Jac (fun _ _ => rfl)) Jad))) rfl)
   (Jai (Jbt (pe_bm PySem.F.plainAttrs_list PySem.F.slot_list_append PySem.F.type_list_append Jbr (pv 4) (Jaa (pe_ix ix_U (pv 6) Jac (fun _ _ => rfl)) Jad) (hs:=by exact Jaf rfl)))))
   JaB))))))
   (Jai (Jas (JhC (hu1 hu) (pv 3) (pv 2) ⟨rfl,rfl,rfl,rfl⟩)))))), ?_⟩
 obtain ⟨⟨⟨dx,hj⟩,hd0,kvs,hd,hk,hJ⟩,hl,hnd,k1,k2⟩:=h
 have sl:(1000:Nat) ≤ sizeLine:=by decide
 have jc:=T.Bb4 _ rfl
 show tSeq _ _ _ [some (.ref j),some (.str one),some (.str other),none,none,none,none] H
 and_intros
 intro fd h_fd
 generalize q_fd:upd H fd _ = H1
 have S1:=newS h_fd q_fd
 have e1:=newE q_fd
 and_intros
 refine ⟨len0, ?_⟩
 intro l0 h_l0
 generalize q_l0:upd H1 l0 _ = H2
 have S2:=newS h_l0 q_l0
 have e2:=newE q_l0
 and_intros
 refine ⟨S2 _ _ e1,[(Sum.inr one, .ref l0)],rfl,by show 1 ≤ 15; omega, ?_⟩
 generalize u3:upd H2 fd _ = H3
 and_intros
 have e3:H3 fd = some (.dK [(Sum.inr one, .ref l0)]):=by rw [← u3]; exact Jak.trans rfl
 have nl0:l0 ≠ fd:=fun z => by rw [z,e1] at h_l0; cases h_l0
 have e3l:H3 l0 = some (.lst []):=by rw [← u3,Jah nl0]; exact e2
 have S03:Same H H3:=fun b u h => by rw [← u3,Jah (Jag h h_fd)]; exact S2 _ _ (S1 _ _ h)
 have h0l:H l0 = none:=by
  cases e:H l0 with
  | none => rfl
  | some o => rw [S1 _ _ e] at h_l0; cases h_l0
 refine ⟨by show 1 ≤ sizeLine; omega, ?_⟩
 intro wl h_wl
 generalize q_wl:upd H3 wl _ = H4
 have S4:=newS h_wl q_wl
 have e4:=newE q_wl
 and_intros
 have h0w:H wl = none:=by
  cases e:H wl with
  | none => rfl
  | some o => rw [S03 _ _ e] at h_wl; cases h_wl
 have nwl:l0 ≠ wl:=fun z => by rw [← z,e3l] at h_wl; cases h_wl
 have nfw:fd ≠ wl:=fun z => by rw [← z,e3] at h_wl; cases h_wl
 have sr0:Srch H ls one fd wl H4 [(one,[])] [one]:=⟨S03.trans S4,⟨_,S4 _ _ e3,rfl, .ref l0,[],rfl,⟨l0,[],rfl,h0l,nwl,S4 _ _ e3l,rfl⟩,rfl⟩,by simp,by simp,fun a ha => by rw [List.mem_singleton.mp ha]; exact .nil,e4,by simp,by simp,fun a ha => by rw [List.mem_singleton.mp ha]; simp⟩
 refine ⟨fun m σ H' => ∃ (v5 v6:Option V) (ws:List (Str × List Pr)) (wt:List Str), σ = [some (.ref j),some (.str one),some (.str other),some (.ref fd),some (.ref wl),v5,v6]∧Srch H ls one fd wl H' ws wt∧(∀ a ∈ ws,a.1 ∉ wt→∀ e ∈ JaE ls a.1,e.1 ∈ ws.map (·.1))∧m = 2 * (41 - ws.length) + wt.length∧m ≤ 81,⟨_,none,none,[(one,[])],[one],rfl,sr0,fun a ha hn => absurd (by rw [List.mem_singleton.mp ha]; simp) hn,rfl,by simp⟩, ?_⟩
 rintro m σ H5 ⟨v5,v6,ws,wt,rfl,sr,cl,rfl,m81⟩
 and_intros
 refine ⟨_, .inl (SqL.of sr.wait), ?_⟩
 and_intros
 rcases List.eq_nil_or_concat wt with rfl | ⟨wt',face,rfl⟩
 ·rw [if_neg (by simp)]
  and_intros
  obtain ⟨kv5,hf5,hb5⟩:=sr.dict
  and_intros
  refine ⟨fd,rfl, .inl ⟨kv5, .inl hf5⟩,_,DGet.k (k:=Sum.inr other) hf5, ?_⟩
  rcases hb5.get (z:=other) with ⟨a,v,h1,h2,h3,l,xs,rfl,h4,_,h5,h6⟩ | ⟨h1,h2⟩
  ·rw [h3]
   exact k2 a.2 l xs H5 sr.same h4 h5 h6 (by rw [← h2]; exact sr.walk a h1) (sr.sim a h1).1
  ·rw [h2]
   refine k1 (fun hc => h1 (Jie sr.here (fun f hf e he => ?_) hc)) H5 sr.same
   obtain ⟨a,ha,rfl⟩:=List.mem_map.mp hf
   exact cl a ha (by simp) e he
 ·rw [if_pos (by simp)]
  and_intros
  rw [List.concat_eq_append] at sr cl m81 ⊢
  refine ⟨_,fun _ _ q => q, ?_⟩
  and_intros
  refine ⟨.inl ⟨rfl,_,SqL.of sr.wait⟩, ?_⟩
  refine ⟨wl,_, .str face,rfl,rfl,sr.wait,by simp, ?_⟩
  generalize u6:upd H5 wl _ = H6
  and_intros
  have ed:((wt' ++ [face]).map V.str).dropLast = wt'.map V.str:=by simp
  rw [ed] at u6
  have sr6:Srch H ls one fd wl H6 ws wt':=sr.wait' h0w u6 fun f hf => sr.sub f (by simp [hf])
  have hface:=sr.sub face (by simp)
  and_intros
  refine ⟨j,_,dx,_, .ref d,rfl,sr6.same _ _ hj,jc.cls,jc.n1,rfl, ?_⟩
  and_intros
  refine ⟨d,rfl, .inl ⟨kvs, .inl (sr6.same _ _ hd)⟩,len0, ?_⟩
  intro le h_le
  generalize q_le:upd H6 le _ = H7
  have S7:=newS h_le q_le
  have e7:=newE q_le
  and_intros
  have sr7:=sr6.grow S7
  have nle:le ≠ wl:=fun z => by have:=sr6.wait; rw [← z,h_le] at this; cases this
  refine ⟨_,DGet.k (k:=Sum.inr face) (sr7.same _ _ hd), ?_⟩
  obtain ⟨la,xs,hla,hxs,hlx,nla⟩:∃ la xs,(valV kvs (Sum.inr face)).getD (.ref le) = .ref la∧H7 la = some (.lst xs)∧All2 (LeV H7) (JaE ls face) xs∧la ≠ wl:=by
   rcases hJ.at_ face with ⟨h1,h2⟩ | ⟨l,xs,h1,h2,h3,h4⟩
   ·exact ⟨le,[],by rw [h1]; rfl,e7,by rw [h2]; rfl,nle⟩
   ·exact ⟨l,xs,by rw [h1]; rfl,sr7.same _ _ h3,h4.mono fun _ _ z => z.sameT sr7.same.t,Jag h3 h0w⟩
  have lx:=hlx.length
  have l41:=sr7.len hl
  refine ⟨la,hla,ForA.byL (xs:=xs) (SqL.of hxs) (fun i σ H' => i ≤ xs.length∧∃ (v6:Option V) (ws2:List (Str × List Pr)) (wt2:List Str), σ = [some (.ref j),some (.str one),some (.str other),some (.ref fd),some (.ref wl),some (.str face),v6]∧Srch H ls one fd wl H' ws2 wt2∧H' la = some (.lst xs)∧SameT H7 H'∧(∀ a ∈ ws2,a.1 ∉ wt2→a.1 ≠ face→∀ e ∈ JaE ls a.1,e.1 ∈ ws2.map (·.1))∧(∀ e ∈ (JaE ls face).take i,e.1 ∈ ws2.map (·.1))∧face ∈ ws2.map (·.1)∧2 * (41 - ws2.length) + wt2.length ≤ 2 * (41 - ws.length) + wt'.length) ⟨Nat.zero_le _,v6,ws,wt',rfl,sr7,hxs,SameT.refl _,fun a ha h1 h2 => cl a ha (by simp [h1,h2]),by simp,hface,Nat.le_refl _⟩ (fun i σ H' z => by obtain ⟨_,_,_,_,_,_,z,_⟩:=z; exact SqL.of z) ?_ ?_⟩
  ·rintro i y σ H8 hy ⟨hi,v6,ws2,wt2,rfl,sr8,hl8,T78,cl8,pt8,fc8,ms8⟩
   have li:i < xs.length:=(List.getElem?_eq_some_iff.mp hy).1
   obtain ⟨e,he,b,c,rfl,hb7,hc7⟩:=hlx.at_ hy
   have hb8:=T78 _ _ rfl hb7
   have hc8:=T78 _ _ rfl hc7
   have etk:(JaE ls face).take (i + 1) = (JaE ls face).take i ++ [e]:=by rw [List.take_succ,he]; rfl
   have hem:e ∈ JaE ls face:=List.mem_of_getElem? he
   obtain ⟨kv8,hf8,bg8⟩:=sr8.dict
   and_intros
   refine ixT (i:=0) (SqT.of hb8) rfl ?_
   refine ⟨fd,_,rfl,DGet.k (k:=Sum.inr e.1) hf8, ?_⟩
   rw [bg8.val]
   by_cases cin:e.1 ∈ ws2.map (·.1)
   ·rw [decide_eq_true cin]
    and_intros
    refine ⟨li,_,ws2,wt2,rfl,sr8,hl8,T78,cl8,fun e' he' => ?_,fc8,ms8⟩
    rw [etk] at he'
    rcases List.mem_append.mp he' with h' | h'
    ·exact pt8 e' h'
    ·rw [List.mem_singleton.mp h']
     exact cin
   ·rw [decide_eq_false cin]
    and_intros
    obtain ⟨a,v,ha,haf,hv,l,xw,rfl,hl0,hlw,hlx8,hxa⟩:=bg8.some fc8
    have wl8:=sr8.lw a ha
    have w41:=sr8.len hl
    have lxw:=hxa.length
    refine ⟨fd, .ref l,rfl,by rw [← hv]; exact DGet.k (k:=Sum.inr face) hf8, ?_⟩
    refine ixT (i:=1) (SqT.of hb8) rfl ?_
    refine ⟨by show 1 ≤ sizeLine; omega, ?_⟩
    intro ln h_ln
    generalize q_ln:upd H8 ln _ = H9
    have S9:=newS h_ln q_ln
    have e9:=newE q_ln
    and_intros
    refine .inl ⟨l,ln,xw,_,rfl,rfl,S9 _ _ hlx8,e9,by simp; omega, ?_⟩
    intro lr h_lr
    generalize q_lr:upd H9 lr _ = H10
    have S10:=newS h_lr q_lr
    have e10:=newE q_lr
    and_intros
    and_intros
    have S810:=S9.trans S10
    have sr10:=sr8.grow S810
    refine ixT (i:=0) (SqT.of (S810 _ _ hb8)) rfl ?_
    have lk:=bg8.length
    refine ⟨fd,_,rfl,DPut.k (k:=Sum.inr e.1) (S810 _ _ hf8) (by omega), ?_⟩
    generalize u11:upd H10 fd _ = H11
    and_intros
    have n0:H lr = none:=by
     cases e:H lr with
     | none => rfl
     | some o => rw [S9 _ _ (sr8.same _ _ e)] at h_lr; cases h_lr
    have nlr:lr ≠ wl:=fun z => by have:=(sr8.grow S9).wait; rw [← z,h_lr] at this; cases this
    have hwk:Jbc ls one (a.2 ++ [e.2]) e.1:=.snoc (by rw [← haf]; exact sr8.walk a ha) hem
    have hf10:=S810 _ _ hf8
    have bg10:=bg8.mono (P':=PWy H H10 wl) fun a v ⟨l,xs,e1,hn,hne,hx,ha⟩ => ⟨l,xs,e1,hn,hne,S810 _ _ hx,ha.mono fun _ _ z => z.sameT S810.t⟩
    have cv:CV H10 e.2 (.ref c):=⟨c,rfl,S810 _ _ hc8⟩
    obtain ⟨pp,hpp,hpe⟩:=(Jbe (g:=e.1) (pr:=e.2)).mp hem
    have hpn:e.2.1 = pp.nm:=by rcases hpe with h | h; rw [h.2.2]; rw [h.2.2.2]
    have hps:(pp.st = face∧pp.en = e.1) ∨ (pp.en = face∧pp.st = e.1):=by rcases hpe with h | h; exact .inl ⟨h.1,h.2.1⟩; exact .inr ⟨h.2.1,h.2.2.1⟩
    have hsm:((a.2 ++ [e.2]).map (·.1)).Nodup∧∀ p ∈ ls,p.nm ∈ (a.2 ++ [e.2]).map (·.1)→p.st ∈ (ws2 ++ [(e.1,a.2 ++ [e.2])]).map (·.1)∧p.en ∈ (ws2 ++ [(e.1,a.2 ++ [e.2])]).map (·.1):=by
     have sm:=sr8.sim a ha
     have nin:e.2.1 ∉ a.2.map (·.1):=fun z => by
      have:=sm.2 pp hpp (hpn ▸ z)
      rcases hps with h | h
      ·exact cin (h.2 ▸ this.2)
      ·exact cin (h.2 ▸ this.1)
     rw [List.map_append,List.map_append,List.map_cons,List.map_nil,List.map_cons,List.map_nil]
     refine ⟨List.nodup_append.mpr ⟨sm.1,by simp,fun x hx y hy z => nin (by rw [List.mem_singleton] at hy; rw [← hy, ← z]; exact hx)⟩,fun p hp hn => ?_⟩
     rcases List.mem_append.mp hn with hn | hn
     ·have:=sm.2 p hp hn
      exact ⟨List.mem_append.mpr (.inl this.1),List.mem_append.mpr (.inl this.2)⟩
     ·have ep:=JgO hnd hp hpp ((List.mem_singleton.mp hn).trans hpn)
      subst ep
      have m1:e.1 ∈ ws2.map (·.1) ++ [e.1]:=List.mem_append.mpr (.inr (by simp))
      have m2:face ∈ ws2.map (·.1) ++ [e.1]:=List.mem_append.mpr (.inl fc8)
      rcases hps with h | h
      ·rw [h.1,h.2]
       exact ⟨m2,m1⟩
      ·rw [h.1,h.2]
       exact ⟨m1,m2⟩
    have sr11:=sr10.find hf10 bg10 h_fd cin hwk (by simp; omega) hsm n0 nlr e10 ((hxa.mono (P':=CV H10) fun _ _ z => z.sameT S810.t).append (.one cv)) u11
    have T11:SameT H10 H11:=SameT.put u11 hf10 rfl
    have nlf:la ≠ fd:=fun z => by rw [z,hf8] at hl8; cases hl8
    have hl11:H11 la = some (.lst xs):=by rw [← u11,Jah nlf]; exact S810 _ _ hl8
    have l11:=sr11.len hl
    rw [List.length_append,List.length_singleton] at l11
    have lw':(wt2.map V.str).length ≤ 81:=by
     rw [List.length_map]
     rw [List.length_append,List.length_singleton] at m81
     omega
    refine ⟨.inl ⟨rfl,_,SqL.of sr11.wait⟩, ?_⟩
    refine ixT (i:=0) (SqT.of (T11 _ _ rfl (S810 _ _ hb8))) rfl ?_
    refine ⟨wl,_,_,rfl,rfl,sr11.wait,by omega, ?_⟩
    generalize u12:upd H11 wl _ = H12
    and_intros
    have ea:wt2.map V.str ++ [V.str e.1] = (wt2 ++ [e.1]).map V.str:=by simp
    rw [ea] at u12
    have sr12:=sr11.wait' h0w u12 (fun f hf => by
     rcases List.mem_append.mp hf with h' | h'
     ·exact sr11.sub f h'
     ·rw [List.mem_singleton.mp h',List.map_append]
      simp)
    have T12:SameT H11 H12:=SameT.put u12 sr11.wait rfl
    refine ⟨li,_,ws2 ++ [(e.1,a.2 ++ [e.2])],wt2 ++ [e.1],rfl,sr12,by rw [← u12,Jah nla]; exact hl11,T78.trans (S810.t.trans (T11.trans T12)),fun a' ha' h1 h2 e' he' => ?_,fun e' he' => ?_, ?_, ?_⟩
    ·rw [List.map_append]
     rcases List.mem_append.mp ha' with h' | h'
     ·exact List.mem_append.mpr (.inl (cl8 a' h' (fun z => h1 (by simp [z])) h2 e' he'))
     ·refine absurd ?_ h1
      rw [List.mem_singleton.mp h']
      simp
    ·rw [List.map_append]
     rw [etk] at he'
     rcases List.mem_append.mp he' with h' | h'
     ·exact List.mem_append.mpr (.inl (pt8 e' h'))
     ·rw [List.mem_singleton.mp h']
      simp
    ·rw [List.map_append]
     exact List.mem_append.mpr (.inl fc8)
    ·rw [List.length_append,List.length_append,List.length_singleton,List.length_singleton]
     omega
  ·rintro σ H8 ⟨hi,v6,ws2,wt2,rfl,sr8,hl8,T78,cl8,pt8,fc8,ms8⟩
   rw [List.length_append,List.length_singleton] at m81
   refine ⟨_,by rw [List.length_append,List.length_singleton]; omega,some (.str face),v6,ws2,wt2,rfl,sr8,fun a ha hn e he => ?_,rfl,by omega⟩
   by_cases c:a.1 = face
   ·rw [List.take_of_length_le (by omega)] at pt8
    rw [c] at he
    exact pt8 e he
   ·exact cl8 a ha hn c e he
abbrev Baj:Stmt:=inClass (top 39) 0
theorem JaI:Jan ["self", "parts", "gaps", "joints", "row", "part", "gap", "found"] ["self", "parts", "gaps"] (Jae Baj):=⟨rfl,rfl,rfl,by decide +kernel,rfl,by decide +kernel,by decide +kernel⟩
def Jbo (K:PySem.W.Frag) (Ad:Adr):Sp:=fun vs H Q E => ∃ (x dx a c:Addr) (xs zs:List V) (es:List (PD ⊕ D)) (fs:List (GD ⊕ D)) (H0:Hp),vs = [.ref x, .ref a, .ref c]∧H x = some (.ins Ad.Thing dx [])∧H0 x = none∧Same H0 H∧SqL K H0 a xs∧All2 (PEV K H0) es xs∧SqL K H0 c zs∧All2 (GEV K H0) fs zs∧es.length ≤ 20∧fs.length ≤ 20∧(match partsW [] es with | .noPart => ∀ H',Same H0 H'→E (.ref Ad.NoPart) none H' | .twice => ∀ H',Same H0 H'→E (.ref Ad.Twice) none H' | .ring => ∀ H',Same H0 H'→E (.ref Ad.InRing) none H' | .ok ls => match gapsW ls [] fs with | .noGap => ∀ H',Same H0 H'→E (.ref Ad.NoGap) none H' | .twice => ∀ H',Same H0 H'→E (.ref Ad.Twice) none H' | .apart => ∀ H',Same H0 H'→E (.ref Ad.Apart) none H' | .ok gs => ∀ H',Same H0 H'→TK K Ad H' x ls gs→Q .non H')
theorem JcF {f:Addr} {fd:FuncData} {dV:Value} (F:FunD K "__init__" "Thing.__init__" Baj dV f fd) (T:Txt K mg Ad) (BcG:KCal P w K mg base 1 "Joints" Ad.Joints ["self"] (Jbg K Ad)) (Bcs:Cal P w K mg base 6 "part_of" ["thing"] [] (JcM K Ad)) (BcH:Cal P w K mg base 7 "gap_of" ["thing"] [] (Jdp K Ad)) (BaN:MCal P w K mg base 1 "way_between" (Jcq Ad) ["self", "one", "other"] (Ja1 K Ad)) (Bdj:MCal P w K mg base 1 "link" (Jcq Ad) ["self", "part"] (JbF K Ad)):FnOk P w K mg base (CX1 P w) 9 f fd ["self", "parts", "gaps"] (Jbo K Ad):=by
 refine F.okx JaI (fun vs H Q E h => ?_) (fun cdv A outer s H vs Q E hr h => ?_)
 ·obtain ⟨x,dx,a,c,xs,zs,es,fs,H0,rfl,_⟩:=h; rfl
 obtain ⟨x,dx,a,c,xs,zs,es,fs,H0,rfl,h⟩:=h
 have hu:=hr.units
 refine ⟨_,(Jab (Jaj (i:=3) JaI.nd rfl (Or.inl rfl) (BcG.ev0 hr (by decide) rfl pass1))
   (Jab (Jbk (pv 0) JbK rfl)
   (Jab (Ja2 PassesOwn.leaving rfl (pi_U (pv 1)) (Jav (i:=4) JaI.nd rfl (Or.inl rfl))
   (Jab (Jaj (i:=5) JaI.nd rfl (Or.inl rfl) (Bcs.ev hr (by decide) rfl pass1 (Jaa (pv 4) Jad) (he:=by exact Jaf rfl)))
   (Jab (ps_if (JfM (JhX (hu1 hu) (Jax (pv 5) rfl) (Jax (pv 0) rfl)) (by with_unfolding_all rfl))
   (Jai (JbL PySem.F.excBase_ValueError T.Bb7 rfl T.Bdg (Jaa Jb1 Jad)))
   JaB)
   (Jab (ps_if (Jaz Jec (BaN.m hr (by decide) pass1 (pv 3) (Jaa (Jax (pv 5) rfl) (Jaa (Jax (pv 5) rfl) Jad))) Jdm (JaD _))
   (Jai (JbL PySem.F.excBase_ValueError T.BbT rfl T.Bdu (Jaa Jb1 Jad)))
   JaB)
   (Jab (Jbt (Bdj.m hr (by decide) pass1 (pv 3) (Jaa (pv 5) Jad)))
   (Jai (Jb5 (hu1 hu) (Jax (pv 0) rfl) (Jax (pv 5) rfl) (pv 5) rfl)))))))
   (Jab (Jbk (pv 0) JbK rfl)
   (Jab (Jbk (pv 0) JbK rfl)
   (Jai (Ja2 PassesOwn.leaving rfl (pi_U (pv 2)) (Jav (i:=4) JaI.nd rfl (Or.inl rfl))
   (Jab (Jaj (i:=6) JaI.nd rfl (Or.inl rfl) (BcH.ev hr (by decide) rfl pass1 (Jaa (pv 4) Jad) (he:=by exact Jaf rfl)))
   (Jab (ps_if (JfM (JhX (hu1 hu) (Jax (pv 6) rfl) (Jax (pv 0) rfl)) (by with_unfolding_all rfl))
   (Jai (JbL PySem.F.excBase_ValueError T.Bb7 rfl T.Bdg (Jaa Jb1 Jad)))
   JaB)
   (Jab (Jaj (i:=7) JaI.nd rfl (Or.inl rfl) (BaN.m hr (by decide) pass1 (pv 3) (Jaa (Jax (pv 6) rfl) (Jaa (Jax (pv 6) rfl) Jad))))
   (Jab (ps_if (Jaz Jeb (pv 7) Jdm (JaD _))
   (Jai (JbL PySem.F.excBase_ValueError T.Bch rfl T.BdC (Jaa Jb1 Jad)))
   JaB)
   (Jab (Jb5 (hu1 hu) (Jax (pv 0) rfl) (Jax (pv 6) rfl) (pv 6) rfl)
   (Jai (Jb5 (hu1 hu) (Jax (pv 0) rfl) (Jax (pv 6) rfl) (pv 7) rfl)))))))))))))), ?_⟩
 obtain ⟨hx,hx0,S0,hS,hE,hC,hG,hl,hg,k⟩:=h
 have tc:=T.BaV _ rfl
 have pc:=T.BcB _ rfl
 have gc:=T.Bdh _ rfl
 have sl:(1000:Nat) ≤ sizeLine:=by decide
 have le:=hE.length
 have lg:=hG.length
 show tSeq _ _ _ [some (.ref x),some (.ref a),some (.ref c),none,none,none,none,none] H
 symm_saturate
 intro j dj hj hdj nj
 have Sm:Same H (upd (upd H dj (.own j)) j (.ins Ad.Joints dj [])):=fun b u q => by rw [Jah (Jag q hj),Jah (Jag q hdj)]; exact q
 generalize um:upd (upd H dj (.own j)) j (.ins Ad.Joints dj []) = Hm at Sm ⊢
 symm_saturate
 have em:Hm j = some (.ins Ad.Joints dj []):=by rw [← um,Jak]
 refine ⟨j,dj,rfl,em,fun d H1 hd1 ndj e1j e1d fr1 => ⟨rfl, ?_⟩⟩
 have fresh:∀ {H:Hp} {b:Addr},Same H0 H→H b = none→H0 b = none:=fun {H b} S h => by
  cases e:H0 b with
  | none => rfl
  | some o => rw [S _ _ e] at h; cases h
 have sdI:∀ {H H':Hp} {d:Addr} {kv:List (Key × V)},(∀ b u,b ≠ d→H b = some u→H' b = some u)→H d = some (.dK kv)→SameI H H':=fun {H H' d kv} S hd b u t h => S b u (fun z => by rw [z,hd] at h; cases h; simp [isTI,isTF] at t) h
 have sdL:∀ {H H':Hp} {d b:Addr} {kv:List (Key × V)} {ys:List V},(∀ b u,b ≠ d→H b = some u→H' b = some u)→H d = some (.dK kv)→H b = some (.lst ys)→H' b = some (.lst ys):=fun {H H' d b kv ys} S hd h => S _ _ (fun z => by rw [z,hd] at h; cases h) h
 have sdJ:∀ {H H':Hp} {e:Addr} {kv:List (Key × V)} {ls:List PD},(∀ b u,b ≠ e→H b = some u→H' b = some u)→H e = some (.dK kv)→e ≠ d→JK Ad H0 H j d ls→JK Ad H0 H' j d ls:=fun {H H' e kv ls} S he ne ⟨⟨dj,h1⟩,h2,kvs,h3,h4,h5⟩ => ⟨⟨dj,S _ _ (fun z => by rw [z,he] at h1; cases h1) h1⟩,h2,kvs,S _ _ (Ne.symm ne) h3,h4,h5.sx S he⟩
 have j0:=fresh S0 hj
 have S01:Same H0 H1:=fun b u h => fr1 b u (Jag h j0) (Sm _ _ (S0 _ _ h))
 have nxj:x ≠ j:=Jag hx hj
 have hx1:H1 x = some (.ins Ad.Thing dx []):=fr1 x _ nxj (Sm _ _ hx)
 have d0:H0 d = none:=fresh (S0.trans Sm) hd1
 intro d1 h_d1
 generalize q_d1:upd H1 d1 _ = H2
 have S2:=newS h_d1 q_d1
 have e2:=newE q_d1
 symm_saturate
 symm_saturate
 refine ⟨x,_,dx,_,rfl,S2 _ _ hx1,tc.cls,tc.n1,by simp, ?_⟩
 generalize u3:upd H2 x _ = H3
 symm_saturate
 have e3:H3 x = some (.ins Ad.Thing dx [("parts_by_name", .ref d1)]):=by rw [← u3]; exact Jak.trans rfl
 have fr3:∀ b u,b ≠ x→H2 b = some u→H3 b = some u:=fun b u hb h => by rw [← u3,Jah hb]; exact h
 have S03:Same H0 H3:=fun b u h => fr3 _ _ (Jag h hx0) (S2 _ _ (S01 _ _ h))
 have ndx:d ≠ x:=fun z => by rw [z,hx1] at e1d; cases e1d
 have nd1x:d1 ≠ x:=fun z => by rw [z,hx1] at h_d1; cases h_d1
 have nd1d:d1 ≠ d:=fun z => by rw [z,e1d] at h_d1; cases h_d1
 have e3d1:H3 d1 = some (.dK []):=fr3 _ _ nd1x e2
 have d10:=fresh S01 h_d1
 have jk3:JK Ad H0 H3 j d []:=⟨⟨dj,fr3 _ _ (Ne.symm nxj) (S2 _ _ e1j)⟩,d0,[],fr3 _ _ ndx (S2 _ _ e1d),by simp,JD.nil⟩
 refine ⟨a,rfl,ForA.byL (xs:=xs) (hS.same S03) (fun i σ H' => i ≤ xs.length∧∃ (v4 v5:Option V) (k1:List (Key × V)) (ls:List PD), σ = [some (.ref x),some (.ref a),some (.ref c),some (.ref j),v4,v5,none,none]∧Same H0 H'∧H' x = some (.ins Ad.Thing dx [("parts_by_name", .ref d1)])∧JK Ad H0 H' j d ls∧H' d1 = some (.dK k1)∧BG (·.nm) (POV K Ad H') ls k1∧ls.length = i∧(ls.map (·.nm)).Nodup∧partsW ls (es.drop i) = partsW [] es) ⟨Nat.zero_le _,none,none,[],[],rfl,S03,e3,jk3,e3d1,⟨rfl,rfl⟩,rfl, .nil,rfl⟩ (fun i σ H' z => by obtain ⟨_,_,_,_,_,_,z,_⟩:=z; exact hS.same z) ?_ ?_⟩
 ·rintro i y σ H4 hy ⟨hi,v4,v5,k1,ls,rfl,S4,hx4,jk4,hd4,bg4,hli,hnd,hw⟩
  have li:i < xs.length:=(List.getElem?_eq_some_iff.mp hy).1
  obtain ⟨e,he,ev0⟩:=hE.at_ hy
  have lie:i < es.length:=by omega
  have edr:es.drop i = e :: es.drop (i + 1):=by
   rw [List.drop_eq_getElem_cons lie]
   rw [List.getElem?_eq_getElem lie] at he
   rw [Option.some.inj he]
  rw [edr] at hw
  have lk:=bg4.length
  symm_saturate
  match e,ev0.same S4,hw with
  | .inr cc,ev,hw =>
   rw [Jga] at hw
   rw [← hw] at k
   exact ⟨y, .inr cc,rfl,ev,fun H5 S5 => k H5 (S4.trans S5)⟩
  | .inl p,ev,hw =>
   refine ⟨y, .inl p,rfl,ev,fun v H5 S5 pv => ?_⟩
   obtain ⟨q,dq,vz,vm,rfl,hq5,hz,hm⟩:=id pv
   have ok:=ev.2
   have hx5:=S5 _ _ hx4
   have hd5:=S5 _ _ hd4
   have jk5:=jk4.same S5
   have bg5:=bg4.mono (P':=POV K Ad H5) fun _ _ z => z.si (Same.i S5)
   obtain ⟨⟨dj5,hj5⟩,_⟩:=id jk5
   symm_saturate
   refine ⟨q,_,dq,_, .str p.nm,rfl,hq5,pc.cls,pc.n1,rfl, ?_⟩
   refine ⟨x,_,dx,_, .ref d1,rfl,hx5,tc.cls,tc.n1,rfl, ?_⟩
   refine ⟨d1,_,rfl,DGet.k (k:=Sum.inr p.nm) hd5, ?_⟩
   rw [bg5.val]
   by_cases cn:p.nm ∈ ls.map (·.nm)
   ·rw [Jgb cn] at hw
    rw [← hw] at k
    rw [decide_eq_true cn]
    symm_saturate
    exact ⟨by show 1 ≤ sizeLine; omega,k H5 (S4.trans S5)⟩
   ·rw [decide_eq_false cn]
    symm_saturate
    refine ⟨j,_,dj5,_,rfl,hj5,rfl,rfl, ?_⟩
    symm_saturate
    refine ⟨q,_,dq,_, .str p.st,rfl,hq5,pc.cls,pc.n2,rfl, ?_⟩
    refine ⟨q,_,dq,_, .str p.en,rfl,hq5,pc.cls,pc.n3,rfl, ?_⟩
    refine ⟨j,d,p.st,p.en,ls,H0,rfl,jk5,by omega,hnd,fun hc H6 S6 => ?_,fun w l yy H6 S6 hl6 e6 hcv hwk _ => ?_⟩
    ·rw [Jcy cn hc] at hw
     symm_saturate
     have jk6:=jk5.same S6
     have S06:=S4.trans (S5.trans S6)
     refine ⟨j,_,dj5,_,rfl,S6 _ _ hj5,rfl,rfl, ?_⟩
     symm_saturate
     refine ⟨j,d, .ref q,ls,p,H0,rfl,jk6,S06,pv.si (Same.i S6),ok.ne,by omega,fun H7 S07 sj jk7 => ?_⟩
     have nd:∀ {b:Addr} {C dd:Addr} {ff:List (Str × V)},H6 b = some (.ins C dd ff)→H7 b = some (.ins C dd ff):=fun {b C dd ff} h => by
      obtain ⟨_,_,_,hdd,_⟩:=jk6
      exact sj _ _ (fun z => by rw [z,hdd] at h; cases h) (by intro xs z; cases z) h
     have SI:SameI H6 H7:=fun b u t h => by
      obtain ⟨_,_,_,hdd,_⟩:=jk6
      exact sj b u (fun z => by rw [z,hdd] at h; cases h; simp [isTI,isTF] at t) (fun xs z => by rw [z] at t; simp [isTI,isTF] at t) h
     have hd7:H7 d1 = some (.dK k1):=sj _ _ nd1d (by intro xs z; cases z) (S6 _ _ hd5)
     have bg7:=bg5.mono (P':=POV K Ad H7) fun _ _ z => (z.si (Same.i S6)).si SI
     have pv7:=(pv.si (Same.i S6)).si SI
     symm_saturate
     refine ⟨x,_,dx,_, .ref d1,rfl,nd (S6 _ _ hx5),tc.cls,tc.n1,rfl, ?_⟩
     refine ⟨q,_,dq,_, .str p.nm,rfl,nd (S6 _ _ hq5),pc.cls,pc.n1,rfl, ?_⟩
     refine ⟨d1,_,rfl,DPut.k (k:=Sum.inr p.nm) hd7 (by omega), ?_⟩
     generalize u8:upd H7 d1 _ = H8
     symm_saturate
     have e8:=putE u8
     have sd8:∀ b u,b ≠ d1→H7 b = some u→H8 b = some u:=fun b u hb h => by rw [← u8,Jah hb]; exact h
     have SI8:=sdI sd8 hd7
     refine ⟨li,_,_,_,ls ++ [p],rfl,fun b u h => sd8 _ _ (Jag h d10) (S07 _ _ h),sd8 _ _ (Ne.symm nd1x) (nd (S6 _ _ hx5)),sdJ sd8 hd7 nd1d jk7,e8, ?_,by simp [hli],by rw [List.map_append]; exact List.nodup_append.mpr ⟨hnd,by simp,fun u hu v hv z => cn (by have e:v = p.nm:=List.mem_singleton.mp hv; rw [← e, ← z]; exact hu)⟩,hw⟩
     exact (bg7.new (a:=p) cn pv7).mono fun _ _ z => z.si SI8
    ·by_cases hc:Conn ls p.st p.en
     ·rw [Jff cn hc] at hw
      rw [← hw] at k
      symm_saturate
      exact ⟨by show 1 ≤ sizeLine; omega,k H6 (S4.trans (S5.trans S6))⟩
     ·exact absurd ⟨w,hwk⟩ hc
 ·rintro σ H4 ⟨hi,v4,v5,k1,ls,rfl,S4,hx4,jk4,hd4,bg4,hli,hnd,hw⟩
  rw [List.drop_eq_nil_of_le (by omega),partsW] at hw
  rw [← hw] at k
  dsimp only at k
  symm_saturate
  obtain ⟨⟨dj4,hj4⟩,_,kd4,hdd4,hkd4,hJ4⟩:=id jk4
  intro d2 h_d2
  generalize q_d2:upd H4 d2 _ = H5
  have S5:=newS h_d2 q_d2
  have e5:=newE q_d2
  symm_saturate
  refine ⟨x,_,dx,_,rfl,S5 _ _ hx4,tc.cls,tc.n2,by simp, ?_⟩
  generalize u6:upd H5 x _ = H6
  symm_saturate
  have e6:H6 x = some (.ins Ad.Thing dx [("parts_by_name", .ref d1),("gaps_by_name", .ref d2)]):=by rw [← u6]; exact Jak.trans rfl
  have fr6:∀ b u,b ≠ x→H5 b = some u→H6 b = some u:=fun b u hb h => by rw [← u6,Jah hb]; exact h
  symm_saturate
  intro d3 h_d3
  generalize q_d3:upd H6 d3 _ = H7
  have S7:=newS h_d3 q_d3
  have e7:=newE q_d3
  symm_saturate
  refine ⟨x,_,dx,_,rfl,S7 _ _ e6,tc.cls,tc.n3,by simp, ?_⟩
  generalize u8:upd H7 x _ = H8
  symm_saturate
  have e8:H8 x = some (.ins Ad.Thing dx [("parts_by_name", .ref d1),("gaps_by_name", .ref d2),("ways", .ref d3)]):=by rw [← u8]; exact Jak.trans rfl
  have fr8:∀ b u,b ≠ x→H7 b = some u→H8 b = some u:=fun b u hb h => by rw [← u8,Jah hb]; exact h
  have st8:∀ b u,b ≠ x→H4 b = some u→H8 b = some u:=fun b u hb h => fr8 _ _ hb (S7 _ _ (fr6 _ _ hb (S5 _ _ h)))
  have nd2x:d2 ≠ x:=fun z => by rw [z,hx4] at h_d2; cases h_d2
  have nd2d1:d2 ≠ d1:=fun z => by rw [z,hd4] at h_d2; cases h_d2
  have nd2d:d2 ≠ d:=fun z => by rw [z,hdd4] at h_d2; cases h_d2
  have nd3x:d3 ≠ x:=fun z => by rw [z,e6] at h_d3; cases h_d3
  have e6d1:=fr6 _ _ nd1x (S5 _ _ hd4)
  have e6d:=fr6 _ _ ndx (S5 _ _ hdd4)
  have e6d2:=fr6 _ _ nd2x e5
  have nd3d1:d3 ≠ d1:=fun z => by rw [z,e6d1] at h_d3; cases h_d3
  have nd3d:d3 ≠ d:=fun z => by rw [z,e6d] at h_d3; cases h_d3
  have nd3d2:d3 ≠ d2:=fun z => by rw [z,e6d2] at h_d3; cases h_d3
  have d20:=fresh S4 h_d2
  have S06:Same H0 H6:=fun b u h => fr6 _ _ (Jag h hx0) (S5 _ _ (S4 _ _ h))
  have d30:=fresh S06 h_d3
  have S08:Same H0 H8:=fun b u h => st8 _ _ (Jag h hx0) (S4 _ _ h)
  have T48:SameT H4 H8:=fun b u t h => st8 _ _ (fun z => by rw [z,hx4] at h; cases h; simp [isTF] at t) h
  have jk8:JK Ad H0 H8 j d ls:=⟨⟨dj4,st8 _ _ (Ne.symm nxj) hj4⟩,d0,kd4,st8 _ _ ndx hdd4,hkd4,hJ4.sy st8 hx4 (by intro xs z; cases z) rfl⟩
  have bg8:BG (·.nm) (POV K Ad H8) ls k1:=bg4.mono fun p v ⟨q,dq,vz,vm,h1,h2,h3,h4⟩ => ⟨q,dq,vz,vm,h1,st8 _ _ (ne_of h2 hx4 (by
   intro z
   injection z with _ _ z3
   have:=congrArg List.length z3
   simp [partF] at this)) h2,h3.sameT T48,h4.sameT T48⟩
  refine ⟨c,rfl,ForA.byL (xs:=zs) (hC.same S08) (fun i σ H' => i ≤ zs.length∧∃ (v4 v6 v7:Option V) (k2 k3:List (Key × V)) (gs:List GD), σ = [some (.ref x),some (.ref a),some (.ref c),some (.ref j),v4,v5,v6,v7]∧Same H0 H'∧H' x = some (.ins Ad.Thing dx [("parts_by_name", .ref d1),("gaps_by_name", .ref d2),("ways", .ref d3)])∧JK Ad H0 H' j d ls∧H' d1 = some (.dK k1)∧BG (·.nm) (POV K Ad H') ls k1∧H' d2 = some (.dK k2)∧BG (·.nm) (GOV K Ad H') gs k2∧H' d3 = some (.dK k3)∧BG (·.nm) (WOV H' ls) gs k3∧gs.length = i∧gapsW ls gs (fs.drop i) = gapsW ls [] fs) ⟨Nat.zero_le _,v4,none,none,[],[],[],rfl,S08,e8,jk8,st8 _ _ nd1x hd4,bg8,fr8 _ _ nd2x (S7 _ _ e6d2),⟨rfl,rfl⟩,fr8 _ _ nd3x e7,⟨rfl,rfl⟩,rfl,rfl⟩ (fun i σ H' z => by obtain ⟨_,_,_,_,_,_,_,_,z,_⟩:=z; exact hC.same z) ?_ ?_⟩
  ·rintro i y σ H9 hy ⟨hi,v4,v6,v7,k2,k3,gs,rfl,S9,hx9,jk9,hd19,bg9,hd29,bh9,hd39,bw9,hgi,hw2⟩
   have li:i < zs.length:=(List.getElem?_eq_some_iff.mp hy).1
   obtain ⟨e,he,ev0⟩:=hG.at_ hy
   have lie:i < fs.length:=by omega
   have edr:fs.drop i = e :: fs.drop (i + 1):=by
    rw [List.drop_eq_getElem_cons lie]
    rw [List.getElem?_eq_getElem lie] at he
    rw [Option.some.inj he]
   rw [edr] at hw2
   have lk:=bh9.length
   have lk3:=bw9.length
   symm_saturate
   match e,ev0.same S9,hw2 with
   | .inr cc,ev,hw2 =>
    rw [JgC] at hw2
    rw [← hw2] at k
    exact ⟨y, .inr cc,rfl,ev,fun H10 S10 => k H10 (S9.trans S10)⟩
   | .inl g,ev,hw2 =>
    refine ⟨y, .inl g,rfl,ev,fun v H10 S10 gv => ?_⟩
    obtain ⟨q,dq,vl,vg,rfl,hq10,hz,hm⟩:=id gv
    have hx10:=S10 _ _ hx9
    have hd10:=S10 _ _ hd29
    have jk10:=jk9.same S10
    obtain ⟨⟨dj10,hj10⟩,_⟩:=id jk10
    symm_saturate
    refine ⟨q,_,dq,_, .str g.nm,rfl,hq10,gc.cls,gc.n1,rfl, ?_⟩
    refine ⟨x,_,dx,_, .ref d2,rfl,hx10,tc.cls,tc.n2,rfl, ?_⟩
    refine ⟨d2,_,rfl,DGet.k (k:=Sum.inr g.nm) hd10, ?_⟩
    rw [bh9.val]
    by_cases cn:g.nm ∈ gs.map (·.nm)
    ·rw [JgD cn] at hw2
     rw [← hw2] at k
     rw [decide_eq_true cn]
     symm_saturate
     exact ⟨by show 1 ≤ sizeLine; omega,k H10 (S9.trans S10)⟩
    ·rw [decide_eq_false cn]
     symm_saturate
     refine ⟨j,_,dj10,_,rfl,hj10,rfl,rfl, ?_⟩
     symm_saturate
     refine ⟨q,_,dq,_, .str g.st,rfl,hq10,gc.cls,gc.n2,rfl, ?_⟩
     refine ⟨q,_,dq,_, .str g.en,rfl,hq10,gc.cls,gc.n3,rfl, ?_⟩
     refine ⟨j,d,g.st,g.en,ls,H0,rfl,jk10,by omega,hnd,fun hc H11 S11 => ?_,fun w l yy H11 S11 hl11 e11 hcv hwk hwn => ?_⟩
     ·rw [Je3 cn hc] at hw2
      rw [← hw2] at k
      symm_saturate
      exact ⟨by show 1 ≤ sizeLine; omega,k H11 (S9.trans (S10.trans S11))⟩
     ·rw [Jfz cn ⟨w,hwk⟩] at hw2
      symm_saturate
      have S911:=S10.trans S11
      have hd11:=S911 _ _ hd29
      refine ⟨x,_,dx,_, .ref d2,rfl,S911 _ _ hx9,tc.cls,tc.n2,rfl, ?_⟩
      refine ⟨q,_,dq,_, .str g.nm,rfl,S11 _ _ hq10,gc.cls,gc.n1,rfl, ?_⟩
      refine ⟨d2,_,rfl,DPut.k (k:=Sum.inr g.nm) hd11 (by omega), ?_⟩
      generalize u12:upd H11 d2 _ = H12
      symm_saturate
      have e12:=putE u12
      have sd12:∀ b u,b ≠ d2→H11 b = some u→H12 b = some u:=fun b u hb h => by rw [← u12,Jah hb]; exact h
      have SI12:=sdI sd12 hd11
      have hx12:=sd12 _ _ (Ne.symm nd2x) (S911 _ _ hx9)
      have hq12:=sd12 _ _ (fun z => by have:=S11 _ _ hq10; rw [z,hd11] at this; cases this) (S11 _ _ hq10)
      have hd312:=sd12 _ _ nd3d2 (S911 _ _ hd39)
      symm_saturate
      refine ⟨x,_,dx,_, .ref d3,rfl,hx12,tc.cls,tc.n3,rfl, ?_⟩
      refine ⟨q,_,dq,_, .str g.nm,rfl,hq12,gc.cls,gc.n1,rfl, ?_⟩
      refine ⟨d3,_,rfl,DPut.k (k:=Sum.inr g.nm) hd312 (by omega), ?_⟩
      generalize u13:upd H12 d3 _ = H13
      symm_saturate
      have e13:=putE u13
      have sd13:∀ b u,b ≠ d3→H12 b = some u→H13 b = some u:=fun b u hb h => by rw [← u13,Jah hb]; exact h
      have SI13:=sdI sd13 hd312
      have SI:SameI H11 H13:=fun b u t h => SI13 b u t (SI12 b u t h)
      have wv:∀ {g:GD} {v:V},WOV H11 ls g v→WOV H13 ls g v:=fun {g v} ⟨l,xs,w,h1,h2,h3,h4⟩ => ⟨l,xs,w,h1,sdL sd13 hd312 (sdL sd12 hd11 h2),h3.mono fun _ _ z => z.sameT SI.t,h4⟩
      refine ⟨li,_,_,_,_,_,gs ++ [g],rfl,fun b u h => sd13 _ _ (Jag h d30) (sd12 _ _ (Jag h d20) (S911 _ _ (S9 _ _ h))),sd13 _ _ (Ne.symm nd3x) hx12,sdJ sd13 hd312 nd3d (sdJ sd12 hd11 nd2d (jk10.same S11)),sd13 _ _ (Ne.symm nd3d1) (sd12 _ _ (Ne.symm nd2d1) (S911 _ _ hd19)),bg9.mono fun _ _ z => (z.si (Same.i S911)).si SI,sd13 _ _ (Ne.symm nd3d2) e12, ?_,e13, ?_,by simp [hgi],hw2⟩
      ·exact ((bh9.mono (P':=GOV K Ad H11) fun _ _ z => z.si (Same.i S911)).new (a:=g) cn (gv.si (Same.i S11))).mono fun _ _ z => z.si SI
      ·exact ((bw9.mono (P':=WOV H11 ls) fun _ _ z => z.same S911).new (a:=g) cn ⟨l,yy,w,rfl,e11,hcv,hwk,hwn⟩).mono fun _ _ z => wv z
  ·rintro σ H9 ⟨hi,v4,v6,v7,k2,k3,gs,rfl,S9,hx9,jk9,hd19,bg9,hd29,bh9,hd39,bw9,hgi,hw2⟩
   rw [List.drop_eq_nil_of_le (by omega),gapsW] at hw2
   symm_saturate
   have k':=k
   simp only [← hw2] at k'
   exact k' H9 S9 ⟨dx,d1,d2,d3,k1,k2,k3,hx9,hd19,bg9,hd29,bh9,hd39,bw9⟩
abbrev Bav:Stmt:=inClass (top 39) 1
theorem Jdz:Jan ["self"] ["self"] (Jae Bav):=⟨rfl,rfl,rfl,by decide +kernel,rfl,by decide +kernel,by decide +kernel⟩
def Ja5 (K:PySem.W.Frag) (Ad:Adr):Sp:=fun vs H Q E => ∃ (x:Addr) (ls:List PD) (gs:List GD),vs = [.ref x]∧TK K Ad H x ls gs∧ls.length ≤ 20∧∀ l ys H',Same H H'→H l = none→H' l = some (.lst ys)→All2 (PDV K H') ls ys→Q (.ref l) H'
theorem Jdw {f:Addr} {fd:FuncData} {dV:Value} (F:FunD K "parts" "Thing.parts" Bav dV f fd) (T:Txt K mg Ad) (Bc0:MCal P w K mg base 1 "plain" (IsPart Ad) ["self"] (JbP K Ad)):FnOk P w K mg base (CX1 P w) 2 f fd ["self"] (Ja5 K Ad):=by
 refine F.okn Jdz (fun vs H Q E h => ?_) (fun cdv A outer s H vs Q E hr h => ?_)
 ·obtain ⟨x,ls,gs,rfl,_⟩:=h; rfl
 obtain ⟨x,ls,gs,rfl,h⟩:=h
 have hu:=hr.units
 refine ⟨_,(Jai (Jas (Jg1 (Jed (own:=["part"]) (cs:=[]) (cl:=[]) rfl (Jg3 (Jax (pv 0) rfl)) (fun _ _ _ _ => (Jav (i:=0) (show [("part" : Str)].Nodup by decide) rfl (Or.inl rfl))) (fun _ _ _ _ => (Bc0.m0 hr (by decide) passF (pv 0))) rfl (by decide) rfl (by decide) hcl0 (hhas0 (by decide)) hcs0)))), ?_⟩
 obtain ⟨⟨dx,d1,d2,d3,k1,k2,k3,hx,hd1,b1,_⟩,hl,k⟩:=h
 have tc:=T.BaV _ rfl
 have sl:(1000:Nat) ≤ sizeLine:=by decide
 have lk:=b1.length
 show tRet _ _ [some (.ref x)] H
 and_intros
 refine ⟨d1,k1,hd1,x,_,dx,_, .ref d1,rfl,hx,tc.cls,tc.n1,rfl,d1,k1,rfl,hd1,fun od => ?_⟩
 generalize uf:upd H d1 (.frz od (.dK k1)) = H1
 and_intros
 have f1:H1 d1 = some (.frz od (.dK k1)):=by rw [← uf,Jak]
 have o1:∀ b u,b ≠ d1→H b = some u→H1 b = some u:=fun b u hb h => by rw [← uf,Jah hb]; exact h
 refine CompJ.vals (fun i ys H' => H' d1 = some (.frz od (.dK k1))∧(∀ b u,b ≠ d1→H b = some u→H' b = some u)∧(∀ b u,b ≠ d1→H' b = some u→H b = none→True)∧All2 (PDV K H') (ls.take i) ys) ⟨f1,o1,fun _ _ _ _ _ => trivial,rfl⟩ (fun i ys H' hi z => ⟨z.1,by have:=z.2.2.2.length; rw [List.length_take] at this; omega⟩) ?_ ?_
 ·rintro i v ys H2 hv ⟨f2,o2,_,hA⟩
  simpa only [List.length_singleton,List.replicate,JaA,List.map_cons,List.map_nil,Option.join_some]
  obtain ⟨p,hp,q,dq,vz,vm,rfl,hq,hz,hm⟩:=b1.2.at_ hv
  have nd:∀ {b:Addr} {u:HO},H b = some u→isTI u = true→H2 b = some u:=fun {b u} h t => o2 _ _ (fun z => by rw [z,hd1] at h; cases h; simp [isTI,isTF] at t) h
  have T2:SameT H H2:=fun b u t h => nd h (by cases u <;> first | exact t | (simp [isTF] at t))
  refine ⟨q,_,dq,_,rfl,nd hq rfl,rfl,rfl,q,dq,_,_,_,vz,vm,_,rfl,nd hq rfl,fun r H3 S3 e3 => ?_⟩
  refine ⟨S3 _ _ f2,fun b u hb h => S3 _ _ (o2 _ _ hb h),fun _ _ _ _ _ => trivial, ?_⟩
  rw [List.take_succ,hp]
  exact (hA.mono (P':=PDV K H3) fun _ _ z => z.sameT S3.t).append (.one ⟨r,vz,vm,rfl,SqT.of e3,(hz.sameT T2).sameT S3.t,(hm.sameT T2).sameT S3.t⟩)
 ·rintro ys H2 ⟨f2,o2,_,hA⟩
  rw [List.take_of_length_le (by omega)] at hA
  intro r h_r
  generalize q_r:upd H2 r _ = H3
  have S3:=newS h_r q_r
  have e3:=newE q_r
  and_intros
  refine ⟨od,k1,S3 _ _ f2, ?_⟩
  generalize u4:upd H3 d1 (.dK k1) = H4
  and_intros
  have nr:r ≠ d1:=fun z => by rw [z,f2] at h_r; cases h_r
  have e4:H4 r = some (.lst ys):=by rw [← u4,Jah nr]; exact e3
  have S04:Same H H4:=fun b u h => by
   by_cases c:b = d1
   ·subst c
    rw [hd1] at h
    cases h
    rw [← u4,Jak]
   ·rw [← u4,Jah c]
    exact S3 _ _ (o2 _ _ c h)
  have f3:=S3 _ _ f2
  have sq:∀ {b:Addr} {xs:List V},SqT K H3 b xs→SqT K H4 b xs:=fun {b xs} h => by
   rcases h with (h | ⟨o,h⟩) | h
   ·exact .inl (.inl (by rw [← u4,Jah (fun z => by rw [z,f3] at h; cases h)]; exact h))
   ·exact .inl (.inr ⟨o,by rw [← u4,Jah (fun z => by rw [z,f3] at h; cases h)]; exact h⟩)
   ·exact .inr h
  have hn:H r = none:=by
   cases e:H r with
   | none => rfl
   | some o => rw [o2 _ _ nr e] at h_r; cases h_r
  exact k r ys H4 S04 hn e4 ((hA.mono (P':=PDV K H3) fun _ _ z => z.sameT S3.t).mono fun p v ⟨b,vz,vm,h1,h2,⟨pz,h3,h4⟩,⟨pm,h5,h6⟩⟩ => ⟨b,vz,vm,h1,sq h2,⟨pz,h3,sq h4⟩,⟨pm,h5,sq h6⟩⟩)
abbrev BaA:Stmt:=inClass (top 39) 2
theorem Jeh:Jan ["self"] ["self"] (Jae BaA):=⟨rfl,rfl,rfl,by decide +kernel,rfl,by decide +kernel,by decide +kernel⟩
def Jbh (K:PySem.W.Frag) (Ad:Adr):Sp:=fun vs H Q E => ∃ (x:Addr) (ls:List PD) (gs:List GD),vs = [.ref x]∧TK K Ad H x ls gs∧gs.length ≤ 20∧∀ l ys H',Same H H'→H l = none→H' l = some (.lst ys)→All2 (fun (g:GD) v => TV K H' g.td v) gs ys→Q (.ref l) H'
theorem Jd4 {f:Addr} {fd:FuncData} {dV:Value} (F:FunD K "gaps" "Thing.gaps" BaA dV f fd) (T:Txt K mg Ad) (Bct:MCal P w K mg base 1 "plain" (IsGap Ad) ["self"] (Jb6 K Ad)):FnOk P w K mg base (CX1 P w) 2 f fd ["self"] (Jbh K Ad):=by
 refine F.okn Jeh (fun vs H Q E h => ?_) (fun cdv A outer s H vs Q E hr h => ?_)
 ·obtain ⟨x,ls,gs,rfl,_⟩:=h; rfl
 obtain ⟨x,ls,gs,rfl,h⟩:=h
 have hu:=hr.units
 refine ⟨_,(Jai (Jas (Jg1 (Jed (own:=["gap"]) (cs:=[]) (cl:=[]) rfl (Jg3 (Jax (pv 0) rfl)) (fun _ _ _ _ => (Jav (i:=0) (show [("gap" : Str)].Nodup by decide) rfl (Or.inl rfl))) (fun _ _ _ _ => (Bct.m0 hr (by decide) passF (pv 0))) rfl (by decide) rfl (by decide) hcl0 (hhas0 (by decide)) hcs0)))), ?_⟩
 obtain ⟨⟨dx,d1,d2,d3,k1,k2,k3,hx,_,_,hd2,b2,_⟩,hl,k⟩:=h
 have tc:=T.BaV _ rfl
 have sl:(1000:Nat) ≤ sizeLine:=by decide
 have lk:=b2.length
 show tRet _ _ [some (.ref x)] H
 and_intros
 refine ⟨d2,k2,hd2,x,_,dx,_, .ref d2,rfl,hx,tc.cls,tc.n2,rfl,d2,k2,rfl,hd2,fun od => ?_⟩
 generalize uf:upd H d2 (.frz od (.dK k2)) = H1
 and_intros
 have f1:H1 d2 = some (.frz od (.dK k2)):=by rw [← uf,Jak]
 have o1:∀ b u,b ≠ d2→H b = some u→H1 b = some u:=fun b u hb h => by rw [← uf,Jah hb]; exact h
 refine CompJ.vals (fun i ys H' => H' d2 = some (.frz od (.dK k2))∧(∀ b u,b ≠ d2→H b = some u→H' b = some u)∧All2 (fun (g:GD) v => TV K H' g.td v) (gs.take i) ys) ⟨f1,o1,rfl⟩ (fun i ys H' hi z => ⟨z.1,by have:=z.2.2.length; rw [List.length_take] at this; omega⟩) ?_ ?_
 ·rintro i v ys H2 hv ⟨f2,o2,hA⟩
  simpa only [List.length_singleton,List.replicate,JaA,List.map_cons,List.map_nil,Option.join_some]
  obtain ⟨p,hp,q,dq,vz,vm,rfl,hq,hz,hm⟩:=b2.2.at_ hv
  have nd:∀ {b:Addr} {u:HO},H b = some u→isTI u = true→H2 b = some u:=fun {b u} h t => o2 _ _ (fun z => by rw [z,hd2] at h; cases h; simp [isTI,isTF] at t) h
  have T2:SameT H H2:=fun b u t h => nd h (by cases u <;> first | exact t | (simp [isTF] at t))
  refine ⟨q,_,dq,_,rfl,nd hq rfl,rfl,rfl,q,dq,_,_,_,vz,vm,rfl,nd hq rfl,fun r H3 S3 e3 => ?_⟩
  refine ⟨S3 _ _ f2,fun b u hb h => S3 _ _ (o2 _ _ hb h), ?_⟩
  rw [List.take_succ,hp]
  exact (hA.mono (P':=fun (g:GD) v => TV K H3 g.td v) fun _ _ z => z.sameT S3.t).append (.one ⟨r,vz,vm,rfl,SqT.of e3,(hz.sameT T2).sameT S3.t,(hm.sameT T2).sameT S3.t⟩)
 ·rintro ys H2 ⟨f2,o2,hA⟩
  rw [List.take_of_length_le (by omega)] at hA
  intro r h_r
  generalize q_r:upd H2 r _ = H3
  have S3:=newS h_r q_r
  have e3:=newE q_r
  and_intros
  refine ⟨od,k2,S3 _ _ f2, ?_⟩
  generalize u4:upd H3 d2 (.dK k2) = H4
  and_intros
  have nr:r ≠ d2:=fun z => by rw [z,f2] at h_r; cases h_r
  have e4:H4 r = some (.lst ys):=by rw [← u4,Jah nr]; exact e3
  have S04:Same H H4:=fun b u h => by
   by_cases c:b = d2
   ·subst c
    rw [hd2] at h
    cases h
    rw [← u4,Jak]
   ·rw [← u4,Jah c]
    exact S3 _ _ (o2 _ _ c h)
  have f3:=S3 _ _ f2
  have sq:∀ {b:Addr} {xs:List V},SqT K H3 b xs→SqT K H4 b xs:=fun {b xs} h => by
   rcases h with (h | ⟨o,h⟩) | h
   ·exact .inl (.inl (by rw [← u4,Jah (fun z => by rw [z,f3] at h; cases h)]; exact h))
   ·exact .inl (.inr ⟨o,by rw [← u4,Jah (fun z => by rw [z,f3] at h; cases h)]; exact h⟩)
   ·exact .inr h
  have hn:H r = none:=by
   cases e:H r with
   | none => rfl
   | some o => rw [o2 _ _ nr e] at h_r; cases h_r
  exact k r ys H4 S04 hn e4 ((hA.mono (P':=fun (g:GD) v => TV K H3 g.td v) fun _ _ z => z.sameT S3.t).mono fun p v ⟨b,vz,vm,h1,h2,⟨pz,h3,h4⟩,⟨pm,h5,h6⟩⟩ => ⟨b,vz,vm,h1,sq h2,⟨pz,h3,sq h4⟩,⟨pm,h5,sq h6⟩⟩)
abbrev BaL:Stmt:=inClass (top 39) 3
theorem JeN:Jan ["self", "name"] ["self", "name"] (Jae BaL):=⟨rfl,rfl,rfl,by decide +kernel,rfl,by decide +kernel,by decide +kernel⟩
def JbD (K:PySem.W.Frag) (Ad:Adr):Sp:=fun vs H Q E => ∃ (x:Addr) (z:Str) (ls:List PD) (gs:List GD),vs = [.ref x, .str z]∧TK K Ad H x ls gs∧(z ∉ gs.map (·.nm)→E (.ref Ad.NoName) none H)∧(∀ g ∈ gs,g.nm = z→∀ l xs w H',Same H H'→H l = none→H' l = some (.lst xs)→All2 (CV H') w xs→Jbc ls g.st w g.en→(w.map (·.1)).Nodup→Q (.ref l) H')
theorem JeE {f:Addr} {fd:FuncData} {dV:Value} (F:FunD K "way" "Thing.way" BaL dV f fd) (T:Txt K mg Ad)  : FnOk P w K mg base (CX1 P w) 1 f fd ["self", "name"] (JbD K Ad):=by
 refine F.okx JeN (fun vs H Q E h => ?_) (fun cdv A outer s H vs Q E hr h => ?_)
 ·obtain ⟨x,z,ls,gs,rfl,_⟩:=h; rfl
 obtain ⟨x,z,ls,gs,rfl,h⟩:=h
 have hu:=hr.units
 refine ⟨_,(Jab (ps_if (JfM (JeJ (hu1 hu) (pv 1) (Jax (pv 0) rfl)) (by with_unfolding_all rfl))
   (Jai (JbL PySem.F.excBase_ValueError T.BbR rfl T.Bds (Jaa Jb1 Jad)))
   JaB)
   (Jai (Jas (Jcz JdB rfl T.Bdz Jgo (Jaa (Ja9 (hu1 hu) (Jax (pv 0) rfl) (pv 1) (fun _ _ => rfl)) Jad))))), ?_⟩
 obtain ⟨⟨dx,d1,d2,d3,k1,k2,k3,hx,hd1,b1,hd2,b2,hd3,b3⟩,kn,k⟩:=h
 have tc:=T.BaV _ rfl
 show tSeq _ _ _ [some (.ref x),some (.str z)] H
 and_intros
 refine ⟨x,_,dx,_, .ref d3,rfl,hx,tc.cls,tc.n3,rfl, ?_⟩
 refine ⟨d3,_,rfl,DGet.k (k:=Sum.inr z) hd3, ?_⟩
 rw [b3.val]
 by_cases c:z ∈ gs.map (·.nm)
 ·rw [decide_eq_true c]
  and_intros
  obtain ⟨g,v,hg,hz,hv,l0,xs,w,rfl,hl0,hcv,hw,hwn⟩:=b3.some c
  refine ⟨x,_,dx,_, .ref d3,rfl,hx,tc.cls,tc.n3,rfl, ?_⟩
  refine ⟨d3,_,rfl,by rw [← hv]; exact DGet.k (k:=Sum.inr z) hd3, ?_⟩
  refine ⟨l0,xs,rfl, .inl (SqL.of hl0), ?_⟩
  intro l h_l
  generalize q_l:upd H l _ = H1
  have S1:=newS h_l q_l
  have e1:=newE q_l
  and_intros
  exact k g hg hz l xs w H1 S1 h_l e1 (hcv.mono fun _ _ z => z.sameT S1.t) hw hwn
 ·rw [decide_eq_false c]
  and_intros
  exact ⟨by show 1 ≤ sizeLine; decide,kn c⟩
abbrev Bao:Stmt:=inClass (top 39) 4
theorem JaT:Jan ["self", "name", "total", "part", "forward", "size"] ["self", "name"] (Jae Bao):=⟨rfl,rfl,rfl,by decide +kernel,rfl,by decide +kernel,by decide +kernel⟩
def JbB (K:PySem.W.Frag) (Ad:Adr):Sp:=fun vs H Q E => ∃ (x:Addr) (z:Str) (ls:List PD) (gs:List GD),vs = [.ref x, .str z]∧TK K Ad H x ls gs∧(z ∉ gs.map (·.nm)→E (.ref Ad.NoName) none H)∧(∀ g ∈ gs,g.nm = z→∃ pl:Str→Fr2,(∀ u ∈ gs,u.nm = z→u = g)∧(∀ p ∈ ls, ∀ q ∈ ls,p.nm = q.nm→p = q)∧(∀ p ∈ ls,POk p)∧(∀ f,FB 302 161 (pl f))∧(∀ p ∈ ls,vl (pl p.en) = vl (pl p.st) + vl p.sz)∧∀ v H',Same H H'→FrV K H' v (mid pl g).1 (mid pl g).2→Q v H')
theorem Jdi {f:Addr} {fd:FuncData} {dV:Value} (F:FunD K "middle" "Thing.middle" Bao dV f fd) (T:Txt K mg Ad) (Bdf:MCal P w K mg base 1 "way" (Ja3 Ad) ["self", "name"] (JbD K Ad)) (Bb5:Cal P w K mg base 2 "plus" ["one", "other"] [] (Jds K)) (BbP:Cal P w K mg base 3 "minus" ["one", "other"] [] (JcZ K)):FnOk P w K mg base (CX1 P w) 4 f fd ["self", "name"] (JbB K Ad):=by
 refine F.okx JaT (fun vs H Q E h => ?_) (fun cdv A outer s H vs Q E hr h => ?_)
 ·obtain ⟨x,z,ls,gs,rfl,_⟩:=h; rfl
 obtain ⟨x,z,ls,gs,rfl,h⟩:=h
 have hu:=hr.units
 refine ⟨_,(Jab (Jaj (i:=2) JaT.nd rfl (Or.inl rfl) (JcI (v:=.ref _) rfl T.Bdb T.Bdc))
   (Jab (Ja2 PassesOwn.leaving rfl (pi_U (Bdf.m hr (by decide) pass1 (pv 0) (Jaa (pv 1) Jad))) (JdP rfl (Ja6 (Jav (i:=3) JaT.nd rfl (Or.inl rfl)) (Ja6 (Jav (i:=4) JaT.nd rfl (Or.inl rfl)) JcJ)))
   (Jab (Jaj (i:=5) JaT.nd rfl (Or.inl rfl) (Jax (Ja9 (hu1 hu) (Jax (pv 0) rfl) (pv 3) (fun _ _ => rfl)) rfl))
   (Jai (Jaj (i:=2) JaT.nd rfl (Or.inl rfl) (JfI (Ja4 (pv 4)) (Bb5.ev hr (by decide) rfl pass1 (Jaa (pv 2) (Jaa (pv 5) Jad)) (he:=by exact Jaf rfl)) (BbP.ev hr (by decide) rfl pass1 (Jaa (pv 2) (Jaa (pv 5) Jad)) (he:=by exact Jaf rfl)))))))
   (Jai (Jas (pv 2))))), ?_⟩
 obtain ⟨ht,kn,k⟩:=h
 obtain ⟨dx,d1,d2,d3,k1,k2,k3,hx,hd1,b1,_⟩:=id ht
 have tc:=T.BaV _ rfl
 have pc:=T.BcB _ rfl
 show tSeq _ _ _ [some (.ref x),some (.str z),none,none,none,none] H
 and_intros
 refine ⟨x,_,dx,_,rfl,hx,rfl,rfl,x,z,ls,gs,rfl,ht,kn,fun g hg hz l xs w H1 S1 h_l e1 hcv hw _ => ?_⟩
 obtain ⟨pl,hu_,hN,hP,hB,hV,k⟩:=k g hg hz
 have lg:=Jio hV hw
 have lx:=hcv.length
 refine ⟨l,rfl,ForA.byL (xs:=xs) (SqL.of e1) (fun i σ H' => i ≤ xs.length∧∃ (v3 v4 v5:Option V) (t:V) (f:Str), σ = [some (.ref x),some (.str z),some t,v3,v4,v5]∧Same H1 H'∧FrV K H' t (addF (pl f) (negF (pl g.st))).1 (addF (pl f) (negF (pl g.st))).2∧Legs ls pl f (w.drop i) g.en) ⟨Nat.zero_le _,none,none,none, .ref Ad.ZERO,g.st,rfl,Same.refl _,by rw [Jhs (hB _)]; exact ⟨Ad.ZERO,rfl,T.Bdd _⟩,lg⟩ (fun i σ H' q => by obtain ⟨_,_,_,_,_,_,_,q,_⟩:=q; exact SqL.of (q _ _ e1)) ?_ ?_⟩
 ·rintro i y σ H2 hy ⟨hi,v3,v4,v5,t,f,rfl,S2,ft,hL⟩
  have li:i < xs.length:=(List.getElem?_eq_some_iff.mp hy).1
  obtain ⟨pr,hpr,b,rfl,hb⟩:=hcv.at_ hy
  have lie:i < w.length:=by omega
  have edr:w.drop i = pr :: w.drop (i + 1):=by
   rw [List.drop_eq_getElem_cons lie]
   rw [List.getElem?_eq_getElem lie] at hpr
   rw [Option.some.inj hpr]
  rw [edr] at hL
  have S02:=S1.trans S2
  obtain ⟨p,fw,g',rfl,hp,hv,hL'⟩:∃ p fw g',pr = (p.nm,fw)∧p ∈ ls∧vl (pl g') = vl (pl f) + vl (sgn fw p.sz)∧Legs ls pl g' (w.drop (i + 1)) g.en:=by
   cases hL with
   | cons h1 h2 h3 => exact ⟨_,_,_,rfl,h1,h2,h3⟩
  and_intros
  refine ⟨b,_,rfl,SqT.of (S2 _ _ hb),rfl, ?_⟩
  and_intros
  obtain ⟨q,v,hq,hqn,hv',qa,dq,vz,vm,rfl,hqa,hz',hm⟩:=b1.some (z:=p.nm) (List.mem_map.mpr ⟨p,hp,rfl⟩)
  have eq:=hN q hq p hp hqn
  subst eq
  refine ⟨x,_,dx,_, .ref d1,rfl,S02 _ _ hx,tc.cls,tc.n1,rfl, ?_⟩
  refine ⟨d1,_,rfl,by rw [← hv']; exact DGet.k (k:=Sum.inr q.nm) (S02 _ _ hd1), ?_⟩
  refine ⟨qa,_,dq,_,vz,rfl,S02 _ _ hqa,pc.cls,pc.n4,rfl, ?_⟩
  have zb:=(hP q hq).z
  have tb:FB 464 322 (addF (pl f) (negF (pl g.st))):=FB.add (hB _) (hB _).neg (by decide) (by decide) (by decide)
  have fz:FrV K H2 vz q.sz.1 q.sz.2:=hz'.same S02
  have st:=Jin (hB f) (hB g') (z:=sgn fw q.sz) (by cases fw; exact (L2.FOk.fb zb).neg; exact L2.FOk.fb zb) (hB g.st) hv
  and_intros
  cases fw with
  | true =>
   and_intros
   refine ⟨t,vz,_,_,_,_,rfl,ft,fz,tb.s1.mono (by decide),tb.s2.mono (by decide),zb.s1.mono (by decide),zb.s2.mono (by decide),tb.b1,zb.b1,tb.g1,zb.g1,fun r H3 S3 e3 => ?_⟩
   exact ⟨li,_,_,_, .ref r,g',rfl,S2.trans S3,by rw [← st]; exact FrV.of e3,hL'⟩
  | false =>
   and_intros
   refine ⟨t,vz,_,_,_,_,rfl,ft,fz,tb.s1.mono (by decide),tb.s2.mono (by decide),zb.s1.mono (by decide),zb.s2.mono (by decide),tb.b1,zb.b1,tb.g1,zb.g1,fun r H3 S3 e3 => ?_⟩
   refine ⟨li,_,_,_, .ref r,g',rfl,S2.trans S3, ?_,hL'⟩
   rw [← st]
   refine FrV.of ?_
   rw [e3]
   show _ = some (HO.tup [.int (Mth.top (_ * q.sz.2 + -q.sz.1 * _) _), .int (Mth.bot (_ * q.sz.2 + -q.sz.1 * _) _)])
   rw [Int.neg_mul, ← Int.sub_eq_add_neg]
   rfl
 ·rintro σ H2 ⟨hi,v3,v4,v5,t,f,rfl,S2,ft,hL⟩
  rw [List.drop_eq_nil_of_le (by omega)] at hL
  cases hL
  and_intros
  exact k t H2 (S1.trans S2) ft
abbrev BaB:Stmt:=inClass (top 39) 5
theorem Jbf:Jan ["self", "name", "middle", "gap", "above", "below"] ["self", "name"] (Jae BaB):=⟨rfl,rfl,rfl,by decide +kernel,rfl,by decide +kernel,by decide +kernel⟩
def JbQ (K:PySem.W.Frag) (Ad:Adr):Sp:=fun vs H Q E => ∃ (x:Addr) (z:Str) (ls:List PD) (gs:List GD),vs = [.ref x, .str z]∧TK K Ad H x ls gs∧(z ∉ gs.map (·.nm)→E (.ref Ad.NoName) none H)∧(∀ g ∈ gs,g.nm = z→∃ pl:Str→Fr2,(∀ u ∈ gs,u.nm = z→u = g)∧(∀ p ∈ ls, ∀ q ∈ ls,p.nm = q.nm→p = q)∧(∀ p ∈ ls,POk p)∧(∀ f,FB 302 161 (pl f))∧(∀ p ∈ ls,vl (pl p.en) = vl (pl p.st) + vl p.sz)∧TOk g.td∧∀ v H',Same H H'→FrV K H' v (roomF pl g).1 (roomF pl g).2→Q v H')
theorem Jd5 {f:Addr} {fd:FuncData} {dV:Value} (F:FunD K "room" "Thing.room" BaB dV f fd) (T:Txt K mg Ad) (BcI:MCal P w K mg base 4 "middle" (Ja3 Ad) ["self", "name"] (JbB K Ad)) (BbP:Cal P w K mg base 3 "minus" ["one", "other"] [] (JcZ K)) (Baw:Cal P w K mg base 1 "under" ["one", "other"] [] (JbY K)):FnOk P w K mg base (CX1 P w) 5 f fd ["self", "name"] (JbQ K Ad):=by
 refine F.okx Jbf (fun vs H Q E h => ?_) (fun cdv A outer s H vs Q E hr h => ?_)
 ·obtain ⟨x,z,ls,gs,rfl,_⟩:=h; rfl
 obtain ⟨x,z,ls,gs,rfl,h⟩:=h
 have hu:=hr.units
 refine ⟨_,(Jab (Jaj (i:=2) Jbf.nd rfl (Or.inl rfl) (BcI.m hr (by decide) pass1 (pv 0) (Jaa (pv 1) Jad)))
   (Jab (Jaj (i:=3) Jbf.nd rfl (Or.inl rfl) (Ja9 (hu1 hu) (Jax (pv 0) rfl) (pv 1) (fun _ _ => rfl)))
   (Jab (Jaj (i:=4) Jbf.nd rfl (Or.inl rfl) (BbP.ev hr (by decide) rfl pass1 (Jaa (Jax (pv 3) rfl) (Jaa (pv 2) Jad)) (he:=by exact Jaf rfl)))
   (Jab (Jaj (i:=5) Jbf.nd rfl (Or.inl rfl) (BbP.ev hr (by decide) rfl pass1 (Jaa (pv 2) (Jaa (Jax (pv 3) rfl) Jad)) (he:=by exact Jaf rfl)))
   (Jai (Jas (JfI (Ja4 (Baw.ev hr (by decide) rfl pass1 (Jaa (pv 4) (Jaa (pv 5) Jad)) (he:=by exact Jaf rfl))) (pv 4) (pv 5)))))))), ?_⟩
 obtain ⟨ht,kn,k⟩:=h
 obtain ⟨dx,d1,d2,d3,k1,k2,k3,hx,hd1,b1,hd2,b2,_⟩:=id ht
 have tc:=T.BaV _ rfl
 have gc:=T.Bdh _ rfl
 show tSeq _ _ _ [some (.ref x),some (.str z),none,none,none,none] H
 and_intros
 refine ⟨x,_,dx,_,rfl,hx,rfl,rfl,x,z,ls,gs,rfl,ht,kn,fun g hg hz => ?_⟩
 obtain ⟨pl,hu_,hN,hP,hB,hV,hT,k⟩:=k g hg hz
 refine ⟨pl,hu_,hN,hP,hB,hV,fun v H1 S1 fm => ?_⟩
 have mb:=Ji8 (g:=g) hB
 unfold roomF at k
 generalize mid pl g = m at *
 and_intros
 obtain ⟨g',v',hg',hgn,hv',qa,dq,vlo,vhi,rfl,hqa,hlo,hhi⟩:=b2.some (z:=z) (List.mem_map.mpr ⟨g,hg,hz⟩)
 have eg:=hu_ g' hg' hgn
 subst eg
 have lo:=hT.lo _ rfl
 have hi:=hT.hi _ rfl
 refine ⟨x,_,dx,_, .ref d2,rfl,S1 _ _ hx,tc.cls,tc.n2,rfl, ?_⟩
 refine ⟨d2,_,rfl,by rw [← hv']; exact DGet.k (k:=Sum.inr z) (S1 _ _ hd2), ?_⟩
 and_intros
 refine ⟨qa,_,dq,_,vhi,rfl,S1 _ _ hqa,gc.cls,gc.n5,rfl, ?_⟩
 refine ⟨vhi,v,_,_,_,_,rfl,hhi.same S1,fm,hi.s1.mono (by decide),hi.s2.mono (by decide),mb.s1.mono (by decide),mb.s2.mono (by decide),hi.b1,mb.b1,hi.g1,mb.g1,fun r1 H2 S2 e2 => ?_⟩
 and_intros
 have S02:=S1.trans S2
 refine ⟨qa,_,dq,_,vlo,rfl,S02 _ _ hqa,gc.cls,gc.n4,rfl, ?_⟩
 refine ⟨v,vlo,_,_,_,_,rfl,fm.same S2,hlo.same S02,mb.s1.mono (by decide),mb.s2.mono (by decide),lo.s1.mono (by decide),lo.s2.mono (by decide),mb.b1,lo.b1,mb.g1,lo.g1,fun r2 H3 S3 e3 => ?_⟩
 and_intros
 have ea:addF g'.hi (negF m) = (Mth.top (g'.hi.1 * m.2 - m.1 * g'.hi.2) (g'.hi.2 * m.2),Mth.bot (g'.hi.1 * m.2 - m.1 * g'.hi.2) (g'.hi.2 * m.2)):=by
  unfold addF negF
  dsimp only
  rw [Int.neg_mul, ← Int.sub_eq_add_neg]
 have eb:addF m (negF g'.lo) = (Mth.top (m.1 * g'.lo.2 - g'.lo.1 * m.2) (m.2 * g'.lo.2),Mth.bot (m.1 * g'.lo.2 - g'.lo.1 * m.2) (m.2 * g'.lo.2)):=by
  unfold addF negF
  dsimp only
  rw [Int.neg_mul, ← Int.sub_eq_add_neg]
 have fa:FrV K H3 (.ref r1) (addF g'.hi (negF m)).1 (addF g'.hi (negF m)).2:=by rw [ea]; exact FrV.of (S3 _ _ e2)
 have fb:FrV K H3 (.ref r2) (addF m (negF g'.lo)).1 (addF m (negF g'.lo)).2:=by rw [eb]; exact FrV.of e3
 have ba:=FB.add' (L2.FOk.fb hi) mb.neg
 have bb:=FB.add' mb (L2.FOk.fb lo).neg
 generalize addF g'.hi (negF m) = A at *
 generalize addF m (negF g'.lo) = B at *
 refine ⟨.ref r1, .ref r2,A.1,A.2,B.1,B.2,rfl,fa,fb,ba.s1.mono (by decide),ba.s2.mono (by decide),bb.s1.mono (by decide),bb.s2.mono (by decide), ?_⟩
 and_intros
 by_cases c:lessF A B = true
 ·rw [if_pos c] at k
  rw [if_pos (show decide (A.1 * B.2 < B.1 * A.2) = true from c)]
  and_intros
  exact k _ H3 (S02.trans S3) fa
 ·rw [if_neg c] at k
  rw [if_neg (show ¬ decide (A.1 * B.2 < B.1 * A.2) = true from c)]
  and_intros
  exact k _ H3 (S02.trans S3) fb
abbrev Bak:Stmt:=inClass (top 14) 0
theorem Jbm:Jan ["self", "numbers", "number", "factor"] ["self", "numbers"] (Jae Bak):=⟨rfl,rfl,rfl,by decide +kernel,rfl,by decide +kernel,by decide +kernel⟩
def Jbn (K:PySem.W.Frag) (Ad:Adr):Sp:=fun vs H Q E => ∃ (x dx a:Addr) (xs:List V) (ns:List Fr2),vs = [.ref x, .ref a]∧H x = some (.ins Ad.Scale dx [])∧H a = some (.lst xs)∧All2 (FLV K H) ns xs∧ns.length ≤ 30∧(∀ n ∈ ns,1 ≤ n.2∧Mth.Sz 64 n.2)∧∀ b fs fl H',H' x = some (.ins Ad.Scale dx [("bottom", .int b),("factors", .ref fl)])→H fl = none→H' fl = some (.lst (fs.map V.int))→(∀ c u,c ≠ x→H c = some u→H' c = some u)→Scl b fs→Mth.Sz 2000 b→fs.length ≤ 30→Q .non H'
theorem JcE {f:Addr} {fd:FuncData} {dV:Value} (F:FunD K "__init__" "Scale.__init__" Bak dV f fd) (T:Txt K mg Ad) (Bac:Cal P w K mg base 1 "common_divisor" ["one", "other"] [] (JaP)):FnOk P w K mg base (CX1 P w) 2 f fd ["self", "numbers"] (Jbn K Ad):=by
 refine F.okn Jbm (fun vs H Q E h => ?_) (fun cdv A outer s H vs Q E hr h => ?_)
 ·obtain ⟨x,dx,a,xs,ns,rfl,_⟩:=h; rfl
 obtain ⟨x,dx,a,xs,ns,rfl,h⟩:=h
 have hu:=hr.units
 refine ⟨_,(Jab (Jbk (pv 0) Jac rfl)
   (Jab (Jbk (pv 0) (JaX Jad) rfl)
   (Jai (Ja2 PassesOwn.never rfl (pi_U (pv 1)) (Jav (i:=2) Jbm.nd rfl (Or.inl rfl))
   (Jab (Jaj (i:=3) Jbm.nd rfl (Or.inl rfl) (pe_op Jao (pe_ix ix_U (pv 2) Jac (fun _ _ => rfl)) (Bac.ev hr (by decide) rfl passF (Jaa (Jax (pv 0) rfl) (Jaa (pe_ix ix_U (pv 2) Jac (fun _ _ => rfl)) Jad)) (he:=by exact Jaf rfl))))
   (Jai (ps_if (Jaz JfG (pv 3) Jac (JaD _))
   (Jab (Jbk (pv 0) (pe_op Jay (Jax (pv 0) rfl) (pv 3)) rfl)
   (Jai (Jbt (pe_bm PySem.F.plainAttrs_list PySem.F.slot_list_append PySem.F.type_list_append Jbr (Jax (pv 0) rfl) (Jaa (pv 3) Jad) (hs:=by exact Jaf rfl)))))
   JaB))))))), ?_⟩
 obtain ⟨e0,hA,hN,hl,hok,k⟩:=h
 have tc:=T.BcZ Ad.Scale rfl
 have sl:(1000:Nat) ≤ sizeLine:=by decide
 have lx:=hN.length
 show tSeq _ _ _ [some (.ref x),some (.ref a),none,none] H
 symm_saturate
 refine ⟨x,_,dx,_,rfl,e0,tc.cls,tc.n1,by simp, ?_⟩
 generalize u1:upd H x _ = H1
 symm_saturate
 have e1:H1 x = some (.ins Ad.Scale dx [("bottom", .int 1)]):=by rw [← u1]; exact Jak.trans rfl
 have o1:∀ b,b ≠ x→H1 b = H b:=fun b hb => by rw [← u1,Jah hb]
 symm_saturate
 refine ⟨len0, ?_⟩
 intro fl h_fl
 generalize q_fl:upd H1 fl _ = H2
 have S2:=newS h_fl q_fl
 have e2:=newE q_fl
 symm_saturate
 symm_saturate
 refine ⟨x,_,dx,_,rfl,S2 _ _ e1,tc.cls,tc.n2,by simp, ?_⟩
 generalize u3:upd H2 x _ = H3
 symm_saturate
 have e3:H3 x = some (.ins Ad.Scale dx [("bottom", .int 1),("factors", .ref fl)]):=by rw [← u3]; exact Jak.trans rfl
 have nx:fl ≠ x:=fun z => by rw [z,e1] at h_fl; cases h_fl
 have f3:H3 fl = some (.lst []):=by rw [← u3,Jah nx]; exact e2
 have o3:∀ c u,c ≠ x→H c = some u→H3 c = some u:=fun c u hc h => by rw [← u3,Jah hc]; exact S2 _ _ (by rw [o1 c hc]; exact h)
 have h0fl:H fl = none:=by rw [← o1 fl nx]; exact h_fl
 have nax:a ≠ x:=fun z => by rw [z,e0] at hA; cases hA
 have T03:SameT H H3:=(SameT.put u1 e0 rfl).trans (S2.t.trans (SameT.put u3 (S2 _ _ e1) rfl))
 symm_saturate
 refine ⟨a,rfl,ForA.byL (xs:=xs) (SqL.of (o3 _ _ nax hA)) (fun i σ H' => i ≤ xs.length∧∃ (v2 v3:Option V) (b:Int) (fs:List Int), σ = [some (.ref x),some (.ref a),v2,v3]∧H' x = some (.ins Ad.Scale dx [("bottom", .int b),("factors", .ref fl)])∧H' fl = some (.lst (fs.map V.int))∧(∀ c u,c ≠ x→H c = some u→H' c = some u)∧SameT H H'∧Scl b fs∧Mth.Sz (1 + 64 * i) b∧fs.length ≤ i) ⟨Nat.zero_le _,none,none,1,[],rfl,e3,f3,o3,T03,Scl.nil, .lit (by decide) (by decide),Nat.le_refl _⟩ (fun i σ H' q => by obtain ⟨_,_,_,_,_,_,_,_,q,_⟩:=q; exact SqL.of (q _ _ nax hA)) ?_ ?_⟩
 ·rintro i y σ H4 hy ⟨hi,v2,v3,b,fs,rfl,hx,hf,ho,hT,hs,sb,lf⟩
  have li:=(List.getElem?_eq_some_iff.mp hy).1
  obtain ⟨n,hn,fn⟩:=hN.at_ hy
  have fn:FrV K H4 y n.1 n.2:=FrV.sameT hT fn
  have nok:=hok n (List.mem_of_getElem? hn)
  have sb:Mth.Sz 2000 b:=sb.mono (by omega)
  have gp:=Mth.g_pos (a:=b) (b:=n.2) (by omega)
  have gd:=Mth.Jch b n.2
  have gl:=Mth.g_le (a:=b) (b:=n.2) (by omega)
  have d1:DivOk (Mth.g b n.2):=divOk (n:=64) (by omega) (Nat.lt_of_le_of_lt (by omega:(Mth.g b n.2).natAbs ≤ n.2.natAbs) nok.2)
  have f1:=Mth.Jcu gd (by omega) nok.1
  have sf:Mth.Sz 64 (n.2.fdiv (Mth.g b n.2)):=nok.2.fdiv gd (by omega)
  symm_saturate
  refine ixF1 fn ?_
  refine ⟨x,_,dx,_, .int b,rfl,hx,tc.cls,tc.n1,rfl, ?_⟩
  refine ixF1 fn ?_
  symm_saturate
  refine ⟨_,_,rfl, ?_⟩
  symm_saturate
  refine ⟨d1, ?_⟩
  generalize n.2.fdiv (Mth.g b n.2) = f at *
  symm_saturate
  by_cases c:1 < f
  ·rw [if_pos (by simpa using c)]
   symm_saturate
   try simpa only [y4ay,y81y]
   refine ⟨x,_,dx,_, .int b,rfl,hx,tc.cls,tc.n1,rfl, ?_⟩
   try simpa only [y4ay,y81y]
   refine ⟨mulOk sb sf, ?_⟩
   refine ⟨x,_,dx,_,rfl,hx,tc.cls,tc.n1,by simp, ?_⟩
   generalize u5:upd H4 x _ = H5
   symm_saturate
   have e5:H5 x = some (.ins Ad.Scale dx [("bottom", .int (b * f)),("factors", .ref fl)]):=by rw [← u5]; exact Jak.trans rfl
   have f5:H5 fl = some (.lst (fs.map V.int)):=by rw [← u5,Jah nx]; exact hf
   have T5:SameT H4 H5:=SameT.put u5 hx rfl
   try simpa only [y4ay,y81y]
   refine ⟨x,_,dx,_, .ref fl,rfl,e5,tc.cls,tc.n2,rfl, ?_⟩
   refine ⟨.inl ⟨rfl,_,SqL.of f5⟩, ?_⟩
   symm_saturate
   refine ⟨fl,_,_,rfl,rfl,f5,by rw [List.length_map]; omega, ?_⟩
   generalize u6:upd H5 fl _ = H6
   symm_saturate
   have f6:=putE u6
   have T6:SameT H5 H6:=SameT.put u6 f5 rfl
   symm_saturate
   refine ⟨li,_,_,b * f,fs ++ [f],rfl,by rw [← u6,Jah (Ne.symm nx)]; exact e5,by rw [f6]; simp,fun c u hc h => by rw [← u6,Jah (Jag h h0fl), ← u5,Jah hc]; exact ho c u hc h,hT.trans (T5.trans T6),hs.snoc (by omega), ?_,by simp; omega⟩
   have:=(show Mth.Sz (1 + 64 * i) b by assumption).mul sf
   exact this.mono (by omega)
  ·rw [if_neg (by simpa using c)]
   symm_saturate
   symm_saturate
   exact ⟨li,_,_,b,fs,rfl,hx,hf,ho,hT,hs,(show Mth.Sz (1 + 64 * i) b by assumption).mono (by omega),by omega⟩
 ·rintro σ H4 ⟨hi,v2,v3,b,fs,rfl,hx,hf,ho,hT,hs,sb,lf⟩
  symm_saturate
  exact k b fs fl H4 hx h0fl hf ho hs (sb.mono (by omega)) (by omega)
abbrev Bap:Stmt:=inClass (top 14) 1
theorem JaR:Jan ["self", "number", "top", "rest", "factor", "shared"] ["self", "number"] (Jae Bap):=⟨rfl,rfl,rfl,by decide +kernel,rfl,by decide +kernel,by decide +kernel⟩
def JbA (K:PySem.W.Frag) (Ad:Adr):Sp:=fun vs H Q E => ∃ (x:Addr) (v:V) (n:Fr2) (b:Int) (fs:List Int),vs = [.ref x,v]∧SCK Ad H x b fs∧FrV K H v n.1 n.2∧FB 200 56 n∧∀ p (t:Fr2) H',Same H H'→H' p = some (.tup [.int t.1, .int t.2])→LInv n b t→Q (.ref p) H'
theorem Jdh {f:Addr} {fd:FuncData} {dV:Value} (F:FunD K "lifted" "Scale.lifted" Bap dV f fd) (T:Txt K mg Ad) (Bac:Cal P w K mg base 1 "common_divisor" ["one", "other"] [] (JaP)):FnOk P w K mg base (CX1 P w) 2 f fd ["self", "number"] (JbA K Ad):=by
 refine F.okn JaR (fun vs H Q E h => ?_) (fun cdv A outer s H vs Q E hr h => ?_)
 ·obtain ⟨x,v,n,b,fs,rfl,_⟩:=h; rfl
 obtain ⟨x,v,n,b,fs,rfl,h⟩:=h
 have hu:=hr.units
 refine ⟨_,(Jab (ps_if (Jaz (JbG hu) (pe_op Jar (Jax (pv 0) rfl) (pe_ix ix_U (pv 1) Jac (fun _ _ => rfl))) Jac (JaD _))
   (Jai (Jas (Ja0 (Jaa (pe_op Jay (pe_ix ix_U (pv 1) Jac (fun _ _ => rfl)) (pe_op Jao (Jax (pv 0) rfl) (pe_ix ix_U (pv 1) Jac (fun _ _ => rfl)))) (Jaa Jac Jad)))))
   JaB)
   (Jab (Jaj (i:=2) JaR.nd rfl (Or.inl rfl) (pe_ix ix_U (pv 1) Jac (fun _ _ => rfl)))
   (Jab (Jaj (i:=3) JaR.nd rfl (Or.inl rfl) (pe_ix ix_U (pv 1) Jac (fun _ _ => rfl)))
   (Jab (Ja2 PassesOwn.never rfl (pi_U (Jax (pv 0) rfl)) (Jav (i:=4) JaR.nd rfl (Or.inl rfl))
   (Jab (Jaj (i:=5) JaR.nd rfl (Or.inl rfl) (Bac.ev hr (by decide) rfl passF (Jaa (pv 3) (Jaa (pv 4) Jad)) (he:=by exact Jaf rfl)))
   (Jab (Jaj (i:=2) JaR.nd rfl (Or.inl rfl) (pe_op Jay (pv 2) (pe_op Jao (pv 4) (pv 5))))
   (Jai (Jaj (i:=3) JaR.nd rfl (Or.inl rfl) (pe_op Jao (pv 3) (pv 5)))))))
   (Jai (Jas (Ja0 (Jaa (pv 2) (Jaa (pv 3) Jad))))))))), ?_⟩
 obtain ⟨⟨dx,fl,hx,hf,hs,sb,l30⟩,fv,fb,k⟩:=h
 have tc:=T.BcZ Ad.Scale rfl
 have sl:(1000:Nat) ≤ sizeLine:=by decide
 have n1:=fb.b1
 have b1:=hs.b1
 have d1:DivOk n.2:=divOk (n:=56) (by omega) fb.s2
 show tSeq _ _ _ [some (.ref x),some v,none,none,none,none] H
 and_intros
 refine ⟨x,_,dx,_, .int b,rfl,hx,tc.cls,tc.n1,rfl, ?_⟩
 refine ixF1 fv ?_
 and_intros
 refine ⟨by omega, ?_⟩
 by_cases c:b.fmod n.2 = 0
 ·rw [if_pos (by simpa using c)]
  and_intros
  and_intros
  refine ixF0 fv ?_
  refine ⟨x,_,dx,_, .int b,rfl,hx,tc.cls,tc.n1,rfl, ?_⟩
  refine ixF1 fv ?_
  and_intros
  have dv:n.2 ∣ b:=by
   rw [Int.fmod_eq_emod_of_nonneg _ (by omega)] at c
   exact Int.dvd_of_emod_eq_zero c
  refine ⟨d1,mulOk fb.s1 (sb.fdiv dv n1),len2, ?_⟩
  intro p h_p
  generalize q_p:upd H p _ = H1
  have S1:=newS h_p q_p
  have e1:=newE q_p
  and_intros
  exact k p (n.1 * b.fdiv n.2,1) H1 S1 e1 (LInv.all n1 c)
 ·rw [if_neg (by simpa using c)]
  and_intros
  and_intros
  refine ixF0 fv ?_
  and_intros
  refine ixF1 fv ?_
  and_intros
  refine ⟨x,_,dx,_, .ref fl,rfl,hx,tc.cls,tc.n2,rfl, ?_⟩
  refine ⟨fl,rfl,ForA.byL (xs:=fs.map V.int) (SqL.of hf) (fun i σ H' => i ≤ (fs.map V.int).length∧H' = H∧∃ (t:Fr2) (v4 v5:Option V), σ = [some (.ref x),some v,some (.int t.1),some (.int t.2),v4,v5]∧LInv n (prodI (fs.take i)) t) ⟨Nat.zero_le _,rfl,n,none,none,rfl,LInv.nil n1 fb.g1⟩ (fun i σ H' q => by rw [q.2.1]; exact SqL.of hf) ?_ ?_⟩
  ·rintro i y σ H' hy ⟨hi,rfl,t,v4,v5,rfl,hL⟩
   have li:=(List.getElem?_eq_some_iff.mp hy).1
   rw [List.length_map] at li
   rw [List.getElem?_map,List.getElem?_eq_getElem li] at hy
   obtain ⟨f,hfe⟩:∃ f,f = fs[i]:=⟨_,rfl⟩
   rw [← hfe] at hy
   have hy:y = .int f:=(Option.some.inj hy).symm
   subst hy
   have fm:f ∈ fs:=by rw [hfe]; exact List.getElem_mem li
   have f1:=hs.f1 f fm
   have fs_:Mth.Sz 2000 f:=sz_le sb (by omega) (hs.mem fm)
   have tk:=hs.take i
   have tb:=hL.fb fb (sz_le sb (by omega) tk.2)
   have gp:=Mth.g_pos (a:=t.2) (b:=f) (by omega)
   have gl:=Mth.g_le (a:=t.2) (b:=f) (by omega)
   have dg:DivOk (Mth.g t.2 f):=divOk (n:=2000) (by omega) (Nat.lt_of_le_of_lt (by omega:(Mth.g t.2 f).natAbs ≤ f.natAbs) fs_)
   have qf:=fs_.fdiv (Mth.Jch t.2 f) (by omega)
   have st:=hL.step f1
   have et:prodI (fs.take (i + 1)) = prodI (fs.take i) * f:=by
    rw [List.take_succ,List.getElem?_eq_getElem li, ← hfe]
    exact Jce f _
   and_intros
   refine ⟨_,_,rfl, ?_⟩
   and_intros
   refine ⟨dg,mulOk tb.s1 qf, ?_⟩
   and_intros
   refine ⟨dg, ?_⟩
   and_intros
   exact ⟨by rw [List.length_map]; omega,(t.1 * f.fdiv (Mth.g t.2 f),t.2.fdiv (Mth.g t.2 f)),_,_,rfl,by rw [et]; exact st⟩
  ·rintro σ H' ⟨hi,rfl,t,v4,v5,rfl,hL⟩
   rw [List.take_of_length_le (by rw [List.length_map]; omega),hs.pr] at hL
   and_intros
   refine ⟨len2, ?_⟩
   intro p h_p
   generalize q_p:upd H' p _ = H1
   have S1:=newS h_p q_p
   have e1:=newE q_p
   and_intros
   exact k p t H1 S1 e1 hL
abbrev BaQ:Stmt:=top 27
theorem JbO:Jan ["thing", "numbers", "part", "gap"] ["thing"] (Jae BaQ):=⟨rfl,rfl,rfl,by decide +kernel,rfl,by decide +kernel,by decide +kernel⟩
def Jco (K:PySem.W.Frag) (Ad:Adr):Sp:=fun vs H Q E => ∃ (x:Addr) (ls:List PD) (gs:List GD),vs = [.ref x]∧TK K Ad H x ls gs∧ls.length ≤ 7∧gs.length ≤ 6∧(∀ p ∈ ls,(1 ≤ p.sz.2∧Mth.Sz 64 p.sz.2)∧1 ≤ p.mo.2∧Mth.Sz 64 p.mo.2)∧(∀ g ∈ gs,(1 ≤ g.lo.2∧Mth.Sz 64 g.lo.2)∧1 ≤ g.hi.2∧Mth.Sz 64 g.hi.2)∧∀ s b fs H',Same H H'→SCK Ad H' s b fs→Q (.ref s) H'
theorem Jfc {f:Addr} {fd:FuncData} {dV:Value} (F:FunD K "scale_of" "scale_of" BaQ dV f fd) (T:Txt K mg Ad) (Bbh:MCal P w K mg base 2 "parts" (Ja3 Ad) ["self"] (Ja5 K Ad)) (Bb6:MCal P w K mg base 2 "gaps" (Ja3 Ad) ["self"] (Jbh K Ad)) (Bc1:KCal P w K mg base 2 "Scale" Ad.Scale ["self", "numbers"] (Jbn K Ad)):FnOk P w K mg base (CX1 P w) 4 f fd ["thing"] (Jco K Ad):=by
 refine F.okn JbO (fun vs H Q E h => ?_) (fun cdv A outer s H vs Q E hr h => ?_)
 ·obtain ⟨x,ls,gs,rfl,_⟩:=h; rfl
 obtain ⟨x,ls,gs,rfl,h⟩:=h
 have hu:=hr.units
 refine ⟨_,(Jab (Jaj (i:=1) JbO.nd rfl (Or.inl rfl) (JaX Jad))
   (Jab (Ja2 PassesOwn.never rfl (pi_U (Bbh.m0 hr (by decide) passF (pv 0))) (Jav (i:=2) JbO.nd rfl (Or.inl rfl))
   (Jai (Jbt (pe_bm PySem.F.plainAttrs_list PySem.F.slot_list_extend PySem.F.type_list_extend JeB (pv 1) (Jaa (JaX (Jaa (pe_ix ix_U (pv 2) Jac (fun _ _ => rfl)) (Jaa (pe_ix ix_U (pv 2) Jac (fun _ _ => rfl)) Jad))) Jad)))))
   (Jab (Ja2 PassesOwn.never rfl (pi_U (Bb6.m0 hr (by decide) passF (pv 0))) (Jav (i:=3) JbO.nd rfl (Or.inl rfl))
   (Jai (Jbt (pe_bm PySem.F.plainAttrs_list PySem.F.slot_list_extend PySem.F.type_list_extend JeB (pv 1) (Jaa (JaX (Jaa (pe_ix ix_U (pv 3) Jac (fun _ _ => rfl)) (Jaa (pe_ix ix_U (pv 3) Jac (fun _ _ => rfl)) Jad))) Jad)))))
   (Jai (Jas (Bc1.ev hr (by decide) rfl passF (Jaa (pv 1) Jad))))))), ?_⟩
 obtain ⟨ht,h7,h6,hpb,hgb,k⟩:=h
 obtain ⟨dx,d1,d2,d3,k1,k2,k3,hx,_⟩:=id ht
 have sl:(1000:Nat) ≤ sizeLine:=by decide
 show tSeq _ _ _ [some (.ref x),none,none,none] H
 nofun
 refine ⟨len0, ?_⟩
 intro nl h_nl
 generalize q_nl:upd H nl _ = H1
 have S1:=newS h_nl q_nl
 have e1:=newE q_nl
 nofun
 nofun
 refine ⟨x,_,dx,_,rfl,S1 _ _ hx,rfl,rfl,x,ls,gs,rfl,ht.same S1,by omega,fun l ys H2 S2 h_l e2 hY => ?_⟩
 have lY:=hY.length
 have nln:l ≠ nl:=fun z => by rw [z,e1] at h_l; cases h_l
 nofun
 refine ⟨l,rfl,ForA.byL (xs:=ys) (SqL.of e2) (fun i σ H' => i ≤ ys.length∧∃ (v2 v3:Option V) (nx:List V) (ns:List Fr2), σ = [some (.ref x),some (.ref nl),v2,v3]∧(∀ c u,c ≠ nl→H2 c = some u→H' c = some u)∧SameT H2 H'∧H' nl = some (.lst nx)∧All2 (FLV K H') ns nx∧(∀ n ∈ ns,1 ≤ n.2∧Mth.Sz 64 n.2)∧ns.length = 2 * i) ⟨Nat.zero_le _,none,none,[],[],rfl,fun _ _ _ h => h,(Same.refl _).t,S2 _ _ e1,rfl,(fun n hn => by cases hn),rfl⟩ (fun i σ H' q => by obtain ⟨_,_,_,_,_,_,q,_⟩:=q; exact SqL.of (q _ _ nln e2)) ?_ ?_⟩
 ·rintro i y σ H3 hy ⟨hi,v2,v3,nx,ns,rfl,ho,hT,en,hA,hok,ln⟩
  have li:=(List.getElem?_eq_some_iff.mp hy).1
  have la:=hA.length
  obtain ⟨p,hp,b,vz,vm,rfl,hb,hz,hm⟩:=hY.at_ hy
  have pok:=hpb p (List.mem_of_getElem? hp)
  have hb3:=hb.sameT hT
  nofun
  refine ⟨.inl ⟨rfl,_,SqL.of en⟩, ?_⟩
  refine ixT (i:=3) hb3 rfl ?_
  refine ixT (i:=4) hb3 rfl ?_
  nofun
  refine ⟨len2, ?_⟩
  intro tl h_tl
  generalize q_tl:upd H3 tl _ = H4
  have S4:=newS h_tl q_tl
  have e4:=newE q_tl
  nofun
  refine ⟨nl,tl,nx,_,rfl,rfl,S4 _ _ en,e4,by simp only [List.length_cons,List.length_nil]; omega, ?_⟩
  generalize u5:upd H4 nl _ = H5
  nofun
  have e5:=putE u5
  have T5:SameT H4 H5:=SameT.put u5 (S4 _ _ en) rfl
  have T35:SameT H3 H5:=S4.t.trans T5
  nofun
  refine ⟨li,_,_,nx ++ [vz,vm],ns ++ [p.sz,p.mo],rfl,fun c u hc h => by rw [← u5,Jah hc]; exact S4 _ _ (ho c u hc h),hT.trans T35,e5,(hA.mono (P':=FLV K H5) fun _ _ z => z.sameT T35).append ⟨vz,_,rfl,FrV.sameT (hT.trans T35) hz,vm,_,rfl,FrV.sameT (hT.trans T35) hm,rfl⟩,fun n hn => ?_,by simp; omega⟩
  rcases List.mem_append.mp hn with hn | hn
  ·exact hok n hn
  ·rcases List.mem_cons.mp hn with rfl | hn
   ·exact pok.1
   ·rw [List.mem_singleton.mp hn]; exact pok.2
 ·rintro σ H3 ⟨hi,v2,v3,nx,ns,rfl,ho,hT,en,hA,hok,ln⟩
  have S03:Same H H3:=fun c u h => ho c u (Jag h h_nl) (S2 _ _ (S1 _ _ h))
  nofun
  refine ⟨x,_,dx,_,rfl,S03 _ _ hx,rfl,rfl,x,ls,gs,rfl,ht.same S03,by omega,fun m zs H4 S4 h_m e4 hZ => ?_⟩
  have lZ:=hZ.length
  have nmn:m ≠ nl:=fun z => by rw [z,en] at h_m; cases h_m
  have la:=hA.length
  nofun
  refine ⟨m,rfl,ForA.byL (xs:=zs) (SqL.of e4) (fun i σ H' => i ≤ zs.length∧∃ (v2 v3:Option V) (nx:List V) (ns:List Fr2), σ = [some (.ref x),some (.ref nl),v2,v3]∧(∀ c u,c ≠ nl→H4 c = some u→H' c = some u)∧SameT H4 H'∧H' nl = some (.lst nx)∧All2 (FLV K H') ns nx∧(∀ n ∈ ns,1 ≤ n.2∧Mth.Sz 64 n.2)∧ns.length ≤ 14 + 2 * i) ⟨Nat.zero_le _,v2,v3,nx,ns,rfl,fun _ _ _ h => h,(Same.refl _).t,S4 _ _ en,hA.mono (fun _ _ z => z.sameT S4.t),hok,by omega⟩ (fun i σ H' q => by obtain ⟨_,_,_,_,_,_,q,_⟩:=q; exact SqL.of (q _ _ nmn e4)) ?_ ?_⟩
  ·clear hA hok ln en la
   rintro i y σ H5 hy ⟨hi,v2,v3,nx,ns,rfl,ho5,hT5,en,hA,hok,ln⟩
   have li:=(List.getElem?_eq_some_iff.mp hy).1
   have la:=hA.length
   obtain ⟨g,hg,b,vz,vm,rfl,hb,hz,hm⟩:=hZ.at_ hy
   have gok:=hgb g (List.mem_of_getElem? hg)
   have hb5:=hb.sameT hT5
   nofun
   refine ⟨.inl ⟨rfl,_,SqL.of en⟩, ?_⟩
   refine ixT (i:=3) hb5 rfl ?_
   refine ixT (i:=4) hb5 rfl ?_
   nofun
   refine ⟨len2, ?_⟩
   intro tl h_tl
   generalize q_tl:upd H5 tl _ = H6
   have S6:=newS h_tl q_tl
   have e6:=newE q_tl
   nofun
   refine ⟨nl,tl,nx,_,rfl,rfl,S6 _ _ en,e6,by simp only [List.length_cons,List.length_nil]; omega, ?_⟩
   generalize u7:upd H6 nl _ = H7
   nofun
   have e7:=putE u7
   have T7:SameT H6 H7:=SameT.put u7 (S6 _ _ en) rfl
   have T57:SameT H5 H7:=S6.t.trans T7
   nofun
   refine ⟨li,_,_,nx ++ [vz,vm],ns ++ [g.lo,g.hi],rfl,fun c u hc h => by rw [← u7,Jah hc]; exact S6 _ _ (ho5 c u hc h),hT5.trans T57,e7,(hA.mono (P':=FLV K H7) fun _ _ z => z.sameT T57).append ⟨vz,_,rfl,FrV.sameT (hT5.trans T57) hz,vm,_,rfl,FrV.sameT (hT5.trans T57) hm,rfl⟩,fun n hn => ?_,by simp; omega⟩
   rcases List.mem_append.mp hn with hn | hn
   ·exact hok n hn
   ·rcases List.mem_cons.mp hn with rfl | hn
    ·exact gok.1
    ·rw [List.mem_singleton.mp hn]; exact gok.2
  ·clear hA hok ln en la
   rintro σ H5 ⟨hi,v2,v3,nx,ns,rfl,ho5,hT5,en,hA,hok,ln⟩
   have S05:Same H H5:=fun c u h => ho5 c u (Jag h h_nl) (S4 _ _ (S03 _ _ h))
   nofun
   intro s ds hs hds hne_
   have Sm:Same H5 (upd (upd H5 ds (.own s)) s (.ins Ad.Scale ds [])):=fun b u q => by rw [Jah (Jag q hs),Jah (Jag q hds)]; exact q
   refine ⟨s,ds,nl,nx,ns,rfl,Jak,Sm _ _ en,hA.mono (fun _ _ z => z.sameT Sm.t),by omega,hok,fun b fs fl H6 h1 h2 h3 h4 hsc hsz hfl => ⟨rfl,k s b fs H6 (fun c u h => ?_) ⟨ds,fl,h1,h3,hsc,hsz,hfl⟩⟩⟩
   exact h4 c u (Jag (S05 _ _ h) hs) (Sm _ _ (S05 _ _ h))
abbrev BaC:Stmt:=top 28
theorem Jek:Jan ["thing", "gap_name"] ["thing", "gap_name"] (Jae BaC):=⟨rfl,rfl,rfl,by decide +kernel,rfl,by decide +kernel,by decide +kernel⟩
def JbX (K:PySem.W.Frag) (Ad:Adr):Sp:=fun vs H Q E => ∃ (x:Addr) (ls:List PD) (gs:List GD) (g:GD),vs = [.ref x, .str g.nm]∧TK K Ad H x ls gs∧(ls.map (·.nm)).Nodup∧ls.length ≤ 8∧g ∈ gs∧(∀ u ∈ gs,u.nm = g.nm→u = g)∧∀ l (w:List Pr) H',Same H H'→H' l = some (.lst ((w.map (·.1)).map V.str))→Jbc ls g.st w g.en→(w.map (·.1)).Nodup→Q (.ref l) H'
theorem Jea {f:Addr} {fd:FuncData} {dV:Value} (F:FunD K "part_names" "part_names" BaC dV f fd) (T:Txt K mg Ad) (Bdf:MCal P w K mg base 1 "way" (Ja3 Ad) ["self", "name"] (JbD K Ad)):FnOk P w K mg base (CX1 P w) 2 f fd ["thing", "gap_name"] (JbX K Ad):=by
 refine F.okn Jek (fun vs H Q E h => ?_) (fun cdv A outer s H vs Q E hr h => ?_)
 ·obtain ⟨x,ls,gs,g,rfl,_⟩:=h; rfl
 obtain ⟨x,ls,gs,g,rfl,h⟩:=h
 have hu:=hr.units
 refine ⟨_,(Jai (Jas (Jed (own:=["name", "forward"]) (cs:=[]) (cl:=[]) rfl (pi_U (Bdf.m hr (by decide) passF (pv 0) (Jaa (pv 1) Jad))) (fun _ _ _ _ => (JiD (K:=K) (n:=2) rfl rfl (Ja6 (Jav (i:=0) (show [("name" : Str),("forward" : Str)].Nodup by decide) rfl (Or.inl rfl) (hf:=Or.inr rfl)) (Ja6 (Jav (i:=1) (show [("name" : Str),("forward" : Str)].Nodup by decide) rfl (Or.inl rfl) (hf:=Or.inr rfl)) JcJ)))) (fun _ _ _ _ => (pv 0)) rfl (by decide) rfl (by decide) hcl0 (hhas0 (by decide)) hcs0))), ?_⟩
 obtain ⟨ht,hnd,h8,hg,hu_,k⟩:=h
 obtain ⟨dx,d1,d2,d3,k1,k2,k3,hx,_⟩:=id ht
 have sl:(1000:Nat) ≤ sizeLine:=by decide
 show tRet _ _ [some (.ref x),some (.str g.nm)] H
 nofun
 refine ⟨x,_,dx,_,rfl,hx,rfl,rfl,x,g.nm,ls,gs,rfl,ht,fun z => absurd (List.mem_map.mpr ⟨g,hg,rfl⟩) z,fun g' hg' hz l xs w H1 S1 h_l e1 hcv hw hwn => ?_⟩
 have e:=hu_ g' hg' hz
 subst e
 have lx:=hcv.length
 have lw:w.length ≤ 8:=by
  have:=sub_len (w.map (·.1)) (ls.map (·.nm)) hwn fun n hn => JcH (Jdl hw) n hn
  rw [List.length_map,List.length_map] at this
  omega
 nofun
 refine ⟨l,rfl, .inl ⟨⟨xs,SqL.of e1⟩,CompJ.list (xs:=xs) (fun i ys H' => H' = H1∧ys = ((w.take i).map (·.1)).map V.str) ⟨rfl,rfl⟩ (fun i ys H' hi z => ⟨by rw [z.1]; exact SqL.of e1,by rw [z.2,List.length_map,List.length_map,List.length_take]; omega⟩) ?_ ?_⟩⟩
 ·rintro i y ys' H' hy ⟨rfl,rfl⟩
  obtain ⟨pr,hpr,b,rfl,hb⟩:=hcv.at_ hy
  simpa only [List.length_singleton,List.length_cons,List.length_nil,List.replicate,JaA,List.map_cons,List.map_nil,Option.join_some]
  refine ⟨b,_,rfl,SqT.of hb,rfl, ?_⟩
  nofun
  rw [List.take_succ,hpr]
  simp
 ·rintro ys' H' ⟨rfl,rfl⟩
  rw [List.take_of_length_le (by omega)]
  intro r h_r
  generalize q_r:upd H' r _ = H2
  have S2:=newS h_r q_r
  have e2:=newE q_r
  nofun
  exact k r w H2 (S1.trans S2) e2 hw hwn
abbrev BcD:Stmt:=top 29
theorem Jej:Jan ["room", "slacks", "total", "slack"] ["room", "slacks"] (Jae BcD):=⟨rfl,rfl,rfl,by decide +kernel,rfl,by decide +kernel,by decide +kernel⟩
def Jfq (K:PySem.W.Frag):Sp:=fun vs H Q E => ∃ (r:V) (l:Addr) (xs:List V) (ts:List Fr2) (m:Fr2),vs = [r, .ref l]∧FrV K H r m.1 m.2∧FB 2200 56 m∧SqL K H l xs∧All2 (FLV K H) ts xs∧(∀ t ∈ ts,FB 2200 56 t)∧ts.length ≤ 8∧∀ (b:Bool) H',Same H H'→(b = true ↔ smF ts ≤ vl m)→Q (.bl b) H'
theorem Jis {f:Addr} {fd:FuncData} {dV:Value} (F:FunD K "fits" "fits" BcD dV f fd) (T:Txt K mg Ad) (Bb5:Cal P w K mg base 2 "plus" ["one", "other"] [] (Jds K)) (Baw:Cal P w K mg base 1 "under" ["one", "other"] [] (JbY K)):FnOk P w K mg base (CX1 P w) 3 f fd ["room", "slacks"] (Jfq K):=by
 refine F.okn Jej (fun vs H Q E h => ?_) (fun cdv A outer s H vs Q E hr h => ?_)
 ·obtain ⟨r,l,xs,ts,m,rfl,_⟩:=h; rfl
 obtain ⟨r,l,xs,ts,m,rfl,h⟩:=h
 have hu:=hr.units
 refine ⟨_,(Jab (Jaj (i:=2) Jej.nd rfl (Or.inl rfl) (JcI (v:=.ref _) rfl T.Bdb T.Bdc))
   (Jab (Ja2 PassesOwn.never rfl (pi_U (pv 1)) (Jav (i:=3) Jej.nd rfl (Or.inl rfl))
   (Jai (Jaj (i:=2) Jej.nd rfl (Or.inl rfl) (Bb5.ev hr (by decide) rfl passF (Jaa (pv 2) (Jaa (pv 3) Jad)) (he:=by exact Jaf rfl)))))
   (Jai (Jas (JfJ (Baw.ev hr (by decide) rfl passF (Jaa (pv 0) (Jaa (pv 2) Jad)) (he:=by exact Jaf rfl))))))), ?_⟩
 obtain ⟨fr,fm,hl,hA,hB,l8,k⟩:=h
 have lx:=hA.length
 show tSeq _ _ _ [some r,some (.ref l),none,none] H
 nofun
 refine ⟨l,rfl,ForA.byL (xs:=xs) hl (fun i σ H' => i ≤ xs.length∧∃ (t:V) (u:Fr2) (v3:Option V), σ = [some r,some (.ref l),some t,v3]∧Same H H'∧FrV K H' t u.1 u.2∧FB (2700 + 57 * i) (1 + 56 * i) u∧vl u = smF (ts.take i)) ⟨Nat.zero_le _, .ref Ad.ZERO,(0,1),none,rfl,Same.refl _,⟨Ad.ZERO,rfl,T.Bdd _⟩,Jcp.mono (by omega) (by omega),by rw [List.take_zero]; unfold vl smF; grind⟩ (fun i σ H' q => by obtain ⟨_,_,_,_,_,q,_⟩:=q; exact hl.same q) ?_ ?_⟩
 ·rintro i y σ H1 hy ⟨hi,t,u,v3,rfl,S1,ft,fu,eu⟩
  have li:=(List.getElem?_eq_some_iff.mp hy).1
  obtain ⟨s,hs,fs⟩:=hA.at_ hy
  have fb:=hB s (List.mem_of_getElem? hs)
  have i8:i < 8:=by omega
  nofun
  refine ⟨t,y,_,_,_,_,rfl,ft,FrV.same S1 fs,fu.s1.mono (by omega),fu.s2.mono (by omega),fb.s1.mono (by omega),fb.s2.mono (by omega),fu.b1,fb.b1,fu.g1,fb.g1,fun p H2 S2 e2 => ?_⟩
  nofun
  refine ⟨li, .ref p,addF u s,_,rfl,S1.trans S2,FrV.of e2, ?_, ?_⟩
  ·have:=FB.add (n:=2700 + 57 * i + 56) (m:=1 + 56 * (i + 1)) fu fb (by omega) (by omega) (by omega)
   exact this.mono (by omega) (by omega)
  ·rw [JfT fu.b1 fb.b1,eu,List.take_succ,hs]
   exact (Jem s _).symm
 ·rintro σ H1 ⟨hi,t,u,v3,rfl,S1,ft,fu,eu⟩
  rw [List.take_of_length_le (by omega)] at eu
  have i8:xs.length ≤ 8:=by omega
  nofun
  refine ⟨r,t,m.1,m.2,u.1,u.2,rfl,FrV.same S1 fr,ft,fm.s1.mono (by omega),fm.s2.mono (by omega),fu.s1.mono (by omega),fu.s2.mono (by omega), ?_⟩
  nofun
  have ls:=JbZ (a:=m) (c:=u) fm.b1 fu.b1
  unfold lessF at ls
  refine k _ H1 S1 ?_
  rw [← eu]
  by_cases c:vl m < vl u
  ·rw [ls.mpr c]
   constructor
   ·intro z; cases z
   ·intro z; exact absurd c (Rat.not_lt.mpr z)
  ·have e:decide (m.1 * u.2 < u.1 * m.2) = false:=by
    cases q:decide (m.1 * u.2 < u.1 * m.2) with
    | false => rfl
    | true => exact absurd (ls.mp q) c
   rw [e]
   exact ⟨fun _ => Rat.not_lt.mp c,fun _ => rfl⟩
abbrev BaD:Stmt:=top 30
theorem JaV:Jan ["thing", "slacks", "scale", "by_name", "part", "slack", "gap", "on_way"] ["thing", "slacks"] (Jae BaD):=⟨rfl,rfl,rfl,by decide +kernel,rfl,by decide +kernel,by decide +kernel⟩
def JbS (K:PySem.W.Frag) (Ad:Adr):Sp:=fun vs H Q E => ∃ (x sl:Addr) (ls:List PD) (es:List (GD × List Str)) (sx:List V) (ss:List Fr2) (pl:Str→Fr2),vs = [.ref x, .ref sl]∧TK K Ad H x ls (es.map (·.1))∧SqL K H sl sx∧All2 (FLV K H) ss sx∧ss.length = ls.length∧(∀ s ∈ ss,FB 200 56 s)∧ISC ls es pl∧∀ (b:Bool) H',Same H H'→(b = true ↔ ShP ls es ss pl)→Q (.bl b) H'
theorem Jd7 {f:Addr} {fd:FuncData} {dV:Value} (F:FunD K "is_sharing" "is_sharing" BaD dV f fd) (T:Txt K mg Ad) (Bca:Cal P w K mg base 4 "scale_of" ["thing"] [] (Jco K Ad)) (Bbh:MCal P w K mg base 2 "parts" (Ja3 Ad) ["self"] (Ja5 K Ad)) (Bb6:MCal P w K mg base 2 "gaps" (Ja3 Ad) ["self"] (Jbh K Ad)) (Baw:Cal P w K mg base 1 "under" ["one", "other"] [] (JbY K)) (Bcc:MCal P w K mg base 2 "lifted" (JeU Ad) ["self", "number"] (JbA K Ad)) (BbD:Cal P w K mg base 2 "part_names" ["thing", "gap_name"] [] (JbX K Ad)) (Bdk:Cal P w K mg base 3 "fits" ["room", "slacks"] [] (Jfq K)) (Bdl:MCal P w K mg base 5 "room" (Ja3 Ad) ["self", "name"] (JbQ K Ad)):FnOk P w K mg base (CX1 P w) 7 f fd ["thing", "slacks"] (JbS K Ad):=by
 refine F.okn JaV (fun vs H Q E h => ?_) (fun cdv A outer s H vs Q E hr h => ?_)
 ·obtain ⟨x,sl,ls,es,sx,ss,pl,rfl,_⟩:=h; rfl
 obtain ⟨x,sl,ls,es,sx,ss,pl,rfl,h⟩:=h
 have hu:=hr.units
 refine ⟨_,(Jab (Jaj (i:=2) JaV.nd rfl (Or.inl rfl) (Bca.ev hr (by decide) rfl passF (Jaa (pv 0) Jad) (he:=by exact Jaf rfl)))
   (Jab (Jaj (i:=3) JaV.nd rfl (Or.inr rfl) JbK)
   (Jab (Ja2 PassesOwn.never rfl (Jjl rfl T.BdM JiU (Jaa (Bbh.m0 hr (by decide) passF (pv 0)) (Jaa (pv 1) Jad))) (JdP rfl (Ja6 (Jav (i:=4) JaV.nd rfl (Or.inl rfl)) (Ja6 (Jav (i:=5) JaV.nd rfl (Or.inl rfl)) JcJ)))
   (Jab (ps_if (PW.pt (pw_or (Ja4 (Baw.ev hr (by decide) rfl passF (Jaa (pv 5) (Jaa (JcI (v:=.ref _) rfl T.Bdb T.Bdc) Jad)) (he:=by exact Jaf rfl))) (JbH (Ja4 (Baw.ev hr (by decide) rfl passF (Jaa (pe_ix ix_U (pv 4) Jac (fun _ _ => rfl)) (Jaa (pv 5) Jad)) (he:=by exact Jaf rfl))))))
   (Jai (Jas pe_bl))
   JaB)
   (Jai (Jb5 (hu1 hu) (pv 3) (pe_ix ix_U (pv 4) Jac (fun _ _ => rfl)) (Bcc.m hr (by decide) passF (pv 2) (Jaa (pv 5) Jad)) rfl))))
   (Jab (Ja2 PassesOwn.never rfl (pi_U (Bb6.m0 hr (by decide) passF (pv 0))) (Jav (i:=6) JaV.nd rfl (Or.inl rfl))
   (Jab (Jgc (j:=7) (own:=["name"]) (cs:=[(3, "by_name")]) JaV.nd rfl (Or.inl rfl) rfl (pi_U (BbD.ev hr (by decide) rfl passF (Jaa (pv 0) (Jaa (pe_ix ix_U (pv 6) Jac (fun _ _ => rfl)) Jad)) (he:=by exact Jaf rfl))) (fun _ _ _ _ => (Jav (i:=0) (show [("name" : Str),("by_name" : Str)].Nodup by decide) rfl (Or.inl rfl))) (fun _ _ _ _ => (Ja9 (hu1 hu) (pv 1) (pv 0) (fun _ _ => rfl))) (JfA rfl) (by decide) rfl (by decide) (hcs1 rfl rfl rfl))
   (Jai (ps_if (Jbs (Ja4 (Bdk.ev hr (by decide) rfl passF (Jaa (Bcc.m hr (by decide) passF (pv 2) (Jaa (Bdl.m hr (by decide) passF (pv 0) (Jaa (pe_ix ix_U (pv 6) Jac (fun _ _ => rfl)) Jad)) Jad)) (Jaa (pv 7) Jad)) (he:=by exact Jaf rfl))))
   (Jai (Jas pe_bl))
   JaB))))
   (Jai (Jas pe_bl)))))), ?_⟩
 obtain ⟨ht,hsl,hA,lss,hsb,hc,k⟩:=h
 obtain ⟨dx,d1,d2,d3,k1,k2,k3,hx,_⟩:=id ht
 have slz:(1000:Nat) ≤ sizeLine:=by decide
 have l7:=hc.l7
 have l6:=hc.l6
 have lsx:=hA.length
 show tSeq _ _ _ [some (.ref x),some (.ref sl),none,none,none,none,none,none] H
 nofun
 refine ⟨x,ls,es.map (·.1),rfl,ht,hc.l7,by rw [List.length_map]; exact hc.l6,fun p hp => ⟨⟨(hc.pb p hp).1.b1,(hc.pb p hp).1.s2.mono (by decide)⟩,(hc.pb p hp).2.b1,(hc.pb p hp).2.s2.mono (by decide)⟩,fun g hg => by obtain ⟨e,he,rfl⟩:=List.mem_map.mp hg; exact hc.gb e he,fun sc b fs H1 S1 hsc => ?_⟩
 obtain ⟨dsc,fl,hsc0,_,hscl,sb,_⟩:=id hsc
 nofun
 intro bn h_bn
 generalize q_bn:upd H1 bn _ = H2
 have S2:=newS h_bn q_bn
 have e2:=newE q_bn
 nofun
 nofun
 have S02:=S1.trans S2
 refine ⟨x,_,dx,_,rfl,S02 _ _ hx,rfl,rfl,x,ls,_,rfl,ht.same S02,by omega,fun l ys H3 S3 h_l e3 hY => ?_⟩
 have lY:=hY.length
 have S03:=S02.trans S3
 have nlb:l ≠ bn:=fun z => by rw [z,e2] at h_l; cases h_l
 have hsl3:=hsl.same S03
 have h1bn:H bn = none:=Jex S1 h_bn
 have nscb:sc ≠ bn:=fun z => by rw [z,h_bn] at hsc0; cases hsc0
 have ez:(ls.zip ss).map (·.1.nm) = ls.map (·.nm):=Jhj lss
 nofun
 refine ⟨l,sl,rfl,⟨ys,SqL.of e3⟩,⟨sx,hsl3⟩,ForJ.zip (xs:=ys) (ys:=sx) (fun i σ H' => i ≤ ls.length∧∃ (v4 v5:Option V) (kv:List (Key × V)), σ = [some (.ref x),some (.ref sl),some (.ref sc),some (.ref bn),v4,v5,none,none]∧(∀ c u,c ≠ bn→H3 c = some u→H' c = some u)∧SameT H3 H'∧H' bn = some (.dK kv)∧BG (·.1.nm) (LFV K H' b) ((ls.zip ss).take i) kv∧∀ (j:Nat) (p:PD) (s:Fr2),j < i→ls[j]? = some p→ss[j]? = some s→0 ≤ vl s∧vl s ≤ vl p.mo) ⟨Nat.zero_le _,none,none,[],rfl,fun _ _ _ h => h,(Same.refl _).t,S3 _ _ e2,⟨rfl,rfl⟩,fun j p s hj => absurd hj (Nat.not_lt_zero _)⟩ (fun i σ H' q => by
  obtain ⟨_,_,_,_,_,q,_⟩:=q
  have S0:Same H H':=fun c u h => q c u (Jag h h1bn) (S03 _ _ h)
  exact ⟨SqL.of (q _ _ nlb e3),hsl.same S0⟩) ?_ ?_⟩
 ·rintro i y z σ H4 pp H5 hy hz ⟨hi,v4,v5,kv,rfl,ho,hT,ekv,hB,hg⟩ hn S5 e5
  have li:=(List.getElem?_eq_some_iff.mp hy).1
  obtain ⟨p,hp,a_,vz,vm,rfl,hb,hzz,hm⟩:=hY.at_ hy
  obtain ⟨s,hs,fs_⟩:=hA.at_ hz
  have fsb:=hsb s (List.mem_of_getElem? hs)
  have pb:=hc.pb p (List.mem_of_getElem? hp)
  have T35:SameT H3 H5:=hT.trans S5.t
  have hb5:=hb.sameT T35
  have fs5:FrV K H5 z s.1 s.2:=FrV.sameT (S03.t.trans T35) fs_
  have S04:Same H H4:=fun c u h => ho c u (Jag h h1bn) (S03 _ _ h)
  have lk:=hB.length
  rw [List.length_take] at lk
  nofun
  refine ⟨pp,_,rfl,SqT.of e5,rfl, ?_⟩
  nofun
  have z0:vl (0,1) = 0:=by unfold vl; grind
  have l1:=JbZ (a:=s) (c:=(0,1)) fsb.b1 (by decide)
  rw [z0] at l1
  have l2:=JbZ (a:=p.mo) (c:=s) pb.2.b1 fsb.b1
  unfold lessF at l1 l2
  refine ⟨z, .ref Ad.ZERO,s.1,s.2,0,1,rfl,fs5,⟨Ad.ZERO,rfl,T.Bdd _⟩,fsb.s1.mono (by decide),fsb.s2.mono (by decide), .lit (by decide) (by decide), .lit (by decide) (by decide), ?_⟩
  nofun
  by_cases c1:decide (s.1 * 1 < 0 * s.2) = true
  ·rw [if_pos c1]
   nofun
   nofun
   exact k false _ (S04.trans S5) ⟨fun z => (by cases z),fun z => absurd (l1.mp c1) (Rat.not_lt.mpr (z.1 i p s hp hs).1)⟩
  ·rw [if_neg c1]
   nofun
   nofun
   refine ixT (i:=4) hb5 rfl ?_
   refine ⟨vm,z,p.mo.1,p.mo.2,s.1,s.2,rfl,FrV.sameT T35 hm,fs5,pb.2.s1.mono (by decide),pb.2.s2.mono (by decide),fsb.s1.mono (by decide),fsb.s2.mono (by decide), ?_⟩
   nofun
   by_cases c2:decide (p.mo.1 * s.2 < s.1 * p.mo.2) = true
   ·rw [if_pos c2]
    nofun
    nofun
    exact k false _ (S04.trans S5) ⟨fun z => (by cases z),fun z => absurd (l2.mp c2) (Rat.not_lt.mpr (z.1 i p s hp hs).2)⟩
   ·rw [if_neg c2]
    nofun
    nofun
    have hsc5:SCK Ad H5 sc b fs:=by
     obtain ⟨dsc',fl',q1,q2,q3⟩:=hsc
     have nf:fl' ≠ bn:=fun z => by rw [z,h_bn] at q2; cases q2
     exact ⟨dsc',fl',S5 _ _ (ho _ _ nscb (S3 _ _ (S2 _ _ q1))),S5 _ _ (ho _ _ nf (S3 _ _ (S2 _ _ q2))),q3⟩
    have hsc05:=S5 _ _ (ho _ _ nscb (S3 _ _ (S2 _ _ hsc0)))
    refine ⟨sc,_,dsc,_,rfl,hsc05,rfl,rfl, ?_⟩
    refine ⟨sc,z,s,b,fs,rfl,hsc5,fs5,fsb,fun q t H6 S6 e6 hL => ?_⟩
    nofun
    refine ixT (i:=0) (hb5.same S6) rfl ?_
    refine ⟨bn,_,rfl,DPut.k (k:=Sum.inr p.nm) (S6 _ _ (S5 _ _ ekv)) (by omega), ?_⟩
    generalize u7:upd H6 bn _ = H7
    nofun
    have e7:=putE u7
    have T7:SameT H6 H7:=SameT.put u7 (S6 _ _ (S5 _ _ ekv)) rfl
    have T47:SameT H4 H7:=S5.t.trans (S6.t.trans T7)
    have nw:p.nm ∉ ((ls.zip ss).take i).map (·.1.nm):=fun z => by
     have e:=List.map_take (f:=fun (x:PD × Fr2) => x.1.nm) (l:=ls.zip ss) (i:=i)
     rw [e,ez, ← List.map_take] at z
     exact JgN hc.nd hp z
    have ezi:(ls.zip ss)[i]? = some (p,s):=List.getElem?_zip_eq_some.mpr ⟨hp,hs⟩
    refine ⟨by omega,_,_,_,rfl,fun c u hc' h => by rw [← u7,Jah hc']; exact S6 _ _ (S5 _ _ (ho c u hc' h)),hT.trans T47,e7, ?_,fun j p' s' hj hp' hs' => ?_⟩
    ·rw [List.take_succ,ezi]
     exact (hB.mono (P':=LFV K H7 b) fun _ _ z => z.sameT T47).new (a:=(p,s)) nw ⟨t,hL,FrV.of (T7 _ _ rfl e6)⟩
    ·rcases Nat.lt_succ_iff_lt_or_eq.mp hj with hj | rfl
     ·exact hg j p' s' hj hp' hs'
     ·rw [hp] at hp'
      rw [hs] at hs'
      cases hp'
      cases hs'
      exact ⟨Rat.not_lt.mp fun q => c1 (l1.mpr q),Rat.not_lt.mp fun q => c2 (l2.mpr q)⟩
 ·rintro σ H4 ⟨hi,v4,v5,kv,rfl,ho,hT,ekv,hB,hg⟩
  have em:min ys.length sx.length = ls.length:=by omega
  rw [em] at hB hg
  rw [List.take_of_length_le (by rw [List.length_zip]; omega)] at hB
  have hfst:∀ (i:Nat) (p:PD) (s:Fr2),ls[i]? = some p→ss[i]? = some s→0 ≤ vl s∧vl s ≤ vl p.mo:=fun i p s h1 h2 => hg i p s (List.getElem?_eq_some_iff.mp h1).1 h1 h2
  have S04:Same H H4:=fun c u h => ho c u (Jag h h1bn) (S03 _ _ h)
  have hsc4:SCK Ad H4 sc b fs:=by
   obtain ⟨dsc',fl',q1,q2,q3⟩:=hsc
   have nf:fl' ≠ bn:=fun z => by rw [z,h_bn] at q2; cases q2
   exact ⟨dsc',fl',ho _ _ nscb (S3 _ _ (S2 _ _ q1)),ho _ _ nf (S3 _ _ (S2 _ _ q2)),q3⟩
  have hsc04:=ho _ _ nscb (S3 _ _ (S2 _ _ hsc0))
  have bq:(0:Rat) < (b:Rat):=by exact_mod_cast (show 0 < b by have:=hscl.b1; omega)
  nofun
  refine ⟨x,_,dx,_,rfl,S04 _ _ hx,rfl,rfl,x,ls,_,rfl,ht.same S04,by rw [List.length_map]; omega,fun m zs H5 S5 h_m e5 hZ => ?_⟩
  have lZ:=hZ.length
  rw [List.length_map] at lZ
  have S05:=S04.trans S5
  nofun
  refine ⟨m,rfl,ForA.byL (xs:=zs) (SqL.of e5) (fun i σ H' => i ≤ zs.length∧∃ (v6 v7:Option V), σ = [some (.ref x),some (.ref sl),some (.ref sc),some (.ref bn),v4,v5,v6,v7]∧Same H5 H'∧∀ (j:Nat) (e:GD × List Str),j < i→es[j]? = some e→sm (svl ls ss) e.2 ≤ vl (roomF pl e.1)) ⟨Nat.zero_le _,none,none,rfl,Same.refl _,fun j e hj => absurd hj (Nat.not_lt_zero _)⟩ (fun i σ H' q => by obtain ⟨_,_,_,_,q,_⟩:=q; exact SqL.of (q _ _ e5)) ?_ ?_⟩
  ·rintro i y σ H6 hy ⟨hi,v6,v7,rfl,S6,hgs⟩
   have li:=(List.getElem?_eq_some_iff.mp hy).1
   obtain ⟨g,hg',a_,vlo,vhi,rfl,hb,_,_⟩:=hZ.at_ hy
   obtain ⟨e,hei,rfl⟩:∃ e,es[i]? = some e∧e.1 = g:=by
    rw [List.getElem?_map] at hg'
    exact Option.map_eq_some_iff.mp hg'
   have he:=List.mem_of_getElem? hei
   have S06:=S05.trans S6
   have S46:=S5.trans S6
   have hb6:=hb.same S6
   have gm:e.1 ∈ es.map (·.1):=List.mem_map.mpr ⟨e,he,rfl⟩
   nofun
   refine ixT (i:=0) hb6 rfl ?_
   refine ⟨x,ls,es.map (·.1),e.1,rfl,ht.same S06,hc.nd,by omega,gm,hc.gn e he,fun nl w H7 S7 e7 hw hwn => ?_⟩
   have lw:w.length ≤ 8:=by
    have:=sub_len (w.map (·.1)) (ls.map (·.nm)) hwn fun n hn => JcH (Jdl hw) n hn
    rw [List.length_map,List.length_map] at this
    omega
   have S47:=S46.trans S7
   have hB7:=hB.mono (P':=LFV K H7 b) fun _ _ z => z.sameT S47.t
   have ekv7:=S47 _ _ ekv
   refine ⟨nl,rfl, .inl ⟨⟨_,SqL.of e7⟩,CompJ.list (xs:=(w.map (·.1)).map V.str) (fun i ys H' => H' = H7∧∃ ts:List Fr2,All2 (FLV K H7) ts ys∧ts.length = i∧(∀ t ∈ ts,FB 2200 56 t)∧smF ts = sm (svl ls ss) ((w.map (·.1)).take i) * (b:Rat)) ⟨rfl,[],rfl,rfl,(fun t ht => by cases ht),by rw [List.take_zero]; unfold smF sm; grind⟩ (fun i ys H' hi z => by
    obtain ⟨rfl,ts,hts,hl',_⟩:=z
    have:=hts.length
    rw [List.length_map,List.length_map] at hi
    exact ⟨SqL.of e7,by omega⟩) ?_ ?_⟩⟩
   ·rintro j y' ys' H' hy' ⟨rfl,ts,hts,lts,fts,ets⟩
    have lj:=(List.getElem?_eq_some_iff.mp hy').1
    rw [List.length_map] at lj
    rw [List.getElem?_map,List.getElem?_eq_getElem lj] at hy'
    obtain ⟨n,hn⟩:∃ n,n = (w.map (·.1))[j]:=⟨_,rfl⟩
    rw [← hn] at hy'
    have hy':y' = .str n:=(Option.some.inj hy').symm
    subst hy'
    have nm_:n ∈ ls.map (·.nm):=JcH (Jdl hw) n (by rw [hn]; exact List.getElem_mem lj)
    obtain ⟨x',v,hx',hxn,hv,t,hL,ft⟩:=hB7.some (z:=n) (by rw [ez]; exact nm_)
    have xs2:=(List.of_mem_zip hx').2
    have xb:=hsb _ xs2
    simpa only [List.length_singleton,List.length_cons,List.length_nil,List.replicate,JaA,List.map_cons,List.map_nil,Option.join_some]
    refine ⟨bn,_,rfl,by rw [← hv]; exact DGet.k (k:=Sum.inr n) ekv7, ?_⟩
    refine ⟨ts ++ [t],hts.append (.one ft),by simp [lts],fun t' ht' => ?_, ?_⟩
    ·rcases List.mem_append.mp ht' with h | h
     ·exact fts t' h
     ·rw [List.mem_singleton.mp h]
      exact hL.fb xb sb
    ·rw [Jem,ets,hL.vl xb.b1,List.take_succ,List.getElem?_eq_getElem lj, ← hn]
     show _ = sm _ (_ ++ [n]) * _
     rw [Jfo, ← hxn,JhY hc.nd hx']
     grind
   ·rintro ys' H' ⟨rfl,ts,hts,lts,fts,ets⟩
    rw [List.length_map] at lts ets
    rw [List.take_of_length_le (Nat.le_refl _)] at ets
    rw [List.length_map] at lts
    intro ow h_ow
    generalize q_ow:upd H' ow _ = H8
    have S8:=newS h_ow q_ow
    have e8:=newE q_ow
    nofun
    nofun
    have S48:=S47.trans S8
    have S08:=S04.trans S48
    refine ⟨sc,_,dsc,_,rfl,S48 _ _ hsc04,rfl,rfl, ?_⟩
    refine ⟨x,_,dx,_,rfl,S08 _ _ hx,rfl,rfl, ?_⟩
    refine ixT (i:=0) ((hb6.same S7).same S8) rfl ?_
    refine ⟨x,e.1.nm,ls,es.map (·.1),rfl,ht.same S08,fun z => absurd (List.mem_map.mpr ⟨e.1,gm,rfl⟩) z,fun g' hg' hz => ?_⟩
    have e2':=hc.gn e he g' hg' hz
    subst e2'
    refine ⟨pl,hc.gn e he,fun p hp q hq h => JgZ hc.nd hp hq h,hc.pok,hc.plb,hc.pls,hc.tok e he,fun v H9 S9 fv => ?_⟩
    have S49:=S48.trans S9
    refine ⟨sc,v,roomF pl e.1,b,fs,rfl,hsc4.same S49,fv,(hc.rb e he).mono (by decide) (by decide),fun q t H10 S10 e10 hL => ?_⟩
    have S4A:=S49.trans S10
    have tb:=hL.fb (hc.rb e he) sb |>.mono (C:=2200) (D:=56) (by decide) (by decide)
    refine ⟨.ref q,ow,_,ts,t,rfl,FrV.of e10,tb,SqL.of (S10 _ _ (S9 _ _ e8)),hts.mono (fun _ _ z => z.sameT (S8.trans (S9.trans S10)).t),fts,by omega,fun bb H11 S11 hbb => ?_⟩
    rw [ets,hL.vl (hc.rb e he).b1,scaled bq, ← JiK (hc.way e he w hw hwn)] at hbb
    cases bb with
    | true =>
     nofun
     refine ⟨li,_,_,rfl,S6.trans (S7.trans (S8.trans (S9.trans (S10.trans S11)))),fun j e' hj he' => ?_⟩
     rcases Nat.lt_succ_iff_lt_or_eq.mp hj with hj | rfl
     ·exact hgs j e' hj he'
     ·rw [hei] at he'
      cases he'
      exact hbb.mp rfl
    | false =>
     nofun
     refine k false H11 (S04.trans (S4A.trans S11)) ⟨fun z => (by cases z),fun z => ?_⟩
     exact (Bool.false_ne_true (hbb.mpr (z.2 e he))).elim
  ·rintro σ H6 ⟨hi,v6,v7,rfl,S6,hgs⟩
   nofun
   refine k true H6 (S05.trans S6) ⟨fun _ => ⟨hfst,fun e he => ?_⟩,fun _ => rfl⟩
   obtain ⟨j,hj⟩:=List.getElem?_of_mem he
   exact hgs j e (by have:=(List.getElem?_eq_some_iff.mp hj).1; omega) hj
abbrev BaR:Stmt:=top 41
theorem JbM:Jan ["_law_script", "_law_k", "_law_total", "_law_j"] ["_law_script", "_law_k"] (Jae BaR):=⟨rfl,rfl,rfl,by decide +kernel,rfl,by decide +kernel,by decide +kernel⟩
def Jba (K:PySem.W.Frag):Sp:=fun vs H Q E => ∃ (a:Addr) (ns:List Int) (k:Int),vs = [.ref a, .int k]∧SqL K H a (ns.map V.int)∧ns.length ≤ 63∧0 ≤ k∧k ≤ 1000∧∀ v:Int,Q (.int v) H
theorem Je8 {f:Addr} {fd:FuncData} {dV:Value} (F:FunD K "_law_cell" "_law_cell" BaR dV f fd) (T:Txt K mg Ad)  : FnOk P w K mg base (CX1 P w) 1 f fd ["_law_script", "_law_k"] (Jba K):=by
 refine F.okn JbM (fun vs H Q E h => ?_) (fun cdv A outer s H vs Q E hr h => ?_)
 ·obtain ⟨a,ns,k,rfl,_⟩:=h; rfl
 obtain ⟨a,ns,k,rfl,h⟩:=h
 have hu:=hr.units
 refine ⟨_,(Jab (Jaj (i:=2) JbM.nd rfl (Or.inl rfl) Jac)
   (Jab (Ja2 PassesOwn.never rfl (Jg2 rfl T.Bbo (Jaa (pv 1) (Jaa (Jaq (Jgr rfl) rfl T.BdK JiS (Jaa (Jaq JaM rfl T.Ba6 Jbb (Jaa (pv 0) Jad)) (Jaa Jac Jad))) (Jaa Jac Jad)))) (Jav (i:=3) JbM.nd rfl (Or.inl rfl))
   (Jai (Jaj (i:=2) JbM.nd rfl (Or.inl rfl) (pe_op JaL (pv 2) (pe_op Jay (pe_ix ix_U (pv 0) (pv 3) (fun _ _ => rfl)) (pe_op JaL Jac (pv 3)))))))
   (Jai (Jas (pv 2))))), ?_⟩
 obtain ⟨hS,hl,h0,h1,q⟩:=h
 obtain ⟨k,rfl⟩:=Int.eq_ofNat_of_zero_le h0
 show tSeq _ _ _ [some (.ref a),some (.int (k:Int)),none,none] H
 nofun
 refine ⟨_, .inl hS, ?_⟩
 simpa only [List.length_map]
 refine ⟨_,_,_,rfl,⟨by omega,by omega,by split <;> omega,by split <;> omega,by decide,by decide⟩, ?_⟩
 refine ForQ.by (fun i σ H' => ∃ (t:Int) (v:Option V), σ = [some (.ref a),some (.int (k:Int)),some (.int t),v]∧H' = H) ⟨0,none,rfl,rfl⟩ ?_ ?_
 ·rintro i σ H' hi ⟨t,v,rfl,rfl⟩
  have hj:k + i * 30 < ns.length:=by
   unfold rsz at hi
   split at hi <;> split at hi <;> omega
  have ej:(k:Int) + (i:Int) * 30 = ((k + i * 30:Nat):Int):=by omega
  rw [ej]
  nofun
  refine ixL hS (by rw [List.getElem?_map,List.getElem?_eq_getElem hj]; rfl) ?_
  nofun
  exact ⟨JhU (.lit (by omega) (by omega)),_,_,rfl,trivial⟩
 ·rintro σ H' ⟨t,v,rfl,rfl⟩
  nofun
  exact q t
abbrev Bbf:Stmt:=top 42
theorem Jbw:Jan ["_law_top", "_law_bottom", "_law_one", "_law_other", "_law_rest"] ["_law_top", "_law_bottom"] (Jae Bbf):=⟨rfl,rfl,rfl,by decide +kernel,rfl,by decide +kernel,by decide +kernel⟩
def Jbx  : Sp:=fun vs H Q E => ∃ (t b:Int),vs = [.int t, .int b]∧1 ≤ b∧Mth.Sz 8000 b∧∀ p H',Same H H'→H' p = some (.tup [.int (Mth.top t b), .int (Mth.bot t b)])→Q (.ref p) H'
theorem Jf7 {f:Addr} {fd:FuncData} {dV:Value} (F:FunD K "_law_low" "_law_low" Bbf dV f fd) (T:Txt K mg Ad)  : FnOk P w K mg base (CX1 P w) 1 f fd ["_law_top", "_law_bottom"] (Jbx):=by
 refine F.okn Jbw (fun vs H Q E h => ?_) (fun cdv A outer s H vs Q E hr h => ?_)
 ·obtain ⟨t,b,rfl,_⟩:=h; rfl
 obtain ⟨t,b,rfl,h⟩:=h
 have hu:=hr.units
 refine ⟨_,(Jab (Jaj (i:=2) Jbw.nd rfl (Or.inl rfl) (pv 0))
   (Jab (Jaj (i:=3) Jbw.nd rfl (Or.inl rfl) (pv 1))
   (Jab (Jee PassesOwn.never (Jaz (Jci hu) (pv 3) Jac (JaD _))
   (Jab (Jaj (i:=4) Jbw.nd rfl (Or.inl rfl) (pe_op Jar (pv 2) (pv 3)))
   (Jab (Jaj (i:=2) Jbw.nd rfl (Or.inl rfl) (pv 3))
   (Jai (Jaj (i:=3) Jbw.nd rfl (Or.inl rfl) (pv 4))))))
   (Jai (Jas (Ja0 (Jaa (pe_op Jao (pv 0) (Jaq Jcs rfl T.Bdr Jft (Jaa (pv 2) Jad))) (Jaa (pe_op Jao (pv 1) (Jaq Jcs rfl T.Bdr Jft (Jaa (pv 2) Jad))) Jad)))))))), ?_⟩
 obtain ⟨hb,hs,k⟩:=h
 show tSeq _ _ _ [some (.int t),some (.int b),none,none,none] H
 nofun
 refine ⟨fun m σ H' => ∃ (x y:Int) (z:Option V), σ = [some (.int t),some (.int b),some (.int x),some (.int y),z]∧H' = H∧0 ≤ y∧Mth.g x y = Mth.g t b∧y.toNat = m,⟨_,_,_,none,rfl,rfl,by omega,rfl,rfl⟩, ?_⟩
 rintro m σ H' ⟨x,y,z,rfl,rfl,hy,hg,rfl⟩
 nofun
 by_cases c:y = 0
 ·subst c
  rw [if_neg (by simp)]
  nofun
  have gp:=Mth.g_pos (a:=t) (b:=b) (by omega)
  have gl:=Mth.g_le (a:=t) (b:=b) (by omega)
  have d1:DivOk (Mth.g t b):=divOk (n:=8000) (by omega) (Nat.lt_of_le_of_lt (by omega:(Mth.g t b).natAbs ≤ b.natAbs) hs)
  have e:(if x < 0 then -x else x) = Mth.g t b:=by
   rw [← hg,Mth.JhT]
   split <;> omega
  nofun
  rw [e]
  refine ⟨d1,d1,len2, ?_⟩
  refine Jd2 fun p H1 S hp => k p H1 S ?_
  rw [hp]
  unfold Mth.top Mth.bot Mth.by_
  rw [if_neg (by omega)]
  nofun
 ·rw [if_pos (by simp [c])]
  nofun
  have f:=Mth.fm (x:=x) (y:=y) (by omega)
  refine ⟨_,fun _ _ q => q, ?_⟩
  nofun
  have hg':Mth.g y (x.fmod y) = Mth.g t b:=by rw [Mth.JgB (by omega)]; exact hg
  first
   | exact ⟨c,(x.fmod y).toNat,by omega,y,x.fmod y,_,rfl,f.1,hg',rfl⟩
   | exact ⟨c,(x.fmod y).toNat,by omega,y,x.fmod y,_,rfl,rfl,f.1,hg',rfl⟩
abbrev BaS:Stmt:=top 43
theorem Jfn:Jan ["_law_one", "_law_other", "_law_sign"] ["_law_one", "_law_other", "_law_sign"] (Jae BaS):=⟨rfl,rfl,rfl,by decide +kernel,rfl,by decide +kernel,by decide +kernel⟩
def Jbp (K:PySem.W.Frag):Sp:=fun vs H Q E => ∃ (x y:V) (g:Int) (a c:Fr2) (s:Bool),vs = [x,y, .int g]∧(g = if s then 1 else -1)∧FrV K H x a.1 a.2∧FrV K H y c.1 c.2∧FW 3000 3000 a∧FW 3000 3000 c∧∀ p H',Same H H'→H' p = some (.tup [.int (addF a (sgn s c)).1, .int (addF a (sgn s c)).2])→Q (.ref p) H'
theorem Jfb {f:Addr} {fd:FuncData} {dV:Value} (F:FunD K "_law_plus" "_law_plus" BaS dV f fd) (T:Txt K mg Ad) (Bah:Cal P w K mg base 1 "_law_low" ["_law_top", "_law_bottom"] [] (Jbx)):FnOk P w K mg base (CX1 P w) 2 f fd ["_law_one", "_law_other", "_law_sign"] (Jbp K):=by
 refine F.okn Jfn (fun vs H Q E h => ?_) (fun cdv A outer s H vs Q E hr h => ?_)
 ·obtain ⟨x,y,g,a,c,s,rfl,_⟩:=h; rfl
 obtain ⟨x,y,g,a,c,s,rfl,h⟩:=h
 have hu:=hr.units
 refine ⟨_,(Jai (Jas (Bah.ev hr (by decide) rfl passF (Jaa (pe_op JaL (pe_op Jay (pe_ix ix_U (pv 0) Jac (fun _ _ => rfl)) (pe_ix ix_U (pv 1) Jac (fun _ _ => rfl))) (pe_op Jay (pe_op Jay (pv 2) (pe_ix ix_U (pv 1) Jac (fun _ _ => rfl))) (pe_ix ix_U (pv 0) Jac (fun _ _ => rfl)))) (Jaa (pe_op Jay (pe_ix ix_U (pv 0) Jac (fun _ _ => rfl)) (pe_ix ix_U (pv 1) Jac (fun _ _ => rfl))) Jad)) (he:=by exact Jaf rfl)))), ?_⟩
 obtain ⟨hg,hx,hy,ha,hc,k⟩:=h
 have hgs:Mth.Sz 4 g:=by
  rw [hg]
  cases s
  ·exact .lit (by decide) (by decide)
  ·exact .lit (by decide) (by decide)
 have e1:(sgn s c).1 = g * c.1:=by
  rw [hg]
  cases s
  ·show -c.1 = -1 * c.1
   omega
  ·show c.1 = 1 * c.1
   omega
 have e2:(sgn s c).2 = c.2:=by cases s <;> rfl
 unfold addF at k
 rw [e1,e2] at k
 show tRet _ _ [some x,some y,some (.int g)] H
 nofun
 refine ixF0 hx (ixF1 hy ?_)
 nofun
 refine ⟨mulOk ha.s1 hc.s2,ixF0 hy ?_⟩
 nofun
 refine ⟨mulOk hgs hc.s1,ixF1 hx ?_⟩
 nofun
 refine ⟨mulOk (hgs.mul hc.s1) ha.s2,ixF1 hx (ixF1 hy ?_)⟩
 nofun
 refine ⟨mulOk ha.s2 hc.s2,_,_,rfl, ?_,(ha.s2.mul hc.s2).mono (by decide),fun p H1 S e => k p H1 S e⟩
 have:=Int.mul_pos (show 0 < a.2 by have:=ha.b1; omega) (show 0 < c.2 by have:=hc.b1; omega)
 omega
abbrev BaT:Stmt:=top 44
theorem Jfm:Jan ["_law_k", "_law_sign", "_law_style"] ["_law_k", "_law_sign", "_law_style"] (Jae BaT):=⟨rfl,rfl,rfl,by decide +kernel,rfl,by decide +kernel,by decide +kernel⟩
def JbV  : Sp:=fun vs H Q E => ∃ (i:Int) (z:Str) (st:Int) (s m:Nat),vs = [.int i, .str z, .int st]∧z.cps = #[s]∧i = (m:Int)∧m ≤ 16∧0 ≤ st∧st ≤ 3∧Q (.str (nmK s st.toNat m)) H
theorem Jfa {f:Addr} {fd:FuncData} {dV:Value} (F:FunD K "_law_name" "_law_name" BaT dV f fd) (T:Txt K mg Ad)  : FnOk P w K mg base (CX1 P w) 1 f fd ["_law_k", "_law_sign", "_law_style"] (JbV):=by
 refine F.okn Jfm (fun vs H Q E h => ?_) (fun cdv A outer s H vs Q E hr h => ?_)
 ·obtain ⟨i,z,st,s,m,rfl,_⟩:=h; rfl
 obtain ⟨i,z,st,s,m,rfl,h⟩:=h
 have hu:=hr.units
 refine ⟨_,(Jai (Jas (pe_op JaL (pe_op JaL (pe_op Jay (pv 1) (pv 2)) (pe_ix ix_U Jb1 (pv 0) (fun _ _ => rfl))) (pe_op Jay (pv 1) (pe_op JfH Jac (pv 2)))))), ?_⟩
 obtain ⟨hz,rfl,hm,h0,h3,q⟩:=h
 have zl:z.cps.toList = [s]:=by rw [hz]
 have zn:z.length = 1:=by rw [JcW,zl]; rfl
 have sl:(1000:Nat) ≤ sizeLine:=by decide
 show tRet _ _ [some (.int (m:Int)),some (.str z),some (.int st)] H
 nofun
 refine ⟨h0,by omega,by omega,fun z1 hz1 => ?_⟩
 have ez1:z1.cps.toList = List.replicate st.toNat s:=by
  rw [hz1,zl]
  simp
 have eab:(Str.ofString "abcdefghijklmnopq").cps.toList = List.range' 97 17:=by decide
 refine ⟨97 + m,by decide,by rw [eab]; exact Jc3 (by rw [List.getElem?_range' (by omega),Nat.one_mul]), ?_⟩
 nofun
 have l1:z1.length = st.toNat:=by rw [JcW,ez1,List.length_replicate]
 have e2s:(z1 ++ (⟨#[97 + m]⟩:Str)).cps.toList = List.replicate st.toNat s ++ [97 + m]:=by rw [Jfs,ez1]
 have l2s:(z1 ++ (⟨#[97 + m]⟩:Str)).length = st.toNat + 1:=by rw [JcW,e2s]; simp
 have lc:(⟨#[97 + m]⟩:Str).length = 1:=rfl
 refine ⟨by omega, ?_⟩
 nofun
 refine ⟨by omega,by omega,by omega,fun z2 hz2 => ?_⟩
 have ez2:z2.cps.toList = List.replicate (3 - st.toNat) s:=by
  rw [hz2,zl]
  have : (3 - st).toNat = 3 - st.toNat:=by omega
  rw [this]
  simp
 have l3:z2.length = 3 - st.toNat:=by rw [JcW,ez2,List.length_replicate]
 nofun
 refine ⟨by omega, ?_⟩
 have en:z1 ++ (⟨#[97 + m]⟩:Str) ++ z2 = nmK s st.toNat m:=by
  have : (z1 ++ (⟨#[97 + m]⟩:Str) ++ z2).cps = (nmK s st.toNat m).cps:=by
   apply Array.toList_inj.mp
   rw [Jfs,e2s,ez2]
   unfold nmK
   simp
  cases h1:z1 ++ (⟨#[97 + m]⟩:Str) ++ z2
  cases h2:nmK s st.toNat m
  rw [h1,h2] at this
  congr
 rw [en]
 exact q
abbrev BaM:Stmt:=top 45
theorem Jaw:Jan ["_law_script", "_law_style", "_law_parts_here", "_law_spots", "_law_k", "_law_cell_here", "_law_mixed", "_law_here", "_law_there", "_law_other", "_law_size", "_law_bottom", "_law_most", "_law_ends", "_law_name_here", "_law_place"] ["_law_script", "_law_style"] (Jae BaM):=⟨rfl,rfl,rfl,by decide +kernel,rfl,by decide +kernel,by decide +kernel⟩
def Jb7 (K:PySem.W.Frag):Sp:=fun vs H Q E => ∃ (a:Addr) (ns:List Int) (st:Nat),vs = [.ref a, .int (st:Int)]∧SqL K H a (ns.map V.int)∧ns.length ≤ 63∧st ≤ 3∧∀ q pl sd px kv ls xs H',Same H H'→H' q = some (.tup [.ref pl, .ref sd])→H' pl = some (.lst px)→All2 (PDV K H') ls px→H' sd = some (.dK kv)→BG (·.1.f) (SNV K pl sd H') xs kv→Grn st ls (xs.map (·.1))→Nms ls xs→Two (xs.map (·.1))→1 ≤ ls.length→ls.length ≤ 7→xs.length ≤ 14→xs ≠ []→Q (.ref q) H'
theorem JeG {f:Addr} {fd:FuncData} {dV:Value} (F:FunD K "_law_parts" "_law_parts" BaM dV f fd) (T:Txt K mg Ad) (Bad:Cal P w K mg base 1 "_law_cell" ["_law_script", "_law_k"] [] (Jba K)) (BaE:Cal P w K mg base 1 "_law_name" ["_law_k", "_law_sign", "_law_style"] [] (JbV)) (Bah:Cal P w K mg base 1 "_law_low" ["_law_top", "_law_bottom"] [] (Jbx)) (Baf:Cal P w K mg base 2 "_law_plus" ["_law_one", "_law_other", "_law_sign"] [] (Jbp K)):FnOk P w K mg base (CX1 P w) 3 f fd ["_law_script", "_law_style"] (Jb7 K):=by
 refine F.okn Jaw (fun vs H Q E h => ?_) (fun cdv A outer s H vs Q E hr h => ?_)
 ·obtain ⟨a,ns,st,rfl,_⟩:=h; rfl
 obtain ⟨a,ns,st,rfl,h⟩:=h
 have hu:=hr.units
 refine ⟨_,(Jab (Jaj (i:=2) Jaw.nd rfl (Or.inl rfl) (JaX Jad))
   (Jab (Jaj (i:=3) Jaw.nd rfl (Or.inl rfl) JbK)
   (Jab (Ja2 PassesOwn.never rfl (Jby rfl T.Bbo (Jaa (pe_op JaL Jac (pe_op Jar (Bad.ev hr (by decide) rfl passF (Jaa (pv 0) (Jaa Jac Jad)) (he:=by exact Jaf rfl)) Jac)) Jad)) (Jav (i:=4) Jaw.nd rfl (Or.inl rfl))
   (Jab (Jaj (i:=5) Jaw.nd rfl (Or.inl rfl) (Bad.ev hr (by decide) rfl passF (Jaa (pv 0) (Jaa (pe_op JaL Jac (pe_op Jay Jac (pv 4))) Jad)) (he:=by exact Jaf rfl)))
   (Jab (Jaj (i:=6) Jaw.nd rfl (Or.inl rfl) (pe_op Jao (pe_op Jar (pe_op Jay (pv 5) Jac) Jac) Jac))
   (Jab (ps_if (PW.pt (pw_or (Jaz (JbG hu) (Jaq Jct rfl T.Ba6 Jbb (Jaa (pv 3) Jad)) Jac (JaD _)) (JbH (Jaz (JbG hu) (pe_op Jar (pe_op Jao (pv 6) Jac) Jac) Jac (JaD _)))))
   (Jab (Jaj (i:=7) Jaw.nd rfl (Or.inl rfl) (BaE.ev hr (by decide) rfl passF (Jaa (Jaq Jct rfl T.Ba6 Jbb (Jaa (pv 3) Jad)) (Jaa Jb1 (Jaa (pv 1) Jad))) (he:=by exact Jaf rfl)))
   (Jai (Jb5 (hu1 hu) (pv 3) (pv 7) (Ja0 (Jaa (pv 7) (Jaa (Ja0 (Jaa Jac (Jaa Jac Jad))) (Jaa (JaX Jad) Jad)))) rfl)))
   (Jai (Jaj (i:=7) Jaw.nd rfl (Or.inl rfl) (pe_ix ix_U (Jaq (JdC rfl) rfl T.Bda Jes (Jaa (pv 3) Jad)) (pe_op Jar (pv 6) (Jaq Jct rfl T.Ba6 Jbb (Jaa (pv 3) Jad))) (fun _ _ => rfl)))))
   (Jab (Jaj (i:=8) Jaw.nd rfl (Or.inl rfl) (BaE.ev hr (by decide) rfl passF (Jaa (Jaq Jct rfl T.Ba6 Jbb (Jaa (pv 3) Jad)) (Jaa Jb1 (Jaa (pv 1) Jad))) (he:=by exact Jaf rfl)))
   (Jab (Jaj (i:=9) Jaw.nd rfl (Or.inl rfl) (Bad.ev hr (by decide) rfl passF (Jaa (pv 0) (Jaa (pe_op JaL Jac (pe_op Jay Jac (pv 4))) Jad)) (he:=by exact Jaf rfl)))
   (Jab (Jaj (i:=10) Jaw.nd rfl (Or.inl rfl) (Bah.ev hr (by decide) rfl passF (Jaa (pe_op Jar (pv 9) (pe_ix ix_U (JaX (Jaa Jac (Jaa (pe_op Jfe Jac Jac) Jad))) (pe_op Jar (pe_op Jao (pv 6) Jac) Jac) (fun _ _ => rfl))) (Jaa (pe_op JaL Jac (pe_op Jar (pe_op Jao (pv 6) Jac) Jac)) Jad)) (he:=by exact Jaf rfl)))
   (Jab (Jaj (i:=11) Jaw.nd rfl (Or.inl rfl) (pe_ix ix_U (JaX (Jb0 (Jb0 (Jb0 (Jb0 (Jb0 (Jb0 (Jb0 (Jb0 (Jb0 (Jb0 (Jb0 (Jb0 Jad))))))))))))) (pe_op Jar (pe_op Jao (pv 6) Jac) Jac) (fun _ _ => rfl)))
   (Jab (Jaj (i:=12) Jaw.nd rfl (Or.inl rfl) (Bah.ev hr (by decide) rfl passF (Jaa (pe_op Jar (pv 9) (pe_ix ix_U (JaX (Jaa Jac (Jaa Jac (Jaa (pe_op Jfe Jac Jac) Jad)))) (pe_op Jar (pe_op Jao (pv 6) Jac) Jac) (fun _ _ => rfl))) (Jaa (pv 11) Jad)) (he:=by exact Jaf rfl)))
   (Jab (Jaj (i:=13) Jaw.nd rfl (Or.inl rfl) (pe_ix ix_U (JaX (Jaa (Ja0 (Jaa (pv 7) (Jaa (pv 8) Jad))) (Jaa (Ja0 (Jaa (pv 8) (Jaa (pv 7) Jad))) Jad))) (pe_op Jar (pe_op Jao (pv 6) Jac) Jac) (fun _ _ => rfl)))
   (Jab (Jaj (i:=14) Jaw.nd rfl (Or.inl rfl) (BaE.ev hr (by decide) rfl passF (Jaa (pv 4) (Jaa Jb1 (Jaa (pv 1) Jad))) (he:=by exact Jaf rfl)))
   (Jab (Jbt (pe_bm PySem.F.plainAttrs_list PySem.F.slot_list_append PySem.F.type_list_append Jbr (pv 2) (Jaa (Ja0 (Jaa (pv 14) (Jaa (pe_ix ix_U (pv 13) Jac (fun _ _ => rfl)) (Jaa (pe_ix ix_U (pv 13) Jac (fun _ _ => rfl)) (Jaa (pv 10) (Jaa (pv 12) (Jaa (pe_op JaL Jac (pe_op Jar (pe_op Jao (pv 6) Jac) Jac)) Jad))))))) Jad) (hs:=by exact Jaf rfl)))
   (Jab (Jaj (i:=15) Jaw.nd rfl (Or.inl rfl) (Baf.ev hr (by decide) rfl passF (Jaa (pe_ix ix_U (Ja9 (hu1 hu) (pv 3) (pv 7) (fun _ _ => rfl)) Jac (fun _ _ => rfl)) (Jaa (pv 10) (Jaa (pe_op JfH Jac (pe_op Jay Jac (pe_op Jar (pe_op Jao (pv 6) Jac) Jac))) Jad))) (he:=by exact Jaf rfl)))
   (Jai (Jb5 (hu1 hu) (pv 3) (pv 8) (Ja0 (Jaa (pe_ix ix_U (Ja9 (hu1 hu) (pv 3) (pv 7) (fun _ _ => rfl)) Jac (fun _ _ => rfl)) (Jaa (pv 15) (Jaa (pe_op JaL (pe_ix ix_U (Ja9 (hu1 hu) (pv 3) (pv 7) (fun _ _ => rfl)) Jac (fun _ _ => rfl)) (JaX (Jaa (pv 14) Jad))) Jad)))) rfl)))))))))))))))
   (Jai (Jas (Ja0 (Jaa (pv 2) (Jaa (pv 3) Jad)))))))), ?_⟩
 obtain ⟨hS,hl,hst,k⟩:=h
 have sl:(1000:Nat) ≤ sizeLine:=by decide
 have e102:(Str.ofString "f").cps = #[102]:=by decide
 have e112:(Str.ofString "p").cps = #[112]:=by decide
 show tSeq _ _ _ [some (.ref a),some (.int (st:Int)),none,none,none,none,none,none,none,none,none,none,none,none,none,none] H
 nofun
 refine ⟨len0, ?_⟩
 intro pl h_pl
 generalize q_pl:upd H pl _ = H1
 have S1:=newS h_pl q_pl
 have e1:=newE q_pl
 nofun
 intro sd h_sd
 generalize q_sd:upd H1 sd _ = H2
 have S2:=newS h_sd q_sd
 have e2:=newE q_sd
 nofun
 refine ⟨a,ns,0,rfl,(hS.same S1).same S2,hl,by decide,by decide,fun c0 => ?_⟩
 nofun
 repeat (refine And.intro (by first | exact JaF (by decide) | exact JaH (by decide) | exact JaG (by decide) | exact Jat (by decide) | exact Int.one_ne_zero | decide) ?_)
 have q0:=Mth.fm (x:=c0) (y:=7) (by decide)
 refine ⟨_,rfl,by omega,by omega, ?_⟩
 have npd:pl ≠ sd:=fun z => by rw [← z,e1] at h_sd; cases h_sd
 have h0sd:=Jex S1 h_sd
 refine ForR.byN (fun i σ H' => ∃ (v4 v5 v6 v7 v8 v9 v10 v11 v12 v13 v14 v15:Option V) (px:List V) (kv:List (Key × V)) (ls:List PD) (xs:List (SpD × List Str)), σ = [some (.ref a),some (.int (st:Int)),some (.ref pl),some (.ref sd),v4,v5,v6,v7,v8,v9,v10,v11,v12,v13,v14,v15]∧Same H H'∧H' pl = some (.lst px)∧All2 (PDV K H') ls px∧H' sd = some (.dK kv)∧BG (·.1.f) (SNV K pl sd H') xs kv∧Grn st ls (xs.map (·.1))∧Nms ls xs∧Two (xs.map (·.1))∧ls.length = i∧xs.length ≤ 2 * i∧(1 ≤ i→xs ≠ [])) ⟨none,none,none,none,none,none,none,none,none,none,none,none,[],[],[],[],rfl,S1.trans S2,S2 _ _ e1,rfl,e2,⟨rfl,rfl⟩,Grn.nil,Nms.nil,(fun s hs => by cases hs),rfl,by decide,fun z => absurd z (by decide)⟩ ?_ ?_
 ·rintro i σ H3 hi ⟨v4,v5,v6,v7,v8,v9,v10,v11,v12,v13,v14,v15,px,kv,ls,xs,rfl,S3,ep,hP,ed,hB,hG,hM,hT,hli,hsp,hne⟩ N0 hN0
  have i7:i < 7:=by omega
  rw [Int.zero_add]
  simpa only [-y58y]
  repeat (refine And.intro (by first | exact JaF (by decide) | exact JaH (by decide) | exact JaG (by decide) | exact Jat (by decide) | exact Int.one_ne_zero | decide) ?_)
  refine ⟨a,ns,_,rfl,hS.same S3,hl,by omega,by omega,fun c1 => ?_⟩
  try simpa only [-y58y]
  repeat (refine And.intro (by first | exact JaF (by decide) | exact JaH (by decide) | exact JaG (by decide) | exact Jat (by decide) | exact Int.one_ne_zero | decide) ?_)
  generalize hmx:((c1 * 48271).fmod 2147483647).fdiv 37 = mx
  refine JfB (fun σ' H' => ∃ (kv:List (Key × V)) (xs:List (SpD × List Str)) (s0:SpD × List Str), σ' = [some (.ref a),some (.int (st:Int)),some (.ref pl),some (.ref sd),some (.int (i:Int)),some (.int c1),some (.int mx),some (.str s0.1.f),v8,v9,v10,v11,v12,v13,v14,v15]∧Same H H'∧H' pl = some (.lst px)∧All2 (PDV K H') ls px∧H' sd = some (.dK kv)∧BG (·.1.f) (SNV K pl sd H') xs kv∧Grn st ls (xs.map (·.1))∧Nms ls xs∧s0 ∈ xs∧(∀ s ∈ xs.map (·.1),s.r = s0.1.r ∨ ∃ t ∈ xs.map (·.1),t.f ≠ s.f∧t.r = s.r)∧xs.length ≤ 2 * i + 1) ?_ ?_
  ·clear hB hG hT hM hsp hne ed hP ep S3
   rintro σ' H4 ⟨kv,xs,s0,rfl,S4,ep,hP,ed,hB,hG,hM,hs0,hT,hsp⟩
   have lk:=hB.length
   have lxm:(xs.map (·.1)).length = xs.length:=List.length_map ..
   have hs0':s0.1 ∈ xs.map (·.1):=List.mem_map.mpr ⟨s0,hs0,rfl⟩
   nofun
   refine ⟨sd,kv,rfl,ed, ?_⟩
   refine ⟨_,_,_,102,xs.length,rfl,e102,by omega,by omega,by omega,by omega, ?_⟩
   rw [Int.toNat_natCast]
   nofun
   repeat (refine And.intro (by first | exact JaF (by decide) | exact JaH (by decide) | exact JaG (by decide) | exact Jat (by decide) | exact Int.one_ne_zero | decide) ?_)
   refine ⟨a,ns,_,rfl,hS.same S4,hl,by omega,by omega,fun c2 => ?_⟩
   nofun
   repeat (refine And.intro (by first | exact JaF (by decide) | exact JaH (by decide) | exact JaG (by decide) | exact Jat (by decide) | exact Int.one_ne_zero | decide) ?_)
   intro ml h_ml
   generalize q_ml:upd H4 ml _ = H6
   have S6:=newS h_ml q_ml
   have e6:=newE q_ml
   nofun
   repeat (refine And.intro (by first | exact JaF (by decide) | exact JaH (by decide) | exact JaG (by decide) | exact Jat (by decide) | exact Int.one_ne_zero | decide) ?_)
   have q5:=Mth.fm (x:=mx.fdiv 64) (y:=2) (by decide)
   obtain ⟨n5,hn5⟩:=Int.eq_ofNat_of_zero_le q5.1
   rw [hn5] at q5 ⊢
   obtain ⟨mo,hmo,m1,m2⟩:∃ mo:Int,[V.int 9, .int 10000000000000000000000000000000000000000][n5]? = some (.int mo)∧1 ≤ mo∧mo ≤ 10000000000000000000000000000000000000000:=by
    match n5,q5 with
    | 0,_ => exact ⟨_,rfl,by decide,by decide⟩
    | 1,_ => exact ⟨_,rfl,by decide,by decide⟩
    | n + 2,q5 => omega
   refine ixL (i:=n5) (SqL.of e6) hmo ?_
   nofun
   refine ⟨by omega, ?_⟩
   repeat (refine And.intro (by first | exact JaF (by decide) | exact JaH (by decide) | exact JaG (by decide) | exact Jat (by decide) | exact Int.one_ne_zero | decide) ?_)
   have qt:=Mth.fm (x:=c2) (y:=mo) (by omega)
   have qb:=Mth.fm (x:=mx.fdiv 128) (y:=12) (by decide)
   refine ⟨_,_,rfl,by omega, .lit (by omega) (by omega),fun fz H7 S7 e7 => ?_⟩
   have zb:FB 133 4 (Mth.top (c2.fmod mo) (1 + (mx.fdiv 128).fmod 12),Mth.bot (c2.fmod mo) (1 + (mx.fdiv 128).fmod 12)):=FB.low (by omega) (.lit (by omega) (by omega)) (.lit (by omega) (by omega))
   obtain ⟨sz,hz1⟩:∃ sz:Fr2,sz = (Mth.top (c2.fmod mo) (1 + (mx.fdiv 128).fmod 12),Mth.bot (c2.fmod mo) (1 + (mx.fdiv 128).fmod 12)):=⟨_,rfl⟩
   rw [← hz1] at zb
   have e7:H7 fz = some (.tup [.int sz.1, .int sz.2]):=by rw [e7,hz1]
   nofun
   refine ⟨by show 12 ≤ sizeLine; omega, ?_⟩
   intro bl h_bl
   generalize q_bl:upd H7 bl _ = H71
   have S71:=newS h_bl q_bl
   have e71:=newE q_bl
   nofun
   repeat (refine And.intro (by first | exact JaF (by decide) | exact JaH (by decide) | exact JaG (by decide) | exact Jat (by decide) | exact Int.one_ne_zero | decide) ?_)
   have q12:=Mth.fm (x:=mx.fdiv 16) (y:=12) (by decide)
   obtain ⟨n12,hn12⟩:=Int.eq_ofNat_of_zero_le q12.1
   rw [hn12] at q12 ⊢
   obtain ⟨bt,hbt,b1,b2⟩:∃ bt:Int,[V.int 1, .int 2, .int 3, .int 4, .int 5, .int 6, .int 10, .int 12, .int 15, .int 20, .int 30, .int 60][n12]? = some (.int bt)∧1 ≤ bt∧bt ≤ 60:=Jjm (by omega)
   refine ixL (i:=n12) (SqL.of e71) hbt ?_
   nofun
   repeat (refine And.intro (by first | exact JaF (by decide) | exact JaH (by decide) | exact JaG (by decide) | exact Jat (by decide) | exact Int.one_ne_zero | decide) ?_)
   intro ol h_ol
   generalize q_ol:upd H71 ol _ = H72
   have S72:=newS h_ol q_ol
   have e72:=newE q_ol
   nofun
   repeat (refine And.intro (by first | exact JaF (by decide) | exact JaH (by decide) | exact JaG (by decide) | exact Jat (by decide) | exact Int.one_ne_zero | decide) ?_)
   have q3:=Mth.fm (x:=mx.fdiv 1024) (y:=3) (by decide)
   obtain ⟨n3,hn3⟩:=Int.eq_ofNat_of_zero_le q3.1
   rw [hn3] at q3 ⊢
   obtain ⟨om,hom,o1,o2⟩:∃ om:Int,[V.int 13, .int 13, .int 1000000000000000000000000000000][n3]? = some (.int om)∧1 ≤ om∧om ≤ 1000000000000000000000000000000:=pick3 (by omega)
   refine ixL (i:=n3) (SqL.of e72) hom ?_
   nofun
   refine ⟨by omega, ?_⟩
   repeat (refine And.intro (by first | exact JaF (by decide) | exact JaH (by decide) | exact JaG (by decide) | exact Jat (by decide) | exact Int.one_ne_zero | decide) ?_)
   have qo:=Mth.fm (x:=c2) (y:=om) (by omega)
   refine ⟨_,_,rfl,b1, .lit (by omega) (by omega),fun fm H73 S73 e73 => ?_⟩
   have mb:FB 100 6 (Mth.top (c2.fmod om) bt,Mth.bot (c2.fmod om) bt):=FB.low b1 (.lit (by omega) (by omega)) (.lit (by omega) (by omega))
   have mn:0 ≤ Mth.top (c2.fmod om) bt:=Jjx qo.1 b1
   obtain ⟨mz,hz2⟩:∃ mz:Fr2,mz = (Mth.top (c2.fmod om) bt,Mth.bot (c2.fmod om) bt):=⟨_,rfl⟩
   rw [← hz2] at mb
   have mn:0 ≤ mz.1:=by rw [hz2]; exact mn
   have e73:H73 fm = some (.tup [.int mz.1, .int mz.2]):=by rw [e73,hz2]
   nofun
   refine ⟨len2, ?_⟩
   intro t1 h_t1
   generalize q_t1:upd H73 t1 _ = H8
   have S8:=newS h_t1 q_t1
   have e8:=newE q_t1
   nofun
   refine ⟨len2, ?_⟩
   intro t2 h_t2
   generalize q_t2:upd H8 t2 _ = H9
   have S9:=newS h_t2 q_t2
   have e9:=newE q_t2
   nofun
   refine ⟨len2, ?_⟩
   intro el h_el
   generalize q_el:upd H9 el _ = H10
   have S10:=newS h_el q_el
   have e10:=newE q_el
   nofun
   repeat (refine And.intro (by first | exact JaF (by decide) | exact JaH (by decide) | exact JaG (by decide) | exact Jat (by decide) | exact Int.one_ne_zero | decide) ?_)
   have q6:=Mth.fm (x:=mx.fdiv 32) (y:=2) (by decide)
   obtain ⟨n6,hn6⟩:=Int.eq_ofNat_of_zero_le q6.1
   rw [hn6] at q6 ⊢
   obtain ⟨d,et,u,v,hd,het,hu',hv',hsg⟩:∃ (d:Bool) (et:Addr) (u v:Str),[V.ref t1, .ref t2][n6]? = some (.ref et)∧H10 et = some (.tup [.str u, .str v])∧(u = if d then s0.1.f else nmK 102 st xs.length)∧(v = if d then nmK 102 st xs.length else s0.1.f)∧(1 - 2 * (n6:Int) = if d then 1 else -1):=by
    match n6,q6 with
    | 0,_ => exact ⟨true,t1,_,_,rfl,S10 _ _ (S9 _ _ e8),rfl,rfl,rfl⟩
    | 1,_ => exact ⟨false,t2,_,_,rfl,S10 _ _ e9,rfl,rfl,rfl⟩
    | n + 2,q6 => omega
   refine ixL (i:=n6) (SqL.of e10) hd ?_
   nofun
   have S710:Same H7 H10:=S71.trans (S72.trans (S73.trans (S8.trans (S9.trans S10))))
   have S410:Same H4 H10:=S6.trans (S7.trans S710)
   have e7':=S710 _ _ e7
   have e73':=S10 _ _ (S9 _ _ (S8 _ _ e73))
   have ep10:=S410 _ _ ep
   refine ⟨_,_,_,112,i,rfl,e112,rfl,by omega,by omega,by omega, ?_⟩
   rw [Int.toNat_natCast]
   nofun
   refine ⟨.inl ⟨rfl,_,SqL.of ep10⟩, ?_⟩
   refine ixT (i:=0) (SqT.of het) rfl ?_
   refine ixT (i:=1) (SqT.of het) rfl ?_
   nofun
   repeat (refine And.intro (by first | exact JaF (by decide) | exact JaH (by decide) | exact JaG (by decide) | exact Jat (by decide) | exact Int.one_ne_zero | decide) ?_)
   have qw:=Mth.fm (x:=mx.fdiv 8) (y:=4) (by decide)
   refine ⟨by show 6 ≤ sizeLine; omega, ?_⟩
   intro pt h_pt
   generalize q_pt:upd H10 pt _ = H12
   have S12:=newS h_pt q_pt
   have e12:=newE q_pt
   nofun
   have S412:=S410.trans S12
   have lp:=hP.length
   refine ⟨pl,px,_,rfl,rfl,S412 _ _ ep,by omega, ?_⟩
   generalize u13:upd H12 pl _ = H13
   nofun
   have e13:H13 pl = some (.lst (px ++ [.ref pt])):=putE u13
   have T13:SameT H12 H13:=SameT.put u13 (S412 _ _ ep) rfl
   have fr13:∀ b u,b ≠ pl→H12 b = some u→H13 b = some u:=fun b u hb h => by rw [← u13,Jah hb]; exact h
   have ed13:=fr13 _ _ (Ne.symm npd) (S412 _ _ ed)
   have T413:SameT H4 H13:=S412.t.trans T13
   obtain ⟨s',vs0,hs',hsf,hv0,tb,w0,l0,rfl,htb,hw0,nl1,nl2,hl0⟩:=hB.some (z:=s0.1.f) (List.mem_map.mpr ⟨s0,hs0,rfl⟩)
   have es:=JcP hG hs' hs0 hsf
   subst es
   nofun
   refine ⟨sd,_,rfl,by rw [← hv0]; exact DGet.k (k:=Sum.inr s'.1.f) ed13, ?_⟩
   refine ixT (i:=1) (htb.sameT T413) rfl ?_
   nofun
   repeat (refine And.intro (by first | exact JaF (by decide) | exact JaH (by decide) | exact JaG (by decide) | exact Jat (by decide) | exact Int.one_ne_zero | decide) ?_)
   have fz13:FrV K H13 (.ref fz) sz.1 sz.2:=FrV.of (T13 _ _ rfl (S12 _ _ e7'))
   have pb:=hG.fb s'.1 hs0'
   refine ⟨w0, .ref fz,_,s'.1.p,sz,d,rfl,(by first | exact hsg | (rw [hn6]; exact hsg)),hw0.sameT T413,fz13,pb.w.mono (by omega) (by omega),zb.w.mono (by decide) (by decide),fun np H14 S14 e14 => ?_⟩
   nofun
   have ed14:=S14 _ _ ed13
   have T414:SameT H4 H14:=T413.trans S14.t
   refine ⟨sd,_,rfl,by rw [← hv0]; exact DGet.k (k:=Sum.inr s'.1.f) ed14, ?_⟩
   refine ixT (i:=0) (htb.sameT T414) rfl ?_
   refine ⟨sd,_,rfl,by rw [← hv0]; exact DGet.k (k:=Sum.inr s'.1.f) ed14, ?_⟩
   refine ixT (i:=2) (htb.sameT T414) rfl ?_
   nofun
   refine ⟨by show 1 ≤ sizeLine; omega, ?_⟩
   intro n1 h_n1
   generalize q_n1:upd H14 n1 _ = H141
   have S141:=newS h_n1 q_n1
   have e141:=newE q_n1
   nofun
   have hl14:H141 l0 = some (.lst (s'.2.map V.str)):=S141 _ _ (S14 _ _ (fr13 _ _ nl1 (S412 _ _ hl0)))
   have ln0:=hM.ln s' hs0
   refine .inl ⟨l0,n1,_,_,rfl,rfl,hl14,e141,by simp only [List.length_map,List.length_cons,List.length_nil]; omega, ?_⟩
   intro n2 h_n2
   generalize q_n2:upd H141 n2 _ = H142
   have S142:=newS h_n2 q_n2
   have e142:=newE q_n2
   nofun
   refine ⟨by show 3 ≤ sizeLine; omega, ?_⟩
   intro nt h_nt
   generalize q_nt:upd H142 nt _ = H15
   have S15:=newS h_nt q_nt
   have e15:=newE q_nt
   nofun
   have S1315:=S14.trans (S141.trans (S142.trans S15))
   have ed15:=S1315 _ _ ed13
   refine ⟨sd,_,rfl,DPut.k (k:=Sum.inr (nmK 102 st xs.length)) ed15 (by omega), ?_⟩
   generalize u16:upd H15 sd _ = H16
   nofun
   have e16:=putE u16
   have T16:SameT H15 H16:=SameT.put u16 ed15 rfl
   have fr16:∀ b u,b ≠ sd→H15 b = some u→H16 b = some u:=fun b u hb h => by rw [← u16,Jah hb]; exact h
   have T416:SameT H4 H16:=T413.trans (S1315.t.trans T16)
   have T1216:SameT H12 H16:=T13.trans (S1315.t.trans T16)
   have W416:Same2 pl sd H4 H16:=fun b u h1 h2 h => fr16 _ _ h2 (S1315 _ _ (fr13 _ _ h1 (S412 _ _ h)))
   have hname:nameS (nmK 112 st i) = true:=JcX (by decide) hst (by omega)
   have n1_:nameS s'.1.f = true:=hG.fname hst (by omega) hs0'
   have n2_:nameS (nmK 102 st xs.length) = true:=JcX (by decide) hst (by omega)
   have nwm:nmK 102 st xs.length ∉ (xs.map (·.1)).map (·.f):=hG.new (by rw [lxm]; exact Nat.le_refl _)
   have nw:nmK 102 st xs.length ≠ s'.1.f:=fun z => nwm (z ▸ List.mem_map.mpr ⟨s'.1,hs0',rfl⟩)
   have wt_:Mth.Sz 200 (1 + (mx.fdiv 8).fmod 4):=.lit (by omega) (by omega)
   have pok:POk ⟨nmK 112 st i,u,v,sz,mz,1 + (mx.fdiv 8).fmod 4⟩:=⟨hname,by show nameS u = true; rw [hu']; cases d <;> assumption,by show nameS v = true; rw [hv']; cases d <;> assumption,by show u ≠ v; rw [hu',hv']; cases d; exact nw; exact Ne.symm nw,zb.ok (by decide) (by decide),mb.ok (by decide) (by decide),mn,by show (1:Int) ≤ 1 + (mx.fdiv 8).fmod 4; omega,wt_⟩
   rw [← lxm] at hu' hv'
   have hG':=hG.part hst hs0' (p:=⟨nmK 112 st i,u,v,sz,mz,1 + (mx.fdiv 8).fmod 4⟩) (d:=d) (by rw [hli]) hu' hv' (zb.mono (by decide) (by decide)) pok
   have hM':=hM.part hG hs0 (p:=⟨nmK 112 st i,u,v,sz,mz,1 + (mx.fdiv 8).fmod 4⟩) (d:=d) (by rw [hli]) hu' hv' zb mb
   have hT':=JhN hG hs0' hT (z:=addF s'.1.p (sgn d sz))
   rw [lxm] at hG' hM' hT'
   obtain ⟨X,hX⟩:∃ X:SpD × List Str,X = (⟨nmK 102 st xs.length,s'.1.r,addF s'.1.p (sgn d sz)⟩,s'.2 ++ [nmK 112 st i]):=⟨_,rfl⟩
   have exm:(xs ++ [X]).map (·.1) = xs.map (·.1) ++ [⟨nmK 102 st xs.length,s'.1.r,addF s'.1.p (sgn d sz)⟩]:=by rw [List.map_append,hX]; rfl
   refine hN0 _ _ ⟨_,_,_,_,_,_,_,_,_,_,_,_,px ++ [.ref pt],_,ls ++ [⟨nmK 112 st i,u,v,sz,mz,1 + (mx.fdiv 8).fmod 4⟩],xs ++ [X],rfl,fun b w h => fr16 _ _ (Jag h h0sd) (S1315 _ _ (fr13 _ _ (Jag h h_pl) (S412 _ _ (S4 _ _ h)))),fr16 _ _ npd (S1315 _ _ e13), ?_,e16, ?_,by rw [exm]; exact hG',by rw [hX]; exact hM',by rw [exm]; exact hT',by simp [hli],by simp; omega,fun _ => by simp⟩
   ·exact (hP.mono (P':=PDV K H16) fun _ _ z => z.sameT T416).append (.one ⟨pt,_,_,rfl,SqT.of (T1216 _ _ rfl e12),FrV.of (T1216 _ _ rfl (S12 _ _ e7')),FrV.of (T1216 _ _ rfl (S12 _ _ e73'))⟩)
   ·have hBm:=hB.mono (P':=SNV K pl sd H16) fun _ _ z => z.keep T416 W416
    have ef:X.1.f = nmK 102 st xs.length:=by rw [hX]
    have nX:(fun x:SpD × List Str => x.1.f) X ∉ xs.map (fun x => x.1.f):=by
     show X.1.f ∉ _
     rw [ef]
     rw [List.map_map] at nwm
     exact nwm
    have nn1:n2 ≠ pl:=fun z => by rw [z] at h_n2; rw [S141 _ _ (S14 _ _ e13)] at h_n2; cases h_n2
    have nn2:n2 ≠ sd:=fun z => by rw [z] at h_n2; rw [S141 _ _ ed14] at h_n2; cases h_n2
    have:=hBm.new (a:=X) (v:=.ref nt) nX ⟨nt, .ref np,n2,rfl,by rw [hX]; exact SqT.of (T16 _ _ rfl e15),by rw [hX]; exact FrV.of (T16 _ _ rfl (S15 _ _ (S142 _ _ (S141 _ _ e14)))),nn1,nn2,fr16 _ _ nn2 (by rw [hX]; rw [S15 _ _ e142]; simp)⟩
    rw [ef] at this
    exact this
  ·intro N hN
   have lk:=hB.length
   have lxm:(xs.map (·.1)).length = xs.length:=List.length_map ..
   nofun
   refine ⟨sd,kv,rfl,ed, ?_⟩
   nofun
   have add:∀ (H':Hp) (tf rf lf:Addr),Same H3 H'→H3 lf = none→H' lf = some (.lst [])→H' rf = some (.tup [.int 0, .int 1])→H' tf = some (.tup [.str (nmK 102 st xs.length), .ref rf, .ref lf])→∀ H'',upd H' sd (.dK (putK kv (Sum.inr (nmK 102 st xs.length)) (.ref tf))) = H''→N [some (.ref a),some (.int (st:Int)),some (.ref pl),some (.ref sd),some (.int (i:Int)),some (.int c1),some (.int mx),some (.str (nmK 102 st xs.length)),v8,v9,v10,v11,v12,v13,v14,v15] H'':=fun H' tf rf lf S' h_lf hlf hr ht H'' u => by
    have ed':=S' _ _ ed
    have e'':=putE u
    have T':SameT H' H'':=SameT.put u ed' rfl
    have fr:∀ b w,b ≠ sd→H' b = some w→H'' b = some w:=fun b w hb h => by rw [← u,Jah hb]; exact h
    have T3:SameT H3 H'':=S'.t.trans T'
    have W3:Same2 pl sd H3 H'':=fun b u _ h2 h => fr _ _ h2 (S' _ _ h)
    have np:lf ≠ pl:=fun z => by rw [z,ep] at h_lf; cases h_lf
    have ns_:lf ≠ sd:=fun z => by rw [z,ed] at h_lf; cases h_lf
    have hGf:=hG.face
    have hMf:=hM.face hG
    rw [lxm] at hGf hMf
    obtain ⟨X,hX⟩:∃ X:SpD × List Str,X = (⟨nmK 102 st xs.length,nmK 102 st xs.length,(0,1)⟩,[]):=⟨_,rfl⟩
    have exm:(xs ++ [X]).map (·.1) = xs.map (·.1) ++ [⟨nmK 102 st xs.length,nmK 102 st xs.length,(0,1)⟩]:=by rw [List.map_append,hX]; rfl
    have eXf:X.1.f = nmK 102 st xs.length:=by rw [hX]
    have eXr:X.1.r = nmK 102 st xs.length:=by rw [hX]
    refine hN _ _ ⟨_,xs ++ [X],X,by rw [eXf],fun b w h => fr _ _ (Jag h h0sd) (S' _ _ (S3 _ _ h)),fr _ _ npd (S' _ _ ep),hP.mono (P':=PDV K H'') (fun _ _ z => z.sameT T3),e'', ?_,by rw [exm]; exact hGf,by rw [hX]; exact hMf,by simp,fun s hs => ?_,by simp; omega⟩
    ·have hBm:=hB.mono (P':=SNV K pl sd H'') fun _ _ z => z.keep T3 W3
     have nX:(fun x:SpD × List Str => x.1.f) X ∉ xs.map (fun x => x.1.f):=by
      show X.1.f ∉ _
      rw [eXf]
      have nwm:nmK 102 st xs.length ∉ (xs.map (·.1)).map (·.f):=hG.new (by rw [lxm]; exact Nat.le_refl _)
      rw [List.map_map] at nwm
      exact nwm
     have:=hBm.new (a:=X) (v:=.ref tf) nX ⟨tf, .ref rf,lf,rfl,by rw [hX]; exact SqT.of (T' _ _ rfl ht),by rw [hX]; exact FrV.of (T' _ _ rfl hr),np,ns_,by rw [hX]; exact fr _ _ ns_ hlf⟩
     rw [eXf] at this
     exact this
    ·rw [exm] at hs ⊢
     rcases List.mem_append.mp hs with hs | hs
     ·obtain ⟨t,h1,h2,h3⟩:=hT s hs
      exact .inr ⟨t,List.mem_append.mpr (.inl h1),h2,h3⟩
     ·rw [List.mem_singleton.mp hs,eXr]
      exact .inl rfl
   by_cases z0:xs.length = 0
   ·rw [if_pos (by rw [decide_eq_true_iff]; omega)]
    nofun
    refine ⟨sd,kv,rfl,ed, ?_⟩
    refine ⟨_,_,_,102,xs.length,rfl,e102,by omega,by omega,by omega,by omega, ?_⟩
    rw [Int.toNat_natCast]
    nofun
    refine ⟨len2, ?_⟩
    intro rf h_rf
    generalize q_rf:upd H3 rf _ = H4
    have S4:=newS h_rf q_rf
    have e4:=newE q_rf
    nofun
    refine ⟨len0, ?_⟩
    intro lf h_lf
    generalize q_lf:upd H4 lf _ = H41
    have S41:=newS h_lf q_lf
    have e41:=newE q_lf
    nofun
    refine ⟨by show 3 ≤ sizeLine; omega, ?_⟩
    intro tf h_tf
    generalize q_tf:upd H41 tf _ = H5
    have S5:=newS h_tf q_tf
    have e5:=newE q_tf
    nofun
    refine ⟨sd,_,rfl,DPut.k (k:=Sum.inr (nmK 102 st xs.length)) (S5 _ _ (S41 _ _ (S4 _ _ ed))) (by omega), ?_⟩
    exact add H5 tf rf lf (S4.trans (S41.trans S5)) (Jex S4 h_lf) (S5 _ _ e41) (S5 _ _ (S41 _ _ e4)) e5 _ rfl
   ·rw [if_neg (by rw [decide_eq_true_iff]; omega)]
    nofun
    nofun
    repeat (refine And.intro (by first | exact JaF (by decide) | exact JaH (by decide) | exact JaG (by decide) | exact Jat (by decide) | exact Int.one_ne_zero | decide) ?_)
    by_cases c6:(mx.fdiv 4096).fmod 6 = 1
    ·rw [if_pos (by simpa using c6)]
     nofun
     refine ⟨sd,kv,rfl,ed, ?_⟩
     refine ⟨_,_,_,102,xs.length,rfl,e102,by omega,by omega,by omega,by omega, ?_⟩
     rw [Int.toNat_natCast]
     nofun
     refine ⟨len2, ?_⟩
     intro rf h_rf
     generalize q_rf:upd H3 rf _ = H4
     have S4:=newS h_rf q_rf
     have e4:=newE q_rf
     nofun
     refine ⟨len0, ?_⟩
     intro lf h_lf
     generalize q_lf:upd H4 lf _ = H41
     have S41:=newS h_lf q_lf
     have e41:=newE q_lf
     nofun
     refine ⟨by show 3 ≤ sizeLine; omega, ?_⟩
     intro tf h_tf
     generalize q_tf:upd H41 tf _ = H5
     have S5:=newS h_tf q_tf
     have e5:=newE q_tf
     nofun
     refine ⟨sd,_,rfl,DPut.k (k:=Sum.inr (nmK 102 st xs.length)) (S5 _ _ (S41 _ _ (S4 _ _ ed))) (by omega), ?_⟩
     exact add H5 tf rf lf (S4.trans (S41.trans S5)) (Jex S4 h_lf) (S5 _ _ e41) (S5 _ _ (S41 _ _ e4)) e5 _ rfl
    ·rw [if_neg (by simpa using c6)]
     nofun
     refine ⟨sd,kv,xs.map (·.1.f),rfl,ed,by rw [hB.1,List.map_map]; rfl,by rw [List.length_map]; omega,fun sl_ out h_sl ord => ?_⟩
     generalize u4:upd H3 sl_ _ = H4
     nofun
     have S4:=newS h_sl u4
     have e4:=newE u4
     nofun
     refine ⟨sd,kv,rfl,S4 _ _ ed, ?_⟩
     nofun
     have lo:out.length = xs.length:=by rw [ord.1.length_eq,List.length_map]
     refine ⟨by omega, ?_⟩
     have qj:=Mth.fm (x:=mx) (y:=(kv.length:Int)) (by omega)
     obtain ⟨j,hj⟩:=Int.eq_ofNat_of_zero_le qj.1
     rw [hj] at qj ⊢
     have jl:j < out.length:=by omega
     obtain ⟨s0,hs0,ef⟩:=List.mem_map.mp (ord.1.mem_iff.mp (List.getElem_mem jl))
     refine ixL (i:=j) (SqL.of e4) (by rw [List.getElem?_map,List.getElem?_eq_getElem jl]; rfl) ?_
     nofun
     have ef:s0.1.f = out[j]:=ef
     rw [← ef]
     exact hN _ _ ⟨kv,xs,s0,rfl,S3.trans S4,S4 _ _ ep,hP.mono (P':=PDV K H4) (fun _ _ z => z.sameT S4.t),S4 _ _ ed,hB.mono (P':=SNV K pl sd H4) (fun _ _ z => z.same S4),hG,hM,hs0,fun s hs => .inr (hT s hs),by omega⟩
 ·rintro σ H3 ⟨v4,v5,v6,v7,v8,v9,v10,v11,v12,v13,v14,v15,px,kv,ls,xs,rfl,S3,ep,hP,ed,hB,hG,hM,hT,hli,hsp,hne⟩
  nofun
  refine ⟨len2, ?_⟩
  intro q h_q
  generalize q_q:upd H3 q _ = H4
  have S4:=newS h_q q_q
  have e4:=newE q_q
  nofun
  exact k q pl sd px kv ls xs H4 (S3.trans S4) e4 (S4 _ _ ep) (hP.mono (P':=PDV K H4) fun _ _ z => z.sameT S4.t) (S4 _ _ ed) (hB.mono (P':=SNV K pl sd H4) fun _ _ z => z.same S4) hG hM hT (by omega) (by omega) (by omega) (hne (by omega))
abbrev BaF:Stmt:=top 46
theorem JbN:Jan ["_law_script", "_law_parts_here", "_law_kept", "_law_k"] ["_law_script", "_law_parts_here"] (Jae BaF):=⟨rfl,rfl,rfl,by decide +kernel,rfl,by decide +kernel,by decide +kernel⟩
def JbU (K:PySem.W.Frag):Sp:=fun vs H Q E => ∃ (a c:Addr) (ns:List Int) (px:List V) (ls:List PD),vs = [.ref a, .ref c]∧SqL K H a (ns.map V.int)∧ns.length ≤ 63∧SqL K H c px∧All2 (PDV K H) ls px∧ls.length ≤ 8∧∀ l ys ks H',Same H H'→H' l = some (.lst ys)→All2 (PDV K H') ks ys→ks.Perm ls→Q (.ref l) H'
theorem Jd8 {f:Addr} {fd:FuncData} {dV:Value} (F:FunD K "_law_listed" "_law_listed" BaF dV f fd) (T:Txt K mg Ad) (Bad:Cal P w K mg base 1 "_law_cell" ["_law_script", "_law_k"] [] (Jba K)):FnOk P w K mg base (CX1 P w) 2 f fd ["_law_script", "_law_parts_here"] (JbU K):=by
 refine F.okn JbN (fun vs H Q E h => ?_) (fun cdv A outer s H vs Q E hr h => ?_)
 ·obtain ⟨a,c,ns,px,ls,rfl,_⟩:=h; rfl
 obtain ⟨a,c,ns,px,ls,rfl,h⟩:=h
 have hu:=hr.units
 refine ⟨_,(Jab (Jaj (i:=2) JbN.nd rfl (Or.inl rfl) (JaX Jad))
   (Jab (Ja2 PassesOwn.never rfl (Jby rfl T.Bbo (Jaa (Jaq JaM rfl T.Ba6 Jbb (Jaa (pv 1) Jad)) Jad)) (Jav (i:=3) JbN.nd rfl (Or.inl rfl))
   (Jai (Jbt (pe_bm PySem.F.plainAttrs_list PySem.F.slot_list_insert PySem.F.type_list_insert JgL (pv 2) (Jaa (pe_op Jar (pe_op Jao (pe_op Jar (pe_op Jay (Bad.ev hr (by decide) rfl passF (Jaa (pv 0) (Jaa (pe_op JaL Jac (pe_op Jay Jac (pv 3))) Jad)) (he:=by exact Jaf rfl)) Jac) Jac) Jac) (pe_op JaL Jac (pv 3))) (Jaa (pe_ix ix_U (pv 1) (pv 3) (fun _ _ => rfl)) Jad))))))
   (Jai (Jas (pv 2))))), ?_⟩
 obtain ⟨hS,hl,hC,hP,h8,k⟩:=h
 have sl:(1000:Nat) ≤ sizeLine:=by decide
 have lp:=hP.length
 show tSeq _ _ _ [some (.ref a),some (.ref c),none,none] H
 nofun
 refine ⟨len0, ?_⟩
 intro kl h_kl
 generalize q_kl:upd H kl _ = H1
 have S1:=newS h_kl q_kl
 have e1:=newE q_kl
 nofun
 refine ⟨_, .inl (hC.same S1), ?_⟩
 nofun
 refine ⟨_,rfl,by omega,by omega, ?_⟩
 refine ForR.by (fun i σ H' => ∃ (v3:Option V) (ys:List V) (ks:List PD), σ = [some (.ref a),some (.ref c),some (.ref kl),v3]∧Same H H'∧H' kl = some (.lst ys)∧All2 (PDV K H') ks ys∧ks.Perm (ls.take i)) ⟨none,[],[],rfl,S1,e1,rfl,by simp⟩ ?_ ?_
 ·rintro i σ H2 hi ⟨v3,ys,ks,rfl,S2,e2,hK,hp⟩
  have li:i < ls.length:=by omega
  have lks:ks.length = i:=by rw [hp.length_eq,List.length_take]; omega
  have lys:=hK.length
  obtain ⟨xv,hxv,pv⟩:=hP.get (List.getElem?_eq_getElem li)
  rw [Int.zero_add]
  nofun
  refine ⟨.inl ⟨rfl,_,SqL.of e2⟩, ?_⟩
  repeat (refine And.intro (by first | exact JaF (by decide) | exact JaH (by decide) | exact JaG (by decide) | exact Jat (by decide) | exact Int.one_ne_zero | decide) ?_)
  refine ⟨a,ns,_,rfl,hS.same S2,hl,by omega,by omega,fun c1 => ?_⟩
  nofun
  repeat (refine And.intro (by first | exact JaF (by decide) | exact JaH (by decide) | exact JaG (by decide) | exact Jat (by decide) | exact Int.one_ne_zero | decide) ?_)
  refine ⟨by omega, ?_⟩
  have qn:=Mth.fm (x:=((c1 * 16807).fmod 2147483587).fdiv 37) (y:=1 + (i:Int)) (by omega)
  obtain ⟨n,hn⟩:=Int.eq_ofNat_of_zero_le qn.1
  rw [hn] at qn ⊢
  refine ixL (i:=i) (hC.same S2) hxv ?_
  nofun
  refine ⟨kl,ys,xv,n,rfl,rfl,e2,by omega,by omega, ?_⟩
  generalize u3:upd H2 kl _ = H3
  nofun
  have e3:=putE u3
  have T3:SameT H2 H3:=SameT.put u3 e2 rfl
  have hK3:=hK.mono (P':=PDV K H3) fun _ _ z => z.sameT T3
  refine ⟨_,_,ks.take n ++ ls[i] :: ks.drop n,rfl,fun b u h => by rw [← u3,Jah (Jag h h_kl)]; exact S2 _ _ h,e3,(hK3.take n).append ⟨xv,_,rfl,(pv.sameT S2.t).sameT T3,hK3.drop n⟩, ?_⟩
  rw [List.take_succ,List.getElem?_eq_getElem li]
  refine List.Perm.trans List.perm_middle ?_
  rw [List.take_append_drop]
  refine List.Perm.trans (List.Perm.cons _ hp) ?_
  exact (List.perm_append_comm (l₁:=[ls[i]]) (l₂:=ls.take i))
 ·rintro σ H2 ⟨v3,ys,ks,rfl,S2,e2,hK,hp⟩
  rw [List.take_of_length_le (by omega)] at hp
  nofun
  exact k kl ys ks H2 S2 e2 hK hp
abbrev BaU:Stmt:=top 47
theorem Jau:Jan ["_law_script", "_law_spots", "_law_style", "_law_gaps_here", "_law_rows", "_law_k", "_law_cell_here", "_law_mixed", "_law_faces", "_law_one", "_law_same", "_law_two", "_law_middle", "_law_other", "_law_far", "_law_below", "_law_above", "_law_room", "_law_here", "_law_there", "_law_names"] ["_law_script", "_law_spots", "_law_style"] (Jae BaU):=⟨rfl,rfl,rfl,by decide +kernel,rfl,by decide +kernel,by decide +kernel⟩
def Jcn (K:PySem.W.Frag):Sp:=fun vs H Q E => ∃ (a sd c1 c2:Addr) (ns:List Int) (st:Nat) (kv:List (Key × V)) (ls:List PD) (xs:List (SpD × List Str)),vs = [.ref a, .ref sd, .int (st:Int)]∧SqL K H a (ns.map V.int)∧ns.length ≤ 63∧st ≤ 3∧H sd = some (.dK kv)∧BG (·.1.f) (SNV K c1 c2 H) xs kv∧Grn st ls (xs.map (·.1))∧Nms ls xs∧Two (xs.map (·.1))∧ls.length ≤ 7∧xs.length ≤ 14∧xs ≠ []∧∀ q gl dl gx dx es H',Same H H'→H' q = some (.tup [.ref gl, .ref dl])→H' gl = some (.lst gx)→All2 (fun (e:GD × List Str) x => TV K H' e.1.td x) es gx→H' dl = some (.lst dx)→All2 (RWV K gl dl (spOf (xs.map (·.1))) H') es dx→(∀ e ∈ es,GOK ls xs e)→(∀ (i:Nat) (e:GD × List Str),es[i]? = some e→e.1.nm = nmK 103 st i)→es.length ≤ 6→Q (.ref q) H'
theorem Je9 {f:Addr} {fd:FuncData} {dV:Value} (F:FunD K "_law_gaps" "_law_gaps" BaU dV f fd) (T:Txt K mg Ad) (Bad:Cal P w K mg base 1 "_law_cell" ["_law_script", "_law_k"] [] (Jba K)) (BaE:Cal P w K mg base 1 "_law_name" ["_law_k", "_law_sign", "_law_style"] [] (JbV)) (Bah:Cal P w K mg base 1 "_law_low" ["_law_top", "_law_bottom"] [] (Jbx)) (Baf:Cal P w K mg base 2 "_law_plus" ["_law_one", "_law_other", "_law_sign"] [] (Jbp K)):FnOk P w K mg base (CX1 P w) 3 f fd ["_law_script", "_law_spots", "_law_style"] (Jcn K):=by
 refine F.okn Jau (fun vs H Q E h => ?_) (fun cdv A outer s H vs Q E hr h => ?_)
 ·obtain ⟨a,sd,c1,c2,ns,st,kv,ls,xs,rfl,_⟩:=h; rfl
 obtain ⟨a,sd,c1,c2,ns,st,kv,ls,xs,rfl,h⟩:=h
 have hu:=hr.units
 refine ⟨_,(Jab (Jaj (i:=3) Jau.nd rfl (Or.inl rfl) (JaX Jad))
   (Jab (Jaj (i:=4) Jau.nd rfl (Or.inl rfl) (JaX Jad))
   (Jab (Ja2 PassesOwn.never rfl (Jby rfl T.Bbo (Jaa (pe_op Jar (Bad.ev hr (by decide) rfl passF (Jaa (pv 0) (Jaa Jac Jad)) (he:=by exact Jaf rfl)) Jac) Jad)) (Jav (i:=5) Jau.nd rfl (Or.inl rfl))
   (Jab (Jaj (i:=6) Jau.nd rfl (Or.inl rfl) (Bad.ev hr (by decide) rfl passF (Jaa (pv 0) (Jaa (pe_op JaL Jac (pe_op Jay Jac (pv 5))) Jad)) (he:=by exact Jaf rfl)))
   (Jab (Jaj (i:=7) Jau.nd rfl (Or.inl rfl) (pe_op Jao (pe_op Jar (pe_op Jay (pv 6) Jac) Jac) Jac))
   (Jab (Jaj (i:=8) Jau.nd rfl (Or.inl rfl) (Jaq (JdC rfl) rfl T.Bda Jes (Jaa (pv 1) Jad)))
   (Jab (Jaj (i:=9) Jau.nd rfl (Or.inr rfl) (pe_ix ix_U (pv 8) (pe_op Jar (pv 7) (Jaq JaM rfl T.Ba6 Jbb (Jaa (pv 8) Jad))) (fun _ _ => rfl)))
   (Jab (Jfg (j:=10) (own:=["_law_face"]) (cs:=[(9, "_law_one"),(1, "_law_spots")]) Jau.nd rfl (Or.inl rfl) rfl (pi_U (pv 8)) (fun _ _ _ _ => (Jav (i:=0) (show [("_law_face" : Str),("_law_one" : Str),("_law_spots" : Str)].Nodup by decide) rfl (Or.inl rfl))) (fun _ _ _ _ => (PW.pt (Jg6 (Jaz (Jjg (K:=K) rfl hu) (pv 0) (pv 1) (JaD _)) (Jfh (Jaz (Jjd (K:=K) rfl hu) (pe_ix (ix_UK (K:=K) rfl) (Ja9 (hu1 hu) (pv 2) (pv 0) (fun _ _ => rfl)) Jac (fun _ _ => rfl)) (pe_ix (ix_UK (K:=K) rfl) (Ja9 (hu1 hu) (pv 2) (pv 1) (fun _ _ => rfl)) Jac (fun _ _ => rfl)) (JaD _)))))) (fun _ _ _ _ => (pv 0)) (JfA rfl) (by decide) rfl (by decide) (hcs2 rfl rfl rfl rfl rfl rfl))
   (Jab (Jaj (i:=11) Jau.nd rfl (Or.inl rfl) (pe_ix ix_U (pv 10) (pe_op Jar (pe_op Jao (pv 7) Jac) (Jaq JaM rfl T.Ba6 Jbb (Jaa (pv 10) Jad))) (fun _ _ => rfl)))
   (Jab (Jaj (i:=12) Jau.nd rfl (Or.inl rfl) (Baf.ev hr (by decide) rfl passF (Jaa (pe_ix ix_U (Ja9 (hu1 hu) (pv 1) (pv 11) (fun _ _ => rfl)) Jac (fun _ _ => rfl)) (Jaa (pe_ix ix_U (Ja9 (hu1 hu) (pv 1) (pv 9) (fun _ _ => rfl)) Jac (fun _ _ => rfl)) (Jaa (pe_un JfQ Jac) Jad))) (he:=by exact Jaf rfl)))
   (Jab (Jaj (i:=13) Jau.nd rfl (Or.inl rfl) (Bad.ev hr (by decide) rfl passF (Jaa (pv 0) (Jaa (pe_op JaL Jac (pe_op Jay Jac (pv 5))) Jad)) (he:=by exact Jaf rfl)))
   (Jab (Jaj (i:=14) Jau.nd rfl (Or.inl rfl) (pe_ix ix_U (JaX (Jaa Jac (Jaa Jac (Jaa (pe_op Jfe Jac Jac) Jad)))) (pe_op Jar (pe_op Jao (pv 7) Jac) Jac) (fun _ _ => rfl)))
   (Jab (Jaj (i:=15) Jau.nd rfl (Or.inl rfl) (Bah.ev hr (by decide) rfl passF (Jaa (pe_op JfH (pe_op Jar (pv 13) (pv 14)) (Jcz Jet rfl T.BdA Jgn (Jaa (Jbl (JbG hu) (pe_op Jar (pe_op Jao (pv 7) Jac) Jac) Jac (JaD _)) Jad))) (Jaa (pe_op JaL Jac (pe_op Jar (pe_op Jao (pv 7) Jac) Jac)) Jad)) (he:=by exact Jaf rfl)))
   (Jab (Jaj (i:=16) Jau.nd rfl (Or.inl rfl) (Bah.ev hr (by decide) rfl passF (Jaa (pe_op JaL (pe_op Jar (pe_op Jao (pv 13) Jac) (pv 14)) Jac) (Jaa (pe_op JaL Jac (pe_op Jar (pe_op Jao (pv 7) Jac) Jac)) Jad)) (he:=by exact Jaf rfl)))
   (Jab (Jbt (pe_bm PySem.F.plainAttrs_list PySem.F.slot_list_append PySem.F.type_list_append Jbr (pv 3) (Jaa (Ja0 (Jaa (BaE.ev hr (by decide) rfl passF (Jaa (pv 5) (Jaa Jb1 (Jaa (pv 2) Jad))) (he:=by exact Jaf rfl)) (Jaa (pv 9) (Jaa (pv 11) (Jaa (Baf.ev hr (by decide) rfl passF (Jaa (pv 12) (Jaa (pv 15) (Jaa (pe_un JfQ Jac) Jad))) (he:=by exact Jaf rfl)) (Jaa (Baf.ev hr (by decide) rfl passF (Jaa (pv 12) (Jaa (pv 16) (Jaa Jac Jad))) (he:=by exact Jaf rfl)) Jad)))))) Jad) (hs:=by exact Jaf rfl)))
   (Jab (Jaj (i:=17) Jau.nd rfl (Or.inl rfl) (pe_ix ix_U (JaX (Jaa (pv 16) (Jaa (pv 15) Jad))) (Jcz Jet rfl T.BdA Jgn (Jaa (Jbl JdO (pe_op Jay (pe_ix ix_U (pv 15) Jac (fun _ _ => rfl)) (pe_ix ix_U (pv 16) Jac (fun _ _ => rfl))) (pe_op Jay (pe_ix ix_U (pv 16) Jac (fun _ _ => rfl)) (pe_ix ix_U (pv 15) Jac (fun _ _ => rfl))) (JaD _)) Jad)) (fun _ _ => rfl)))
   (Jab (Jaj (i:=18) Jau.nd rfl (Or.inr rfl) (pe_ix ix_U (Ja9 (hu1 hu) (pv 1) (pv 9) (fun _ _ => rfl)) Jac (fun _ _ => rfl)))
   (Jab (Jaj (i:=19) Jau.nd rfl (Or.inr rfl) (pe_ix ix_U (Ja9 (hu1 hu) (pv 1) (pv 11) (fun _ _ => rfl)) Jac (fun _ _ => rfl)))
   (Jab (Jaj (i:=20) Jau.nd rfl (Or.inl rfl) (pe_op JaL (JeK (own:=["_law_name_here"]) (cs:=[(19, "_law_there")]) rfl (pi_U (pv 18)) (fun _ _ _ _ => (Jav (i:=0) (show [("_law_name_here" : Str),("_law_there" : Str)].Nodup by decide) rfl (Or.inl rfl))) (fun _ _ _ _ => (Jaz (JeI (K:=K) rfl) (pv 0) (pv 1) (by with_unfolding_all rfl))) (fun _ _ _ _ => (pv 0)) (JfA rfl) (by decide) rfl (by decide) (hcs1 rfl rfl rfl)) (JeK (own:=["_law_name_here"]) (cs:=[(18, "_law_here")]) rfl (pi_U (pv 19)) (fun _ _ _ _ => (Jav (i:=0) (show [("_law_name_here" : Str),("_law_here" : Str)].Nodup by decide) rfl (Or.inl rfl))) (fun _ _ _ _ => (Jaz (JeI (K:=K) rfl) (pv 0) (pv 1) (by with_unfolding_all rfl))) (fun _ _ _ _ => (pv 0)) (JfA rfl) (by decide) rfl (by decide) (hcs1 rfl rfl rfl))))
   (Jai (Jbt (pe_bm PySem.F.plainAttrs_list PySem.F.slot_list_append PySem.F.type_list_append Jbr (pv 4) (Jaa (Ja0 (Jaa (pv 17) (Jaa (pv 20) Jad))) Jad) (hs:=by exact Jaf rfl)))))))))))))))))))))
   (Jai (Jas (Ja0 (Jaa (pv 3) (Jaa (pv 4) Jad)))))))), ?_⟩
 obtain ⟨hS,hl,hst,ed,hB,hG,hM,hT,h7,h14,hne,k⟩:=h
 have sl:(1000:Nat) ≤ sizeLine:=by decide
 have e103:(Str.ofString "g").cps = #[103]:=by decide
 have lk:=hB.length
 have lxm:(xs.map (·.1)).length = xs.length:=List.length_map ..
 have sp1:1 ≤ xs.length:=by cases xs with | nil => exact absurd rfl hne | cons _ _ => simp
 show tSeq _ _ _ [some (.ref a),some (.ref sd),some (.int (st:Int)),none,none,none,none,none,none,none,none,none,none,none,none,none,none,none,none,none,none] H
 nofun
 refine ⟨len0, ?_⟩
 intro gl h_gl
 generalize q_gl:upd H gl _ = H1
 have S1:=newS h_gl q_gl
 have e1:=newE q_gl
 nofun
 refine ⟨len0, ?_⟩
 intro dl h_dl
 generalize q_dl:upd H1 dl _ = H2
 have S2:=newS h_dl q_dl
 have e2:=newE q_dl
 nofun
 refine ⟨a,ns,1,rfl,(hS.same S1).same S2,hl,by decide,by decide,fun c0 => ?_⟩
 nofun
 repeat (refine And.intro (by first | exact JaF (by decide) | exact JaH (by decide) | exact JaG (by decide) | exact Jat (by decide) | exact Int.one_ne_zero | decide) ?_)
 have q0:=Mth.fm (x:=c0) (y:=7) (by decide)
 refine ⟨_,rfl,by omega,by omega, ?_⟩
 have ngd:gl ≠ dl:=fun z => by rw [← z,e1] at h_dl; cases h_dl
 have h0dl:=Jex S1 h_dl
 replace hB:=hB.mono (P':=SNV K gl dl H) fun _ _ ⟨b,w,l,h1,h2,h3,_,_,h6⟩ => ⟨b,w,l,h1,h2,h3,Jag h6 h_gl,Jag h6 h0dl,h6⟩
 refine ForR.byN (fun i σ H' => ∃ (v5 v6 v7 v8 v9 v10 v11 v12 v13 v14 v15 v16 v17 v18 v19 v20:Option V) (gx dx:List V) (es:List (GD × List Str)), σ = [some (.ref a),some (.ref sd),some (.int (st:Int)),some (.ref gl),some (.ref dl),v5,v6,v7,v8,v9,v10,v11,v12,v13,v14,v15,v16,v17,v18,v19,v20]∧Same H H'∧H' gl = some (.lst gx)∧All2 (fun (e:GD × List Str) x => TV K H' e.1.td x) es gx∧H' dl = some (.lst dx)∧All2 (RWV K gl dl (spOf (xs.map (·.1))) H') es dx∧(∀ e ∈ es,GOK ls xs e)∧(∀ (i:Nat) (e:GD × List Str),es[i]? = some e→e.1.nm = nmK 103 st i)∧es.length = i) ⟨none,none,none,none,none,none,none,none,none,none,none,none,none,none,none,none,[],[],[],rfl,S1.trans S2,S2 _ _ e1,rfl,e2,rfl,(fun g hg => by cases hg),(fun i g hi => by cases hi),rfl⟩ ?_ ?_
 ·rintro i σ H3 hi ⟨v5,v6,v7,v8,v9,v10,v11,v12,v13,v14,v15,v16,v17,v18,v19,v20,gx,dx,es,rfl,S3,eg,hX,el,hD,hok,hnm,hgi⟩ N0 hN0
  have i6:i < 6:=by omega
  have ed3:=S3 _ _ ed
  have hB3:=hB.mono (P':=SNV K gl dl H3) fun _ _ z => z.same S3
  rw [Int.zero_add]
  nofun
  repeat (refine And.intro (by first | exact JaF (by decide) | exact JaH (by decide) | exact JaG (by decide) | exact Jat (by decide) | exact Int.one_ne_zero | decide) ?_)
  refine ⟨a,ns,_,rfl,hS.same S3,hl,by omega,by omega,fun c1_ => ?_⟩
  nofun
  repeat (refine And.intro (by first | exact JaF (by decide) | exact JaH (by decide) | exact JaG (by decide) | exact Jat (by decide) | exact Int.one_ne_zero | decide) ?_)
  generalize hmx:((c1_ * 39373).fmod 2147483629).fdiv 37 = mx
  refine ⟨sd,kv,xs.map (·.1.f),rfl,ed3,by rw [hB3.1,List.map_map]; rfl,by rw [List.length_map]; omega,fun fl out h_fl ord => ?_⟩
  generalize u4:upd H3 fl _ = H4
  nofun
  have S4:=newS h_fl u4
  have e4:=newE u4
  have ed4:=S4 _ _ ed3
  have hB4:=hB3.mono (P':=SNV K gl dl H4) fun _ _ z => z.same S4
  have lo:out.length = xs.length:=by rw [ord.1.length_eq,List.length_map]
  nofun
  refine ⟨_, .inl (SqL.of e4), ?_⟩
  try simpa only [List.length_map]
  refine ⟨by omega, ?_⟩
  have qj:=Mth.fm (x:=mx) (y:=(out.length:Int)) (by omega)
  obtain ⟨j,hj⟩:=Int.eq_ofNat_of_zero_le qj.1
  rw [hj] at qj ⊢
  have jl:j < out.length:=by omega
  obtain ⟨s1,hs1,ef⟩:=List.mem_map.mp (ord.1.mem_iff.mp (List.getElem_mem jl))
  refine ixL (i:=j) (SqL.of e4) (by rw [List.getElem?_map,List.getElem?_eq_getElem jl]; rfl) ?_
  have ef:s1.1.f = out[j]:=ef
  rw [← ef]
  nofun
  obtain ⟨s',vs1,hs',hsf,hv1,tb1,w1,l1,rfl,htb1,hw1,l1g,_,hl1⟩:=hB4.some (z:=s1.1.f) (List.mem_map.mpr ⟨s1,hs1,rfl⟩)
  have es_:=JcP hG hs' hs1 hsf
  subst es_
  refine ⟨fl,rfl, .inl ⟨⟨_,SqL.of e4⟩,Jc1.list (xs:=out.map V.str) (fun i ys H' => H' = H4∧∃ fs:List Str,ys = fs.map V.str∧fs.length ≤ i∧(∀ f ∈ fs, ∃ t ∈ xs,t.1.f = f∧t.1.f ≠ s'.1.f∧t.1.r = s'.1.r)∧(∀ t ∈ xs,t.1.f ∈ out.take i→t.1.f ≠ s'.1.f→t.1.r = s'.1.r→t.1.f ∈ fs)) ⟨rfl,[],rfl,Nat.zero_le _,(fun f hf => by cases hf),fun t _ h => by simp at h⟩ (fun i ys H' hi z => by
   obtain ⟨rfl,fs,rfl,hf,_⟩:=z
   rw [List.length_map] at hi ⊢
   exact ⟨SqL.of e4,by omega⟩) ?_ ?_⟩⟩
  ·rintro m y ys H5 hy ⟨rfl,fs,rfl,hfl,hf1,hf2⟩
   have lm:=(List.getElem?_eq_some_iff.mp hy).1
   rw [List.length_map] at lm
   rw [List.getElem?_map,List.getElem?_eq_getElem lm] at hy
   have hy:y = .str out[m]:=(Option.some.inj hy).symm
   subst hy
   obtain ⟨t,ht,etf⟩:=List.mem_map.mp (ord.1.mem_iff.mp (List.getElem_mem lm))
   have etf:t.1.f = out[m]:=etf
   rw [← etf]
   obtain ⟨t',vt,ht',htf,hvt,tbt,wt,lt,rfl,htbt,hwt,_⟩:=hB4.some (z:=t.1.f) (List.mem_map.mpr ⟨t,ht,rfl⟩)
   have et:=JcP hG ht' ht htf
   subst et
   have keep:∀ (u:SpD × List Str),u ∈ xs→u.1.f ∈ out.take (m + 1)→u.1.f ∈ out.take m ∨ u = t':=fun u hu h => by
    rw [List.take_succ,List.getElem?_eq_getElem lm] at h
    rcases List.mem_append.mp h with h | h
    ·exact .inl h
    ·have : u.1.f = out[m]:=by simpa using h
     exact .inr (JcP hG hu ht (this.trans etf.symm))
   simpa only [List.length_singleton,List.length_cons,List.length_nil,List.replicate,JaA,List.map_cons,List.map_nil,Option.join_some]
   have fin0:(¬ (t'.1.f ≠ s'.1.f∧t'.1.r = s'.1.r))→∃ fs_1:List Str,fs.map V.str = fs_1.map V.str∧fs_1.length ≤ m + 1∧(∀ f ∈ fs_1, ∃ t ∈ xs,t.1.f = f∧t.1.f ≠ s'.1.f∧t.1.r = s'.1.r)∧∀ t ∈ xs,t.1.f ∈ out.take (m + 1)→t.1.f ≠ s'.1.f→t.1.r = s'.1.r→t.1.f ∈ fs_1:=fun hno => ⟨fs,rfl,by omega,hf1,fun u hu hk h1 h2 => by
    rcases keep u hu hk with h | rfl
    ·exact hf2 u hu h h1 h2
    ·exact absurd ⟨h1,h2⟩ hno⟩
   by_cases c1:t'.1.f = s'.1.f
   ·rw [if_neg (by simpa using c1)]
    nofun
    exact fin0 fun h => h.1 c1
   ·rw [if_pos (by simpa using c1)]
    nofun
    refine ⟨sd,_,rfl,by rw [← hvt]; exact DGet.k (k:=Sum.inr t'.1.f) ed4, ?_⟩
    refine ixT (i:=0) htbt rfl ?_
    refine ⟨sd,_,rfl,by rw [← hv1]; exact DGet.k (k:=Sum.inr s'.1.f) ed4, ?_⟩
    refine ixT (i:=0) htb1 rfl ?_
    nofun
    by_cases c2:t'.1.r = s'.1.r
    ·rw [if_pos (by simpa using c2)]
     nofun
     refine ⟨fs ++ [t'.1.f],by simp,by simp; omega,fun f hf => ?_,fun u hu hk h1 h2 => ?_⟩
     ·rcases List.mem_append.mp hf with h | h
      ·exact hf1 f h
      ·rw [List.mem_singleton.mp h]
       exact ⟨t',ht,rfl,c1,c2⟩
     ·rcases keep u hu hk with h | rfl
      ·exact List.mem_append.mpr (.inl (hf2 u hu h h1 h2))
      ·simp
    ·rw [if_neg (by simpa using c2)]
     nofun
     exact fin0 fun h => c2 h.2
  ·rintro ys H5 ⟨rfl,fs,rfl,hfl,hf1,hf2⟩
   have fl1:1 ≤ fs.length:=by
    obtain ⟨t0,ht0,h1,h2⟩:=hT s'.1 (List.mem_map.mpr ⟨s',hs1,rfl⟩)
    obtain ⟨t,ht,rfl⟩:=List.mem_map.mp ht0
    have:=hf2 t ht (by rw [List.take_of_length_le (by rw [List.length_map]; omega)]; exact ord.1.mem_iff.mpr (List.mem_map.mpr ⟨t,ht,rfl⟩)) h1 h2
    cases fs with
    | nil => cases this
    | cons _ _ => simp
   rw [List.length_map] at hfl
   intro sm_ h_sm_
   generalize q_sm_:upd H5 sm_ _ = H6
   have S6:=newS h_sm_ q_sm_
   have e6:=newE q_sm_
   nofun
   nofun
   repeat (refine And.intro (by first | exact JaF (by decide) | exact JaH (by decide) | exact JaG (by decide) | exact Jat (by decide) | exact Int.one_ne_zero | decide) ?_)
   refine ⟨_, .inl (SqL.of e6), ?_⟩
   try simpa only [List.length_map]
   refine ⟨by omega, ?_⟩
   have qk:=Mth.fm (x:=mx.fdiv 64) (y:=(fs.length:Int)) (by omega)
   obtain ⟨j2,hj2⟩:=Int.eq_ofNat_of_zero_le qk.1
   rw [hj2] at qk ⊢
   have jl2:j2 < fs.length:=by omega
   obtain ⟨t,ht,htf,htn,htr⟩:=hf1 _ (List.getElem_mem jl2)
   refine ixL (i:=j2) (SqL.of e6) (by rw [List.getElem?_map,List.getElem?_eq_getElem jl2]; rfl) ?_
   rw [← htf]
   obtain ⟨t',vt,ht',htf',hvt,tbt,wt,l2,rfl,htbt,hwt,l2g,_,hl2⟩:=hB4.some (z:=t.1.f) (List.mem_map.mpr ⟨t,ht,rfl⟩)
   have et:=JcP hG ht' ht htf'
   subst et
   nofun
   have ed6:=S6 _ _ ed4
   refine ⟨sd,_,rfl,by rw [← hvt]; exact DGet.k (k:=Sum.inr t'.1.f) ed6, ?_⟩
   refine ixT (i:=1) (htbt.same S6) rfl ?_
   refine ⟨sd,_,rfl,by rw [← hv1]; exact DGet.k (k:=Sum.inr s'.1.f) ed6, ?_⟩
   refine ixT (i:=1) (htb1.same S6) rfl ?_
   nofun
   have tb:FB 169 29 t'.1.p:=(hM.fb t' ht).mono (by omega) (by omega)
   have sb:FB 169 29 s'.1.p:=(hM.fb s' hs1).mono (by omega) (by omega)
   refine ⟨wt,w1,_,t'.1.p,s'.1.p,false,rfl,rfl,hwt.same S6,hw1.same S6,tb.w.mono (by omega) (by omega),sb.w.mono (by omega) (by omega),fun mp H7 S7 e7 => ?_⟩
   have pt_:=hG.pl_at (List.mem_map.mpr ⟨t',ht,rfl⟩)
   have ps_:=hG.pl_at (List.mem_map.mpr ⟨s',hs1,rfl⟩)
   have mb:FB 199 58 (addF t'.1.p (sgn false s'.1.p)):=FB.add (n:=198) (m:=58) tb sb.neg (by decide) (by decide) (by decide)
   have hm_:∀ (g:GD),g.st = s'.1.f→g.en = t'.1.f→mid (spOf (xs.map (·.1))) g = addF t'.1.p (sgn false s'.1.p):=fun g h1 h2 => by
    unfold mid
    rw [h1,h2,pt_,ps_]
    rfl
   generalize addF t'.1.p (sgn false s'.1.p) = m at *
   nofun
   repeat (refine And.intro (by first | exact JaF (by decide) | exact JaH (by decide) | exact JaG (by decide) | exact Jat (by decide) | exact Int.one_ne_zero | decide) ?_)
   have S37:=S4.trans (S6.trans S7)
   refine ⟨a,ns,_,rfl,(hS.same S3).same S37,hl,by omega,by omega,fun c2_ => ?_⟩
   nofun
   repeat (refine And.intro (by first | exact JaF (by decide) | exact JaH (by decide) | exact JaG (by decide) | exact Jat (by decide) | exact Int.one_ne_zero | decide) ?_)
   intro fal h_fal
   generalize q_fal:upd H7 fal _ = H71
   have S71:=newS h_fal q_fal
   have e71:=newE q_fal
   nofun
   repeat (refine And.intro (by first | exact JaF (by decide) | exact JaH (by decide) | exact JaG (by decide) | exact Jat (by decide) | exact Int.one_ne_zero | decide) ?_)
   have q3:=Mth.fm (x:=mx.fdiv 256) (y:=3) (by decide)
   obtain ⟨n3,hn3⟩:=Int.eq_ofNat_of_zero_le q3.1
   rw [hn3] at q3 ⊢
   obtain ⟨om,hom,o1,o2⟩:∃ om:Int,[V.int 23, .int 23, .int 1000000000000000000000000000000][n3]? = some (.int om)∧1 ≤ om∧om ≤ 1000000000000000000000000000000:=Jjn (by omega)
   refine ixL (i:=n3) (SqL.of e71) hom ?_
   nofun
   have qx:=Mth.fm (x:=c2_) (y:=om) (by omega)
   have qy:=Mth.fm (x:=c2_.fdiv 23) (y:=om) (by omega)
   have qd:=Mth.fm (x:=mx.fdiv 1024) (y:=5) (by decide)
   refine ⟨by omega, ?_⟩
   repeat (refine And.intro (by first | exact JaF (by decide) | exact JaH (by decide) | exact JaG (by decide) | exact Jat (by decide) | exact Int.one_ne_zero | decide) ?_)
   refine .inr ⟨_,rfl, ?_⟩
   nofun
   repeat (refine And.intro (by first | exact JaF (by decide) | exact JaH (by decide) | exact JaG (by decide) | exact Jat (by decide) | exact Int.one_ne_zero | decide) ?_)
   obtain ⟨ob,hob,ob0,ob1⟩:∃ ob:Int,ob = (if decide ((mx.fdiv 512).fmod 9 = 1) = true then 1 else 0)∧0 ≤ ob∧ob ≤ 1:=⟨_,rfl,by split <;> decide,by split <;> decide⟩
   rw [← hob]
   refine ⟨_,_,rfl,by omega, .lit (by omega) (by omega),fun bp H8 S8 e8 => ?_⟩
   nofun
   repeat (refine And.intro (by first | exact JaF (by decide) | exact JaH (by decide) | exact JaG (by decide) | exact Jat (by decide) | exact Int.one_ne_zero | decide) ?_)
   refine ⟨by omega, ?_⟩
   nofun
   repeat (refine And.intro (by first | exact JaF (by decide) | exact JaH (by decide) | exact JaG (by decide) | exact Jat (by decide) | exact Int.one_ne_zero | decide) ?_)
   refine ⟨_,_,rfl,by omega, .lit (by omega) (by omega),fun ap H9 S9 e9 => ?_⟩
   have bb:FB 101 3 (Mth.top (c2_.fmod om - ob) (1 + (mx.fdiv 1024).fmod 5),Mth.bot (c2_.fmod om - ob) (1 + (mx.fdiv 1024).fmod 5)):=FB.low (by omega) (.lit (by omega) (by omega)) (.lit (by omega) (by omega))
   have ab:FB 101 3 (Mth.top ((c2_.fdiv 23).fmod om + 1) (1 + (mx.fdiv 1024).fmod 5),Mth.bot ((c2_.fdiv 23).fmod om + 1) (1 + (mx.fdiv 1024).fmod 5)):=FB.low (by omega) (.lit (by omega) (by omega)) (.lit (by omega) (by omega))
   have nn:=Jiq (t:=(c2_.fdiv 23).fmod om + 1) (u:=c2_.fmod om - ob) (d:=1 + (mx.fdiv 1024).fmod 5) (by omega) (by omega)
   obtain ⟨B,hBd⟩:∃ B:Fr2,B = (Mth.top (c2_.fmod om - ob) (1 + (mx.fdiv 1024).fmod 5),Mth.bot (c2_.fmod om - ob) (1 + (mx.fdiv 1024).fmod 5)):=⟨_,rfl⟩
   obtain ⟨A,hAd⟩:∃ A:Fr2,A = (Mth.top ((c2_.fdiv 23).fmod om + 1) (1 + (mx.fdiv 1024).fmod 5),Mth.bot ((c2_.fdiv 23).fmod om + 1) (1 + (mx.fdiv 1024).fmod 5)):=⟨_,rfl⟩
   rw [← hBd] at bb nn
   rw [← hAd] at ab nn
   have eb:H9 bp = some (.tup [.int B.1, .int B.2]):=by rw [S9 _ _ e8,hBd]
   have ea:H9 ap = some (.tup [.int A.1, .int A.2]):=by rw [e9,hAd]
   have fB:=bb
   have fA:=ab
   have hAB:0 ≤ vl A + vl B:=nn
   have S39:=S37.trans (S71.trans (S8.trans S9))
   have e7':=S9 _ _ (S8 _ _ (S71 _ _ e7))
   have lgx:=hX.length
   have ldx:=hD.length
   nofun
   refine ⟨.inl ⟨rfl,_,SqL.of (S39 _ _ eg)⟩, ?_⟩
   refine ⟨_,_,_,103,i,rfl,e103,rfl,by omega,by omega,by omega, ?_⟩
   rw [Int.toNat_natCast]
   nofun
   refine ⟨.ref mp, .ref bp,_,m,B,false,rfl,rfl,FrV.of e7',FrV.of eb,mb.w.mono (by decide) (by decide),fB.w.mono (by decide) (by decide),fun lp H10 S10 e10 => ?_⟩
   nofun
   refine ⟨.ref mp, .ref ap,_,m,A,true,rfl,rfl,FrV.of (S10 _ _ e7'),FrV.of (S10 _ _ ea),mb.w.mono (by decide) (by decide),fA.w.mono (by decide) (by decide),fun hp H11 S11 e11 => ?_⟩
   nofun
   refine ⟨len5, ?_⟩
   intro gt h_gt
   generalize q_gt:upd H11 gt _ = H12
   have S12:=newS h_gt q_gt
   have e12:=newE q_gt
   nofun
   have S312:=S39.trans (S10.trans (S11.trans S12))
   refine ⟨gl,gx,_,rfl,rfl,S312 _ _ eg,by omega, ?_⟩
   generalize u13:upd H12 gl _ = H13
   nofun
   have e13:H13 gl = some (.lst (gx ++ [.ref gt])):=putE u13
   have T13:SameT H12 H13:=SameT.put u13 (S312 _ _ eg) rfl
   have fr13:∀ b u,b ≠ gl→H12 b = some u→H13 b = some u:=fun b u hb h => by rw [← u13,Jah hb]; exact h
   have el13:=fr13 _ _ (Ne.symm ngd) (S312 _ _ el)
   have T913:SameT H9 H13:=(S10.trans (S11.trans S12)).t.trans T13
   have fB13:FrV K H13 (.ref bp) B.1 B.2:=FrV.of (T913 _ _ rfl eb)
   have fA13:FrV K H13 (.ref ap) A.1 A.2:=FrV.of (T913 _ _ rfl ea)
   nofun
   refine ⟨len2, ?_⟩
   intro rl h_rl
   generalize q_rl:upd H13 rl _ = H14
   have S14:=newS h_rl q_rl
   have e14:=newE q_rl
   nofun
   refine ixF0 (fB13.same S14) (ixF1 (fA13.same S14) ?_)
   nofun
   refine ⟨mulOk fB.s1 fA.s2,ixF0 (fA13.same S14) (ixF1 (fB13.same S14) ?_)⟩
   nofun
   refine ⟨mulOk fA.s1 fB.s2, ?_⟩
   nofun
   refine .inr ⟨_,rfl, ?_⟩
   have rch:∃ (rv:V) (n2:Nat),(if decide (B.1 * A.2 < A.1 * B.2) = true then (1:Int) else 0) = (n2:Int)∧[V.ref ap, .ref bp][n2]? = some rv∧FrV K H14 rv (if lessF B A then B else A).1 (if lessF B A then B else A).2:=by
    unfold lessF
    by_cases c:decide (B.1 * A.2 < A.1 * B.2) = true
    ·rw [if_pos c,if_pos c]
     nofun
     exact ⟨.ref bp,1,rfl,rfl,fB13.same S14⟩
    ·rw [if_neg c,if_neg c]
     nofun
     exact ⟨.ref ap,0,rfl,rfl,fA13.same S14⟩
   obtain ⟨rv,n2,hn2,hrv,frv⟩:=rch
   rw [hn2]
   refine ixL (i:=n2) (SqL.of e14) hrv ?_
   nofun
   have nsg:sd ≠ gl:=fun z => by rw [z] at ed; rw [ed] at h_gl; cases h_gl
   have nsd:sd ≠ dl:=fun z => by rw [z] at ed; rw [ed] at h0dl; cases h0dl
   have ed13:=fr13 _ _ nsg (S312 _ _ ed3)
   have ed14:=S14 _ _ ed13
   have T414:SameT H5 H14:=(S6.trans (S7.trans (S71.trans (S8.trans (S9.trans (S10.trans (S11.trans S12))))))).t.trans (T13.trans S14.t)
   refine ⟨sd,_,rfl,by rw [← hv1]; exact DGet.k (k:=Sum.inr s'.1.f) ed14, ?_⟩
   refine ixT (i:=2) (htb1.sameT T414) rfl ?_
   nofun
   refine ⟨sd,_,rfl,by rw [← hvt]; exact DGet.k (k:=Sum.inr t'.1.f) ed14, ?_⟩
   refine ixT (i:=2) (htbt.sameT T414) rfl ?_
   nofun
   have S15:Same H14 H14:=Same.refl _
   have S412:=S6.trans (S7.trans (S71.trans (S8.trans (S9.trans (S10.trans (S11.trans S12))))))
   have nl1g:l1 ≠ gl:=l1g
   have hl1f:H14 l1 = some (.lst (s'.2.map V.str)):=S14 _ _ (fr13 _ _ nl1g (S412 _ _ hl1))
   have nl2g:l2 ≠ gl:=l2g
   have hl2f:H14 l2 = some (.lst (t'.2.map V.str)):=S14 _ _ (fr13 _ _ nl2g (S412 _ _ hl2))
   have lns:=hM.ln s' hs1
   have lnt:=hM.ln t' ht
   refine ⟨l1,rfl, .inl ⟨⟨_,SqL.of hl1f⟩,Jc1.list (xs:=s'.2.map V.str) (fun i ys H' => H' = H14∧ys = ((s'.2.take i).filter (fun n => decide (n ∉ t'.2))).map V.str) ⟨rfl,rfl⟩ (fun i ys H' hi z => ⟨by rw [z.1]; exact SqL.of hl1f,by rw [z.2,List.length_map]; exact Nat.le_trans (List.length_filter_le _ _) (by rw [List.length_take]; have:=lns; omega)⟩) ?_ ?_⟩⟩
   ·rintro m y ys H' hy ⟨rfl,rfl⟩
    have lm:=(List.getElem?_eq_some_iff.mp hy).1
    rw [List.length_map] at lm
    rw [List.getElem?_map,List.getElem?_eq_getElem lm] at hy
    obtain ⟨n,hn⟩:∃ n,n = s'.2[m]:=⟨_,rfl⟩
    rw [← hn] at hy
    have hy:y = .str n:=(Option.some.inj hy).symm
    subst hy
    simpa only [List.length_singleton,List.length_cons,List.length_nil,List.replicate,JaA,List.map_cons,List.map_nil,Option.join_some]
    refine ⟨l2,_,rfl, .inl (SqL.of hl2f),rfl,Jc7 _, ?_⟩
    rw [JcV]
    rw [List.take_succ,List.getElem?_eq_getElem lm, ← hn,List.filter_append]
    by_cases cn:n ∈ t'.2
    ·rw [decide_eq_true cn]
     nofun
     simp [cn]
    ·rw [decide_eq_false cn]
     nofun
     simp [cn]
   ·rintro ys H' ⟨rfl,rfl⟩
    rw [List.take_of_length_le (by rw [List.length_map]; exact Nat.le_refl _)]
    intro c1_ h_c1_
    generalize q_c1_:upd H' c1_ _ = H16
    have S16:=newS h_c1_ q_c1_
    have e16:=newE q_c1_
    nofun
    nofun
    refine ⟨l2,rfl, .inl ⟨⟨_,SqL.of (S16 _ _ hl2f)⟩,Jc1.list (xs:=t'.2.map V.str) (fun i ys H' => H' = H16∧ys = ((t'.2.take i).filter (fun n => decide (n ∉ s'.2))).map V.str) ⟨rfl,rfl⟩ (fun i ys H' hi z => ⟨by rw [z.1]; exact SqL.of (S16 _ _ hl2f),by rw [z.2,List.length_map]; exact Nat.le_trans (List.length_filter_le _ _) (by rw [List.length_take]; have:=lnt; omega)⟩) ?_ ?_⟩⟩
    ·rintro m y ys H' hy ⟨rfl,rfl⟩
     have lm:=(List.getElem?_eq_some_iff.mp hy).1
     rw [List.length_map] at lm
     rw [List.getElem?_map,List.getElem?_eq_getElem lm] at hy
     obtain ⟨n,hn⟩:∃ n,n = t'.2[m]:=⟨_,rfl⟩
     rw [← hn] at hy
     have hy:y = .str n:=(Option.some.inj hy).symm
     subst hy
     simpa only [List.length_singleton,List.length_cons,List.length_nil,List.replicate,JaA,List.map_cons,List.map_nil,Option.join_some]
     refine ⟨l1,_,rfl, .inl (SqL.of (S16 _ _ hl1f)),rfl,Jc7 _, ?_⟩
     rw [JcV]
     rw [List.take_succ,List.getElem?_eq_getElem lm, ← hn,List.filter_append]
     by_cases cn:n ∈ s'.2
     ·rw [decide_eq_true cn]
      nofun
      simp [cn]
     ·rw [decide_eq_false cn]
      nofun
      simp [cn]
    ·rintro ys H' ⟨rfl,rfl⟩
     rw [List.take_of_length_le (by rw [List.length_map]; exact Nat.le_refl _)]
     intro c2_ h_c2_
     generalize q_c2_:upd H' c2_ _ = H17
     have S17:=newS h_c2_ q_c2_
     have e17:=newE q_c2_
     nofun
     refine .inl ⟨c1_,c2_,_,_,rfl,rfl,S17 _ _ e16,e17,by
      simp only [List.length_map]
      have h1:=List.length_filter_le (fun n => decide (n ∉ t'.2)) s'.2
      have h2:=List.length_filter_le (fun n => decide (n ∉ s'.2)) t'.2
      omega, ?_⟩
     intro nl h_nl
     generalize q_nl:upd H17 nl _ = H18
     have S18:=newS h_nl q_nl
     have e18:=newE q_nl
     nofun
     nofun
     have S1318:=S14.trans (S15.trans (S16.trans (S17.trans S18)))
     have el18:=S1318 _ _ el13
     refine ⟨.inl ⟨rfl,_,SqL.of el18⟩, ?_⟩
     nofun
     refine ⟨len2, ?_⟩
     intro np h_np
     generalize q_np:upd H18 np _ = H19
     have S19:=newS h_np q_np
     have e19:=newE q_np
     nofun
     refine ⟨dl,dx,_,rfl,rfl,S19 _ _ el18,by omega, ?_⟩
     generalize u20:upd H19 dl _ = H20
     nofun
     have e20:=putE u20
     have T20:SameT H19 H20:=SameT.put u20 (S19 _ _ el18) rfl
     have fr20:∀ b u,b ≠ dl→H19 b = some u→H20 b = some u:=fun b u hb h => by rw [← u20,Jah hb]; exact h
     have S1319:=S1318.trans S19
     have T320:SameT H3 H20:=S312.t.trans (T13.trans (S1319.t.trans T20))
     have T1220:SameT H12 H20:=T13.trans (S1319.t.trans T20)
     have W320:Same2 gl dl H3 H20:=fun b u h1 h2 h => fr20 _ _ h2 (S1319 _ _ (fr13 _ _ h1 (S312 _ _ h)))
     have nlg:nl ≠ gl:=fun z => by rw [z] at h_nl; rw [S17 _ _ (S16 _ _ (S15 _ _ (S14 _ _ e13)))] at h_nl; cases h_nl
     have nld:nl ≠ dl:=fun z => by rw [z] at h_nl; rw [S17 _ _ (S16 _ _ (S15 _ _ (S14 _ _ el13)))] at h_nl; cases h_nl
     nofun
     have sy:=Jjr (hM.nd s' hs1) (hM.nd t' ht)
     obtain ⟨Z,hZ⟩:∃ Z,Z = s'.2.filter (fun n => decide (n ∉ t'.2)) ++ t'.2.filter (fun n => decide (n ∉ s'.2)):=⟨_,rfl⟩
     rw [← hZ] at sy
     have lob:FB 203 61 (addF m (sgn false B)):=FB.add (n:=202) (m:=61) mb fB.neg (by decide) (by decide) (by decide)
     have hib:FB 203 61 (addF m (sgn true A)):=FB.add (n:=202) (m:=61) mb fA (by decide) (by decide) (by decide)
     have hname:nameS (nmK 103 st i) = true:=JcX (by decide) hst (by omega)
     have f1':s'.1.f ∈ (xs.map (·.1)).map (·.f):=List.mem_map.mpr ⟨s'.1,List.mem_map.mpr ⟨s',hs1,rfl⟩,rfl⟩
     have f2':t'.1.f ∈ (xs.map (·.1)).map (·.f):=List.mem_map.mpr ⟨t'.1,List.mem_map.mpr ⟨t',ht,rfl⟩,rfl⟩
     obtain ⟨G,hGd⟩:∃ G:GD,G = ⟨nmK 103 st i,s'.1.f,t'.1.f,addF m (sgn false B),addF m (sgn true A)⟩:=⟨_,rfl⟩
     have tok:TOk G.td:=by
      rw [hGd]
      exact ⟨hname,hG.fname hst (by omega) (List.mem_map.mpr ⟨s',hs1,rfl⟩),hG.fname hst (by omega) (List.mem_map.mpr ⟨t',ht,rfl⟩),Ne.symm htn,fun u hu => by cases hu; exact (lob.mono (C:=600) (D:=600) (by decide) (by decide)).ok (by decide) (by decide),fun u hu => by cases hu; exact (hib.mono (C:=600) (D:=600) (by decide) (by decide)).ok (by decide) (by decide),hi_lo mb fA fB hAB⟩
     have emid:=hm_ G (by rw [hGd]) (by rw [hGd])
     have erm:roomF (spOf (xs.map (·.1))) G = if lessF B A then B else A:=by
      unfold roomF
      rw [emid,hGd]
      have h1:addF (addF m (sgn true A)) (negF m) = A:=Jia mb fA
      have h2:addF m (negF (addF m (sgn false B))) = B:=Jib mb fB
      show (if lessF (addF (addF m (sgn true A)) (negF m)) (addF m (negF (addF m (sgn false B)))) then addF (addF m (sgn true A)) (negF m) else addF m (negF (addF m (sgn false B)))) = _
      rw [h1,h2]
      exact JhJ fA fB
     have gok:GOK ls xs (G,Z):=by
      refine ⟨tok, ?_,⟨sy.1,fun x hx y hy h1 h2 n => ?_⟩, ?_, ?_, ?_, ?_,fun n hn => ?_⟩
      ·rw [hGd]; exact hG.joined (List.mem_map.mpr ⟨s',hs1,rfl⟩) (List.mem_map.mpr ⟨t',ht,rfl⟩) htr.symm
      ·have h1:x.1.f = s'.1.f:=by rw [hGd] at h1; exact h1
       have h2:y.1.f = t'.1.f:=by rw [hGd] at h2; exact h2
       have ex:=JcP hG hx hs1 h1
       have ey:=JcP hG hy ht h2
       rw [ex,ey]
       exact sy.2 n
      ·show FB 101 3 (roomF _ G)
       rw [erm]
       split
       ·exact fB
       ·exact fA
      ·rw [hGd]
       exact ⟨⟨lob.b1,lob.s2.mono (by decide)⟩,hib.b1,hib.s2.mono (by decide)⟩
      ·rw [hGd]; exact f1'
      ·rw [hGd]; exact f2'
      ·have : n ∈ Z:=hn
       rw [hZ] at this
       rcases List.mem_append.mp this with h | h
       ·exact hM.sub s' hs1 n (List.mem_filter.mp h).1
       ·exact hM.sub t' ht n (List.mem_filter.mp h).1
     refine hN0 _ _ ⟨_,_,_,_,_,_,_,_,_,_,_,_,_,_,_,_,gx ++ [.ref gt],dx ++ [.ref np],es ++ [(G,Z)],rfl,fun b w h => fr20 _ _ (Jag h h0dl) (S1319 _ _ (fr13 _ _ (Jag h h_gl) (S312 _ _ (S3 _ _ h)))),fr20 _ _ ngd (S1319 _ _ e13), ?_,e20, ?_, ?_, ?_,by simp [hgi]⟩
     ·have hX20:All2 (fun (e:GD × List Str) x => TV K H20 e.1.td x) es gx:=hX.mono fun a x (z:TV K H3 a.1.td x) => TV.sameT T320 z
      refine hX20.append (.one ?_)
      rw [hGd]
      exact ⟨gt, .ref lp, .ref hp,rfl,SqT.of (T1220 _ _ rfl e12),FrV.of (T1220 _ _ rfl (S12 _ _ (S11 _ _ e10))),FrV.of (T1220 _ _ rfl (S12 _ _ e11))⟩
     ·have hD20:All2 (RWV K gl dl (spOf (xs.map (·.1))) H20) es dx:=hD.mono fun a x z => RWV.keep T320 W320 z
      refine hD20.append (.one ⟨np,rv,nl,rfl,SqT.of (T20 _ _ rfl e19), ?_,nlg,nld, ?_⟩)
      ·show FrV K H20 rv (roomF _ G).1 (roomF _ G).2
       rw [erm]
       exact ((FrV.same (S16.trans (S17.trans (S18.trans S19))) frv)).sameT T20
      ·rw [fr20 _ _ nld (S19 _ _ e18),hZ,List.map_append]
     ·intro e he
      rcases List.mem_append.mp he with h' | h'
      ·exact hok e h'
      ·rw [List.mem_singleton.mp h']
       exact gok
     ·intro j' e hj'
      rcases JcY hj' with h' | ⟨rfl,rfl⟩
      ·exact hnm j' e h'
      ·rw [hgi,hGd]
 ·rintro σ H3 ⟨v5,v6,v7,v8,v9,v10,v11,v12,v13,v14,v15,v16,v17,v18,v19,v20,gx,dx,es,rfl,S3,eg,hX,el,hD,hok,hnm,hgi⟩
  nofun
  refine ⟨len2, ?_⟩
  intro q h_q
  generalize q_q:upd H3 q _ = H4
  have S4:=newS h_q q_q
  have e4:=newE q_q
  nofun
  have hX4:All2 (fun (e:GD × List Str) x => TV K H4 e.1.td x) es gx:=hX.mono fun a x (z:TV K H3 a.1.td x) => TV.sameT S4.t z
  have hD4:All2 (RWV K gl dl (spOf (xs.map (·.1))) H4) es dx:=hD.mono fun a x z => RWV.same S4 z
  exact k q gl dl gx dx es H4 (S3.trans S4) e4 (S4 _ _ eg) hX4 (S4 _ _ el) hD4 hok hnm (by omega)
abbrev BaG:Stmt:=top 48
theorem JaC:Jan ["_law_script", "_law_parts_here", "_law_rows", "_law_way", "_law_slacks_here", "_law_k", "_law_cell_here", "_law_at", "_law_bit", "_law_rest"] ["_law_script", "_law_parts_here", "_law_rows"] (Jae BaG):=⟨rfl,rfl,rfl,by decide +kernel,rfl,by decide +kernel,by decide +kernel⟩
def JbW (K:PySem.W.Frag):Sp:=fun vs H Q E => ∃ (a pl rl c1 c2:Addr) (ns:List Int) (px rx:List V) (ks:List PD) (es:List (GD × List Str)) (pf:Str→Fr2),vs = [.ref a, .ref pl, .ref rl]∧SqL K H a (ns.map V.int)∧ns.length ≤ 63∧SqL K H pl px∧All2 (PDV K H) ks px∧1 ≤ ks.length∧ks.length ≤ 7∧(∀ p ∈ ks,FB 100 6 p.mo)∧SqL K H rl rx∧All2 (RWV K c1 c2 pf H) es rx∧es.length ≤ 6∧(∀ e ∈ es,FB 101 3 (roomF pf e.1)∧e.2 ≠ [])∧∀ l sx ss H',Same H H'→H' l = some (.lst sx)→All2 (FLV K H') ss sx→ss.length = ks.length→(∀ s ∈ ss,FB 200 56 s)→Q (.ref l) H'
theorem Jd9 {f:Addr} {fd:FuncData} {dV:Value} (F:FunD K "_law_slacks" "_law_slacks" BaG dV f fd) (T:Txt K mg Ad) (Bad:Cal P w K mg base 1 "_law_cell" ["_law_script", "_law_k"] [] (Jba K)) (Bah:Cal P w K mg base 1 "_law_low" ["_law_top", "_law_bottom"] [] (Jbx)) (Baf:Cal P w K mg base 2 "_law_plus" ["_law_one", "_law_other", "_law_sign"] [] (Jbp K)):FnOk P w K mg base (CX1 P w) 3 f fd ["_law_script", "_law_parts_here", "_law_rows"] (JbW K):=by
 refine F.okn JaC (fun vs H Q E h => ?_) (fun cdv A outer s H vs Q E hr h => ?_)
 ·obtain ⟨a,pl,rl,c1,c2,ns,px,rx,ks,es,pf,rfl,_⟩:=h; rfl
 obtain ⟨a,pl,rl,c1,c2,ns,px,rx,ks,es,pf,rfl,h⟩:=h
 have hu:=hr.units
 refine ⟨_,(Jab (Jaj (i:=3) JaC.nd rfl (Or.inl rfl) (pe_op Jao (pe_op Jar (pe_op Jay (Bad.ev hr (by decide) rfl passF (Jaa (pv 0) (Jaa Jac Jad)) (he:=by exact Jaf rfl)) Jac) Jac) Jac))
   (Jab (Jaj (i:=4) JaC.nd rfl (Or.inl rfl) (JaX Jad))
   (Jab (Ja2 PassesOwn.never rfl (Jby rfl T.Bbo (Jaa (Jaq JaM rfl T.Ba6 Jbb (Jaa (pv 1) Jad)) Jad)) (Jav (i:=5) JaC.nd rfl (Or.inl rfl))
   (Jab (Jaj (i:=6) JaC.nd rfl (Or.inl rfl) (pe_op Jao (pe_op Jar (pe_op Jay (Bad.ev hr (by decide) rfl passF (Jaa (pv 0) (Jaa (pe_op JaL Jac (pe_op Jay Jac (pv 5))) Jad)) (he:=by exact Jaf rfl)) Jac) Jac) Jac))
   (Jai (Jbt (pe_bm PySem.F.plainAttrs_list PySem.F.slot_list_append PySem.F.type_list_append Jbr (pv 4) (Jaa (pe_ix ix_U (JaX (Jaa (Bah.ev hr (by decide) rfl passF (Jaa (pe_op Jar (pv 6) Jac) (Jaa (pe_op JaL Jac (pe_op Jar (pe_op Jao (pv 6) Jac) Jac)) Jad)) (he:=by exact Jaf rfl)) (Jaa (pe_ix ix_U (pe_ix ix_U (pv 1) (pv 5) (fun _ _ => rfl)) Jac (fun _ _ => rfl)) (Jaa (Ja0 (Jaa Jac (Jaa Jac Jad))) Jad)))) (pe_op Jar (pe_op JaL (pv 3) (pe_op Jar (pe_op Jao (pv 6) Jac) Jac)) Jac) (fun _ _ => rfl)) Jad) (hs:=by exact Jaf rfl))))))
   (Jab (Jaj (i:=7) JaC.nd rfl (Or.inl rfl) (pe_op Jar (pe_op Jao (pv 3) Jac) (Jaq JaM rfl T.Ba6 Jbb (Jaa (pv 1) Jad))))
   (Jab (Jaj (i:=8) JaC.nd rfl (Or.inl rfl) (Bah.ev hr (by decide) rfl passF (Jaa Jac (Jaa (pe_op JaL Jac (pe_op Jar (pe_op Jao (pv 3) Jac) Jac)) Jad)) (he:=by exact Jaf rfl)))
   (Jab (ps_if (PW.pt (Jg6 (Jaz (JbG hu) (pe_op Jar (pe_op Jao (pv 3) Jac) Jac) Jac (JaD _)) (Jfh (Jaz JfG (Jaq JaM rfl T.Ba6 Jbb (Jaa (pv 2) Jad)) Jac (JaD _)))))
   (Jab (Ja2 PassesOwn.never rfl (Jby rfl T.Bbo (Jaa (Jaq JaM rfl T.Ba6 Jbb (Jaa (pv 1) Jad)) Jad)) (Jav (i:=5) JaC.nd rfl (Or.inl rfl))
   (Jai (ps_if (Jaz (JbG hu) (pe_ix ix_U (pe_ix ix_U (pv 1) (pv 5) (fun _ _ => rfl)) Jac (fun _ _ => rfl)) (pe_ix ix_U (pe_ix ix_U (pe_ix ix_U (pv 2) Jac (fun _ _ => rfl)) Jac (fun _ _ => rfl)) Jac (fun _ _ => rfl)) (JaD _))
   (Jai (Jaj (i:=7) JaC.nd rfl (Or.inl rfl) (pv 5)))
   JaB)))
   (Jab (Jaj (i:=9) JaC.nd rfl (Or.inl rfl) (pe_ix ix_U (pe_ix ix_U (pv 2) Jac (fun _ _ => rfl)) Jac (fun _ _ => rfl)))
   (Jab (Ja2 PassesOwn.never rfl (Jby rfl T.Bbo (Jaa (Jaq JaM rfl T.Ba6 Jbb (Jaa (pv 1) Jad)) Jad)) (Jav (i:=5) JaC.nd rfl (Or.inl rfl))
   (Jai (ps_if (PW.pt (Jg6 (Jaz JhW (pe_ix ix_U (pe_ix ix_U (pv 1) (pv 5) (fun _ _ => rfl)) Jac (fun _ _ => rfl)) (pe_ix ix_U (pe_ix ix_U (pv 2) Jac (fun _ _ => rfl)) Jac (fun _ _ => rfl)) (by with_unfolding_all rfl)) (Jfh (Jaz (Jci hu) (pv 5) (pv 7) (JaD _)))))
   (Jai (Jaj (i:=9) JaC.nd rfl (Or.inl rfl) (Baf.ev hr (by decide) rfl passF (Jaa (pv 9) (Jaa (pe_ix ix_U (pv 4) (pv 5) (fun _ _ => rfl)) (Jaa (pe_un JfQ Jac) Jad))) (he:=by exact Jaf rfl))))
   JaB)))
   (Jab (JdQ (pv 9) (JfK (pv 4) (pv 7) set_list))
   (Jai (ps_if (Jaz (JbG hu) (pe_op Jar (pe_op Jao (pv 3) Jac) Jac) Jac (JaD _))
   (Jai (JdQ (Baf.ev hr (by decide) rfl passF (Jaa (pv 9) (Jaa (pv 8) (Jaa Jac Jad))) (he:=by exact Jaf rfl)) (JfK (pv 4) (pv 7) set_list)))
   JaB))))))
   JaB)
   (Jab (ps_if (Jaz (JbG hu) (pe_op Jar (pe_op Jao (pv 3) Jac) Jac) Jac (JaD _))
   (Jai (JdQ (Ja0 (Jaa (pe_op JfH Jac (pe_ix ix_U (pv 8) Jac (fun _ _ => rfl))) (Jaa (pe_ix ix_U (pv 8) Jac (fun _ _ => rfl)) Jad))) (JfK (pv 4) (pv 7) set_list)))
   JaB)
   (Jab (ps_if (Jaz (JbG hu) (pe_op Jar (pe_op Jao (pv 3) Jac) Jac) Jac (JaD _))
   (Jai (JdQ (Baf.ev hr (by decide) rfl passF (Jaa (pe_ix ix_U (pe_ix ix_U (pv 1) (pv 7) (fun _ _ => rfl)) Jac (fun _ _ => rfl)) (Jaa (pv 8) (Jaa Jac Jad))) (he:=by exact Jaf rfl)) (JfK (pv 4) (pv 7) set_list)))
   JaB)
   (Jai (Jas (pv 4))))))))))), ?_⟩
 obtain ⟨hS,hl,hP,hK,h1k,h7,hpb,hR,hE,h6,hes,k⟩:=h
 have slz:(1000:Nat) ≤ sizeLine:=by decide
 have lK:=hK.length
 have lE:=hE.length
 show tSeq _ _ _ [some (.ref a),some (.ref pl),some (.ref rl),none,none,none,none,none,none,none] H
 nofun
 refine ⟨a,ns,2,rfl,hS,hl,by decide,by decide,fun c0 => ?_⟩
 nofun
 repeat (refine And.intro (by first | exact JaF (by decide) | exact JaH (by decide) | exact JaG (by decide) | exact Jat (by decide) | exact Int.one_ne_zero | decide) ?_)
 generalize ((c0 * 16807).fmod 2147483587).fdiv 37 = wy
 nofun
 try refine ⟨len0, ?_⟩
 intro sl h_sl
 generalize q_sl:upd H sl _ = H1
 have S1:=newS h_sl q_sl
 have e1:=newE q_sl
 nofun
 nofun
 refine ⟨_, .inl (hP.same S1), ?_⟩
 nofun
 refine ⟨_,rfl,by omega,by omega, ?_⟩
 refine ForR.byN (fun i σ H' => ∃ (v5 v6:Option V) (sx:List V) (ss:List Fr2), σ = [some (.ref a),some (.ref pl),some (.ref rl),some (.int wy),some (.ref sl),v5,v6,none,none,none]∧Same H H'∧H' sl = some (.lst sx)∧All2 (FLV K H') ss sx∧ss.length = i∧(∀ s ∈ ss,FB 100 6 s)) ⟨none,none,[],[],rfl,S1,e1,rfl,rfl,fun s hs => by cases hs⟩ ?_ ?_
 ·rintro i σ H2 hi ⟨v5,v6,sx,ss,rfl,S2,es_,hA,lss,hsb⟩ N0 hN0
  have hip:i < ks.length:=by omega
  have lA:=hA.length
  obtain ⟨y,hy,a_,vz,vm,rfl,hb,_,hm⟩:=hK.get (List.getElem?_eq_getElem hip)
  have pb:=hpb _ (List.getElem_mem hip)
  generalize ks[i] = p at *
  rw [Int.zero_add]
  nofun
  repeat (refine And.intro (by first | exact JaF (by decide) | exact JaH (by decide) | exact JaG (by decide) | exact Jat (by decide) | exact Int.one_ne_zero | decide) ?_)
  refine ⟨a,ns,_,rfl,hS.same S2,hl,by omega,by omega,fun c1_ => ?_⟩
  nofun
  repeat (refine And.intro (by first | exact JaF (by decide) | exact JaH (by decide) | exact JaG (by decide) | exact Jat (by decide) | exact Int.one_ne_zero | decide) ?_)
  generalize ((c1_ * 69621).fmod 2147483587).fdiv 37 = cx
  nofun
  refine ⟨.inl ⟨rfl,_,SqL.of es_⟩, ?_⟩
  nofun
  repeat (refine And.intro (by first | exact JaF (by decide) | exact JaH (by decide) | exact JaG (by decide) | exact Jat (by decide) | exact Int.one_ne_zero | decide) ?_)
  have q5:=Mth.fm (x:=cx) (y:=5) (by decide)
  have q8:=Mth.fm (x:=cx.fdiv 8) (y:=5) (by decide)
  refine ⟨_,_,rfl,by omega, .lit (by omega) (by omega),fun f1 H3 S3 e3 => ?_⟩
  have fb1:FB 100 6 (Mth.top (cx.fmod 5) (1 + (cx.fdiv 8).fmod 5),Mth.bot (cx.fmod 5) (1 + (cx.fdiv 8).fmod 5)):=FB.low (by omega) (.lit (by omega) (by omega)) (.lit (by omega) (by omega))
  nofun
  have S03:=S2.trans S3
  refine ixL (i:=i) (hP.same S03) hy ?_
  refine ixT (i:=4) (hb.same S03) rfl ?_
  nofun
  refine ⟨len2, ?_⟩
  intro z0 h_z0
  generalize q_z0:upd H3 z0 _ = H4
  have S4:=newS h_z0 q_z0
  have e4:=newE q_z0
  nofun
  refine ⟨by show 3 ≤ sizeLine; omega, ?_⟩
  intro l3 h_l3
  generalize q_l3:upd H4 l3 _ = H5
  have S5:=newS h_l3 q_l3
  have e5:=newE q_l3
  nofun
  repeat (refine And.intro (by first | exact JaF (by decide) | exact JaH (by decide) | exact JaG (by decide) | exact Jat (by decide) | exact Int.one_ne_zero | decide) ?_)
  have q3:=Mth.fm (x:=wy + (cx.fdiv 64).fmod 2) (y:=3) (by decide)
  obtain ⟨n3,hn3⟩:=Int.eq_ofNat_of_zero_le q3.1
  rw [hn3] at q3 ⊢
  have S35:=S4.trans S5
  obtain ⟨v,s,hv,fv,fb⟩:∃ (v:V) (s:Fr2),[V.ref f1,vm, .ref z0][n3]? = some v∧FrV K H5 v s.1 s.2∧FB 100 6 s:=by
   match n3,q3 with
   | 0,_ => exact ⟨_,(_,_),rfl,FrV.of (S35 _ _ e3),fb1⟩
   | 1,_ => exact ⟨_,p.mo,rfl,FrV.same (S03.trans S35) hm,pb⟩
   | 2,_ => exact ⟨_,(0,1),rfl,FrV.of (S5 _ _ e4),Jcp.mono (by decide) (by decide)⟩
   | n + 3,q3 => omega
  refine ixL (i:=n3) (SqL.of e5) hv ?_
  nofun
  have S25:=S3.trans S35
  refine ⟨sl,sx,_,rfl,rfl,S25 _ _ es_,by omega, ?_⟩
  generalize u6:upd H5 sl _ = H6
  nofun
  have e6:=putE u6
  have T6:SameT H5 H6:=SameT.put u6 (S25 _ _ es_) rfl
  nofun
  refine hN0 _ _ ⟨_,_,sx ++ [v],ss ++ [s],rfl,fun c u h => by rw [← u6,Jah (Jag h h_sl)]; exact S25 _ _ (S2 _ _ h),e6,(hA.mono (P':=FLV K H6) fun _ _ z => FLV.sameT (S25.t.trans T6) z).append (.one (FrV.sameT T6 fv)),by simp [lss],fun s' hs' => ?_⟩
  rcases List.mem_append.mp hs' with h | h
  ·exact hsb s' h
  ·rw [List.mem_singleton.mp h]; exact fb
 ·rintro σ H2 ⟨v5,v6,sx,ss,rfl,S2,es_,hA,lss,hsb⟩
  have lss:ss.length = ks.length:=by omega
  have lA:=hA.length
  try simpa only [-y58y]
  repeat (refine And.intro (by first | exact JaF (by decide) | exact JaH (by decide) | exact JaG (by decide) | exact Jat (by decide) | exact Int.one_ne_zero | decide) ?_)
  refine ⟨_, .inl (hP.same S2), ?_⟩
  try simpa only [-y58y]
  refine ⟨by omega, ?_⟩
  have qa:=Mth.fm (x:=wy.fdiv 64) (y:=(px.length:Int)) (by omega)
  obtain ⟨at0,hat⟩:=Int.eq_ofNat_of_zero_le qa.1
  rw [hat] at qa ⊢
  have la0:at0 < ks.length:=by omega
  try simpa only [-y58y]
  repeat (refine And.intro (by first | exact JaF (by decide) | exact JaH (by decide) | exact JaG (by decide) | exact Jat (by decide) | exact Int.one_ne_zero | decide) ?_)
  have q50:=Mth.fm (x:=wy.fdiv 512) (y:=50) (by decide)
  refine ⟨_,_,rfl,by omega, .lit (by omega) (by omega),fun bt H3 S3 e3 => ?_⟩
  have bb:FB 2 6 (Mth.top 1 (1 + (wy.fdiv 512).fmod 50),Mth.bot 1 (1 + (wy.fdiv 512).fmod 50)):=FB.low (by omega) (.lit (by decide) (by decide)) (.lit (by omega) (by omega))
  obtain ⟨bf,hbf⟩:∃ bf:Fr2,bf = (Mth.top 1 (1 + (wy.fdiv 512).fmod 50),Mth.bot 1 (1 + (wy.fdiv 512).fmod 50)):=⟨_,rfl⟩
  rw [← hbf] at bb
  have e3:H3 bt = some (.tup [.int bf.1, .int bf.2]):=by rw [e3,hbf]
  have S03:=S2.trans S3
  have es3:=S3 _ _ es_
  have hA3:All2 (FLV K H3) ss sx:=hA.mono fun a x z => FLV.sameT S3.t z
  have h0sl:H sl = none:=h_sl
  try simpa only [-y58y]
  refine JfB (fun σ' H' => ∃ (v5_ v9_:Option V) (at_:Nat) (sx:List V) (ss:List Fr2), σ' = [some (.ref a),some (.ref pl),some (.ref rl),some (.int wy),some (.ref sl),v5_,v6,some (.int (at_:Int)),some (.ref bt),v9_]∧Same H H'∧H' bt = some (.tup [.int bf.1, .int bf.2])∧H' sl = some (.lst sx)∧All2 (FLV K H') ss sx∧ss.length = ks.length∧(∀ s ∈ ss,FB 200 56 s)∧at_ < ks.length) ?_ ?_
  ·clear hA3 es3 hsb lA hA es_ lss la0 hat
   rintro σ' H4 ⟨v5_,v9_,at_,sx,ss,rfl,S4,ebt,es4,hA4,lss,hsb,lat⟩
   have lA:=hA4.length
   try simpa only [-y58y]
   refine JfB (fun σ' H' => ∃ (v5_ v9_:Option V) (at_:Nat) (sx:List V) (ss:List Fr2), σ' = [some (.ref a),some (.ref pl),some (.ref rl),some (.int wy),some (.ref sl),v5_,v6,some (.int (at_:Int)),some (.ref bt),v9_]∧Same H H'∧H' bt = some (.tup [.int bf.1, .int bf.2])∧H' sl = some (.lst sx)∧All2 (FLV K H') ss sx∧ss.length = ks.length∧(∀ s ∈ ss,FB 200 56 s)∧at_ < ks.length) ?_ ?_
   ·clear lA hsb lss hA4 es4 ebt S4 lat
    rintro σ' H5 ⟨v5_,v9_,at_,sx,ss,rfl,S5,ebt,es5,hA5,lss,hsb,lat⟩
    have lA:=hA5.length
    try simpa only [-y58y]
    refine JfB (fun σ' H' => ∃ (v5_ v9_:Option V) (at_:Nat) (sx:List V) (ss:List Fr2), σ' = [some (.ref a),some (.ref pl),some (.ref rl),some (.int wy),some (.ref sl),v5_,v6,some (.int (at_:Int)),some (.ref bt),v9_]∧Same H H'∧H' bt = some (.tup [.int bf.1, .int bf.2])∧H' sl = some (.lst sx)∧All2 (FLV K H') ss sx∧ss.length = ks.length∧(∀ s ∈ ss,FB 200 56 s)∧at_ < ks.length) ?_ ?_
    ·clear lA hsb lss hA5 es5 ebt S5 lat
     rintro σ' H6 ⟨v5_,v9_,at_,sx,ss,rfl,S6,ebt,es6,hA6,lss,hsb,lat⟩
     nofun
     exact k sl sx ss H6 S6 es6 hA6 lss hsb
    ·intro N hN
     nofun
     repeat (refine And.intro (by first | exact JaF (by decide) | exact JaH (by decide) | exact JaG (by decide) | exact Jat (by decide) | exact Int.one_ne_zero | decide) ?_)
     by_cases z2:(wy.fdiv 8).fmod 5 = 2
     ·rw [if_pos (by simpa using z2)]
      nofun
      obtain ⟨y,hy,a_,vz,vm,rfl,hb,_,hm⟩:=hK.get (List.getElem?_eq_getElem lat)
      have pb:=hpb _ (List.getElem_mem lat)
      generalize ks[at_] = p at *
      nofun
      refine ixL (i:=at_) (hP.same S5) hy ?_
      refine ixT (i:=4) (hb.same S5) rfl ?_
      nofun
      refine ⟨vm, .ref bt,_,p.mo,bf,true,rfl,rfl,FrV.same S5 hm,FrV.of ebt,pb.w.mono (by decide) (by decide),bb.w.mono (by decide) (by decide),fun q H7 S7 e7 => ?_⟩
      have fb:FB 107 12 (addF p.mo (sgn true bf)):=FB.add (n:=106) (m:=12) pb bb (by decide) (by decide) (by decide)
      try simpa only [gSub]
      refine ⟨sl,sx,_,at_,rfl,rfl,(S7 _ _ es5),(by show ixN sx.length (at_:Int) = some at_; unfold ixN; rw [if_pos (by omega),if_pos (by omega),Int.toNat_natCast]), ?_⟩
      generalize uA:upd H7 sl _ = HSA
      nofun
      have eSA:=putE uA
      have TSA:SameT H7 HSA:=SameT.put uA (S7 _ _ es5) rfl
      nofun
      refine hN _ _ ⟨_,_,at_,_,ss.set at_ (addF p.mo (sgn true bf)),rfl,fun c u h => by rw [← uA,Jah (Jag h h0sl)]; exact S7 _ _ (S5 _ _ h),TSA _ _ rfl (S7 _ _ ebt),eSA,(hA5.mono (P':=FLV K HSA) fun a x z => FLV.sameT (S7.t.trans TSA) z).set (FrV.sameT TSA (FrV.of e7)),by rw [List.length_set]; exact lss,fun s hs => ?_,lat⟩
      rcases List.mem_or_eq_of_mem_set hs with h | h
      ·exact hsb s h
      ·rw [h]; exact fb.mono (by decide) (by decide)
     ·rw [if_neg (by simpa using z2)]
      nofun
      nofun
      exact hN _ _ ⟨v5_,v9_,at_,sx,ss,rfl,S5,ebt,es5,hA5,lss,hsb,lat⟩
   ·intro N hN
    nofun
    repeat (refine And.intro (by first | exact JaF (by decide) | exact JaH (by decide) | exact JaG (by decide) | exact Jat (by decide) | exact Int.one_ne_zero | decide) ?_)
    by_cases z1:(wy.fdiv 8).fmod 5 = 1
    ·rw [if_pos (by simpa using z1)]
     nofun
     nofun
     refine ixF0 (FrV.of ebt) ?_
     nofun
     refine ixF1 (FrV.of ebt) ?_
     nofun
     refine ⟨len2, ?_⟩
     intro q h_q
     generalize q_q:upd H4 q _ = H7
     have S7:=newS h_q q_q
     have e7:=newE q_q
     nofun
     try simpa only [gSub]
     refine ⟨sl,sx,_,at_,rfl,rfl,(S7 _ _ es4),(by show ixN sx.length (at_:Int) = some at_; unfold ixN; rw [if_pos (by omega),if_pos (by omega),Int.toNat_natCast]), ?_⟩
     generalize uB:upd H7 sl _ = HSB
     nofun
     have eSB:=putE uB
     have TSB:SameT H7 HSB:=SameT.put uB (S7 _ _ es4) rfl
     nofun
     have nb:FB 2 6 (0 - bf.1,bf.2):=by
      have:=bb.neg
      unfold negF at this
      rw [Int.zero_sub]
      exact this
     refine hN _ _ ⟨_,_,at_,_,ss.set at_ (0 - bf.1,bf.2),rfl,fun c u h => by rw [← uB,Jah (Jag h h0sl)]; exact S7 _ _ (S4 _ _ h),TSB _ _ rfl (S7 _ _ ebt),eSB,(hA4.mono (P':=FLV K HSB) fun a x z => FLV.sameT (S7.t.trans TSB) z).set (FrV.sameT TSB (FrV.of e7)),by rw [List.length_set]; exact lss,fun s hs => ?_,lat⟩
     rcases List.mem_or_eq_of_mem_set hs with h | h
     ·exact hsb s h
     ·rw [h]; exact nb.mono (by decide) (by decide)
    ·rw [if_neg (by simpa using z1)]
     nofun
     nofun
     exact hN _ _ ⟨v5_,v9_,at_,sx,ss,rfl,S4,ebt,es4,hA4,lss,hsb,lat⟩
  ·intro N hN
   have hsb2:∀ s ∈ ss,FB 200 56 s:=fun s hs => (hsb s hs).mono (by decide) (by decide)
   have out:N [some (.ref a),some (.ref pl),some (.ref rl),some (.int wy),some (.ref sl),v5,v6,some (.int (at0:Int)),some (.ref bt),none] H3:=hN _ _ ⟨v5,none,at0,sx,ss,rfl,S03,e3,es3,hA3,lss,hsb2,la0⟩
   nofun
   repeat (refine And.intro (by first | exact JaF (by decide) | exact JaH (by decide) | exact JaG (by decide) | exact Jat (by decide) | exact Int.one_ne_zero | decide) ?_)
   by_cases z0:(wy.fdiv 8).fmod 5 = 0
   ·rw [if_pos (by simpa using z0)]
    nofun
    nofun
    refine ⟨_, .inl (hR.same S03), ?_⟩
    nofun
    by_cases r0:0 < rx.length
    ·rw [if_pos (by rw [decide_eq_true_iff]; omega)]
     nofun
     have he0:0 < es.length:=by omega
     obtain ⟨y0,hy0,b0,w0,l0,rfl,hb0,hw0,_,_,hl0⟩:=hE.get (List.getElem?_eq_getElem he0)
     obtain ⟨rb,ne0⟩:=hes _ (List.getElem_mem he0)
     generalize es[0] = e at *
     obtain ⟨n0,nr,en⟩:∃ n0 nr,e.2 = n0 :: nr:=by
      cases q:e.2 with
      | nil => exact absurd q ne0
      | cons a b => exact ⟨a,b,rfl⟩
     have hR3:=hR.same S03
     have hP3:=hP.same S03
     have hl03:=S03 _ _ hl0
     nofun
     refine ⟨_, .inl hP3, ?_⟩
     nofun
     refine ⟨_,rfl,by omega,by omega, ?_⟩
     refine ForR.byN (fun i σ H' => ∃ (v5_:Option V) (at_:Nat), σ = [some (.ref a),some (.ref pl),some (.ref rl),some (.int wy),some (.ref sl),v5_,v6,some (.int (at_:Int)),some (.ref bt),none]∧H3 = H'∧at_ < ks.length) ⟨v5,at0,rfl,rfl,la0⟩ ?_ ?_
     ·rintro i σ H' hi ⟨v5_,at_,rfl,rfl,lat⟩ N1 hN1
      have hip:i < ks.length:=by omega
      obtain ⟨y,hy,a_,vz,vm,rfl,hb,_,hm⟩:=hK.get (List.getElem?_eq_getElem hip)
      generalize ks[i] = p at *
      rw [Int.zero_add]
      nofun
      refine ixL (i:=i) hP3 hy ?_
      refine ixT (i:=0) (hb.same S03) rfl ?_
      refine ixL (i:=0) hR3 hy0 ?_
      refine ixT (i:=1) (hb0.same S03) rfl ?_
      refine ixL (i:=0) (SqL.of hl03) (by rw [en]; rfl) ?_
      nofun
      by_cases c:p.nm = n0
      ·rw [if_pos (by simpa using c)]
       nofun
       nofun
       exact hN1 _ _ ⟨_,i,rfl,rfl,hip⟩
      ·rw [if_neg (by simpa using c)]
       nofun
       nofun
       exact hN1 _ _ ⟨_,at_,rfl,rfl,lat⟩
     ·clear la0 hat out
      rintro σ H' ⟨v5_,at_,rfl,rfl,lat⟩
      nofun
      refine ixL (i:=0) hR3 hy0 ?_
      refine ixT (i:=0) (hb0.same S03) rfl ?_
      nofun
      refine ⟨_, .inl hP3, ?_⟩
      nofun
      refine ⟨_,rfl,by omega,by omega, ?_⟩
      refine ForR.byN (fun i σ H' => ∃ (v5_:Option V) (r:V) (u:Fr2), σ = [some (.ref a),some (.ref pl),some (.ref rl),some (.int wy),some (.ref sl),v5_,v6,some (.int (at_:Int)),some (.ref bt),some r]∧Same H3 H'∧FrV K H' r u.1 u.2∧FB (104 + 7 * i) (3 + 6 * i) u) ⟨v5_,w0,roomF pf e.1,rfl,Same.refl _,FrV.same S03 hw0,rb.mono (by omega) (by omega)⟩ ?_ ?_
      ·rintro i σ H4 hi ⟨v5_,r,u,rfl,S4,fr,fu⟩ N1 hN1
       have hip:i < ks.length:=by omega
       have his:i < ss.length:=by omega
       obtain ⟨y,hy,a_,vz,vm,rfl,hb,_,hm⟩:=hK.get (List.getElem?_eq_getElem hip)
       obtain ⟨z,hz,fz⟩:=hA3.get (List.getElem?_eq_getElem his)
       have sbi:=hsb _ (List.getElem_mem his)
       generalize ks[i] = p at *
       generalize ss[i] = s at *
       have S04:=S03.trans S4
       have i7:i < 7:=by omega
       have skip:N1 [some (.ref a),some (.ref pl),some (.ref rl),some (.int wy),some (.ref sl),some (.int (i:Int)),v6,some (.int (at_:Int)),some (.ref bt),some r] H4:=hN1 _ _ ⟨_,r,u,rfl,S4,fr,fu.mono (by omega) (by omega)⟩
       rw [Int.zero_add]
       nofun
       refine ixL (i:=i) (hP.same S04) hy ?_
       refine ixT (i:=0) (hb.same S04) rfl ?_
       refine ixL (i:=0) (hR.same S04) hy0 ?_
       refine ixT (i:=1) (hb0.same S04) rfl ?_
       refine ⟨l0,_,rfl, .inl (SqL.of (S4 _ _ hl03)),rfl,Jc7 _, ?_⟩
       rw [JcV]
       nofun
       by_cases cm:p.nm ∈ e.2
       ·rw [decide_eq_true cm]
        nofun
        by_cases cn:(i:Int) = (at_:Int)
        ·rw [if_neg (by simpa using cn)]
         nofun
         nofun
         exact skip
        ·rw [if_pos (by simpa using cn)]
         nofun
         nofun
         refine ixL (i:=i) (SqL.of (S4 _ _ es3)) hz ?_
         nofun
         refine ⟨r,z,_,u,s,false,rfl,rfl,fr,FrV.same S4 fz,fu.w.mono (by omega) (by omega),sbi.w.mono (by decide) (by decide),fun q H5 S5 e5 => ?_⟩
         nofun
         refine hN1 _ _ ⟨_, .ref q,addF u (sgn false s),rfl,S4.trans S5,FrV.of e5, ?_⟩
         have:=FB.add (n:=104 + 7 * i + 6) (m:=3 + 6 * (i + 1)) fu sbi.neg (by omega) (by omega) (by omega)
         exact this.mono (by omega) (by omega)
       ·rw [decide_eq_false cm]
        nofun
        exact skip
      ·rintro σ H4 ⟨v5_,r,u,rfl,S4,fr,fu⟩
       have fu:FB 153 45 u:=fu.mono (by omega) (by omega)
       have hA4:All2 (FLV K H4) ss sx:=hA3.mono fun a x z => FLV.sameT S4.t z
       have es4:=S4 _ _ es3
       have ebt:=S4 _ _ e3
       try simpa only [gSub]
       refine ⟨sl,sx,_,at_,rfl,rfl,es4,(by show ixN sx.length (at_:Int) = some at_; unfold ixN; rw [if_pos (by omega),if_pos (by omega),Int.toNat_natCast]), ?_⟩
       generalize uC:upd H4 sl _ = HSC
       nofun
       have eSC:=putE uC
       have TSC:SameT H4 HSC:=SameT.put uC es4 rfl
       nofun
       have SC:Same H HSC:=fun c u h => by rw [← uC,Jah (Jag h h0sl)]; exact S4 _ _ (S03 _ _ h)
       have hAC:All2 (FLV K HSC) (ss.set at_ u) (sx.set at_ r):=(hA4.mono (P':=FLV K HSC) fun a x z => FLV.sameT TSC z).set (FrV.sameT TSC fr)
       have hsC:∀ s ∈ ss.set at_ u,FB 200 56 s:=fun s hs => by
        rcases List.mem_or_eq_of_mem_set hs with h | h
        ·exact hsb2 s h
        ·rw [h]; exact fu.mono (by decide) (by decide)
       have ebC:=TSC _ _ rfl ebt
       repeat (refine And.intro (by first | exact JaF (by decide) | exact JaH (by decide) | exact JaG (by decide) | exact Jat (by decide) | exact Int.one_ne_zero | decide) ?_)
       by_cases zz:(wy.fdiv 4096).fmod 2 = 1
       ·rw [if_pos (by simpa using zz)]
        nofun
        nofun
        refine ⟨r, .ref bt,_,u,bf,true,rfl,rfl,FrV.sameT TSC fr,FrV.of ebC,fu.w.mono (by decide) (by decide),bb.w.mono (by decide) (by decide),fun q H5 S5 e5 => ?_⟩
        have fb:FB 160 51 (addF u (sgn true bf)):=FB.add (n:=159) (m:=51) fu bb (by decide) (by decide) (by decide)
        have lsC:(sx.set at_ r).length = sx.length:=List.length_set ..
        try simpa only [gSub]
        refine ⟨sl,sx.set at_ r,_,at_,rfl,rfl,S5 _ _ eSC,(by show ixN (sx.set at_ r).length (at_:Int) = some at_; unfold ixN; rw [if_pos (by omega),if_pos (by omega),Int.toNat_natCast]), ?_⟩
        generalize uD:upd H5 sl _ = HSD
        nofun
        have eSD:=putE uD
        have TSD:SameT H5 HSD:=SameT.put uD (S5 _ _ eSC) rfl
        nofun
        refine hN _ _ ⟨_,_,at_,_,(ss.set at_ u).set at_ (addF u (sgn true bf)),rfl,fun c u h => by rw [← uD,Jah (Jag h h0sl)]; exact S5 _ _ (SC _ _ h),TSD _ _ rfl (S5 _ _ ebC),eSD,(hAC.mono (P':=FLV K HSD) fun a x z => FLV.sameT (S5.t.trans TSD) z).set (FrV.sameT TSD (FrV.of e5)),by rw [List.length_set,List.length_set]; exact lss,fun s hs => ?_,lat⟩
        rcases List.mem_or_eq_of_mem_set hs with h | h
        ·exact hsC s h
        ·rw [h]; exact fb.mono (by decide) (by decide)
       ·rw [if_neg (by simpa using zz)]
        nofun
        nofun
        exact hN _ _ ⟨_,_,at_,_,ss.set at_ u,rfl,SC,ebC,eSC,hAC,by rw [List.length_set]; exact lss,hsC,lat⟩
    ·rw [if_neg (by rw [decide_eq_true_iff]; omega)]
     nofun
     nofun
     exact out
   ·rw [if_neg (by simpa using z0)]
    nofun
    nofun
    exact out
abbrev Bbg:Stmt:=top 49
theorem JaY:Jan ["_law_parts_here", "_law_rows", "_law_slacks_here", "_law_by_name", "_law_k", "_law_most", "_law_one", "_law_room", "_law_names", "_law_total", "_law_name_here"] ["_law_parts_here", "_law_rows", "_law_slacks_here"] (Jae Bbg):=⟨rfl,rfl,rfl,by decide +kernel,rfl,by decide +kernel,by decide +kernel⟩
def JcL (K:PySem.W.Frag):Sp:=fun vs H Q E => ∃ (pl rl sl c1 c2:Addr) (px rx sx:List V) (ks:List PD) (es:List (GD × List Str)) (ss:List Fr2) (pf:Str→Fr2),vs = [.ref pl, .ref rl, .ref sl]∧SqL K H pl px∧All2 (PDV K H) ks px∧SqL K H rl rx∧All2 (RWV K c1 c2 pf H) es rx∧SqL K H sl sx∧All2 (FLV K H) ss sx∧ss.length = ks.length∧(∀ s ∈ ss,FB 200 56 s)∧ks.length ≤ 7∧(ks.map (·.nm)).Nodup∧(∀ p ∈ ks,FB 100 6 p.mo)∧(∀ e ∈ es,FB 101 3 (roomF pf e.1)∧(∀ n ∈ e.2,n ∈ ks.map (·.nm))∧e.2.length ≤ 8)∧∀ (b:Bool) H',Same H H'→(b = true ↔ ShP ks es ss pf)→Q (.bl b) H'
theorem Jf6 {f:Addr} {fd:FuncData} {dV:Value} (F:FunD K "_law_due" "_law_due" Bbg dV f fd) (T:Txt K mg Ad) (Baf:Cal P w K mg base 2 "_law_plus" ["_law_one", "_law_other", "_law_sign"] [] (Jbp K)):FnOk P w K mg base (CX1 P w) 3 f fd ["_law_parts_here", "_law_rows", "_law_slacks_here"] (JcL K):=by
 refine F.okn JaY (fun vs H Q E h => ?_) (fun cdv A outer s H vs Q E hr h => ?_)
 ·obtain ⟨pl,rl,sl,c1,c2,px,rx,sx,ks,es,ss,pf,rfl,_⟩:=h; rfl
 obtain ⟨pl,rl,sl,c1,c2,px,rx,sx,ks,es,ss,pf,rfl,h⟩:=h
 have hu:=hr.units
 refine ⟨_,(Jab (Jaj (i:=3) JaY.nd rfl (Or.inl rfl) JbK)
   (Jab (Ja2 PassesOwn.never rfl (Jby rfl T.Bbo (Jaa (Jaq JaM rfl T.Ba6 Jbb (Jaa (pv 0) Jad)) Jad)) (Jav (i:=4) JaY.nd rfl (Or.inl rfl))
   (Jab (Jb5 (hu1 hu) (pv 3) (pe_ix ix_U (pe_ix ix_U (pv 0) (pv 4) (fun _ _ => rfl)) Jac (fun _ _ => rfl)) (pe_ix ix_U (pv 2) (pv 4) (fun _ _ => rfl)) rfl)
   (Jab (Jaj (i:=5) JaY.nd rfl (Or.inl rfl) (pe_ix ix_U (pe_ix ix_U (pv 0) (pv 4) (fun _ _ => rfl)) Jac (fun _ _ => rfl)))
   (Jab (Jaj (i:=6) JaY.nd rfl (Or.inl rfl) (pe_ix ix_U (pv 2) (pv 4) (fun _ _ => rfl)))
   (Jai (ps_if (PW.pt (pw_or (Jaz JdO (pe_ix ix_U (pv 6) Jac (fun _ _ => rfl)) Jac (JaD _)) (JbH (Jaz JdO (pe_op Jay (pe_ix ix_U (pv 5) Jac (fun _ _ => rfl)) (pe_ix ix_U (pv 6) Jac (fun _ _ => rfl))) (pe_op Jay (pe_ix ix_U (pv 6) Jac (fun _ _ => rfl)) (pe_ix ix_U (pv 5) Jac (fun _ _ => rfl))) (JaD _)))))
   (Jai (Jas pe_bl))
   JaB))))))
   (Jab (Ja2 PassesOwn.never rfl (pi_U (pv 1)) (JdP rfl (Ja6 (Jav (i:=7) JaY.nd rfl (Or.inl rfl)) (Ja6 (Jav (i:=8) JaY.nd rfl (Or.inl rfl)) JcJ)))
   (Jab (Jaj (i:=9) JaY.nd rfl (Or.inl rfl) (Ja0 (Jaa Jac (Jaa Jac Jad))))
   (Jab (Ja2 PassesOwn.never rfl (pi_U (pv 8)) (Jav (i:=10) JaY.nd rfl (Or.inl rfl))
   (Jai (Jaj (i:=9) JaY.nd rfl (Or.inl rfl) (Baf.ev hr (by decide) rfl passF (Jaa (pv 9) (Jaa (Ja9 (hu1 hu) (pv 3) (pv 10) (fun _ _ => rfl)) (Jaa Jac Jad))) (he:=by exact Jaf rfl)))))
   (Jai (ps_if (Jaz JdO (pe_op Jay (pe_ix ix_U (pv 7) Jac (fun _ _ => rfl)) (pe_ix ix_U (pv 9) Jac (fun _ _ => rfl))) (pe_op Jay (pe_ix ix_U (pv 9) Jac (fun _ _ => rfl)) (pe_ix ix_U (pv 7) Jac (fun _ _ => rfl))) (JaD _))
   (Jai (Jas pe_bl))
   JaB)))))
   (Jai (Jas pe_bl))))), ?_⟩
 obtain ⟨hP,hK,hR,hE,hsl,hA,lss,hsb,h7,hnd,hpb,hes,k⟩:=h
 have slz:(1000:Nat) ≤ sizeLine:=by decide
 have lK:=hK.length
 have lE:=hE.length
 have lA:=hA.length
 have ez:(ks.zip ss).map (·.1.nm) = ks.map (·.nm):=Jhj lss
 show tSeq _ _ _ [some (.ref pl),some (.ref rl),some (.ref sl),none,none,none,none,none,none,none,none] H
 nofun
 intro bn h_bn
 generalize q_bn:upd H bn _ = H1
 have S1:=newS h_bn q_bn
 have e1:=newE q_bn
 nofun
 nofun
 refine ⟨_, .inl (hP.same S1), ?_⟩
 nofun
 refine ⟨_,rfl,by omega,by omega, ?_⟩
 refine ForR.byN (fun i σ H' => ∃ (v4 v5 v6:Option V) (kv:List (Key × V)), σ = [some (.ref pl),some (.ref rl),some (.ref sl),some (.ref bn),v4,v5,v6,none,none,none,none]∧Same H H'∧H' bn = some (.dK kv)∧BG (·.1.nm) (fun e v => FLV K H' e.2 v) ((ks.zip ss).take i) kv∧∀ (j:Nat) (p:PD) (s:Fr2),j < i→ks[j]? = some p→ss[j]? = some s→0 ≤ vl s∧vl s ≤ vl p.mo) ⟨none,none,none,[],rfl,S1,e1,⟨rfl,rfl⟩,fun j p s hj => absurd hj (Nat.not_lt_zero _)⟩ ?_ ?_
 ·rintro i σ H2 hi ⟨v4,v5,v6,kv,rfl,S2,ekv,hB,hg⟩ N0 hN0
  have ip:i < px.length:=by omega
  have hip:i < ks.length:=by omega
  have his:i < ss.length:=by omega
  obtain ⟨y,hy,a_,vz,vm,rfl,hb,_,hm⟩:=hK.get (List.getElem?_eq_getElem hip)
  obtain ⟨z,hz,fs_⟩:=hA.get (List.getElem?_eq_getElem his)
  have hp:=List.getElem?_eq_getElem hip
  have hs:=List.getElem?_eq_getElem his
  have fsb:=hsb _ (List.getElem_mem his)
  have pb:=hpb _ (List.getElem_mem hip)
  generalize ks[i] = p at *
  generalize ss[i] = s at *
  have lk:=hB.length
  rw [List.length_take] at lk
  rw [Int.zero_add]
  nofun
  refine ixL (i:=i) (hsl.same S2) hz ?_
  refine ixL (i:=i) (hP.same S2) hy ?_
  refine ixT (i:=0) (hb.same S2) rfl ?_
  refine ⟨bn,_,rfl,DPut.k (k:=Sum.inr p.nm) ekv (by omega), ?_⟩
  generalize u3:upd H2 bn _ = H3
  nofun
  have e3:=putE u3
  have T3:SameT H2 H3:=SameT.put u3 ekv rfl
  have S3:Same H H3:=fun c u h => by rw [← u3,Jah (Jag h h_bn)]; exact S2 _ _ h
  have fs3:FrV K H3 z s.1 s.2:=FrV.same S3 fs_
  have fm3:FrV K H3 vm p.mo.1 p.mo.2:=FrV.same S3 hm
  nofun
  refine ixL (i:=i) (hP.same S3) hy ?_
  refine ixT (i:=4) (hb.same S3) rfl ?_
  nofun
  refine ixL (i:=i) (hsl.same S3) hz ?_
  nofun
  have z0:vl (0,1) = 0:=by unfold vl; grind
  have l1:=JbZ (a:=s) (c:=(0,1)) fsb.b1 (by decide)
  rw [z0] at l1
  have l2:=JbZ (a:=p.mo) (c:=s) pb.b1 fsb.b1
  unfold lessF at l1 l2
  rw [decide_eq_true_iff] at l1 l2
  refine ixF0 fs3 ?_
  nofun
  by_cases c1_:s.1 < 0
  ·rw [if_pos (by simpa using c1_)]
   nofun
   nofun
   exact k false _ S3 ⟨fun z => (by cases z),fun z => absurd (l1.mp (by show s.1 * 1 < 0 * s.2; omega)) (Rat.not_lt.mpr (z.1 i p s hp hs).1)⟩
  ·rw [if_neg (by simpa using c1_)]
   nofun
   nofun
   refine ixF0 fm3 (ixF1 fs3 ?_)
   nofun
   refine ⟨mulOk pb.s1 fsb.s2,ixF0 fs3 (ixF1 fm3 ?_)⟩
   nofun
   refine ⟨mulOk fsb.s1 pb.s2, ?_⟩
   by_cases c2_:p.mo.1 * s.2 < s.1 * p.mo.2
   ·rw [if_pos (by simpa using c2_)]
    nofun
    nofun
    exact k false _ S3 ⟨fun z => (by cases z),fun z => absurd (l2.mp c2_) (Rat.not_lt.mpr (z.1 i p s hp hs).2)⟩
   ·rw [if_neg (by simpa using c2_)]
    nofun
    nofun
    have nw:p.nm ∉ ((ks.zip ss).take i).map (·.1.nm):=fun z => by
     have e:=List.map_take (f:=fun (x:PD × Fr2) => x.1.nm) (l:=ks.zip ss) (i:=i)
     rw [e,ez, ← List.map_take] at z
     exact JgN hnd hp z
    have ezi:(ks.zip ss)[i]? = some (p,s):=List.getElem?_zip_eq_some.mpr ⟨hp,hs⟩
    refine hN0 _ _ ⟨_,_,_,_,rfl,S3,e3, ?_,fun j p' s' hj hp' hs' => ?_⟩
    ·rw [List.take_succ,ezi]
     exact (hB.mono (P':=fun (e:PD × Fr2) (v:V) => FLV K H3 e.2 v) fun _ _ z => FLV.sameT T3 z).new (a:=(p,s)) (v:=z) nw fs3
    ·rcases Nat.lt_succ_iff_lt_or_eq.mp hj with hj | rfl
     ·exact hg j p' s' hj hp' hs'
     ·rw [hp] at hp'
      rw [hs] at hs'
      cases hp'
      cases hs'
      exact ⟨Rat.not_lt.mp fun q => c1_ (by have : s.1 * 1 < 0 * s.2:=l1.mpr q; omega),Rat.not_lt.mp fun q => c2_ (l2.mpr q)⟩
 ·rintro σ H2 ⟨v4,v5,v6,kv,rfl,S2,ekv,hB,hg⟩
  rw [List.take_of_length_le (by rw [List.length_zip]; omega)] at hB
  have hfst:∀ (i:Nat) (p:PD) (s:Fr2),ks[i]? = some p→ss[i]? = some s→0 ≤ vl s∧vl s ≤ vl p.mo:=fun i p s h1 h2 => hg i p s (by have:=(List.getElem?_eq_some_iff.mp h1).1; omega) h1 h2
  nofun
  refine ⟨rl,rfl,ForA.byLN (xs:=rx) (hR.same S2) (fun i σ H' => i ≤ rx.length∧∃ (v7 v8 v9 v10:Option V), σ = [some (.ref pl),some (.ref rl),some (.ref sl),some (.ref bn),v4,v5,v6,v7,v8,v9,v10]∧Same H2 H'∧∀ (j:Nat) (e:GD × List Str),j < i→es[j]? = some e→sm (svl ks ss) e.2 ≤ vl (roomF pf e.1)) ⟨Nat.zero_le _,none,none,none,none,rfl,Same.refl _,fun j e hj => absurd hj (Nat.not_lt_zero _)⟩ (fun i σ H' q => by obtain ⟨_,_,_,_,_,_,q,_⟩:=q; exact (hR.same S2).same q) ?_ ?_⟩
  ·rintro i y σ H3 hy ⟨hi,v7,v8,v9,v10,rfl,S3,hgs⟩ N0 hN0
   have li:=(List.getElem?_eq_some_iff.mp hy).1
   obtain ⟨e,hei,b_,w,l,rfl,hb,hw,_,_,hl⟩:=hE.at_ hy
   have he:=List.mem_of_getElem? hei
   obtain ⟨rb,hsub,l8⟩:=hes e he
   have S03:=S2.trans S3
   nofun
   refine ⟨b_,_,rfl,hb.same S03,rfl, ?_⟩
   nofun
   refine ⟨len2, ?_⟩
   intro t0 h_t0
   generalize q_t0:upd H3 t0 _ = H4
   have S4:=newS h_t0 q_t0
   have e4:=newE q_t0
   nofun
   nofun
   have S04:=S03.trans S4
   have S24:=S3.trans S4
   refine ⟨l,rfl,ForA.byLN (xs:=e.2.map V.str) (SqL.of (S04 _ _ hl)) (fun j σ H' => j ≤ e.2.length∧∃ (v10:Option V) (t:V) (u:Fr2), σ = [some (.ref pl),some (.ref rl),some (.ref sl),some (.ref bn),v4,v5,v6,some w,some (.ref l),some t,v10]∧Same H4 H'∧FrV K H' t u.1 u.2∧FB (300 + 57 * j) (1 + 56 * j) u∧vl u = sm (svl ks ss) (e.2.take j)) ⟨Nat.zero_le _,v10, .ref t0,(0,1),rfl,Same.refl _,FrV.of e4,Jcp.mono (by omega) (by omega),by rw [List.take_zero]; unfold vl sm; grind⟩ (fun j σ H' q => by obtain ⟨_,_,_,_,_,q,_⟩:=q; exact SqL.of (q _ _ (S04 _ _ hl))) ?_ ?_⟩
   ·rintro j y' σ H5 hy' ⟨hj,v10,t,u,rfl,S5,ft,fu,eu⟩ N1 hN1
    have lj:=(List.getElem?_eq_some_iff.mp hy').1
    rw [List.length_map] at lj
    rw [List.getElem?_map,List.getElem?_eq_getElem lj] at hy'
    obtain ⟨n,hn⟩:∃ n,n = e.2[j]:=⟨_,rfl⟩
    rw [← hn] at hy'
    have hy':y' = .str n:=(Option.some.inj hy').symm
    subst hy'
    have nm_:n ∈ ks.map (·.nm):=hsub n (by rw [hn]; exact List.getElem_mem lj)
    have S25:=S24.trans S5
    obtain ⟨x',v,hx',hxn,hv,fv⟩:=hB.some (z:=n) (by rw [ez]; exact nm_)
    have xb:=hsb _ (List.of_mem_zip hx').2
    nofun
    refine ⟨bn,_,rfl,by rw [← hv]; exact DGet.k (k:=Sum.inr n) (S25 _ _ ekv), ?_⟩
    refine ⟨t,v,_,u,x'.2,true,rfl,rfl,ft,FrV.same S25 fv,fu.w.mono (by omega) (by omega),xb.w.mono (by decide) (by decide),fun p H6 S6 e6 => ?_⟩
    nofun
    refine hN1 _ _ ⟨lj,_, .ref p,addF u x'.2,rfl,S5.trans S6,FrV.of e6, ?_, ?_⟩
    ·have:=FB.add (n:=300 + 57 * j + 56) (m:=1 + 56 * (j + 1)) fu xb (by omega) (by omega) (by omega)
     exact this.mono (by omega) (by omega)
    ·rw [JfT fu.b1 xb.b1,eu,List.take_succ,List.getElem?_eq_getElem lj, ← hn]
     show _ = sm _ (_ ++ [n])
     rw [Jfo, ← hxn,JhY hnd hx']
   ·rintro σ H5 ⟨hj,v10,t,u,rfl,S5,ft,fu,eu⟩
    rw [List.length_map] at eu fu
    rw [List.take_of_length_le (Nat.le_refl _)] at eu
    have fw5:FrV K H5 w (roomF pf e.1).1 (roomF pf e.1).2:=FrV.same (S04.trans S5) hw
    have ls:=JbZ (a:=roomF pf e.1) (c:=u) rb.b1 fu.b1
    unfold lessF at ls
    rw [decide_eq_true_iff] at ls
    obtain ⟨m,hm⟩:∃ m,m = roomF pf e.1:=⟨_,rfl⟩
    rw [← hm] at fw5 ls rb
    nofun
    refine ixF0 fw5 (ixF1 ft ?_)
    nofun
    refine ⟨mulOk (n:=4000) rb.s1 (fu.s2.mono (by omega)),ixF0 ft (ixF1 fw5 ?_)⟩
    nofun
    refine ⟨mulOk (m:=4000) (fu.s1.mono (by omega)) rb.s2, ?_⟩
    by_cases c:m.1 * u.2 < u.1 * m.2
    ·rw [if_pos (by simpa using c)]
     nofun
     nofun
     refine k false _ (S04.trans S5) ⟨fun z => (by cases z),fun z => absurd (ls.mp c) (Rat.not_lt.mpr (by rw [eu,hm]; exact z.2 e he))⟩
    ·rw [if_neg (by simpa using c)]
     nofun
     nofun
     refine hN0 _ _ ⟨li,_,_,_,_,rfl,S24.trans S5,fun j' e' hj' he' => ?_⟩
     rcases Nat.lt_succ_iff_lt_or_eq.mp hj' with hj' | rfl
     ·exact hgs j' e' hj' he'
     ·rw [hei] at he'
      cases he'
      rw [← eu, ← hm]
      exact Rat.not_lt.mp fun q => c (ls.mpr q)
  ·rintro σ H3 ⟨hi,v7,v8,v9,v10,rfl,S3,hgs⟩
   nofun
   refine k true H3 (S2.trans S3) ⟨fun _ => ⟨hfst,fun e he => ?_⟩,fun _ => rfl⟩
   obtain ⟨j,hj⟩:=List.getElem?_of_mem he
   exact hgs j e (by have:=(List.getElem?_eq_some_iff.mp hj).1; omega) hj
abbrev BcJ:Stmt:=top 50
theorem Jb2:Jan ["_law_script", "_law_style", "_law_parts_here", "_law_spots", "_law_gaps_here", "_law_rows", "_law_thing", "_law_slacks_here", "_law_handed", "_law_again", "_law_found"] ["_law_script"] (Jae BcJ):=⟨rfl,rfl,rfl,by decide +kernel,rfl,by decide +kernel,by decide +kernel⟩
def BcX (K:PySem.W.Frag):Sp:=fun vs H Q E => ∃ (a:Addr) (ns:List Int),vs = [.ref a]∧SqL K H a (ns.map V.int)∧ns.length ≤ 63∧∀ H',Q (.bl true) H'
theorem Jja {f:Addr} {fd:FuncData} {dV:Value} (F:FunD K "law" "law" BcJ dV f fd) (T:Txt K mg Ad) (Bad:Cal P w K mg base 1 "_law_cell" ["_law_script", "_law_k"] [] (Jba K)) (BbQ:Cal P w K mg base 3 "_law_parts" ["_law_script", "_law_style"] [] (Jb7 K)) (BbE:Cal P w K mg base 2 "_law_listed" ["_law_script", "_law_parts_here"] [] (JbU K)) (Bcb:Cal P w K mg base 3 "_law_gaps" ["_law_script", "_law_spots", "_law_style"] [] (Jcn K)) (Bc2:KCal P w K mg base 9 "Thing" Ad.Thing ["self", "parts", "gaps"] (Jbo K Ad)) (BbF:Cal P w K mg base 3 "_law_slacks" ["_law_script", "_law_parts_here", "_law_rows"] [] (JbW K)) (BbG:Cal P w K mg base 7 "is_sharing" ["thing", "slacks"] [] (JbS K Ad)) (Bcu:Cal P w K mg base 3 "_law_due" ["_law_parts_here", "_law_rows", "_law_slacks_here"] [] (JcL K)) (Bbh:MCal P w K mg base 2 "parts" (Ja3 Ad) ["self"] (Ja5 K Ad)) (Bb6:MCal P w K mg base 2 "gaps" (Ja3 Ad) ["self"] (Jbh K Ad)):FnOk P w K mg base (CX1 P w) 11 f fd ["_law_script"] (BcX K):=by
 refine F.okn Jb2 (fun vs H Q E h => ?_) (fun cdv A outer s H vs Q E hr h => ?_)
 ·obtain ⟨a,ns,rfl,_⟩:=h; rfl
 obtain ⟨a,ns,rfl,h⟩:=h
 have hu:=hr.units
 refine ⟨_,(Jab (Jaj (i:=1) Jb2.nd rfl (Or.inl rfl) (pe_op Jar (Bad.ev hr (by decide) rfl passF (Jaa (pv 0) (Jaa Jac Jad)) (he:=by exact Jaf rfl)) Jac))
   (Jab (JdQ (BbQ.ev hr (by decide) rfl passF (Jaa (pv 0) (Jaa (pv 1) Jad)) (he:=by exact Jaf rfl)) (JdP rfl (Ja6 (Jav (i:=2) Jb2.nd rfl (Or.inl rfl)) (Ja6 (Jav (i:=3) Jb2.nd rfl (Or.inl rfl)) JcJ))))
   (Jab (Jaj (i:=2) Jb2.nd rfl (Or.inl rfl) (BbE.ev hr (by decide) rfl passF (Jaa (pv 0) (Jaa (pv 2) Jad)) (he:=by exact Jaf rfl)))
   (Jab (JdQ (Bcb.ev hr (by decide) rfl passF (Jaa (pv 0) (Jaa (pv 3) (Jaa (pv 1) Jad))) (he:=by exact Jaf rfl)) (JdP rfl (Ja6 (Jav (i:=4) Jb2.nd rfl (Or.inl rfl)) (Ja6 (Jav (i:=5) Jb2.nd rfl (Or.inl rfl)) JcJ))))
   (Jab (Jaj (i:=6) Jb2.nd rfl (Or.inl rfl) (Bc2.ev hr (by decide) rfl passF (Jaa (pv 2) (Jaa (pv 4) Jad))))
   (Jab (Jaj (i:=7) Jb2.nd rfl (Or.inl rfl) (BbF.ev hr (by decide) rfl passF (Jaa (pv 0) (Jaa (pv 2) (Jaa (pv 5) Jad))) (he:=by exact Jaf rfl)))
   (Jab (Jaj (i:=8) Jb2.nd rfl (Or.inl rfl) (Jcz JdB rfl T.Bdz Jgo (Jaa (pv 7) Jad)))
   (Jab (Ja2 PassesOwn.never rfl (pi_U (JaX (Jaa Jac (Jaa Jac Jad)))) (Jav (i:=9) Jb2.nd rfl (Or.inl rfl))
   (Jab (Jaj (i:=10) Jb2.nd rfl (Or.inl rfl) (BbG.ev hr (by decide) rfl passF (Jaa (pv 6) (Jaa (pv 8) Jad)) (he:=by exact Jaf rfl)))
   (Jab (ps_if (PW.pt (pw_or (Jbs (Ja4 (Jaq JaK rfl T.Baq JaU (Jaa (pv 10) (Jaa (Jck (v:=.ty "bool") rfl T.Bdy Jgm rfl) Jad))))) (JbH (Jaz (Jci hu) (pv 8) (pv 7) (JaD _)))))
   (Jai (Jas pe_bl))
   JaB)
   (Jai (ps_if (Jaz (Jci hu) (pv 10) (Bcu.ev hr (by decide) rfl passF (Jaa (pv 2) (Jaa (pv 5) (Jaa (pv 7) Jad))) (he:=by exact Jaf rfl)) (JaD _))
   (Jai (Jas pe_bl))
   JaB)))))
   (Jai (Jas (Jcj (Jbl (JbG hu) (Bbh.m0 hr (by decide) passF (pv 6)) (pv 2) (JaD _)) (JcO (Jbl (JbG hu) (Bb6.m0 hr (by decide) passF (pv 6)) (pv 4) (JaD _)))))))))))))), ?_⟩
 obtain ⟨hS,hl,k⟩:=h
 have sl:(1000:Nat) ≤ sizeLine:=by decide
 show tSeq _ _ _ [some (.ref a),none,none,none,none,none,none,none,none,none,none] H
 nofun
 refine ⟨a,ns,3,rfl,hS,hl,by decide,by decide,fun c0 => ?_⟩
 nofun
 repeat (refine And.intro (by first | exact JaF (by decide) | exact JaH (by decide) | exact JaG (by decide) | exact Jat (by decide) | exact Int.one_ne_zero | decide) ?_)
 have q0:=Mth.fm (x:=c0) (y:=4) (by decide)
 obtain ⟨st,hst⟩:=Int.eq_ofNat_of_zero_le q0.1
 rw [hst] at q0 ⊢
 nofun
 refine ⟨a,ns,st,rfl,hS,hl,by omega,fun q pl sd px kv ls xs H1 S1 eq ep hP ed hB hG hM hT h1 h7 h14 hne => ?_⟩
 nofun
 refine ⟨q,_,rfl,SqT.of eq,rfl, ?_⟩
 nofun
 refine ⟨a,pl,ns,px,ls,rfl,hS.same S1,hl,SqL.of ep,hP,by omega,fun kl ys ks H2 S2 ek hK hperm => ?_⟩
 nofun
 refine ⟨a,sd,pl,sd,ns,st,kv,ls,xs,rfl,(hS.same S1).same S2,hl,by omega,S2 _ _ ed,hB.mono (P':=SNV K pl sd H2) (fun _ _ z => SNV.same S2 z),hG,hM,hT,h7,h14,hne,fun q2 gl dl gx dx es H3 S3 eq2 eg hX el hD hok hnm hg6 => ?_⟩
 nofun
 refine ⟨q2,_,rfl,SqT.of eq2,rfl, ?_⟩
 nofun
 intro x dx_ hx hdx hne_
 have hK3:All2 (PDV K H3) ks ys:=hK.mono fun p v z => z.sameT S3.t
 have lks:ks.length = ls.length:=hperm.length_eq
 have lK:=hK.length
 have lX:=hX.length
 have okk:∀ p ∈ ks,POk p:=fun p hp => hG.ok p (hperm.mem_iff.mp hp)
 have knd:(ks.map (·.nm)).Nodup:=(List.Perm.nodup_iff (hperm.map (·.nm))).mpr (JeC hG.nm)
 have gnd:((es.map (·.1)).map (·.nm)).Nodup:=by
  rw [List.map_map]
  exact JeC (f:=fun (e:GD × List Str) => e.1.nm) hnm
 have hX3:All2 (fun (g:GD) v => TV K H3 g.td v) (es.map (·.1)) gx:=hX.map fun e _ v z => z
 have Sm:Same H3 (upd (upd H3 dx_ (.own x)) x (.ins Ad.Thing dx_ [])):=fun b u q => by rw [Jah (Jag q hx),Jah (Jag q hdx)]; exact q
 refine ⟨x,dx_,kl,gl,ys,gx,ks.map Sum.inl,(es.map (·.1)).map Sum.inl,H3,rfl,Jak,hx,Sm,SqL.of (S3 _ _ ek),hK3.map fun p hp x z => ⟨z,okk p hp⟩,SqL.of eg,hX3.map fun g hg x z => ⟨z,by obtain ⟨e,he,rfl⟩:=List.mem_map.mp hg; exact (hok e he).tok⟩,by rw [List.length_map]; omega,by rw [List.length_map,List.length_map]; omega, ?_⟩
 rw [Jdk hG.tr ks [] (by rw [List.nil_append]; exact knd) (fun p hp => hperm.mem_iff.mp (by simpa using hp)),List.nil_append]
 dsimp only
 rw [JgE (es.map (·.1)) [] (by rw [List.nil_append]; exact gnd) (fun g hg => by obtain ⟨e,he,rfl⟩:=List.mem_map.mp hg; exact (hok e he).con.sub fun p hp => hperm.mem_iff.mpr hp),List.nil_append]
 dsimp only
 intro H4 S4 tk
 refine ⟨rfl, ?_⟩
 nofun
 have isc:ISC ks es (spOf (xs.map (·.1))):=⟨by omega,hg6,knd,fun e he u hu h => by
   obtain ⟨e',he',rfl⟩:=List.mem_map.mp hu
   exact congrArg (·.1) (Jhu (f:=fun (e:GD × List Str) => e.1.nm) hnm he' he h),okk,fun p hp => hM.pb p (hperm.mem_iff.mp hp),fun e he => (hok e he).tok,fun e he => (hok e he).gb,fun e he => (hok e he).rb,fun f => hG.plb (by omega) f,fun p hp => hG.pls p (hperm.mem_iff.mp hp),fun e he w hw hn => JhO hG hM (hok e he).nm (hok e he).f1 (hok e he).f2 ((Jdl hw).sub fun p hp => hperm.mem_iff.mp hp) hn⟩
 have nen:∀ e ∈ es,e.2 ≠ []:=fun e he z => by
  obtain ⟨_,_,_,_,_,_,_,_,_,_,_,_,_,b3⟩:=tk
  obtain ⟨g',v,hg',hgn,hv,l,xs',w,rfl,hl',hcv,hw,hwn⟩:=b3.some (z:=e.1.nm) (List.mem_map.mpr ⟨e.1,List.mem_map.mpr ⟨e,he,rfl⟩,rfl⟩)
  have eg':=isc.gn e he g' hg' hgn
  subst eg'
  have p:=(isc.way e he w hw hwn).length_eq
  rw [z,List.length_map] at p
  exact Jiz (Jdl hw) (hok e he).tok.ne (List.eq_nil_of_length_eq_zero p.symm)
 have len8_:∀ e ∈ es,e.2.length ≤ 8:=fun e he => by
  have:=sub_len e.2 (ls.map (·.nm)) (hok e he).nm.1 fun n hn => (hok e he).sub n hn
  rw [List.length_map] at this
  omega
 have subk:∀ e ∈ es, ∀ n ∈ e.2,n ∈ ks.map (·.nm):=fun e he n hn => by
  obtain ⟨p,hp,h⟩:=List.mem_map.mp ((hok e he).sub n hn)
  exact List.mem_map.mpr ⟨p,hperm.mem_iff.mpr hp,h⟩
 obtain ⟨xd,d1,d2,d3,k1,k2,k3,hx4,_⟩:=id tk
 have S24:=S3.trans S4
 have hS4:=((hS.same S1).same S2).same S24
 have ek4:=S24 _ _ ek
 have el4:=S4 _ _ el
 have eg4:=S4 _ _ eg
 have hK4:All2 (PDV K H4) ks ys:=hK3.mono fun p v z => z.sameT S4.t
 have hD4:All2 (RWV K gl dl (spOf (xs.map (·.1))) H4) es dx:=hD.mono fun e v z => RWV.same S4 z
 have hX4:All2 (fun (g:GD) v => TV K H4 g.td v) (es.map (·.1)) gx:=hX3.mono fun g v z => z.sameT S4.t
 generalize spOf (xs.map (·.1)) = pf at *
 refine ⟨a,kl,dl,gl,dl,ns,ys,dx,ks,es,pf,rfl,hS4,hl,SqL.of ek4,hK4,by omega,by omega,fun p hp => (isc.pb p hp).2,SqL.of el4,hD4,hg6,fun e he => ⟨isc.rb e he,nen e he⟩,fun sl_ sx ss H5 S5 es5 hA lss hsb => ?_⟩
 nofun
 refine ⟨sl_,sx,rfl, .inl (SqL.of es5), ?_⟩
 intro hd h_hd
 generalize q_hd:upd H5 hd _ = H6
 have S6:=newS h_hd q_hd
 have e6:=newE q_hd
 nofun
 nofun
 try refine ⟨len2, ?_⟩
 intro al h_al
 generalize q_al:upd H6 al _ = H7
 have S7:=newS h_al q_al
 have e7:=newE q_al
 nofun
 nofun
 have S57:=S6.trans S7
 have S47:=S5.trans S57
 have hA7:All2 (FLV K H7) ss sx:=hA.mono fun s v z => FLV.sameT S57.t z
 refine ⟨al,rfl,ForA.byLN (xs:=[.int 1, .int 2]) (SqL.of e7) (fun i σ H' => i ≤ 2∧∃ (v9 v10:Option V), σ = [some (.ref a),some (.int (st:Int)),some (.ref kl),some (.ref sd),some (.ref gl),some (.ref dl),some (.ref x),some (.ref sl_),some (.ref hd),v9,v10]∧Same H7 H') ⟨Nat.zero_le _,none,none,rfl,Same.refl _⟩ (fun i σ H' q => by obtain ⟨_,_,_,_,q⟩:=q; exact SqL.of (q _ _ e7)) ?_ ?_⟩
 ·rintro i y σ H8 hy ⟨hi,v9,v10,rfl,S8⟩ N0 hN0
  have li:=(List.getElem?_eq_some_iff.mp hy).1
  obtain ⟨n,rfl⟩:∃ n,y = .int n:=by
   match i,hy with
   | 0,h => exact ⟨_,(Option.some.inj h).symm⟩
   | 1,h => exact ⟨_,(Option.some.inj h).symm⟩
   | i + 2,h => simp at h
  have S48:=S47.trans S8
  have hA8:All2 (FLV K H8) ss sx:=hA7.mono fun s v z => FLV.sameT S8.t z
  have e68:=S8 _ _ (S7 _ _ e6)
  have e58:=S8 _ _ (S57 _ _ es5)
  nofun
  refine ⟨x,hd,ks,es,sx,ss,pf,rfl,tk.same S48,SqL.of e68,hA8,lss,hsb,isc,fun b H9 S9 hb => ?_⟩
  nofun
  have hA9:All2 (FLV K H9) ss sx:=hA8.mono fun s v z => FLV.sameT S9.t z
  have S49:=S48.trans S9
  refine ⟨.lst (ss.map frD), .lst (ss.map frD), ?_, ?_, ?_,rfl, ?_⟩
  ·simp only [Rep]
   exact ⟨hd,sx,rfl,SqL.of (S9 _ _ e68),hA9.repL fun s v z => FrV.rep z⟩
  ·simp only [Rep]
   exact ⟨sl_,sx,rfl,SqL.of (S9 _ _ e58),hA9.repL fun s v z => FrV.rep z⟩
  ·have:=JcU (n:=10) (f:=frD) (fun s => by simp [frD,depD,depL]) ss
   simp only [depD]
   omega
  ·rw [Jcc]
   nofun
   refine ⟨kl,dl,sl_,gl,dl,ys,dx,sx,ks,es,ss,pf,rfl,SqL.of (S49 _ _ ek4),hK4.mono (fun p v z => z.sameT S49.t),SqL.of (S49 _ _ el4),hD4.mono (fun e v z => RWV.same S49 z),SqL.of (S9 _ _ e58),hA9,lss,hsb,by omega,knd,fun p hp => (isc.pb p hp).2,fun e he => ⟨isc.rb e he,subk e he,len8_ e he⟩,fun b2 H10 S10 hb2 => ?_⟩
   have ebb:b = b2:=Bool.eq_iff_iff.mpr (hb.trans hb2.symm)
   subst ebb
   nofun
   exact hN0 _ _ ⟨li,_,_,rfl,S8.trans (S9.trans S10)⟩
 ·rintro σ H8 ⟨hi,v9,v10,rfl,S8⟩
  have S48:=S47.trans S8
  nofun
  refine ⟨x,_,xd,_,rfl,S48 _ _ hx4,rfl,rfl,x,ks,es.map (·.1),rfl,tk.same S48,by omega,fun l1 y1 H9 S9 _ e9 hY => ?_⟩
  nofun
  have S49:=S48.trans S9
  have hK9:All2 (PDV K H9) ks ys:=hK4.mono fun p v z => z.sameT S49.t
  refine ⟨.lst (ks.map pdD), .lst (ks.map pdD), ?_, ?_, ?_,rfl, ?_⟩
  ·simp only [Rep]
   exact ⟨l1,y1,rfl,SqL.of e9,hY.repL fun _ _ z => z.rep⟩
  ·simp only [Rep]
   exact ⟨kl,ys,rfl,SqL.of (S49 _ _ ek4),hK9.repL fun _ _ z => z.rep⟩
  ·have:=JcU (n:=10) (f:=pdD) (fun a => by simp [pdD,frD,depD,depL]) ks
   simp only [depD]
   omega
  ·rw [Jcc]
   nofun
   refine ⟨x,_,xd,_,rfl,S49 _ _ hx4,rfl,rfl,x,ks,es.map (·.1),rfl,tk.same S49,by rw [List.length_map]; omega,fun l2 y2 H10 S10 _ e10 hZ => ?_⟩
   nofun
   have S4A:=S49.trans S10
   have hXA:All2 (fun (g:GD) v => TV K H10 g.td v) (es.map (·.1)) gx:=hX4.mono fun g v z => z.sameT S4A.t
   refine ⟨.lst ((es.map (·.1)).map fun g => tdD g.td), .lst ((es.map (·.1)).map fun g => tdD g.td), ?_, ?_, ?_,rfl, ?_⟩
   ·simp only [Rep]
    exact ⟨l2,y2,rfl,SqL.of e10,hZ.repL fun _ _ z => z.rep⟩
   ·simp only [Rep]
    exact ⟨gl,gx,rfl,SqL.of (S4A _ _ eg4),hXA.repL fun _ _ z => z.rep⟩
   ·have:=JcU (n:=10) (f:=fun g:GD => tdD g.td) (fun g => by simp [tdD,GD.td,bD,frD,depD,depL]) (es.map (·.1))
    simp only [depD]
    omega
   ·rw [Jcc]
    nofun
    exact k _
end
theorem all_mk {l:PySem.W.OpenLaw} {w:World} {K:PySem.W.Frag} {h:Heap} {mg:Str→Option Value} {fa:Addr} {Twice NoName NoPart NoGap InRing Apart Part Gap Joints Thing Scale:Addr} (X:K.In h) (G:h.Ns mainGlobals mg) (hfa:mg "law" = some (.ref fa))
  {f1:Addr} {od1 an1:Option Addr} {sl1:Array (Option Value)} {oc1 kV1 dc1 pm1 cd1 ct1:Value}
  {f2:Addr} {od2 an2:Option Addr} {sl2:Array (Option Value)} {oc2 kV2 dc2 pm2 cd2 ct2:Value}
  {f3:Addr} {od3 an3:Option Addr} {sl3:Array (Option Value)} {oc3 kV3 dc3 pm3 cd3 ct3:Value}
  {f4:Addr} {od4 an4:Option Addr} {sl4:Array (Option Value)} {oc4 kV4 dc4 pm4 cd4 ct4:Value}
  {f5:Addr} {od5 an5:Option Addr} {sl5:Array (Option Value)} {oc5 kV5 dc5 pm5 cd5 ct5:Value}
  {f6:Addr} {od6 an6:Option Addr} {sl6:Array (Option Value)} {oc6 kV6 dc6 pm6 cd6 ct6:Value}
  {f7:Addr} {od7 an7:Option Addr} {sl7:Array (Option Value)} {oc7 kV7 dc7 pm7 cd7 ct7:Value}
  {f8:Addr} {od8 an8:Option Addr} {sl8:Array (Option Value)} {oc8 kV8 dc8 pm8 cd8 ct8:Value}
  {f9:Addr} {od9 an9:Option Addr} {sl9:Array (Option Value)} {oc9 kV9 dc9 pm9 cd9 ct9:Value}
  {f10:Addr} {od10 an10:Option Addr} {sl10:Array (Option Value)} {oc10 kV10 dc10 pm10 cd10 ct10:Value}
  {f11:Addr} {od11 an11:Option Addr} {sl11:Array (Option Value)} {oc11 kV11 dc11 pm11 cd11 ct11:Value}
  {f12:Addr} {od12 an12:Option Addr} {sl12:Array (Option Value)} {oc12 kV12 dc12 pm12 cd12 ct12:Value}
  {f13:Addr} {od13 an13:Option Addr} {sl13:Array (Option Value)} {oc13 kV13 dc13 pm13 cd13 ct13:Value}
  {f14:Addr} {od14 an14:Option Addr} {sl14:Array (Option Value)} {oc14 kV14 dc14 pm14 cd14 ct14:Value}
  {f15:Addr} {od15 an15:Option Addr} {sl15:Array (Option Value)} {oc15 kV15 dc15 pm15 cd15 ct15:Value}
  {f16:Addr} {od16 an16:Option Addr} {sl16:Array (Option Value)} {oc16 kV16 dc16 pm16 cd16 ct16:Value}
  {f17:Addr} {od17 an17:Option Addr} {sl17:Array (Option Value)} {oc17 kV17 dc17 pm17 cd17 ct17:Value}
  {f18:Addr} {od18 an18:Option Addr} {sl18:Array (Option Value)} {oc18 kV18 dc18 pm18 cd18 ct18:Value}
  {f19:Addr} {od19 an19:Option Addr} {sl19:Array (Option Value)} {oc19 kV19 dc19 pm19 cd19 ct19:Value}
  {f20:Addr} {od20 an20:Option Addr} {sl20:Array (Option Value)} {oc20 kV20 dc20 pm20 cd20 ct20:Value}
  {f21:Addr} {od21 an21:Option Addr} {sl21:Array (Option Value)} {oc21 kV21 dc21 pm21 cd21 ct21:Value}
  {f22:Addr} {od22 an22:Option Addr} {sl22:Array (Option Value)} {oc22 kV22 dc22 pm22 cd22 ct22:Value}
  {f23:Addr} {od23 an23:Option Addr} {sl23:Array (Option Value)} {oc23 kV23 dc23 pm23 cd23 ct23:Value}
  {f24:Addr} {od24 an24:Option Addr} {sl24:Array (Option Value)} {oc24 kV24 dc24 pm24 cd24 ct24:Value}
  {f25:Addr} {od25 an25:Option Addr} {sl25:Array (Option Value)} {oc25 kV25 dc25 pm25 cd25 ct25:Value}
  {f26:Addr} {od26 an26:Option Addr} {sl26:Array (Option Value)} {oc26 kV26 dc26 pm26 cd26 ct26:Value}
  {f27:Addr} {od27 an27:Option Addr} {sl27:Array (Option Value)} {oc27 kV27 dc27 pm27 cd27 ct27:Value}
  {f28:Addr} {od28 an28:Option Addr} {sl28:Array (Option Value)} {oc28 kV28 dc28 pm28 cd28 ct28:Value}
  {f29:Addr} {od29 an29:Option Addr} {sl29:Array (Option Value)} {oc29 kV29 dc29 pm29 cd29 ct29:Value}
  {f30:Addr} {od30 an30:Option Addr} {sl30:Array (Option Value)} {oc30 kV30 dc30 pm30 cd30 ct30:Value}
  {f31:Addr} {od31 an31:Option Addr} {sl31:Array (Option Value)} {oc31 kV31 dc31 pm31 cd31 ct31:Value}
  {f32:Addr} {od32 an32:Option Addr} {sl32:Array (Option Value)} {oc32 kV32 dc32 pm32 cd32 ct32:Value}
  {f33:Addr} {od33 an33:Option Addr} {sl33:Array (Option Value)} {oc33 kV33 dc33 pm33 cd33 ct33:Value}
  {f34:Addr} {od34 an34:Option Addr} {sl34:Array (Option Value)} {oc34 kV34 dc34 pm34 cd34 ct34:Value}
  {f35:Addr} {od35 an35:Option Addr} {sl35:Array (Option Value)} {oc35 kV35 dc35 pm35 cd35 ct35:Value}
  {f36:Addr} {od36 an36:Option Addr} {sl36:Array (Option Value)} {oc36 kV36 dc36 pm36 cd36 ct36:Value}
  {f37:Addr} {od37 an37:Option Addr} {sl37:Array (Option Value)} {oc37 kV37 dc37 pm37 cd37 ct37:Value}
  {f38:Addr} {od38 an38:Option Addr} {sl38:Array (Option Value)} {oc38 kV38 dc38 pm38 cd38 ct38:Value}
  {f39:Addr} {od39 an39:Option Addr} {sl39:Array (Option Value)} {oc39 kV39 dc39 pm39 cd39 ct39:Value}
  {f40:Addr} {od40 an40:Option Addr} {sl40:Array (Option Value)} {oc40 kV40 dc40 pm40 cd40 ct40:Value}
  {f41:Addr} {od41 an41:Option Addr} {sl41:Array (Option Value)} {oc41 kV41 dc41 pm41 cd41 ct41:Value}
  {f42:Addr} {od42 an42:Option Addr} {sl42:Array (Option Value)} {oc42 kV42 dc42 pm42 cd42 ct42:Value}
  {f43:Addr} {od43 an43:Option Addr} {sl43:Array (Option Value)} {oc43 kV43 dc43 pm43 cd43 ct43:Value}
  {f44:Addr} {od44 an44:Option Addr} {sl44:Array (Option Value)} {oc44 kV44 dc44 pm44 cd44 ct44:Value}
  {Baa:Tok}
  {Bab:Tok}
  {ZERO:Addr} {BdE:Option Addr} {BdF:Nat} {BdG:Array (Option Value)} {Bdv Bdw:Tok}
  (Bc3:PySem.W.nsIn K mainGlobals "Twice" = some (some (.ref Twice)))
  (BcK:PySem.W.nsIn K mainGlobals "NoName" = some (some (.ref NoName)))
  (BcL:PySem.W.nsIn K mainGlobals "NoPart" = some (some (.ref NoPart)))
  (Bc4:PySem.W.nsIn K mainGlobals "NoGap" = some (some (.ref NoGap)))
  (BcM:PySem.W.nsIn K mainGlobals "InRing" = some (some (.ref InRing)))
  (Bc5:PySem.W.nsIn K mainGlobals "Apart" = some (some (.ref Apart)))
  (Bde:PySem.W.nsIn K mainGlobals "Part" = some (some (.ref Part)))
  (Bdx:PySem.W.nsIn K mainGlobals "Gap" = some (some (.ref Gap)))
  (Bcd:PySem.W.nsIn K mainGlobals "Joints" = some (some (.ref Joints)))
  (BcN:PySem.W.nsIn K mainGlobals "Thing" = some (some (.ref Thing)))
  (BcO:PySem.W.nsIn K mainGlobals "Scale" = some (some (.ref Scale)))
  (a1:PySem.W.nsIn K mainGlobals "common_divisor" = some (some (.ref f1))) (l1:K.lookup f1 = some ⟨oc1,od1, .func (PySem.W.fnOf "common_divisor" "common_divisor" (Jam Bai) (Jal Bai) (Jae Bai) .none kV1 dc1 pm1 an1 cd1 ct1),sl1⟩) (c1:PySem.W.codeIn K cd1 "common_divisor" = true) (k1:PySem.W.keepIn K (.ref f1) = true)
  (a2:PySem.W.nsIn K mainGlobals "plus" = some (some (.ref f2))) (l2:K.lookup f2 = some ⟨oc2,od2, .func (PySem.W.fnOf "plus" "plus" (Jam BcC) (Jal BcC) (Jae BcC) .none kV2 dc2 pm2 an2 cd2 ct2),sl2⟩) (c2:PySem.W.codeIn K cd2 "plus" = true) (k2:PySem.W.keepIn K (.ref f2) = true)
  (a3:PySem.W.nsIn K mainGlobals "minus" = some (some (.ref f3))) (l3:K.lookup f3 = some ⟨oc3,od3, .func (PySem.W.fnOf "minus" "minus" (Jam Bb8) (Jal Bb8) (Jae Bb8) .none kV3 dc3 pm3 an3 cd3 ct3),sl3⟩) (c3:PySem.W.codeIn K cd3 "minus" = true) (k3:PySem.W.keepIn K (.ref f3) = true)
  (a4:PySem.W.nsIn K mainGlobals "under" = some (some (.ref f4))) (l4:K.lookup f4 = some ⟨oc4,od4, .func (PySem.W.fnOf "under" "under" (Jam Bb9) (Jal Bb9) (Jae Bb9) .none kV4 dc4 pm4 an4 cd4 ct4),sl4⟩) (c4:PySem.W.codeIn K cd4 "under" = true) (k4:PySem.W.keepIn K (.ref f4) = true)
  (a5:PySem.W.nsIn K mainGlobals "is_name" = some (some (.ref f5))) (l5:K.lookup f5 = some ⟨oc5,od5, .func (PySem.W.fnOf "is_name" "is_name" (Jam Bbc) (Jal Bbc) (Jae Bbc) .none kV5 dc5 pm5 an5 cd5 ct5),sl5⟩) (c5:PySem.W.codeIn K cd5 "is_name" = true) (k5:PySem.W.keepIn K (.ref f5) = true)
  (a6:PySem.W.nsIn K mainGlobals "is_whole" = some (some (.ref f6))) (l6:K.lookup f6 = some ⟨oc6,od6, .func (PySem.W.fnOf "is_whole" "is_whole" (Jam BaO) (Jal BaO) (Jae BaO) .none kV6 dc6 pm6 an6 cd6 ct6),sl6⟩) (c6:PySem.W.codeIn K cd6 "is_whole" = true) (k6:PySem.W.keepIn K (.ref f6) = true)
  (a7:PySem.W.nsIn K mainGlobals "is_fraction" = some (some (.ref f7))) (l7:K.lookup f7 = some ⟨oc7,od7, .func (PySem.W.fnOf "is_fraction" "is_fraction" (Jam Bat) (Jal Bat) (Jae Bat) .none kV7 dc7 pm7 an7 cd7 ct7),sl7⟩) (c7:PySem.W.codeIn K cd7 "is_fraction" = true) (k7:PySem.W.keepIn K (.ref f7) = true)
  (a8:PySem.W.nsIn K mainGlobals "is_bound" = some (some (.ref f8))) (l8:K.lookup f8 = some ⟨oc8,od8, .func (PySem.W.fnOf "is_bound" "is_bound" (Jam BaP) (Jal BaP) (Jae BaP) .none kV8 dc8 pm8 an8 cd8 ct8),sl8⟩) (c8:PySem.W.codeIn K cd8 "is_bound" = true) (k8:PySem.W.keepIn K (.ref f8) = true)
  (a9:PySem.W.nsIn K mainGlobals "are_faces" = some (some (.ref f9))) (l9:K.lookup f9 = some ⟨oc9,od9, .func (PySem.W.fnOf "are_faces" "are_faces" (Jam BaI) (Jal BaI) (Jae BaI) .none kV9 dc9 pm9 an9 cd9 ct9),sl9⟩) (c9:PySem.W.codeIn K cd9 "are_faces" = true) (k9:PySem.W.keepIn K (.ref f9) = true)
  (a10:PySem.W.nsIn K mainGlobals "are_bounds" = some (some (.ref f10))) (l10:K.lookup f10 = some ⟨oc10,od10, .func (PySem.W.fnOf "are_bounds" "are_bounds" (Jam Bay) (Jal Bay) (Jae Bay) .none kV10 dc10 pm10 an10 cd10 ct10),sl10⟩) (c10:PySem.W.codeIn K cd10 "are_bounds" = true) (k10:PySem.W.keepIn K (.ref f10) = true)
  (a11:PySem.W.nsIn K mainGlobals "is_tie" = some (some (.ref f11))) (l11:K.lookup f11 = some ⟨oc11,od11, .func (PySem.W.fnOf "is_tie" "is_tie" (Jam BbM) (Jal BbM) (Jae BbM) .none kV11 dc11 pm11 an11 cd11 ct11),sl11⟩) (c11:PySem.W.codeIn K cd11 "is_tie" = true) (k11:PySem.W.keepIn K (.ref f11) = true)
  (a12:PySem.W.findIn K (.ref Part) "__init__" = some (some (.ref f12))) (l12:K.lookup f12 = some ⟨oc12,od12, .func (PySem.W.fnOf "__init__" "Part.__init__" (Jam Bal) (Jal Bal) (Jae Bal) .none kV12 dc12 pm12 an12 cd12 ct12),sl12⟩) (c12:PySem.W.codeIn K cd12 "Part.__init__" = true) (k12:PySem.W.keepIn K (.ref f12) = true)
  (a13:PySem.W.findIn K (.ref Part) "plain" = some (some (.ref f13))) (l13:K.lookup f13 = some ⟨oc13,od13, .func (PySem.W.fnOf "plain" "Part.plain" (Jam Baz) (Jal Baz) (Jae Baz) .none kV13 dc13 pm13 an13 cd13 ct13),sl13⟩) (c13:PySem.W.codeIn K cd13 "Part.plain" = true) (k13:PySem.W.keepIn K (.ref f13) = true)
  (a14:PySem.W.findIn K (.ref Gap) "__init__" = some (some (.ref f14))) (l14:K.lookup f14 = some ⟨oc14,od14, .func (PySem.W.fnOf "__init__" "Gap.__init__" (Jam Ban) (Jal Ban) (Jae Ban) .none kV14 dc14 pm14 an14 cd14 ct14),sl14⟩) (c14:PySem.W.codeIn K cd14 "Gap.__init__" = true) (k14:PySem.W.keepIn K (.ref f14) = true)
  (a15:PySem.W.findIn K (.ref Gap) "plain" = some (some (.ref f15))) (l15:K.lookup f15 = some ⟨oc15,od15, .func (PySem.W.fnOf "plain" "Gap.plain" (Jam BaK) (Jal BaK) (Jae BaK) .none kV15 dc15 pm15 an15 cd15 ct15),sl15⟩) (c15:PySem.W.codeIn K cd15 "Gap.plain" = true) (k15:PySem.W.keepIn K (.ref f15) = true)
  (a16:PySem.W.nsIn K mainGlobals "is_part" = some (some (.ref f16))) (l16:K.lookup f16 = some ⟨oc16,od16, .func (PySem.W.fnOf "is_part" "is_part" (Jam Bbd) (Jal Bbd) (Jae Bbd) .none kV16 dc16 pm16 an16 cd16 ct16),sl16⟩) (c16:PySem.W.codeIn K cd16 "is_part" = true) (k16:PySem.W.keepIn K (.ref f16) = true)
  (a17:PySem.W.nsIn K mainGlobals "is_gap" = some (some (.ref f17))) (l17:K.lookup f17 = some ⟨oc17,od17, .func (PySem.W.fnOf "is_gap" "is_gap" (Jam BbN) (Jal BbN) (Jae BbN) .none kV17 dc17 pm17 an17 cd17 ct17),sl17⟩) (c17:PySem.W.codeIn K cd17 "is_gap" = true) (k17:PySem.W.keepIn K (.ref f17) = true)
  (a18:PySem.W.nsIn K mainGlobals "part_of" = some (some (.ref f18))) (l18:K.lookup f18 = some ⟨oc18,od18, .func (PySem.W.fnOf "part_of" "part_of" (Jam Bbe) (Jal Bbe) (Jae Bbe) .none kV18 dc18 pm18 an18 cd18 ct18),sl18⟩) (c18:PySem.W.codeIn K cd18 "part_of" = true) (k18:PySem.W.keepIn K (.ref f18) = true)
  (a19:PySem.W.nsIn K mainGlobals "gap_of" = some (some (.ref f19))) (l19:K.lookup f19 = some ⟨oc19,od19, .func (PySem.W.fnOf "gap_of" "gap_of" (Jam BbO) (Jal BbO) (Jae BbO) .none kV19 dc19 pm19 an19 cd19 ct19),sl19⟩) (c19:PySem.W.codeIn K cd19 "gap_of" = true) (k19:PySem.W.keepIn K (.ref f19) = true)
  (a20:PySem.W.findIn K (.ref Joints) "__init__" = some (some (.ref f20))) (l20:K.lookup f20 = some ⟨oc20,od20, .func (PySem.W.fnOf "__init__" "Joints.__init__" (Jam Bag) (Jal Bag) (Jae Bag) .none kV20 dc20 pm20 an20 cd20 ct20),sl20⟩) (c20:PySem.W.codeIn K cd20 "Joints.__init__" = true) (k20:PySem.W.keepIn K (.ref f20) = true)
  (a21:PySem.W.findIn K (.ref Joints) "link" = some (some (.ref f21))) (l21:K.lookup f21 = some ⟨oc21,od21, .func (PySem.W.fnOf "link" "Joints.link" (Jam Bau) (Jal Bau) (Jae Bau) .none kV21 dc21 pm21 an21 cd21 ct21),sl21⟩) (c21:PySem.W.codeIn K cd21 "Joints.link" = true) (k21:PySem.W.keepIn K (.ref f21) = true)
  (a22:PySem.W.findIn K (.ref Joints) "way_between" = some (some (.ref f22))) (l22:K.lookup f22 = some ⟨oc22,od22, .func (PySem.W.fnOf "way_between" "Joints.way_between" (Jam Bae) (Jal Bae) (Jae Bae) .none kV22 dc22 pm22 an22 cd22 ct22),sl22⟩) (c22:PySem.W.codeIn K cd22 "Joints.way_between" = true) (k22:PySem.W.keepIn K (.ref f22) = true)
  (a23:PySem.W.findIn K (.ref Thing) "__init__" = some (some (.ref f23))) (l23:K.lookup f23 = some ⟨oc23,od23, .func (PySem.W.fnOf "__init__" "Thing.__init__" (Jam Baj) (Jal Baj) (Jae Baj) .none kV23 dc23 pm23 an23 cd23 ct23),sl23⟩) (c23:PySem.W.codeIn K cd23 "Thing.__init__" = true) (k23:PySem.W.keepIn K (.ref f23) = true)
  (a24:PySem.W.findIn K (.ref Thing) "parts" = some (some (.ref f24))) (l24:K.lookup f24 = some ⟨oc24,od24, .func (PySem.W.fnOf "parts" "Thing.parts" (Jam Bav) (Jal Bav) (Jae Bav) .none kV24 dc24 pm24 an24 cd24 ct24),sl24⟩) (c24:PySem.W.codeIn K cd24 "Thing.parts" = true) (k24:PySem.W.keepIn K (.ref f24) = true)
  (a25:PySem.W.findIn K (.ref Thing) "gaps" = some (some (.ref f25))) (l25:K.lookup f25 = some ⟨oc25,od25, .func (PySem.W.fnOf "gaps" "Thing.gaps" (Jam BaA) (Jal BaA) (Jae BaA) .none kV25 dc25 pm25 an25 cd25 ct25),sl25⟩) (c25:PySem.W.codeIn K cd25 "Thing.gaps" = true) (k25:PySem.W.keepIn K (.ref f25) = true)
  (a26:PySem.W.findIn K (.ref Thing) "way" = some (some (.ref f26))) (l26:K.lookup f26 = some ⟨oc26,od26, .func (PySem.W.fnOf "way" "Thing.way" (Jam BaL) (Jal BaL) (Jae BaL) .none kV26 dc26 pm26 an26 cd26 ct26),sl26⟩) (c26:PySem.W.codeIn K cd26 "Thing.way" = true) (k26:PySem.W.keepIn K (.ref f26) = true)
  (a27:PySem.W.findIn K (.ref Thing) "middle" = some (some (.ref f27))) (l27:K.lookup f27 = some ⟨oc27,od27, .func (PySem.W.fnOf "middle" "Thing.middle" (Jam Bao) (Jal Bao) (Jae Bao) .none kV27 dc27 pm27 an27 cd27 ct27),sl27⟩) (c27:PySem.W.codeIn K cd27 "Thing.middle" = true) (k27:PySem.W.keepIn K (.ref f27) = true)
  (a28:PySem.W.findIn K (.ref Thing) "room" = some (some (.ref f28))) (l28:K.lookup f28 = some ⟨oc28,od28, .func (PySem.W.fnOf "room" "Thing.room" (Jam BaB) (Jal BaB) (Jae BaB) .none kV28 dc28 pm28 an28 cd28 ct28),sl28⟩) (c28:PySem.W.codeIn K cd28 "Thing.room" = true) (k28:PySem.W.keepIn K (.ref f28) = true)
  (a29:PySem.W.findIn K (.ref Scale) "__init__" = some (some (.ref f29))) (l29:K.lookup f29 = some ⟨oc29,od29, .func (PySem.W.fnOf "__init__" "Scale.__init__" (Jam Bak) (Jal Bak) (Jae Bak) .none kV29 dc29 pm29 an29 cd29 ct29),sl29⟩) (c29:PySem.W.codeIn K cd29 "Scale.__init__" = true) (k29:PySem.W.keepIn K (.ref f29) = true)
  (a30:PySem.W.findIn K (.ref Scale) "lifted" = some (some (.ref f30))) (l30:K.lookup f30 = some ⟨oc30,od30, .func (PySem.W.fnOf "lifted" "Scale.lifted" (Jam Bap) (Jal Bap) (Jae Bap) .none kV30 dc30 pm30 an30 cd30 ct30),sl30⟩) (c30:PySem.W.codeIn K cd30 "Scale.lifted" = true) (k30:PySem.W.keepIn K (.ref f30) = true)
  (a31:PySem.W.nsIn K mainGlobals "scale_of" = some (some (.ref f31))) (l31:K.lookup f31 = some ⟨oc31,od31, .func (PySem.W.fnOf "scale_of" "scale_of" (Jam BaQ) (Jal BaQ) (Jae BaQ) .none kV31 dc31 pm31 an31 cd31 ct31),sl31⟩) (c31:PySem.W.codeIn K cd31 "scale_of" = true) (k31:PySem.W.keepIn K (.ref f31) = true)
  (a32:PySem.W.nsIn K mainGlobals "part_names" = some (some (.ref f32))) (l32:K.lookup f32 = some ⟨oc32,od32, .func (PySem.W.fnOf "part_names" "part_names" (Jam BaC) (Jal BaC) (Jae BaC) .none kV32 dc32 pm32 an32 cd32 ct32),sl32⟩) (c32:PySem.W.codeIn K cd32 "part_names" = true) (k32:PySem.W.keepIn K (.ref f32) = true)
  (a33:PySem.W.nsIn K mainGlobals "fits" = some (some (.ref f33))) (l33:K.lookup f33 = some ⟨oc33,od33, .func (PySem.W.fnOf "fits" "fits" (Jam BcD) (Jal BcD) (Jae BcD) .none kV33 dc33 pm33 an33 cd33 ct33),sl33⟩) (c33:PySem.W.codeIn K cd33 "fits" = true) (k33:PySem.W.keepIn K (.ref f33) = true)
  (a34:PySem.W.nsIn K mainGlobals "is_sharing" = some (some (.ref f34))) (l34:K.lookup f34 = some ⟨oc34,od34, .func (PySem.W.fnOf "is_sharing" "is_sharing" (Jam BaD) (Jal BaD) (Jae BaD) .none kV34 dc34 pm34 an34 cd34 ct34),sl34⟩) (c34:PySem.W.codeIn K cd34 "is_sharing" = true) (k34:PySem.W.keepIn K (.ref f34) = true)
  (a35:PySem.W.nsIn K mainGlobals "_law_cell" = some (some (.ref f35))) (l35:K.lookup f35 = some ⟨oc35,od35, .func (PySem.W.fnOf "_law_cell" "_law_cell" (Jam BaR) (Jal BaR) (Jae BaR) .none kV35 dc35 pm35 an35 cd35 ct35),sl35⟩) (c35:PySem.W.codeIn K cd35 "_law_cell" = true) (k35:PySem.W.keepIn K (.ref f35) = true)
  (a36:PySem.W.nsIn K mainGlobals "_law_low" = some (some (.ref f36))) (l36:K.lookup f36 = some ⟨oc36,od36, .func (PySem.W.fnOf "_law_low" "_law_low" (Jam Bbf) (Jal Bbf) (Jae Bbf) .none kV36 dc36 pm36 an36 cd36 ct36),sl36⟩) (c36:PySem.W.codeIn K cd36 "_law_low" = true) (k36:PySem.W.keepIn K (.ref f36) = true)
  (a37:PySem.W.nsIn K mainGlobals "_law_plus" = some (some (.ref f37))) (l37:K.lookup f37 = some ⟨oc37,od37, .func (PySem.W.fnOf "_law_plus" "_law_plus" (Jam BaS) (Jal BaS) (Jae BaS) .none kV37 dc37 pm37 an37 cd37 ct37),sl37⟩) (c37:PySem.W.codeIn K cd37 "_law_plus" = true) (k37:PySem.W.keepIn K (.ref f37) = true)
  (a38:PySem.W.nsIn K mainGlobals "_law_name" = some (some (.ref f38))) (l38:K.lookup f38 = some ⟨oc38,od38, .func (PySem.W.fnOf "_law_name" "_law_name" (Jam BaT) (Jal BaT) (Jae BaT) .none kV38 dc38 pm38 an38 cd38 ct38),sl38⟩) (c38:PySem.W.codeIn K cd38 "_law_name" = true) (k38:PySem.W.keepIn K (.ref f38) = true)
  (a39:PySem.W.nsIn K mainGlobals "_law_parts" = some (some (.ref f39))) (l39:K.lookup f39 = some ⟨oc39,od39, .func (PySem.W.fnOf "_law_parts" "_law_parts" (Jam BaM) (Jal BaM) (Jae BaM) .none kV39 dc39 pm39 an39 cd39 ct39),sl39⟩) (c39:PySem.W.codeIn K cd39 "_law_parts" = true) (k39:PySem.W.keepIn K (.ref f39) = true)
  (a40:PySem.W.nsIn K mainGlobals "_law_listed" = some (some (.ref f40))) (l40:K.lookup f40 = some ⟨oc40,od40, .func (PySem.W.fnOf "_law_listed" "_law_listed" (Jam BaF) (Jal BaF) (Jae BaF) .none kV40 dc40 pm40 an40 cd40 ct40),sl40⟩) (c40:PySem.W.codeIn K cd40 "_law_listed" = true) (k40:PySem.W.keepIn K (.ref f40) = true)
  (a41:PySem.W.nsIn K mainGlobals "_law_gaps" = some (some (.ref f41))) (l41:K.lookup f41 = some ⟨oc41,od41, .func (PySem.W.fnOf "_law_gaps" "_law_gaps" (Jam BaU) (Jal BaU) (Jae BaU) .none kV41 dc41 pm41 an41 cd41 ct41),sl41⟩) (c41:PySem.W.codeIn K cd41 "_law_gaps" = true) (k41:PySem.W.keepIn K (.ref f41) = true)
  (a42:PySem.W.nsIn K mainGlobals "_law_slacks" = some (some (.ref f42))) (l42:K.lookup f42 = some ⟨oc42,od42, .func (PySem.W.fnOf "_law_slacks" "_law_slacks" (Jam BaG) (Jal BaG) (Jae BaG) .none kV42 dc42 pm42 an42 cd42 ct42),sl42⟩) (c42:PySem.W.codeIn K cd42 "_law_slacks" = true) (k42:PySem.W.keepIn K (.ref f42) = true)
  (a43:PySem.W.nsIn K mainGlobals "_law_due" = some (some (.ref f43))) (l43:K.lookup f43 = some ⟨oc43,od43, .func (PySem.W.fnOf "_law_due" "_law_due" (Jam Bbg) (Jal Bbg) (Jae Bbg) .none kV43 dc43 pm43 an43 cd43 ct43),sl43⟩) (c43:PySem.W.codeIn K cd43 "_law_due" = true) (k43:PySem.W.keepIn K (.ref f43) = true)
  (a44:PySem.W.nsIn K mainGlobals "law" = some (some (.ref f44))) (l44:K.lookup f44 = some ⟨oc44,od44, .func (PySem.W.fnOf "law" "law" (Jam BcJ) (Jal BcJ) (Jae BcJ) .none kV44 dc44 pm44 an44 cd44 ct44),sl44⟩) (c44:PySem.W.codeIn K cd44 "law" = true) (k44:PySem.W.keepIn K (.ref f44) = true)
  (z_abs:PySem.W.nsIn K mainGlobals "abs" = some none)
  (z_isinstance:PySem.W.nsIn K mainGlobals "isinstance" = some none)
  (z_len:PySem.W.nsIn K mainGlobals "len" = some none)
  (z_int:PySem.W.nsIn K mainGlobals "int" = some none)
  (z_bool:PySem.W.nsIn K mainGlobals "bool" = some none)
  (z_tuple:PySem.W.nsIn K mainGlobals "tuple" = some none)
  (z_str:PySem.W.nsIn K mainGlobals "str" = some none)
  (z_range:PySem.W.nsIn K mainGlobals "range" = some none)
  (z_list:PySem.W.nsIn K mainGlobals "list" = some none)
  (z_min:PySem.W.nsIn K mainGlobals "min" = some none)
  (z_sorted:PySem.W.nsIn K mainGlobals "sorted" = some none)
  (z_all:PySem.W.nsIn K mainGlobals "all" = some none)
  (z_zip:PySem.W.nsIn K mainGlobals "zip" = some none)
  (BaW:PySem.W.nsIn K mainGlobals "SMALL_LETTERS" = some (some (.str "abcdefghijklmnopqrstuvwxyz" Baa)))
  (Ba1:PySem.W.nsIn K mainGlobals "LONGEST_NAME" = some (some (.int 8 Bab)))
  (Bdm:PySem.W.nsIn K mainGlobals "ZERO" = some (some (.ref ZERO)))
  (h_ZERO:K.lookup ZERO = some ⟨.type "tuple",BdE, .seq #[.int 0 Bdv, .int 1 Bdw] BdF,BdG⟩)
  (Bb7:PySem.W.excIn K Twice [.type "ValueError", .type "Exception", .type "BaseException", .type "object"] "ValueError.__new__" = true)
  (BbR:PySem.W.excIn K NoName [.type "ValueError", .type "Exception", .type "BaseException", .type "object"] "ValueError.__new__" = true)
  (BbS:PySem.W.excIn K NoPart [.type "ValueError", .type "Exception", .type "BaseException", .type "object"] "ValueError.__new__" = true)
  (Bcg:PySem.W.excIn K NoGap [.type "ValueError", .type "Exception", .type "BaseException", .type "object"] "ValueError.__new__" = true)
  (BbT:PySem.W.excIn K InRing [.type "ValueError", .type "Exception", .type "BaseException", .type "object"] "ValueError.__new__" = true)
  (Bch:PySem.W.excIn K Apart [.type "ValueError", .type "Exception", .type "BaseException", .type "object"] "ValueError.__new__" = true)
  (Bc6:PySem.W.makesIn K Part = true)
  (Bc7:PySem.W.findIn K (.ref Part) "__init__" = some (some (.ref f12)))
  (Bc8:PySem.W.isFn K (.ref f12) = true)
  (Bc9:PySem.W.keepIn K (.ref Part) = true)
  (Bdn:PySem.W.makesIn K Gap = true)
  (Bdo:PySem.W.findIn K (.ref Gap) "__init__" = some (some (.ref f14)))
  (Bdp:PySem.W.isFn K (.ref f14) = true)
  (Bdq:PySem.W.keepIn K (.ref Gap) = true)
  (Bcv:PySem.W.makesIn K Joints = true)
  (Bcw:PySem.W.findIn K (.ref Joints) "__init__" = some (some (.ref f20)))
  (Bcx:PySem.W.isFn K (.ref f20) = true)
  (Bcy:PySem.W.keepIn K (.ref Joints) = true)
  (BcP:PySem.W.makesIn K Thing = true)
  (BcQ:PySem.W.findIn K (.ref Thing) "__init__" = some (some (.ref f23)))
  (BcR:PySem.W.isFn K (.ref f23) = true)
  (BcS:PySem.W.keepIn K (.ref Thing) = true)
  (BcT:PySem.W.makesIn K Scale = true)
  (BcU:PySem.W.findIn K (.ref Scale) "__init__" = some (some (.ref f29)))
  (BcV:PySem.W.isFn K (.ref f29) = true)
  (BcW:PySem.W.keepIn K (.ref Scale) = true)
  (Bbi:PySem.W.findIn K (.ref Part) "plain" = some (some (.ref f13)))
  (Bbj:PySem.W.isFn K (.ref f13) = true)
  (BbH:PySem.W.findIn K (.ref Gap) "plain" = some (some (.ref f15)))
  (BbI:PySem.W.isFn K (.ref f15) = true)
  (Ba2:PySem.W.findIn K (.ref Joints) "link" = some (some (.ref f21)))
  (Ba3:PySem.W.isFn K (.ref f21) = true)
  (Bar:PySem.W.findIn K (.ref Joints) "way_between" = some (some (.ref f22)))
  (Bas:PySem.W.isFn K (.ref f22) = true)
  (Ba4:PySem.W.findIn K (.ref Thing) "parts" = some (some (.ref f24)))
  (Ba5:PySem.W.isFn K (.ref f24) = true)
  (Bbk:PySem.W.findIn K (.ref Thing) "gaps" = some (some (.ref f25)))
  (Bbl:PySem.W.isFn K (.ref f25) = true)
  (BbJ:PySem.W.findIn K (.ref Thing) "way" = some (some (.ref f26)))
  (BbK:PySem.W.isFn K (.ref f26) = true)
  (BaX:PySem.W.findIn K (.ref Thing) "middle" = some (some (.ref f27)))
  (BaY:PySem.W.isFn K (.ref f27) = true)
  (Bbm:PySem.W.findIn K (.ref Thing) "room" = some (some (.ref f28)))
  (Bbn:PySem.W.isFn K (.ref f28) = true)
  (BaZ:PySem.W.findIn K (.ref Scale) "lifted" = some (some (.ref f30)))
  (Ba0:PySem.W.isFn K (.ref f30) = true)
  (BbU:PySem.W.plainGet K Part Str.empty = true)
  (BbV:PySem.W.hasDictIn K Part = true)
  (BbW:PySem.W.plainOver K Part = true)
  (BbX:PySem.W.findIn K (.ref Part) "__setattr__" = some (some (.builtin "object.__setattr__")))
  (BbY:PySem.W.findIn K (.ref Part) "name" = some none)
  (BbZ:PySem.W.findIn K (.ref Part) "start" = some none)
  (Bb0:PySem.W.findIn K (.ref Part) "end" = some none)
  (Bb1:PySem.W.findIn K (.ref Part) "size" = some none)
  (Bb2:PySem.W.findIn K (.ref Part) "most" = some none)
  (Bb3:PySem.W.findIn K (.ref Part) "weight" = some none)
  (Bci:PySem.W.plainGet K Gap Str.empty = true)
  (Bcj:PySem.W.hasDictIn K Gap = true)
  (Bck:PySem.W.plainOver K Gap = true)
  (Bcl:PySem.W.findIn K (.ref Gap) "__setattr__" = some (some (.builtin "object.__setattr__")))
  (Bcm:PySem.W.findIn K (.ref Gap) "name" = some none)
  (Bcn:PySem.W.findIn K (.ref Gap) "one" = some none)
  (Bco:PySem.W.findIn K (.ref Gap) "other" = some none)
  (Bcp:PySem.W.findIn K (.ref Gap) "low" = some none)
  (Bcq:PySem.W.findIn K (.ref Gap) "high" = some none)
  (Ba7:PySem.W.plainGet K Joints Str.empty = true)
  (Ba8:PySem.W.hasDictIn K Joints = true)
  (Ba9:PySem.W.plainOver K Joints = true)
  (Bba:PySem.W.findIn K (.ref Joints) "__setattr__" = some (some (.builtin "object.__setattr__")))
  (Bbb:PySem.W.findIn K (.ref Joints) "leads" = some none)
  (Bbp:PySem.W.plainGet K Thing Str.empty = true)
  (Bbq:PySem.W.hasDictIn K Thing = true)
  (Bbr:PySem.W.plainOver K Thing = true)
  (Bbs:PySem.W.findIn K (.ref Thing) "__setattr__" = some (some (.builtin "object.__setattr__")))
  (Bbt:PySem.W.findIn K (.ref Thing) "parts_by_name" = some none)
  (Bbu:PySem.W.findIn K (.ref Thing) "gaps_by_name" = some none)
  (Bbv:PySem.W.findIn K (.ref Thing) "ways" = some none)
  (Bbw:PySem.W.plainGet K Scale Str.empty = true)
  (Bbx:PySem.W.hasDictIn K Scale = true)
  (Bby:PySem.W.plainOver K Scale = true)
  (Bbz:PySem.W.findIn K (.ref Scale) "__setattr__" = some (some (.builtin "object.__setattr__")))
  (BbA:PySem.W.findIn K (.ref Scale) "bottom" = some none)
  (BbB:PySem.W.findIn K (.ref Scale) "factors" = some none)
  : ∃ fd:FuncData,(∀ (s:Shared) (v:Value),BindsTo s fd ⟨[v],[]⟩ [("_law_script",v)])∧∀ base:Heap,K.In base→base.Ns mainGlobals mg→FnOk l.prog w K mg base (CX1 l.prog w) 11 fa fd ["_law_script"] (BcX K):=by
 have e:=hfa.symm.trans (PySem.W.mg_of X G a44)
 cases e
 have T:Txt K mg ⟨Twice,NoName,NoPart,NoGap,InRing,Apart,Part,Gap,Joints,Thing,Scale,(.str "abcdefghijklmnopqrstuvwxyz" Baa),(.int 8 Bab),ZERO⟩:=⟨PySem.W.mg_none_of X G z_abs,PySem.W.mg_none_of X G z_isinstance,PySem.W.mg_none_of X G z_len,PySem.W.mg_none_of X G z_int,PySem.W.mg_none_of X G z_bool,PySem.W.mg_none_of X G z_tuple,PySem.W.mg_none_of X G z_str,PySem.W.mg_none_of X G z_range,PySem.W.mg_none_of X G z_list,PySem.W.mg_none_of X G z_min,PySem.W.mg_none_of X G z_sorted,PySem.W.mg_none_of X G z_all,PySem.W.mg_none_of X G z_zip,PySem.W.mg_of X G Bc3,PySem.W.mg_of X G BcK,PySem.W.mg_of X G BcL,PySem.W.mg_of X G Bc4,PySem.W.mg_of X G BcM,PySem.W.mg_of X G Bc5,PySem.W.mg_of X G Bde,PySem.W.mg_of X G Bdx,PySem.W.mg_of X G Bcd,PySem.W.mg_of X G BcN,PySem.W.mg_of X G BcO,PySem.W.mg_of X G BaW,⟨_,rfl⟩,PySem.W.mg_of X G Ba1,⟨_,rfl⟩,PySem.W.mg_of X G Bdm,rfl,fun H => .inr ⟨_,_,_,h_ZERO,rfl,rfl,by show 2 ≤ sizeLine; decide, .cons ⟨_,rfl⟩ (.cons ⟨_,rfl⟩ (.nil))⟩,Bb7,BbR,BbS,Bcg,BbT,Bch,BbU,BbV,BbW,BbX,BbY,BbZ,Bb0,Bb1,Bb2,Bb3,Bci,Bcj,Bck,Bcl,Bcm,Bcn,Bco,Bcp,Bcq,Ba7,Ba8,Ba9,Bba,Bbb,Bbp,Bbq,Bbr,Bbs,Bbt,Bbu,Bbv,Bbw,Bbx,Bby,Bbz,BbA,BbB,(fun C hC => by cases hC; exact ⟨⟨BbU,BbV,BbW,BbX⟩,BbY,BbZ,Bb0,Bb1,Bb2,Bb3⟩),(fun C hC => by cases hC; exact ⟨⟨Bci,Bcj,Bck,Bcl⟩,Bcm,Bcn,Bco,Bcp,Bcq⟩),(fun C hC => by cases hC; exact ⟨⟨Ba7,Ba8,Ba9,Bba⟩,Bbb⟩),(fun C hC => by cases hC; exact ⟨⟨Bbp,Bbq,Bbr,Bbs⟩,Bbt,Bbu,Bbv⟩),(fun C hC => by cases hC; exact ⟨⟨Bbw,Bbx,Bby,Bbz⟩,BbA,BbB⟩)⟩
 have F1:=Jap (st:=Bai) l1 c1 k1
 have b1:=F1.binds (ps:=["one", "other"]) fun _ _ _ _ _ _ us hl => match us,hl with | [_,_],_ => rfl
 have F2:=Jap (st:=BcC) l2 c2 k2
 have b2:=F2.binds (ps:=["one", "other"]) fun _ _ _ _ _ _ us hl => match us,hl with | [_,_],_ => rfl
 have F3:=Jap (st:=Bb8) l3 c3 k3
 have b3:=F3.binds (ps:=["one", "other"]) fun _ _ _ _ _ _ us hl => match us,hl with | [_,_],_ => rfl
 have F4:=Jap (st:=Bb9) l4 c4 k4
 have b4:=F4.binds (ps:=["one", "other"]) fun _ _ _ _ _ _ us hl => match us,hl with | [_,_],_ => rfl
 have F5:=Jap (st:=Bbc) l5 c5 k5
 have b5:=F5.binds (ps:=["thing"]) fun _ _ _ _ _ _ us hl => match us,hl with | [_],_ => rfl
 have F6:=Jap (st:=BaO) l6 c6 k6
 have b6:=F6.binds (ps:=["thing"]) fun _ _ _ _ _ _ us hl => match us,hl with | [_],_ => rfl
 have F7:=Jap (st:=Bat) l7 c7 k7
 have b7:=F7.binds (ps:=["thing"]) fun _ _ _ _ _ _ us hl => match us,hl with | [_],_ => rfl
 have F8:=Jap (st:=BaP) l8 c8 k8
 have b8:=F8.binds (ps:=["thing"]) fun _ _ _ _ _ _ us hl => match us,hl with | [_],_ => rfl
 have F9:=Jap (st:=BaI) l9 c9 k9
 have b9:=F9.binds (ps:=["one", "other"]) fun _ _ _ _ _ _ us hl => match us,hl with | [_,_],_ => rfl
 have F10:=Jap (st:=Bay) l10 c10 k10
 have b10:=F10.binds (ps:=["least", "greatest"]) fun _ _ _ _ _ _ us hl => match us,hl with | [_,_],_ => rfl
 have F11:=Jap (st:=BbM) l11 c11 k11
 have b11:=F11.binds (ps:=["thing"]) fun _ _ _ _ _ _ us hl => match us,hl with | [_],_ => rfl
 have F12:=Jap (st:=Bal) l12 c12 k12
 have b12:=F12.binds (ps:=["self", "row"]) fun _ _ _ _ _ _ us hl => match us,hl with | [_,_],_ => rfl
 have F13:=Jap (st:=Baz) l13 c13 k13
 have b13:=F13.binds (ps:=["self"]) fun _ _ _ _ _ _ us hl => match us,hl with | [_],_ => rfl
 have F14:=Jap (st:=Ban) l14 c14 k14
 have b14:=F14.binds (ps:=["self", "row"]) fun _ _ _ _ _ _ us hl => match us,hl with | [_,_],_ => rfl
 have F15:=Jap (st:=BaK) l15 c15 k15
 have b15:=F15.binds (ps:=["self"]) fun _ _ _ _ _ _ us hl => match us,hl with | [_],_ => rfl
 have F16:=Jap (st:=Bbd) l16 c16 k16
 have b16:=F16.binds (ps:=["thing"]) fun _ _ _ _ _ _ us hl => match us,hl with | [_],_ => rfl
 have F17:=Jap (st:=BbN) l17 c17 k17
 have b17:=F17.binds (ps:=["thing"]) fun _ _ _ _ _ _ us hl => match us,hl with | [_],_ => rfl
 have F18:=Jap (st:=Bbe) l18 c18 k18
 have b18:=F18.binds (ps:=["thing"]) fun _ _ _ _ _ _ us hl => match us,hl with | [_],_ => rfl
 have F19:=Jap (st:=BbO) l19 c19 k19
 have b19:=F19.binds (ps:=["thing"]) fun _ _ _ _ _ _ us hl => match us,hl with | [_],_ => rfl
 have F20:=Jap (st:=Bag) l20 c20 k20
 have b20:=F20.binds (ps:=["self"]) fun _ _ _ _ _ _ us hl => match us,hl with | [_],_ => rfl
 have F21:=Jap (st:=Bau) l21 c21 k21
 have b21:=F21.binds (ps:=["self", "part"]) fun _ _ _ _ _ _ us hl => match us,hl with | [_,_],_ => rfl
 have F22:=Jap (st:=Bae) l22 c22 k22
 have b22:=F22.binds (ps:=["self", "one", "other"]) fun _ _ _ _ _ _ us hl => match us,hl with | [_,_,_],_ => rfl
 have F23:=Jap (st:=Baj) l23 c23 k23
 have b23:=F23.binds (ps:=["self", "parts", "gaps"]) fun _ _ _ _ _ _ us hl => match us,hl with | [_,_,_],_ => rfl
 have F24:=Jap (st:=Bav) l24 c24 k24
 have b24:=F24.binds (ps:=["self"]) fun _ _ _ _ _ _ us hl => match us,hl with | [_],_ => rfl
 have F25:=Jap (st:=BaA) l25 c25 k25
 have b25:=F25.binds (ps:=["self"]) fun _ _ _ _ _ _ us hl => match us,hl with | [_],_ => rfl
 have F26:=Jap (st:=BaL) l26 c26 k26
 have b26:=F26.binds (ps:=["self", "name"]) fun _ _ _ _ _ _ us hl => match us,hl with | [_,_],_ => rfl
 have F27:=Jap (st:=Bao) l27 c27 k27
 have b27:=F27.binds (ps:=["self", "name"]) fun _ _ _ _ _ _ us hl => match us,hl with | [_,_],_ => rfl
 have F28:=Jap (st:=BaB) l28 c28 k28
 have b28:=F28.binds (ps:=["self", "name"]) fun _ _ _ _ _ _ us hl => match us,hl with | [_,_],_ => rfl
 have F29:=Jap (st:=Bak) l29 c29 k29
 have b29:=F29.binds (ps:=["self", "numbers"]) fun _ _ _ _ _ _ us hl => match us,hl with | [_,_],_ => rfl
 have F30:=Jap (st:=Bap) l30 c30 k30
 have b30:=F30.binds (ps:=["self", "number"]) fun _ _ _ _ _ _ us hl => match us,hl with | [_,_],_ => rfl
 have F31:=Jap (st:=BaQ) l31 c31 k31
 have b31:=F31.binds (ps:=["thing"]) fun _ _ _ _ _ _ us hl => match us,hl with | [_],_ => rfl
 have F32:=Jap (st:=BaC) l32 c32 k32
 have b32:=F32.binds (ps:=["thing", "gap_name"]) fun _ _ _ _ _ _ us hl => match us,hl with | [_,_],_ => rfl
 have F33:=Jap (st:=BcD) l33 c33 k33
 have b33:=F33.binds (ps:=["room", "slacks"]) fun _ _ _ _ _ _ us hl => match us,hl with | [_,_],_ => rfl
 have F34:=Jap (st:=BaD) l34 c34 k34
 have b34:=F34.binds (ps:=["thing", "slacks"]) fun _ _ _ _ _ _ us hl => match us,hl with | [_,_],_ => rfl
 have F35:=Jap (st:=BaR) l35 c35 k35
 have b35:=F35.binds (ps:=["_law_script", "_law_k"]) fun _ _ _ _ _ _ us hl => match us,hl with | [_,_],_ => rfl
 have F36:=Jap (st:=Bbf) l36 c36 k36
 have b36:=F36.binds (ps:=["_law_top", "_law_bottom"]) fun _ _ _ _ _ _ us hl => match us,hl with | [_,_],_ => rfl
 have F37:=Jap (st:=BaS) l37 c37 k37
 have b37:=F37.binds (ps:=["_law_one", "_law_other", "_law_sign"]) fun _ _ _ _ _ _ us hl => match us,hl with | [_,_,_],_ => rfl
 have F38:=Jap (st:=BaT) l38 c38 k38
 have b38:=F38.binds (ps:=["_law_k", "_law_sign", "_law_style"]) fun _ _ _ _ _ _ us hl => match us,hl with | [_,_,_],_ => rfl
 have F39:=Jap (st:=BaM) l39 c39 k39
 have b39:=F39.binds (ps:=["_law_script", "_law_style"]) fun _ _ _ _ _ _ us hl => match us,hl with | [_,_],_ => rfl
 have F40:=Jap (st:=BaF) l40 c40 k40
 have b40:=F40.binds (ps:=["_law_script", "_law_parts_here"]) fun _ _ _ _ _ _ us hl => match us,hl with | [_,_],_ => rfl
 have F41:=Jap (st:=BaU) l41 c41 k41
 have b41:=F41.binds (ps:=["_law_script", "_law_spots", "_law_style"]) fun _ _ _ _ _ _ us hl => match us,hl with | [_,_,_],_ => rfl
 have F42:=Jap (st:=BaG) l42 c42 k42
 have b42:=F42.binds (ps:=["_law_script", "_law_parts_here", "_law_rows"]) fun _ _ _ _ _ _ us hl => match us,hl with | [_,_,_],_ => rfl
 have F43:=Jap (st:=Bbg) l43 c43 k43
 have b43:=F43.binds (ps:=["_law_parts_here", "_law_rows", "_law_slacks_here"]) fun _ _ _ _ _ _ us hl => match us,hl with | [_,_,_],_ => rfl
 have F44:=Jap (st:=BcJ) l44 c44 k44
 have b44:=F44.binds (ps:=["_law_script"]) fun _ _ _ _ _ _ us hl => match us,hl with | [_],_ => rfl
 refine ⟨PySem.W.fnOf "law" "law" (Jam BcJ) (Jal BcJ) (Jae BcJ) .none kV44 dc44 pm44 an44 cd44 ct44,fun s v => .of_eq rfl,fun base _ _ => ?_⟩
 have K1:=JcG (P:=l.prog) (w:=w) (base:=base) F1 T
 have Bac:Cal l.prog w K mg base 1 "common_divisor" ["one", "other"] [] (JaP):=⟨f1,_,[],K1,PySem.W.mg_of X G a1,k1,b1, .nil⟩
 have K2:=Jit (P:=l.prog) (w:=w) (base:=base) F2 T Bac
 have Bb5:Cal l.prog w K mg base 2 "plus" ["one", "other"] [] (Jds K):=⟨f2,_,[],K2,PySem.W.mg_of X G a2,k2,b2, .nil⟩
 have K3:=Jhx (P:=l.prog) (w:=w) (base:=base) F3 T Bb5
 have BbP:Cal l.prog w K mg base 3 "minus" ["one", "other"] [] (JcZ K):=⟨f3,_,[],K3,PySem.W.mg_of X G a3,k3,b3, .nil⟩
 have K4:=Jhy (P:=l.prog) (w:=w) (base:=base) F4 T
 have Baw:Cal l.prog w K mg base 1 "under" ["one", "other"] [] (JbY K):=⟨f4,_,[],K4,PySem.W.mg_of X G a4,k4,b4, .nil⟩
 have K5:=Jf4 (P:=l.prog) (w:=w) (base:=base) F5 T
 have Bax:Cal l.prog w K mg base 1 "is_name" ["thing"] [] (JbI K):=⟨f5,_,[],K5,PySem.W.mg_of X G a5,k5,b5, .nil⟩
 have K6:=Je7 (P:=l.prog) (w:=w) (base:=base) F6 T
 have BaH:Cal l.prog w K mg base 1 "is_whole" ["thing"] [] (JbT K):=⟨f6,_,[],K6,PySem.W.mg_of X G a6,k6,b6, .nil⟩
 have K7:=Jdx (P:=l.prog) (w:=w) (base:=base) F7 T BaH Bac
 have Bam:Cal l.prog w K mg base 2 "is_fraction" ["thing"] [] (Jbq K):=⟨f7,_,[],K7,PySem.W.mg_of X G a7,k7,b7, .nil⟩
 have K8:=Je6 (P:=l.prog) (w:=w) (base:=base) F8 T Bam
 have BbL:Cal l.prog w K mg base 3 "is_bound" ["thing"] [] (Jcm K):=⟨f8,_,[],K8,PySem.W.mg_of X G a8,k8,b8, .nil⟩
 have K9:=JeF (P:=l.prog) (w:=w) (base:=base) F9 T Bax
 have BaJ:Cal l.prog w K mg base 2 "are_faces" ["one", "other"] [] (JbE K):=⟨f9,_,[],K9,PySem.W.mg_of X G a9,k9,b9, .nil⟩
 have K10:=Jd6 (P:=l.prog) (w:=w) (base:=base) F10 T BbL Baw
 have BbC:Cal l.prog w K mg base 4 "are_bounds" ["least", "greatest"] [] (JbR K):=⟨f10,_,[],K10,PySem.W.mg_of X G a10,k10,b10, .nil⟩
 have K11:=JgT (P:=l.prog) (w:=w) (base:=base) F11 T Bax BaJ BbC
 have BcE:Cal l.prog w K mg base 5 "is_tie" ["thing"] [] (Jdr K):=⟨f11,_,[],K11,PySem.W.mg_of X G a11,k11,b11, .nil⟩
 have K12:=JcR (P:=l.prog) (w:=w) (base:=base) F12 T
 have Bdi:KCal l.prog w K mg base 1 "Part" Part ["self", "row"] (Jbu K):=⟨f12,_,K12,PySem.W.mg_of X G Bde,⟨Bc6,Bc7,Bc8,Bc9⟩,b12⟩
 have K13:=Jd3 (P:=l.prog) (w:=w) (base:=base) F13 T
 have Bc0:MCal l.prog w K mg base 1 "plain" (IsPart ⟨Twice,NoName,NoPart,NoGap,InRing,Apart,Part,Gap,Joints,Thing,Scale,(.str "abcdefghijklmnopqrstuvwxyz" Baa),(.int 8 Bab),ZERO⟩) ["self"] (JbP K ⟨Twice,NoName,NoPart,NoGap,InRing,Apart,Part,Gap,Joints,Thing,Scale,(.str "abcdefghijklmnopqrstuvwxyz" Baa),(.int 8 Bab),ZERO⟩):=⟨f13,_,K13,fun C hC => ⟨(T.BcB C hC).cls,(by cases hC; exact ⟨Bbi,Bbj,k13⟩)⟩,k13,b13⟩
 have K14:=Jdg (P:=l.prog) (w:=w) (base:=base) F14 T
 have BdD:KCal l.prog w K mg base 1 "Gap" Gap ["self", "row"] (Jbz K):=⟨f14,_,K14,PySem.W.mg_of X G Bdx,⟨Bdn,Bdo,Bdp,Bdq⟩,b14⟩
 have K15:=JeD (P:=l.prog) (w:=w) (base:=base) F15 T
 have Bct:MCal l.prog w K mg base 1 "plain" (IsGap ⟨Twice,NoName,NoPart,NoGap,InRing,Apart,Part,Gap,Joints,Thing,Scale,(.str "abcdefghijklmnopqrstuvwxyz" Baa),(.int 8 Bab),ZERO⟩) ["self"] (Jb6 K ⟨Twice,NoName,NoPart,NoGap,InRing,Apart,Part,Gap,Joints,Thing,Scale,(.str "abcdefghijklmnopqrstuvwxyz" Baa),(.int 8 Bab),ZERO⟩):=⟨f15,_,K15,fun C hC => ⟨(T.Bdh C hC).cls,(by cases hC; exact ⟨BbH,BbI,k15⟩)⟩,k15,b15⟩
 have K16:=Jf5 (P:=l.prog) (w:=w) (base:=base) F16 T Bax BaJ Bam BaH Baw
 have Bcr:Cal l.prog w K mg base 5 "is_part" ["thing"] [] (JcK K):=⟨f16,_,[],K16,PySem.W.mg_of X G a16,k16,b16, .nil⟩
 have K17:=JgS (P:=l.prog) (w:=w) (base:=base) F17 T BcE
 have BcF:Cal l.prog w K mg base 6 "is_gap" ["thing"] [] (Jdq K):=⟨f17,_,[],K17,PySem.W.mg_of X G a17,k17,b17, .nil⟩
 have K18:=Jf8 (P:=l.prog) (w:=w) (base:=base) F18 T Bcr Bdi
 have Bcs:Cal l.prog w K mg base 6 "part_of" ["thing"] [] (JcM K ⟨Twice,NoName,NoPart,NoGap,InRing,Apart,Part,Gap,Joints,Thing,Scale,(.str "abcdefghijklmnopqrstuvwxyz" Baa),(.int 8 Bab),ZERO⟩):=⟨f18,_,[],K18,PySem.W.mg_of X G a18,k18,b18, .nil⟩
 have K19:=JgR (P:=l.prog) (w:=w) (base:=base) F19 T BcF BdD
 have BcH:Cal l.prog w K mg base 7 "gap_of" ["thing"] [] (Jdp K ⟨Twice,NoName,NoPart,NoGap,InRing,Apart,Part,Gap,Joints,Thing,Scale,(.str "abcdefghijklmnopqrstuvwxyz" Baa),(.int 8 Bab),ZERO⟩):=⟨f19,_,[],K19,PySem.W.mg_of X G a19,k19,b19, .nil⟩
 have K20:=Jcx (P:=l.prog) (w:=w) (base:=base) F20 T
 have BcG:KCal l.prog w K mg base 1 "Joints" Joints ["self"] (Jbg K ⟨Twice,NoName,NoPart,NoGap,InRing,Apart,Part,Gap,Joints,Thing,Scale,(.str "abcdefghijklmnopqrstuvwxyz" Baa),(.int 8 Bab),ZERO⟩):=⟨f20,_,K20,PySem.W.mg_of X G Bcd,⟨Bcv,Bcw,Bcx,Bcy⟩,b20⟩
 have K21:=Jdv (P:=l.prog) (w:=w) (base:=base) F21 T
 have Bdj:MCal l.prog w K mg base 1 "link" (Jcq ⟨Twice,NoName,NoPart,NoGap,InRing,Apart,Part,Gap,Joints,Thing,Scale,(.str "abcdefghijklmnopqrstuvwxyz" Baa),(.int 8 Bab),ZERO⟩) ["self", "part"] (JbF K ⟨Twice,NoName,NoPart,NoGap,InRing,Apart,Part,Gap,Joints,Thing,Scale,(.str "abcdefghijklmnopqrstuvwxyz" Baa),(.int 8 Bab),ZERO⟩):=⟨f21,_,K21,fun C hC => ⟨(T.Bb4 C hC).cls,(by cases hC; exact ⟨Ba2,Ba3,k21⟩)⟩,k21,b21⟩
 have K22:=Jb4 (P:=l.prog) (w:=w) (base:=base) F22 T
 have BaN:MCal l.prog w K mg base 1 "way_between" (Jcq ⟨Twice,NoName,NoPart,NoGap,InRing,Apart,Part,Gap,Joints,Thing,Scale,(.str "abcdefghijklmnopqrstuvwxyz" Baa),(.int 8 Bab),ZERO⟩) ["self", "one", "other"] (Ja1 K ⟨Twice,NoName,NoPart,NoGap,InRing,Apart,Part,Gap,Joints,Thing,Scale,(.str "abcdefghijklmnopqrstuvwxyz" Baa),(.int 8 Bab),ZERO⟩):=⟨f22,_,K22,fun C hC => ⟨(T.Bb4 C hC).cls,(by cases hC; exact ⟨Bar,Bas,k22⟩)⟩,k22,b22⟩
 have K23:=JcF (P:=l.prog) (w:=w) (base:=base) F23 T BcG Bcs BcH BaN Bdj
 have Bc2:KCal l.prog w K mg base 9 "Thing" Thing ["self", "parts", "gaps"] (Jbo K ⟨Twice,NoName,NoPart,NoGap,InRing,Apart,Part,Gap,Joints,Thing,Scale,(.str "abcdefghijklmnopqrstuvwxyz" Baa),(.int 8 Bab),ZERO⟩):=⟨f23,_,K23,PySem.W.mg_of X G BcN,⟨BcP,BcQ,BcR,BcS⟩,b23⟩
 have K24:=Jdw (P:=l.prog) (w:=w) (base:=base) F24 T Bc0
 have Bbh:MCal l.prog w K mg base 2 "parts" (Ja3 ⟨Twice,NoName,NoPart,NoGap,InRing,Apart,Part,Gap,Joints,Thing,Scale,(.str "abcdefghijklmnopqrstuvwxyz" Baa),(.int 8 Bab),ZERO⟩) ["self"] (Ja5 K ⟨Twice,NoName,NoPart,NoGap,InRing,Apart,Part,Gap,Joints,Thing,Scale,(.str "abcdefghijklmnopqrstuvwxyz" Baa),(.int 8 Bab),ZERO⟩):=⟨f24,_,K24,fun C hC => ⟨(T.BaV C hC).cls,(by cases hC; exact ⟨Ba4,Ba5,k24⟩)⟩,k24,b24⟩
 have K25:=Jd4 (P:=l.prog) (w:=w) (base:=base) F25 T Bct
 have Bb6:MCal l.prog w K mg base 2 "gaps" (Ja3 ⟨Twice,NoName,NoPart,NoGap,InRing,Apart,Part,Gap,Joints,Thing,Scale,(.str "abcdefghijklmnopqrstuvwxyz" Baa),(.int 8 Bab),ZERO⟩) ["self"] (Jbh K ⟨Twice,NoName,NoPart,NoGap,InRing,Apart,Part,Gap,Joints,Thing,Scale,(.str "abcdefghijklmnopqrstuvwxyz" Baa),(.int 8 Bab),ZERO⟩):=⟨f25,_,K25,fun C hC => ⟨(T.BaV C hC).cls,(by cases hC; exact ⟨Bbk,Bbl,k25⟩)⟩,k25,b25⟩
 have K26:=JeE (P:=l.prog) (w:=w) (base:=base) F26 T
 have Bdf:MCal l.prog w K mg base 1 "way" (Ja3 ⟨Twice,NoName,NoPart,NoGap,InRing,Apart,Part,Gap,Joints,Thing,Scale,(.str "abcdefghijklmnopqrstuvwxyz" Baa),(.int 8 Bab),ZERO⟩) ["self", "name"] (JbD K ⟨Twice,NoName,NoPart,NoGap,InRing,Apart,Part,Gap,Joints,Thing,Scale,(.str "abcdefghijklmnopqrstuvwxyz" Baa),(.int 8 Bab),ZERO⟩):=⟨f26,_,K26,fun C hC => ⟨(T.BaV C hC).cls,(by cases hC; exact ⟨BbJ,BbK,k26⟩)⟩,k26,b26⟩
 have K27:=Jdi (P:=l.prog) (w:=w) (base:=base) F27 T Bdf Bb5 BbP
 have BcI:MCal l.prog w K mg base 4 "middle" (Ja3 ⟨Twice,NoName,NoPart,NoGap,InRing,Apart,Part,Gap,Joints,Thing,Scale,(.str "abcdefghijklmnopqrstuvwxyz" Baa),(.int 8 Bab),ZERO⟩) ["self", "name"] (JbB K ⟨Twice,NoName,NoPart,NoGap,InRing,Apart,Part,Gap,Joints,Thing,Scale,(.str "abcdefghijklmnopqrstuvwxyz" Baa),(.int 8 Bab),ZERO⟩):=⟨f27,_,K27,fun C hC => ⟨(T.BaV C hC).cls,(by cases hC; exact ⟨BaX,BaY,k27⟩)⟩,k27,b27⟩
 have K28:=Jd5 (P:=l.prog) (w:=w) (base:=base) F28 T BcI BbP Baw
 have Bdl:MCal l.prog w K mg base 5 "room" (Ja3 ⟨Twice,NoName,NoPart,NoGap,InRing,Apart,Part,Gap,Joints,Thing,Scale,(.str "abcdefghijklmnopqrstuvwxyz" Baa),(.int 8 Bab),ZERO⟩) ["self", "name"] (JbQ K ⟨Twice,NoName,NoPart,NoGap,InRing,Apart,Part,Gap,Joints,Thing,Scale,(.str "abcdefghijklmnopqrstuvwxyz" Baa),(.int 8 Bab),ZERO⟩):=⟨f28,_,K28,fun C hC => ⟨(T.BaV C hC).cls,(by cases hC; exact ⟨Bbm,Bbn,k28⟩)⟩,k28,b28⟩
 have K29:=JcE (P:=l.prog) (w:=w) (base:=base) F29 T Bac
 have Bc1:KCal l.prog w K mg base 2 "Scale" Scale ["self", "numbers"] (Jbn K ⟨Twice,NoName,NoPart,NoGap,InRing,Apart,Part,Gap,Joints,Thing,Scale,(.str "abcdefghijklmnopqrstuvwxyz" Baa),(.int 8 Bab),ZERO⟩):=⟨f29,_,K29,PySem.W.mg_of X G BcO,⟨BcT,BcU,BcV,BcW⟩,b29⟩
 have K30:=Jdh (P:=l.prog) (w:=w) (base:=base) F30 T Bac
 have Bcc:MCal l.prog w K mg base 2 "lifted" (JeU ⟨Twice,NoName,NoPart,NoGap,InRing,Apart,Part,Gap,Joints,Thing,Scale,(.str "abcdefghijklmnopqrstuvwxyz" Baa),(.int 8 Bab),ZERO⟩) ["self", "number"] (JbA K ⟨Twice,NoName,NoPart,NoGap,InRing,Apart,Part,Gap,Joints,Thing,Scale,(.str "abcdefghijklmnopqrstuvwxyz" Baa),(.int 8 Bab),ZERO⟩):=⟨f30,_,K30,fun C hC => ⟨(T.BcZ C hC).cls,(by cases hC; exact ⟨BaZ,Ba0,k30⟩)⟩,k30,b30⟩
 have K31:=Jfc (P:=l.prog) (w:=w) (base:=base) F31 T Bbh Bb6 Bc1
 have Bca:Cal l.prog w K mg base 4 "scale_of" ["thing"] [] (Jco K ⟨Twice,NoName,NoPart,NoGap,InRing,Apart,Part,Gap,Joints,Thing,Scale,(.str "abcdefghijklmnopqrstuvwxyz" Baa),(.int 8 Bab),ZERO⟩):=⟨f31,_,[],K31,PySem.W.mg_of X G a31,k31,b31, .nil⟩
 have K32:=Jea (P:=l.prog) (w:=w) (base:=base) F32 T Bdf
 have BbD:Cal l.prog w K mg base 2 "part_names" ["thing", "gap_name"] [] (JbX K ⟨Twice,NoName,NoPart,NoGap,InRing,Apart,Part,Gap,Joints,Thing,Scale,(.str "abcdefghijklmnopqrstuvwxyz" Baa),(.int 8 Bab),ZERO⟩):=⟨f32,_,[],K32,PySem.W.mg_of X G a32,k32,b32, .nil⟩
 have K33:=Jis (P:=l.prog) (w:=w) (base:=base) F33 T Bb5 Baw
 have Bdk:Cal l.prog w K mg base 3 "fits" ["room", "slacks"] [] (Jfq K):=⟨f33,_,[],K33,PySem.W.mg_of X G a33,k33,b33, .nil⟩
 have K34:=Jd7 (P:=l.prog) (w:=w) (base:=base) F34 T Bca Bbh Bb6 Baw Bcc BbD Bdk Bdl
 have BbG:Cal l.prog w K mg base 7 "is_sharing" ["thing", "slacks"] [] (JbS K ⟨Twice,NoName,NoPart,NoGap,InRing,Apart,Part,Gap,Joints,Thing,Scale,(.str "abcdefghijklmnopqrstuvwxyz" Baa),(.int 8 Bab),ZERO⟩):=⟨f34,_,[],K34,PySem.W.mg_of X G a34,k34,b34, .nil⟩
 have K35:=Je8 (P:=l.prog) (w:=w) (base:=base) F35 T
 have Bad:Cal l.prog w K mg base 1 "_law_cell" ["_law_script", "_law_k"] [] (Jba K):=⟨f35,_,[],K35,PySem.W.mg_of X G a35,k35,b35, .nil⟩
 have K36:=Jf7 (P:=l.prog) (w:=w) (base:=base) F36 T
 have Bah:Cal l.prog w K mg base 1 "_law_low" ["_law_top", "_law_bottom"] [] (Jbx):=⟨f36,_,[],K36,PySem.W.mg_of X G a36,k36,b36, .nil⟩
 have K37:=Jfb (P:=l.prog) (w:=w) (base:=base) F37 T Bah
 have Baf:Cal l.prog w K mg base 2 "_law_plus" ["_law_one", "_law_other", "_law_sign"] [] (Jbp K):=⟨f37,_,[],K37,PySem.W.mg_of X G a37,k37,b37, .nil⟩
 have K38:=Jfa (P:=l.prog) (w:=w) (base:=base) F38 T
 have BaE:Cal l.prog w K mg base 1 "_law_name" ["_law_k", "_law_sign", "_law_style"] [] (JbV):=⟨f38,_,[],K38,PySem.W.mg_of X G a38,k38,b38, .nil⟩
 have K39:=JeG (P:=l.prog) (w:=w) (base:=base) F39 T Bad BaE Bah Baf
 have BbQ:Cal l.prog w K mg base 3 "_law_parts" ["_law_script", "_law_style"] [] (Jb7 K):=⟨f39,_,[],K39,PySem.W.mg_of X G a39,k39,b39, .nil⟩
 have K40:=Jd8 (P:=l.prog) (w:=w) (base:=base) F40 T Bad
 have BbE:Cal l.prog w K mg base 2 "_law_listed" ["_law_script", "_law_parts_here"] [] (JbU K):=⟨f40,_,[],K40,PySem.W.mg_of X G a40,k40,b40, .nil⟩
 have K41:=Je9 (P:=l.prog) (w:=w) (base:=base) F41 T Bad BaE Bah Baf
 have Bcb:Cal l.prog w K mg base 3 "_law_gaps" ["_law_script", "_law_spots", "_law_style"] [] (Jcn K):=⟨f41,_,[],K41,PySem.W.mg_of X G a41,k41,b41, .nil⟩
 have K42:=Jd9 (P:=l.prog) (w:=w) (base:=base) F42 T Bad Bah Baf
 have BbF:Cal l.prog w K mg base 3 "_law_slacks" ["_law_script", "_law_parts_here", "_law_rows"] [] (JbW K):=⟨f42,_,[],K42,PySem.W.mg_of X G a42,k42,b42, .nil⟩
 have K43:=Jf6 (P:=l.prog) (w:=w) (base:=base) F43 T Baf
 have Bcu:Cal l.prog w K mg base 3 "_law_due" ["_law_parts_here", "_law_rows", "_law_slacks_here"] [] (JcL K):=⟨f43,_,[],K43,PySem.W.mg_of X G a43,k43,b43, .nil⟩
 exact Jja F44 T Bad BbQ BbE Bcb Bc2 BbF BbG Bcu Bbh Bb6
theorem walk {l:PySem.W.OpenLaw} {q:Program} {loose:List Str} {XP:(Str→Option Value)→Heap→Prop} {YP:World→Heap→Prop} {d:DefRec} {K:Params→PySem.W.Frag} (hn:l.most = some 63) (hdf:d.params.defaults = [])
  (hY:∀ (w:World) (h:Heap),YP w h→(K w.params).In h)
  (F:∀ (w:World) (mg:Str→Option Value) (fa:Addr) (h:Heap),(K w.params).In h→h.Ns mainGlobals mg→mg d.name = some (.ref fa) →
   ∃ fd:FuncData,(∀ (s:Shared) (u:Value),BindsTo s fd ⟨[u],[]⟩ [("_law_script",u)])∧∀ base:Heap,(K w.params).In base→base.Ns mainGlobals mg→FnOk l.prog w (K w.params) mg base (CX1 l.prog w) 11 fa fd ["_law_script"] (BcX (K w.params))) :
  PySem.W.WalkO q loose XP YP l.row.toRowW d [] (fun f vs => PySem.call f vs) :=
 L2.Jhi (n:=63) (k:=11) (x:="_law_script") (CX:=fun w => CX1 l.prog w) (sp:=fun w => BcX (K w.params)) hn (by decide) hdf ⟨rfl,by decide,by decide⟩ hY F (fun _ _ a ns hl _ hS => ⟨a,ns,rfl,hS,hl,fun _ => rfl⟩) fun _ _ _ _ _ z => by
  obtain ⟨_,_,_,_,_,_,_,_,_,_,_,z⟩:=z
  exact z
end Prg
open PySem PySem.W PyProof.Rows
def PySem.W.Fast.tw13519179296792729398 : Nat := 0
def PySem.W.Fast.tw17564152624988582307 : Nat := 0
def PySem.W.Fast.tw2855264866172811805 : Nat := 0
def PySem.W.Fast.tw18292045333919757657 : Nat := 0
def PySem.W.Fast.tw1016184809923863514 : Nat := 0
def PySem.W.Fast.tw17910880315394083451 : Nat := 0
def PySem.W.Fast.tw9523022527739653168 : Nat := 0
def PySem.W.Fast.tw3546723284192573790 : Nat := 0
def PySem.W.Fast.tw910834071168009274 : Nat := 0
def PySem.W.Fast.tw10372403330601242290 : Nat := 0
def PySem.W.Fast.tw2114326795516228879 : Nat := 0
def PySem.W.Fast.tw2099943469799069210 : Nat := 0
def PySem.W.Fast.tw7633056779324105223 : Nat := 0
def PySem.W.Fast.tw766342438927111194 : Nat := 0
def PySem.W.Fast.tw13094783816422933356 : Nat := 0
def PySem.W.Fast.tw5164101502589151219 : Nat := 0
def PySem.W.Fast.tw17647437997514065124 : Nat := 0
def PySem.W.Fast.tw15264035681356142713 : Nat := 0
def PySem.W.Fast.tw17249441785271983401 : Nat := 0
def PySem.W.Fast.tw478511778572232478 : Nat := 0
def PySem.W.Fast.tw5089798168791455391 : Nat := 0
def PySem.W.Fast.tw16941782601297008674 : Nat := 0
def PySem.W.Fast.tw5655917644027244596 : Nat := 0
def PySem.W.Fast.tw791979846135292414 : Nat := 0
def PySem.W.Fast.tw13223113129442832889 : Nat := 0
def PySem.W.Fast.tw15097375258628447631 : Nat := 0
def PySem.W.Fast.tw891924789877830957 : Nat := 0
def PySem.W.Fast.tw6832903265626587513 : Nat := 0
def PySem.W.Fast.tw17798985667136432727 : Nat := 0
def PySem.W.Fast.tw5802347506778133220 : Nat := 0
def PySem.W.Fast.tw7890724163108126025 : Nat := 0
def PySem.W.Fast.tw18274254699361869339 : Nat := 0
def PySem.W.Fast.tw6170078573286081011 : Nat := 0
def PySem.W.Fast.tw15435846089487722340 : Nat := 0
def PySem.W.Fast.tw6776266942131920052 : Nat := 0
def PySem.W.Fast.tw16007299292314725824 : Nat := 0
def PySem.W.Fast.tw7753470052715662563 : Nat := 0
def PySem.W.Fast.tw9287939966830029502 : Nat := 0
def PySem.W.Fast.tw5329869892142712603 : Nat := 0
def PySem.W.Fast.tw3149593709144141246 : Nat := 0
def PySem.W.Fast.tw2577653336979527270 : Nat := 0
def PySem.W.Fast.tw5644665440221803331 : Nat := 0
def PySem.W.Fast.tw14600176179335090191 : Nat := 0
def PySem.W.Fast.tw3138807757178287821 : Nat := 0
def PySem.W.Fast.tw349058835496088103 : Nat := 0
def PySem.W.Fast.tw9788758550963293756 : Nat := 0
def PySem.W.Fast.tw3889714719852200925 : Nat := 0
def PySem.W.Fast.tw4441913997039745124 : Nat := 0
def PySem.W.Fast.tw10573135573340708532 : Nat := 0
def PySem.W.Fast.tw2105579838372956713 : Nat := 0
def PySem.W.Fast.tw10180455509728180349 : Nat := 0
def PySem.W.Fast.tw2912671874319408074 : Nat := 0
def PySem.W.Fast.tw10074333736964511181 : Nat := 0
def PySem.W.Fast.tw3398772299956478821 : Nat := 0
def PySem.W.Fast.tw7929762176091600931 : Nat := 0
def PySem.W.Fast.tw14297960165845817211 : Nat := 0
def PySem.W.Fast.tw16043344749768978366 : Nat := 0
def PySem.W.Fast.tw16880156749257098089 : Nat := 0
def PySem.W.Fast.tw17353096881775245665 : Nat := 0
def PySem.W.Fast.tw16531649727172973888 : Nat := 0
def PySem.W.Fast.tw7321336166489556317 : Nat := 0
def PySem.W.Fast.tw12273455959377548274 : Nat := 0
def PySem.W.Fast.tw13836904661059180845 : Nat := 0
def PySem.W.Fast.tw8253788563340342975 : Nat := 0
def PySem.W.Fast.tw9045996075191834834 : Nat := 0
def PySem.W.Fast.tw404898190662387665 : Nat := 0
def PySem.W.Fast.tw11821406855648550350 : Nat := 0
def PySem.W.Fast.tw13260599410783774120 : Nat := 0
def PySem.W.Fast.tw10135989882871057484 : Nat := 0
def PySem.W.Fast.tw14845666869581879329 : Nat := 0
def PySem.W.Fast.tw14382783738150414063 : Nat := 0
def PySem.W.Fast.tw17893197475468187807 : Nat := 0
def PySem.W.Fast.tw8911568441310386706 : Nat := 0
def PySem.W.Fast.tw16658377504343166665 : Nat := 0
def PySem.W.Fast.tw3988851622734371955 : Nat := 0
def PySem.W.Fast.tw6738017291778845907 : Nat := 0
def PySem.W.Fast.tw12602083149004959794 : Nat := 0
def PySem.W.Fast.tw14288183252959167611 : Nat := 0
def PySem.W.Fast.tw14882964707452289742 : Nat := 0
def PySem.W.Fast.tw12804711899651609829 : Nat := 0
def PySem.W.Fast.tw3072621925236134287 : Nat := 0
def PySem.W.Fast.tw9106896974686998462 : Nat := 0
def PySem.W.Fast.tw14819759938600890498 : Nat := 0
def PySem.W.Fast.tw18059347300983718919 : Nat := 0
def PySem.W.Fast.tw14567516757485370694 : Nat := 0
def PySem.W.Fast.tw11290081817867657662 : Nat := 0
def PySem.W.Fast.tw3336637691489735048 : Nat := 0
def PySem.W.Fast.tw8430302086852138375 : Nat := 0
def PySem.W.Fast.tw14939518934024960135 : Nat := 0
def PySem.W.Fast.tw15510804218713326435 : Nat := 0
def PySem.W.Fast.tw15019882917953092959 : Nat := 0
def PySem.W.Fast.tw14203401577035940668 : Nat := 0
def PySem.W.Fast.tw9762103808546065787 : Nat := 0
def PySem.W.Fast.tw10511645289714002343 : Nat := 0
def PySem.W.Fast.tw10690090033645074082 : Nat := 0
def PySem.W.Fast.tw10587089006680294443 : Nat := 0
def PySem.W.Fast.tw7927512901010067242 : Nat := 0
def PySem.W.Fast.tw2791133090134444030 : Nat := 0
def PySem.W.Fast.tw9382969413080147148 : Nat := 0
def PySem.W.Fast.tw6482329206336517178 : Nat := 0
def PySem.W.Fast.tw2058436422633256250 : Nat := 0
def PySem.W.Fast.tw13221677540498393569 : Nat := 0
def PySem.W.Fast.tw13423520204881533968 : Nat := 0
def PySem.W.Fast.tw13630697695686809912 : Nat := 0
def PySem.W.Fast.tw16497002578652989867 : Nat := 0
def PySem.W.Fast.tw1767262583419927125 : Nat := 0
def PySem.W.Fast.tw13346669514070395081 : Nat := 0
def PySem.W.Fast.tw3170798380736104051 : Nat := 0
def PySem.W.Fast.tw10124675094395687106 : Nat := 0
def PySem.W.Fast.tw11171939973140162852 : Nat := 0
def PySem.W.Fast.tw8180866303959914328 : Nat := 0
def PySem.W.Fast.tw9811753234349544140 : Nat := 0
def PySem.W.Fast.tw17686028268168828677 : Nat := 0
def PySem.W.Fast.tw13000098758789749297 : Nat := 0
def PySem.W.Fast.tw4027746332399860891 : Nat := 0
def PySem.W.Fast.tw6208911753783084095 : Nat := 0
def PySem.W.Fast.tw16727430496326664777 : Nat := 0
def PySem.W.Fast.tw9490673607927233136 : Nat := 0
def PySem.W.Fast.tw13025327986873630696 : Nat := 0
def PySem.W.Fast.tw11312972046104597068 : Nat := 0
def PySem.W.Fast.tw6354206733839413174 : Nat := 0
def PySem.W.Fast.tw6272138435051877921 : Nat := 0
def PySem.W.Fast.tw7168395438332744363 : Nat := 0
def PySem.W.Fast.tw15933177681271589920 : Nat := 0
def PySem.W.Fast.tw18240633041559141067 : Nat := 0
def PySem.W.Fast.tw10012879041590919203 : Nat := 0
def PySem.W.Fast.tw8463306074937868268 : Nat := 0
def PySem.W.Fast.tw9894127380134541874 : Nat := 0
def PySem.W.Fast.tw3305454406652746745 : Nat := 0
def PySem.W.Fast.tw12882461834397293427 : Nat := 0
def PySem.W.Fast.tw15500714145730180235 : Nat := 0
def PySem.W.Fast.tw17478661659590313745 : Nat := 0
def PySem.W.Fast.tw1264440853529630863 : Nat := 0
def PySem.W.Fast.tw7165179707535901538 : Nat := 0
def PySem.W.Fast.tw7059069256110449828 : Nat := 0
def PySem.W.Fast.tw4156820311493849070 : Nat := 0
def PySem.W.Fast.tw6405377461408210456 : Nat := 0
def PySem.W.Fast.tw8473574413832081764 : Nat := 0
def PySem.W.Fast.tw5286660619023245275 : Nat := 0
def PySem.W.Fast.tw8990971822364521807 : Nat := 0
def PySem.W.Fast.tw17233412146470633086 : Nat := 0
def PySem.W.Fast.tw8599795250519310891 : Nat := 0
def PySem.W.Fast.tw14353561273339306369 : Nat := 0
def PySem.W.Fast.tw2313619529518963347 : Nat := 0
def PySem.W.Fast.tw12684366729573222322 : Nat := 0
def PySem.W.Fast.tw13994613603711856449 : Nat := 0
def PySem.W.Fast.tw14436829594260320963 : Nat := 0
def PySem.W.Fast.tw15875932893034051178 : Nat := 0
def PySem.W.Fast.tw6858413378873230374 : Nat := 0
def PySem.W.Fast.tw16805835556685713789 : Nat := 0
def PySem.W.Fast.tw6338084730878989715 : Nat := 0
def PySem.W.Fast.tw14473509403810428808 : Nat := 0
def PySem.W.Fast.tw14031285178851810130 : Nat := 0
def PySem.W.Fast.tw3467121499501881386 : Nat := 0
def PySem.W.Fast.tw2672391463165793464 : Nat := 0
def PySem.W.Fast.tw7567019206532220170 : Nat := 0
def PySem.W.Fast.tw8419497694733493394 : Nat := 0
def PySem.W.Fast.tw6206172731136350102 : Nat := 0
def PySem.W.Fast.tw15034543072259051302 : Nat := 0
def PySem.W.Fast.tw11386803721833468313 : Nat := 0
def PySem.W.Fast.tw1534521404758784502 : Nat := 0
def PySem.W.Fast.tw690665455361490698 : Nat := 0
def PySem.W.Fast.tw1535886217922734513 : Nat := 0
def PySem.W.Fast.tw16657004112917934210 : Nat := 0
def PySem.W.Fast.tw11355445010334609579 : Nat := 0
def PySem.W.Fast.tw2404899945881227689 : Nat := 0
def PySem.W.Fast.tw9304394836267156740 : Nat := 0
def PySem.W.Fast.tw8412825902531634341 : Nat := 0
def PySem.W.Fast.tw11056376521704697373 : Nat := 0
def PySem.W.Fast.tw8134771231079368231 : Nat := 0
def PySem.W.Fast.tw6382322173398573224 : Nat := 0
def PySem.W.Fast.tw706043008454472106 : Nat := 0
def PySem.W.Fast.tw1560778070250798258 : Nat := 0
def PySem.W.Fast.tw1702266669017941254 : Nat := 0
def PySem.W.Fast.tw18029081725119593020 : Nat := 0
def PySem.W.Fast.tw3622377713373669353 : Nat := 0
def PySem.W.Fast.tw8174625095891397225 : Nat := 0
def PySem.W.Fast.tw16431878441002761835 : Nat := 0
def PySem.W.Fast.tw235056104234148343 : Nat := 0
def PySem.W.Fast.tw465538108159912723 : Nat := 0
def PySem.W.Fast.tw16373839713263843332 : Nat := 0
def PySem.W.Fast.tw13728386912292254823 : Nat := 0
def PySem.W.Fast.tw6534395999541350948 : Nat := 0
def PySem.W.Fast.tw9516160313724366674 : Nat := 0
def PySem.W.Fast.tw14220537902075102879 : Nat := 0
def PySem.W.Fast.tw3903055584940695718 : Nat := 0
def PySem.W.Fast.tw15523718948699273272 : Nat := 0
def PySem.W.Fast.tw15823460840333872173 : Nat := 0
def PySem.W.Fast.tw10447917463985764210 : Nat := 0
def PySem.W.Fast.tw110461191549754153 : Nat := 0
def PySem.W.Fast.tw9591015933512602474 : Nat := 0
def PySem.W.Fast.tw12815727171309752258 : Nat := 0
def PySem.W.Fast.tw4144550440478607874 : Nat := 0
def PySem.W.Fast.tw1319559736958140380 : Nat := 0
def PySem.W.Fast.tw15639535687984676142 : Nat := 0
def PySem.W.Fast.tw3877018403523406267 : Nat := 0
def PySem.W.Fast.tw5613335075275155258 : Nat := 0
def PySem.W.Fast.tw9394795277857259275 : Nat := 0
def PySem.W.Fast.tw16080797960347138724 : Nat := 0
def PySem.W.Fast.tw7199137267746284260 : Nat := 0
def PySem.W.Fast.tw3195032108182372636 : Nat := 0
def PySem.W.Fast.tw8086932917413629880 : Nat := 0
def PySem.W.Fast.tw555217883810103780 : Nat := 0
def PySem.W.Fast.tw6927462220353799367 : Nat := 0
def PySem.W.Fast.tw6931281968427166751 : Nat := 0
def PySem.W.Fast.tw4159900551867341302 : Nat := 0
def PySem.W.Fast.tw6490718666362529455 : Nat := 0
def PySem.W.Fast.tw9258239167720338410 : Nat := 0
def PySem.W.Fast.tw14432613529258407299 : Nat := 0
def PySem.W.Fast.tw13371210336323949899 : Nat := 0
def PySem.W.Fast.tw15701791747976656735 : Nat := 0
def PySem.W.Fast.tw15794014710374092453 : Nat := 0
def PySem.W.Fast.tw10149721680867088511 : Nat := 0
def PySem.W.Fast.tw8293000197989964891 : Nat := 0
def PySem.W.Fast.tw11762676339942521294 : Nat := 0
def PySem.W.Fast.tw12373396971787361188 : Nat := 0
def PySem.W.Fast.tw9552567940051865977 : Nat := 0
def PySem.W.Fast.tw8071965883005214935 : Nat := 0
def PySem.W.Fast.tw16629075180840000918 : Nat := 0
def PySem.W.Fast.tw6975277173901988989 : Nat := 0
def PySem.W.Fast.tw11124964556658835658 : Nat := 0
def PySem.W.Fast.tw13591626685523673878 : Nat := 0
def PySem.W.Fast.tw6697397374123573226 : Nat := 0
def PySem.W.Fast.tw1235723250969297015 : Nat := 0
def PySem.W.Fast.tw9139484452732904037 : Nat := 0
def PySem.W.Fast.tw10123726500116208413 : Nat := 0
def PySem.W.Fast.tw5451905699095242751 : Nat := 0
def PySem.W.Fast.tw5887109059852496428 : Nat := 0
def PySem.W.Fast.tw15848239141620375359 : Nat := 0
def PySem.W.Fast.tw13376895342277692640 : Nat := 0
def PySem.W.Fast.tw4740058383741065647 : Nat := 0
def PySem.W.Fast.tw17159740547938897194 : Nat := 0
def PySem.W.Fast.tw16883930082238581427 : Nat := 0
def PySem.W.Fast.tw7824382216726921791 : Nat := 0
def PySem.W.Fast.tw10978132656114457759 : Nat := 0
def PySem.W.Fast.tw9085457374916622316 : Nat := 0
def PySem.W.Fast.tw6438837334836879222 : Nat := 0
def PySem.W.Fast.tw7590650103562584084 : Nat := 0
def PySem.W.Fast.tw8389846483080350582 : Nat := 0
def PySem.W.Fast.tw14897477397088938491 : Nat := 0
def PySem.W.Fast.tw15790562867455118531 : Nat := 0
def PySem.W.Fast.tw15306884004084345386 : Nat := 0
def PySem.W.Fast.tw12673849369980930461 : Nat := 0
def PySem.W.Fast.tw7503551995921590245 : Nat := 0
def PySem.W.Fast.tw4518075759248166416 : Nat := 0
def PySem.W.Fast.tw2337979295573290702 : Nat := 0
def PySem.W.Fast.tw10439700069278718014 : Nat := 0
def PySem.W.Fast.tw10463217331099518564 : Nat := 0
def PySem.W.Fast.tw16337636585782163669 : Nat := 0
def PySem.W.Fast.tw17228946581157766699 : Nat := 0
def PySem.W.Fast.tw886391173256058819 : Nat := 0
def PySem.W.Fast.tw139258680421383443 : Nat := 0
def PySem.W.Fast.tw7350133193125436938 : Nat := 0
def PySem.W.Fast.tw12313285287882516855 : Nat := 0
def PySem.W.Fast.tw1962717097874401531 : Nat := 0
def PySem.W.Fast.tw13893680673455922255 : Nat := 0
def PySem.W.Fast.tw13297553160112024393 : Nat := 0
def PySem.W.Fast.tw6818631102192721385 : Nat := 0
def PySem.W.Fast.tw5039630000794901201 : Nat := 0
def PySem.W.Fast.tw17457062703816296226 : Nat := 0
def PySem.W.Fast.tw6945393256179829969 : Nat := 0
def PySem.W.Fast.tw5392402652333478680 : Nat := 0
def PySem.W.Fast.tw12596210582313542489 : Nat := 0
def PySem.W.Fast.tw10875965273935836593 : Nat := 0
def PySem.W.Fast.tw13654813694650498949 : Nat := 0
def PySem.W.Fast.tw13056117368248583806 : Nat := 0
def PySem.W.Fast.tw11353099369682342469 : Nat := 0
def PySem.W.Fast.tw3506583068789166395 : Nat := 0
def PySem.W.Fast.tw1601497161826923122 : Nat := 0
def PySem.W.Fast.tw10432343078094440570 : Nat := 0
def PySem.W.Fast.tw14611751865081789386 : Nat := 0
def PySem.W.Fast.tw3901415336534809560 : Nat := 0
def PySem.W.Fast.tw6292710919621026592 : Nat := 0
def PySem.W.Fast.tw559587264198967815 : Nat := 0
def PySem.W.Fast.tw6125477348273438519 : Nat := 0
def PySem.W.Fast.tw8523206089319015060 : Nat := 0
def PySem.W.Fast.tw2570549039510262131 : Nat := 0
def PySem.W.Fast.tw6909893664179362600 : Nat := 0
def PySem.W.Fast.tw8851483348612562101 : Nat := 0
def PySem.W.Fast.tw10237763781230853660 : Nat := 0
def PySem.W.Fast.tw13774299841342613145 : Nat := 0
def PySem.W.Fast.tw18363394938881884252 : Nat := 0
def PySem.W.Fast.tw8623237915455859905 : Nat := 0
def PySem.W.Fast.tw18153050080813884122 : Nat := 0
def PySem.W.Fast.tw6369135209198509535 : Nat := 0
def PySem.W.Fast.tw4752449399127765244 : Nat := 0
def PySem.W.Fast.tw7316357644568019700 : Nat := 0
def PySem.W.Fast.tw8167787076573383377 : Nat := 0
def PySem.W.Fast.tw17141070857623105500 : Nat := 0
def PySem.W.Fast.tw4906957205530637657 : Nat := 0
def PySem.W.Fast.tw18217811492361384949 : Nat := 0
def PySem.W.Fast.tw6651727035847157509 : Nat := 0
def PySem.W.Fast.tw1472731815811153826 : Nat := 0
def PySem.W.Fast.tw10917500266176780623 : Nat := 0
def PySem.W.Fast.tw7387942398402324547 : Nat := 0
def PySem.W.Fast.tw8967737661500003284 : Nat := 0
def PySem.W.Fast.tw2883167751039035303 : Nat := 0
def PySem.W.Fast.tw3938455209338930274 : Nat := 0
def PySem.W.Fast.tw11390423495859063333 : Nat := 0
def PySem.W.Fast.tw12276739095496165360 : Nat := 0
def PySem.W.Fast.tw1414957031222690429 : Nat := 0
def PySem.W.Fast.tw15634061586380696882 : Nat := 0
def PySem.W.Fast.tw14131876246992096030 : Nat := 0
def PySem.W.Fast.tw10126005045612849343 : Nat := 0
def PySem.W.Fast.tw5036297430317186029 : Nat := 0
def PySem.W.Fast.tw3040138812452838826 : Nat := 0
def PySem.W.Fast.tw16339331726504085532 : Nat := 0
def PySem.W.Fast.tw10272170843347870266 : Nat := 0
def PySem.W.Fast.tw202285618381008136 : Nat := 0
def PySem.W.Fast.tw5580699814091360639 : Nat := 0
def PySem.W.Fast.tw12248483311053336148 : Nat := 0
def PySem.W.Fast.tw2875620373442470100 : Nat := 0
def PySem.W.Fast.tw17708542304437283828 : Nat := 0
def PySem.W.Fast.tw3036028974780711313 : Nat := 0
def PySem.W.Fast.tw6287462874230958113 : Nat := 0
def PySem.W.Fast.tw10097997673529642903 : Nat := 0
def PySem.W.Fast.tw7889447179632904741 : Nat := 0
def PySem.W.Fast.tw1940779316184672121 : Nat := 0
def PySem.W.Fast.tw10889512855773471144 : Nat := 0
def PySem.W.Fast.tw406579889218628509 : Nat := 0
def PySem.W.Fast.tw5532174752871742189 : Nat := 0
def PySem.W.Fast.tw8859242809955025194 : Nat := 0
def PySem.W.Fast.tw4721735083922657048 : Nat := 0
def PySem.W.Fast.tw17490209163481522540 : Nat := 0
def PySem.W.Fast.tw8147516542686002252 : Nat := 0
def PySem.W.Fast.tw12470953222036642172 : Nat := 0
def PySem.W.Fast.tw8944223665784111010 : Nat := 0
def PySem.W.Fast.tw2747053171403846239 : Nat := 0
def PySem.W.Fast.tw2673993581183811565 : Nat := 0
def PySem.W.Fast.tw12442251029109324058 : Nat := 0
def PySem.W.Fast.tw14160268238876860819 : Nat := 0
def PySem.W.Fast.tw1067958893907996673 : Nat := 0
def PySem.W.Fast.tw7396186712494204719 : Nat := 0
def PySem.W.Fast.tw10191224515228446095 : Nat := 0
def PySem.W.Fast.tw16898084908425791913 : Nat := 0
def PySem.W.Fast.tw5068905372580766580 : Nat := 0
def PySem.W.Fast.tw16173702633961184953 : Nat := 0
def PySem.W.Fast.tw15493796067128108331 : Nat := 0
def PySem.W.Fast.tw10675107894407450968 : Nat := 0
def PySem.W.Fast.tw10416162184537295130 : Nat := 0
def PySem.W.Fast.tw729716848603579614 : Nat := 0
def PySem.W.Fast.tw1512604764806036746 : Nat := 0
def PySem.W.Fast.tw2069883400582402477 : Nat := 0
def PySem.W.Fast.tw2405254894428492862 : Nat := 0
def PySem.W.Fast.tw15591167518266326409 : Nat := 0
def PySem.W.Fast.tw3973525702411312966 : Nat := 0
def PySem.W.Fast.tw13260705249896270507 : Nat := 0
def PySem.W.Fast.tw16038925799773550851 : Nat := 0
def PySem.W.Fast.tw3071218739937059457 : Nat := 0
def PySem.W.Fast.tw5767725697520103398 : Nat := 0
def PySem.W.Fast.tw12963751736982141403 : Nat := 0
def PySem.W.Fast.tw3421440118416596626 : Nat := 0
def PySem.W.Fast.tw17277956639884221890 : Nat := 0
def PySem.W.Fast.tw7859476583306775595 : Nat := 0
def PySem.W.Fast.tw5590627314316610607 : Nat := 0
def PySem.W.Fast.tw8315322048576067909 : Nat := 0
def PySem.W.Fast.tw17990864928117846953 : Nat := 0
def PySem.W.Fast.tw5477653736844022614 : Nat := 0
def PySem.W.Fast.tw9736456262672747311 : Nat := 0
def PySem.W.Fast.tw104187580658983646 : Nat := 0
def PySem.W.Fast.tw5111253603254110680 : Nat := 0
def PySem.W.Fast.tw11569547658232172440 : Nat := 0
def PySem.W.Fast.tw1990106607333420884 : Nat := 0
def PySem.W.Fast.tw15580911722107334439 : Nat := 0
def PySem.W.Fast.tw3390007637053653295 : Nat := 0
def PySem.W.Fast.tw9337500879011694256 : Nat := 0
def PySem.W.Fast.tw1340846806533452874 : Nat := 0
def PySem.W.Fast.tw4119732291691600410 : Nat := 0
def PySem.W.Fast.tw16062918116597965131 : Nat := 0
def PySem.W.Fast.tw2414470703044547779 : Nat := 0
def PySem.W.Fast.tw10654407334159508948 : Nat := 0
def PySem.W.Fast.tw16129953938960808395 : Nat := 0
def PySem.W.Fast.tw6085717238407639466 : Nat := 0
def PySem.W.Fast.tw8003327666953772432 : Nat := 0
def PySem.W.Fast.tw17774681761517132898 : Nat := 0
def PySem.W.Fast.tw7371106862237615500 : Nat := 0
def PySem.W.Fast.tw16518226349304213260 : Nat := 0
def PySem.W.Fast.tw6562149747055941021 : Nat := 0
def PySem.W.Fast.tw9010277338790731696 : Nat := 0
def PySem.W.Fast.tw10910814047202063657 : Nat := 0
def PySem.W.Fast.tw7922215227612273890 : Nat := 0
def PySem.W.Fast.tw7070717791490416674 : Nat := 0
def PySem.W.Fast.tw6602941020016547992 : Nat := 0
def PySem.W.Fast.tw14183948707141503561 : Nat := 0
def PySem.W.Fast.tw9708659957354915071 : Nat := 0
def PySem.W.Fast.tw14918253265286320053 : Nat := 0
def PySem.W.Fast.tw14244395747083912636 : Nat := 0
def PySem.W.Fast.tw1183499229752240439 : Nat := 0
def PySem.W.Fast.tw9353535288295192667 : Nat := 0
def PySem.W.Fast.tw14301740947146847098 : Nat := 0
def PySem.W.Fast.tw8157272782435108234 : Nat := 0
def PySem.W.Fast.tw10868660661133344938 : Nat := 0
def PySem.W.Fast.tw15237144447158074282 : Nat := 0
def PySem.W.Fast.tw16078353739427830298 : Nat := 0
def PySem.W.Fast.tw17613535188000137245 : Nat := 0
def PySem.W.Fast.tw6763466036950800970 : Nat := 0
def PySem.W.Fast.tw4985597187491081073 : Nat := 0
def PySem.W.Fast.tw17779584007485119757 : Nat := 0
def PySem.W.Fast.tw5894382979986795726 : Nat := 0
def PySem.W.Fast.tw1277075462389313334 : Nat := 0
def PySem.W.Fast.tw2167171687240295630 : Nat := 0
def PySem.W.Fast.tw11412930430182087928 : Nat := 0
def PySem.W.Fast.tw9029781858477497861 : Nat := 0
def PySem.W.Fast.tw1732332438952713604 : Nat := 0
def PySem.W.Fast.tw8461310633643316619 : Nat := 0
def PySem.W.Fast.tw8229631501174827563 : Nat := 0
def PySem.W.Fast.tw8845727087154415906 : Nat := 0
def PySem.W.Fast.tw17796414231371109674 : Nat := 0
def PySem.W.Fast.tw10246412277711460516 : Nat := 0
def PySem.W.Fast.tw13365332110469109363 : Nat := 0
def PySem.W.Fast.tw7634048096908784984 : Nat := 0
def PySem.W.Fast.tw18360938617362312725 : Nat := 0
def PySem.W.Fast.tw9426106497209156471 : Nat := 0
def PySem.W.Fast.tw1421595574558414517 : Nat := 0
def PySem.W.Fast.tw18293020159425194467 : Nat := 0
def PySem.W.Fast.tw15937750630589152047 : Nat := 0
def PySem.W.Fast.tw14469378791300989214 : Nat := 0
def PySem.W.Fast.tw1834834014686653212 : Nat := 0
def PySem.W.Fast.tw16639335096871762583 : Nat := 0
def PySem.W.Fast.tw17103053004886611254 : Nat := 0
def PySem.W.Fast.tw11235742628964825893 : Nat := 0
def PySem.W.Fast.tw3373129870772063685 : Nat := 0
def PySem.W.Fast.tw18164912268612515797 : Nat := 0
def PySem.W.Fast.tw4831935870789689421 : Nat := 0
def PySem.W.Fast.tw6365036922206354321 : Nat := 0
def PySem.W.Fast.tw3489894594946180589 : Nat := 0
def PySem.W.Fast.tw7128750170370318109 : Nat := 0
def PySem.W.Fast.tw657115809719564172 : Nat := 0
def PySem.W.Fast.tw17165554430842763488 : Nat := 0
def PySem.W.Fast.tw9513736215288475604 : Nat := 0
def PySem.W.Fast.tw15414218848165340019 : Nat := 0
def PySem.W.Fast.tw4354017045925407891 : Nat := 0
def PySem.W.Fast.tw5879344747414013519 : Nat := 0
def PySem.W.Fast.tw13599790302700386477 : Nat := 0
def PySem.W.Fast.tw3175442603284388130 : Nat := 0
def PySem.W.Fast.tw17867913143001664191 : Nat := 0
def PySem.W.Fast.tw2632650264365454703 : Nat := 0
def PySem.W.Fast.tw6144496033236974210 : Nat := 0
def PySem.W.Fast.tw11459617747404572508 : Nat := 0
def PySem.W.Fast.tw6499292289586950997 : Nat := 0
def PySem.W.Fast.tw13998662454000780544 : Nat := 0
def PySem.W.Fast.tw1647470814662491582 : Nat := 0
def PySem.W.Fast.tw16045408282079755071 : Nat := 0
def PySem.W.Fast.tw16375201374398155529 : Nat := 0
def PySem.W.Fast.tw9483408912972178403 : Nat := 0
def PySem.W.Fast.tw6733663254383393837 : Nat := 0
def PySem.W.Fast.tw3420907691649272839 : Nat := 0
def PySem.W.Fast.tw1753280904026104020 : Nat := 0
def PySem.W.Fast.tw4304575285973352112 : Nat := 0
def PySem.W.Fast.tw16494165259037290371 : Nat := 0
def PySem.W.Fast.tw3628705897986934962 : Nat := 0
def PySem.W.Fast.tw8998296025560309840 : Nat := 0
def PySem.W.Fast.tw1935648958530604553 : Nat := 0
def PySem.W.Fast.tw961474370292352644 : Nat := 0
def PySem.W.Fast.tw18400785417755899429 : Nat := 0
def PySem.W.Fast.tw2065531184867933751 : Nat := 0
def PySem.W.Fast.tw10986464763829126587 : Nat := 0
def PySem.W.Fast.tw10042894274333912542 : Nat := 0
def PySem.W.Fast.tw16443757623590458346 : Nat := 0
def PySem.W.Fast.tw2932011268438194216 : Nat := 0
def PySem.W.Fast.tw55327993945269310 : Nat := 0
def PySem.W.Fast.tw2954173741318937659 : Nat := 0
def PySem.W.Fast.tw8781837064508507187 : Nat := 0
def PySem.W.Fast.tw17441392787108315178 : Nat := 0
def PySem.W.Fast.tw4140751102126774487 : Nat := 0
def PySem.W.Fast.tw6670616570632401792 : Nat := 0
def PySem.W.Fast.tw16279025804059629834 : Nat := 0
set_option maxRecDepth 100000 in
set_option maxHeartbeats 0 in
theorem PySem.Challenge.cw_slackchain_k51_what_is_a_sharing_holds : PySem.Challenge.rw_slackchain_k51_what_is_a_sharing.Holds := by
 w_on; o_law; k_head; (case hw => w_witness2)
 k_fill
 refine Prg.walk (l:=PySem.Challenge.rw_slackchain_k51_what_is_a_sharing) rfl rfl (fun w h Y => PySem.W.kIn_of Y) ?F
 case F =>
  intro w mg fa h KX G hmg
  refine' Prg.all_mk KX G hmg ?Bc3 ?BcK ?BcL ?Bc4 ?BcM ?Bc5 ?Bde ?Bdx ?Bcd ?BcN ?BcO ?a1 ?l1 ?c1 ?k1 ?a2 ?l2 ?c2 ?k2 ?a3 ?l3 ?c3 ?k3 ?a4 ?l4 ?c4 ?k4 ?a5 ?l5 ?c5 ?k5 ?a6 ?l6 ?c6 ?k6 ?a7 ?l7 ?c7 ?k7 ?a8 ?l8 ?c8 ?k8 ?a9 ?l9 ?c9 ?k9 ?a10 ?l10 ?c10 ?k10 ?a11 ?l11 ?c11 ?k11 ?a12 ?l12 ?c12 ?k12 ?a13 ?l13 ?c13 ?k13 ?a14 ?l14 ?c14 ?k14 ?a15 ?l15 ?c15 ?k15 ?a16 ?l16 ?c16 ?k16 ?a17 ?l17 ?c17 ?k17 ?a18 ?l18 ?c18 ?k18 ?a19 ?l19 ?c19 ?k19 ?a20 ?l20 ?c20 ?k20 ?a21 ?l21 ?c21 ?k21 ?a22 ?l22 ?c22 ?k22 ?a23 ?l23 ?c23 ?k23 ?a24 ?l24 ?c24 ?k24 ?a25 ?l25 ?c25 ?k25 ?a26 ?l26 ?c26 ?k26 ?a27 ?l27 ?c27 ?k27 ?a28 ?l28 ?c28 ?k28 ?a29 ?l29 ?c29 ?k29 ?a30 ?l30 ?c30 ?k30 ?a31 ?l31 ?c31 ?k31 ?a32 ?l32 ?c32 ?k32 ?a33 ?l33 ?c33 ?k33 ?a34 ?l34 ?c34 ?k34 ?a35 ?l35 ?c35 ?k35 ?a36 ?l36 ?c36 ?k36 ?a37 ?l37 ?c37 ?k37 ?a38 ?l38 ?c38 ?k38 ?a39 ?l39 ?c39 ?k39 ?a40 ?l40 ?c40 ?k40 ?a41 ?l41 ?c41 ?k41 ?a42 ?l42 ?c42 ?k42 ?a43 ?l43 ?c43 ?k43 ?a44 ?l44 ?c44 ?k44 ?z_abs ?z_isinstance ?z_len ?z_int ?z_bool ?z_tuple ?z_str ?z_range ?z_list ?z_min ?z_sorted ?z_all ?z_zip ?BaW ?Ba1 ?Bdm ?h_ZERO ?Bb7 ?BbR ?BbS ?Bcg ?BbT ?Bch ?Bc6 ?Bc7 ?Bc8 ?Bc9 ?Bdn ?Bdo ?Bdp ?Bdq ?Bcv ?Bcw ?Bcx ?Bcy ?BcP ?BcQ ?BcR ?BcS ?BcT ?BcU ?BcV ?BcW ?Bbi ?Bbj ?BbH ?BbI ?Ba2 ?Ba3 ?Bar ?Bas ?Ba4 ?Ba5 ?Bbk ?Bbl ?BbJ ?BbK ?BaX ?BaY ?Bbm ?Bbn ?BaZ ?Ba0 ?BbU ?BbV ?BbW ?BbX ?BbY ?BbZ ?Bb0 ?Bb1 ?Bb2 ?Bb3 ?Bci ?Bcj ?Bck ?Bcl ?Bcm ?Bcn ?Bco ?Bcp ?Bcq ?Ba7 ?Ba8 ?Ba9 ?Bba ?Bbb ?Bbp ?Bbq ?Bbr ?Bbs ?Bbt ?Bbu ?Bbv ?Bbw ?Bbx ?Bby ?Bbz ?BbA ?BbB
  (case Bc3 => k_is)
  (case BcK => k_is)
  (case BcL => k_is)
  (case Bc4 => k_is)
  (case BcM => k_is)
  (case Bc5 => k_is)
  (case Bde => k_is)
  (case Bdx => k_is)
  (case Bcd => k_is)
  (case BcN => k_is)
  (case BcO => k_is)
  (case a1 => k_is)
  (case l1 => k_is)
  (case c1 => k_is)
  (case k1 => k_is)
  (case a2 => k_is)
  (case l2 => k_is)
  (case c2 => k_is)
  (case k2 => k_is)
  (case a3 => k_is)
  (case l3 => k_is)
  (case c3 => k_is)
  (case k3 => k_is)
  (case a4 => k_is)
  (case l4 => k_is)
  (case c4 => k_is)
  (case k4 => k_is)
  (case a5 => k_is)
  (case l5 => k_is)
  (case c5 => k_is)
  (case k5 => k_is)
  (case a6 => k_is)
  (case l6 => k_is)
  (case c6 => k_is)
  (case k6 => k_is)
  (case a7 => k_is)
  (case l7 => k_is)
  (case c7 => k_is)
  (case k7 => k_is)
  (case a8 => k_is)
  (case l8 => k_is)
  (case c8 => k_is)
  (case k8 => k_is)
  (case a9 => k_is)
  (case l9 => k_is)
  (case c9 => k_is)
  (case k9 => k_is)
  (case a10 => k_is)
  (case l10 => k_is)
  (case c10 => k_is)
  (case k10 => k_is)
  (case a11 => k_is)
  (case l11 => k_is)
  (case c11 => k_is)
  (case k11 => k_is)
  (case a12 => k_is)
  (case l12 => k_is)
  (case c12 => k_is)
  (case k12 => k_is)
  (case a13 => k_is)
  (case l13 => k_is)
  (case c13 => k_is)
  (case k13 => k_is)
  (case a14 => k_is)
  (case l14 => k_is)
  (case c14 => k_is)
  (case k14 => k_is)
  (case a15 => k_is)
  (case l15 => k_is)
  (case c15 => k_is)
  (case k15 => k_is)
  (case a16 => k_is)
  (case l16 => k_is)
  (case c16 => k_is)
  (case k16 => k_is)
  (case a17 => k_is)
  (case l17 => k_is)
  (case c17 => k_is)
  (case k17 => k_is)
  (case a18 => k_is)
  (case l18 => k_is)
  (case c18 => k_is)
  (case k18 => k_is)
  (case a19 => k_is)
  (case l19 => k_is)
  (case c19 => k_is)
  (case k19 => k_is)
  (case a20 => k_is)
  (case l20 => k_is)
  (case c20 => k_is)
  (case k20 => k_is)
  (case a21 => k_is)
  (case l21 => k_is)
  (case c21 => k_is)
  (case k21 => k_is)
  (case a22 => k_is)
  (case l22 => k_is)
  (case c22 => k_is)
  (case k22 => k_is)
  (case a23 => k_is)
  (case l23 => k_is)
  (case c23 => k_is)
  (case k23 => k_is)
  (case a24 => k_is)
  (case l24 => k_is)
  (case c24 => k_is)
  (case k24 => k_is)
  (case a25 => k_is)
  (case l25 => k_is)
  (case c25 => k_is)
  (case k25 => k_is)
  (case a26 => k_is)
  (case l26 => k_is)
  (case c26 => k_is)
  (case k26 => k_is)
  (case a27 => k_is)
  (case l27 => k_is)
  (case c27 => k_is)
  (case k27 => k_is)
  (case a28 => k_is)
  (case l28 => k_is)
  (case c28 => k_is)
  (case k28 => k_is)
  (case a29 => k_is)
  (case l29 => k_is)
  (case c29 => k_is)
  (case k29 => k_is)
  (case a30 => k_is)
  (case l30 => k_is)
  (case c30 => k_is)
  (case k30 => k_is)
  (case a31 => k_is)
  (case l31 => k_is)
  (case c31 => k_is)
  (case k31 => k_is)
  (case a32 => k_is)
  (case l32 => k_is)
  (case c32 => k_is)
  (case k32 => k_is)
  (case a33 => k_is)
  (case l33 => k_is)
  (case c33 => k_is)
  (case k33 => k_is)
  (case a34 => k_is)
  (case l34 => k_is)
  (case c34 => k_is)
  (case k34 => k_is)
  (case a35 => k_is)
  (case l35 => k_is)
  (case c35 => k_is)
  (case k35 => k_is)
  (case a36 => k_is)
  (case l36 => k_is)
  (case c36 => k_is)
  (case k36 => k_is)
  (case a37 => k_is)
  (case l37 => k_is)
  (case c37 => k_is)
  (case k37 => k_is)
  (case a38 => k_is)
  (case l38 => k_is)
  (case c38 => k_is)
  (case k38 => k_is)
  (case a39 => k_is)
  (case l39 => k_is)
  (case c39 => k_is)
  (case k39 => k_is)
  (case a40 => k_is)
  (case l40 => k_is)
  (case c40 => k_is)
  (case k40 => k_is)
  (case a41 => k_is)
  (case l41 => k_is)
  (case c41 => k_is)
  (case k41 => k_is)
  (case a42 => k_is)
  (case l42 => k_is)
  (case c42 => k_is)
  (case k42 => k_is)
  (case a43 => k_is)
  (case l43 => k_is)
  (case c43 => k_is)
  (case k43 => k_is)
  (case a44 => k_is)
  (case l44 => k_is)
  (case c44 => k_is)
  (case k44 => k_is)
  (case z_abs => k_is)
  (case z_isinstance => k_is)
  (case z_len => k_is)
  (case z_int => k_is)
  (case z_bool => k_is)
  (case z_tuple => k_is)
  (case z_str => k_is)
  (case z_range => k_is)
  (case z_list => k_is)
  (case z_min => k_is)
  (case z_sorted => k_is)
  (case z_all => k_is)
  (case z_zip => k_is)
  (case BaW => k_is)
  (case Ba1 => k_is)
  (case Bdm => k_is)
  (case h_ZERO => k_is)
  (case Bb7 => k_exc)
  (case BbR => k_exc)
  (case BbS => k_exc)
  (case Bcg => k_exc)
  (case BbT => k_exc)
  (case Bch => k_exc)
  (case Bc6 => k_is)
  (case Bc7 => k_is)
  (case Bc8 => k_is)
  (case Bc9 => k_is)
  (case Bdn => k_is)
  (case Bdo => k_is)
  (case Bdp => k_is)
  (case Bdq => k_is)
  (case Bcv => k_is)
  (case Bcw => k_is)
  (case Bcx => k_is)
  (case Bcy => k_is)
  (case BcP => k_is)
  (case BcQ => k_is)
  (case BcR => k_is)
  (case BcS => k_is)
  (case BcT => k_is)
  (case BcU => k_is)
  (case BcV => k_is)
  (case BcW => k_is)
  (case Bbi => k_is)
  (case Bbj => k_is)
  (case BbH => k_is)
  (case BbI => k_is)
  (case Ba2 => k_is)
  (case Ba3 => k_is)
  (case Bar => k_is)
  (case Bas => k_is)
  (case Ba4 => k_is)
  (case Ba5 => k_is)
  (case Bbk => k_is)
  (case Bbl => k_is)
  (case BbJ => k_is)
  (case BbK => k_is)
  (case BaX => k_is)
  (case BaY => k_is)
  (case Bbm => k_is)
  (case Bbn => k_is)
  (case BaZ => k_is)
  (case Ba0 => k_is)
  (case BbU => k_is)
  (case BbV => k_is)
  (case BbW => k_is)
  (case BbX => k_is)
  (case BbY => k_is)
  (case BbZ => k_is)
  (case Bb0 => k_is)
  (case Bb1 => k_is)
  (case Bb2 => k_is)
  (case Bb3 => k_is)
  (case Bci => k_is)
  (case Bcj => k_is)
  (case Bck => k_is)
  (case Bcl => k_is)
  (case Bcm => k_is)
  (case Bcn => k_is)
  (case Bco => k_is)
  (case Bcp => k_is)
  (case Bcq => k_is)
  (case Ba7 => k_is)
  (case Ba8 => k_is)
  (case Ba9 => k_is)
  (case Bba => k_is)
  (case Bbb => k_is)
  (case Bbp => k_is)
  (case Bbq => k_is)
  (case Bbr => k_is)
  (case Bbs => k_is)
  (case Bbt => k_is)
  (case Bbu => k_is)
  (case Bbv => k_is)
  (case Bbw => k_is)
  (case Bbx => k_is)
  (case Bby => k_is)
  (case Bbz => k_is)
  (case BbA => k_is)
  (case BbB => k_is)
