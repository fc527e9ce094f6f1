import PyProof.Rows.All
import Wide.All
import OpenK.AllK
import Wide.FinOn
import Lean
import PyProof.EqAt
import PyProof.EqKinds
import PyProof.TupleCall
import PyProof.ZipIter
import PyProof.Rows.SetFrom
import PyProof.Rows.SortStr
import KE.KDictList
import PyProof.AttrMissHeap
import KE.KDictOf
import KE.KDictLaws
import KE.KRevIter
import PyProof.CollectIter
import PyProof.FactsAll.range_2
import PyProof.FactsAll.range_iterator_1
import PyProof.WalksEnum
import PyProof.EnumMake
import PyProof.Rows.Range3
import PySem.Challenge.RW_slackchain_k41_things_made_or_refused
set_option Elab.async false
set_option linter.all false
set_option maxRecDepth 100000
namespace L2
open PySem PySem.Spec PyProof.Rows
abbrev Key:=Sum Bool Str
def isBoolOf:Bool→Value→Bool
 | b, .bool c => b == c
 | _,_ => false
theorem Jc7 {b:Bool} {v:Value} (h:isBoolOf b v = true):v = .bool b:=by
 cases v <;> simp_all [isBoolOf]
def keyIs:Key→Value→Bool
 | .inl k,v => isBoolOf k v
 | .inr x,v => Value.isStrOf x v
def keyH (w:World):Key→Int
 | .inl k => hashInt (if k then 1 else 0)
 | .inr x => hashStr w x
theorem JaN:∀ {k:Key} {v:Value},keyIs k v = true→(∃ i,k = Sum.inl i∧v = Value.bool i) ∨ (∃ x t,k = Sum.inr x∧v = Value.str x t)
 | .inl i,v,h => .inl ⟨i,rfl,Jc7 h⟩
 | .inr x,v,h => by
  obtain ⟨t,e⟩:=Value.isStrOf_shape (x:=x) (v:=v) h
  exact .inr ⟨x,t,rfl,e⟩
theorem Jfn (i:Bool):keyIs (.inl i) (.bool i) = true:=by simp [keyIs,isBoolOf]
theorem Jf1 (x:Str) (t:Tok):keyIs (.inr x) (.str x t) = true:=by simp [keyIs,Value.isStrOf]
theorem Jiv (a b:Bool):decide ((Sum.inl a:Key) = Sum.inl b) = (a == b):=by cases a <;> cases b <;> rfl
theorem Jiy (a b:Str):decide ((Sum.inr a:Key) = Sum.inr b) = decide (a = b):=by
 by_cases e:a = b
 ·subst e; simp
 ·have h:¬ (Sum.inr a:Key) = Sum.inr b:=fun q => e (Sum.inr.inj q)
  rw [decide_eq_false h,decide_eq_false e]
theorem Jiw (a:Bool) (b:Str):decide ((Sum.inl a:Key) = Sum.inr b) = false:=decide_eq_false (fun q => nomatch q)
theorem Jix (a:Str) (b:Bool):decide ((Sum.inr a:Key) = Sum.inl b) = false:=decide_eq_false (fun q => nomatch q)
theorem JeG {prog:Program} {w:World} {A:Around} {E:Value→Shared→Prop} {s:Shared} {b:Bool} {Q:Int→Shared→Prop} (h:Q (hashInt (if b then 1 else 0)) { s with toks:=s.toks + 1 }) :
  wpAny (model prog w) A (pyHash (.bool b)) Q E s:=by
 have hr:=rawHash_range (if b then 1 else 0)
 have hT:s.TypeIs (.bool b) "bool":=rfl
 unfold pyHash
 have hv:[Value.bool b].any Value.onHeap = false:=rfl
 refine wpAny_bind ?_
 rw [cRoomFor,if_neg (by rw [hv]; exact Bool.false_ne_true)]; refine wpAny_pure ?_
 refine wpAny_bind (wpAny_specialOf hT F.slot_bool_hash.lookup ?_)
 show wpAny _ _ (if (some (Value.builtin "int.__hash__") == some Value.none) = true then _ else _) Q E s
 rw [if_neg (by rw [beq_builtin_none]; exact Bool.false_ne_true)]
 refine wpAny_bind (wpAny_specialOf hT F.slot_bool_hash.lookup ?_)
 show wpAny _ _ (callSpecialIfBoundUnlessNone? (.bool b) "__hash__" _ >>= _) Q E s
 refine wpAny_bind (wpAny_callSpecialIfBoundUnlessNone?_slot hT F.slot_bool_hash
  (wpAny_call_entry F.slot_bool_hash hT entry_int_hash
   (show wpAny _ _ (do ret (← mkInt (rawHash (if b then 1 else 0)))) _ _ s from wpAny_ret_mkInt ?_) (args_int_hash _)))
 show wpAny _ _ (if (decide (-(2:Int) ^ 63 ≤ rawHash (if b then 1 else 0)) && decide (rawHash (if b then 1 else 0) < 2 ^ 63)) = true then _ else _) Q E _
 rw [if_pos (by rw [decide_eq_true hr.1,decide_eq_true hr.2]; rfl)]
 exact wpAny_pure h
def JaJ (prog:Program) (w:World):PySem.KeyKind prog w Key where
 is:=keyIs
 hash:=keyH w
 inj:=fun v a b ha hb => by
  rcases JaN ha with ⟨i,rfl,rfl⟩ | ⟨x,t,rfl,rfl⟩
  ·rcases JaN hb with ⟨j,rfl,e⟩ | ⟨y,u,rfl,e⟩
   ·injection e with e1; rw [e1]
   ·exact nomatch e
  ·rcases JaN hb with ⟨j,rfl,e⟩ | ⟨y,u,rfl,e⟩
   ·exact nomatch e
   ·injection e with e1 _; rw [e1]
 byValue:=fun k v h => by
  rcases JaN h with ⟨i,rfl,rfl⟩ | ⟨x,t,rfl,rfl⟩ <;> rfl
 pyHash:=fun hv h => by
  rcases JaN hv with ⟨i,rfl,rfl⟩ | ⟨x,t,rfl,rfl⟩
  ·exact JeG h
  ·exact wpAny_pyHash_str h
 eqBool:=fun hu hv h => by
  rcases JaN hu with ⟨i,rfl,rfl⟩ | ⟨x,t,rfl,rfl⟩
  ·rcases JaN hv with ⟨j,rfl,rfl⟩ | ⟨y,u,rfl,rfl⟩
   ·rw [Jiv] at h; exact SeqAt.EqAt.bool_bool i j _ _ _ _ h
   ·rw [Jiw] at h; exact SeqAt.EqAt.bool_str i y u _ _ _ _ h
  ·rcases JaN hv with ⟨j,rfl,rfl⟩ | ⟨y,u,rfl,rfl⟩
   ·rw [Jix] at h; exact SeqAt.EqAt.str_bool x t j _ _ _ _ h
   ·rw [Jiy] at h; exact wpAny_eqBool_str h
 «strs»:=fun k x t v h => by
  rcases JaN h with ⟨i,rfl,e⟩ | ⟨y,u,rfl,e⟩
  ·exact nomatch e
  ·injection e with e1 _
   subst e1
   cases v <;> rfl
theorem Jd9 (prog:Program) (w:World) (i:Bool):(JaJ prog w).is (.inl i) (.bool i) = true:=Jfn i
theorem Jes (prog:Program) (w:World) (x:Str) (t:Tok):(JaJ prog w).is (.inr x) (.str x t) = true:=Jf1 x t
end L2
namespace L2
open PySem PySem.Spec PyProof.Rows
inductive V where
 | non | bl (b:Bool) | int (i:Int) | str (x:Str) | byt (b:Array UInt8) | flt (b:UInt64) | ref (a:Addr) | ty (n:String)
 deriving DecidableEq
def RelV:V→Value→Prop
 | .non,u => u = Value.none
 | .bl b,u => u = Value.bool b
 | .int i,u => ∃ t,u = Value.int i t
 | .str x,u => ∃ t,u = Value.str x t
 | .byt b,u => ∃ t,u = Value.bytes b t
 | .flt b,u => ∃ t,u = Value.float b t
 | .ref a,u => u = Value.ref a
 | .ty n,u => u = Value.type n
abbrev Vals:List V→List Value→Prop:=Paired RelV
theorem Vals.length {xs:List V} {us:List Value} (r:Vals xs us):xs.length = us.length:=Paired.length r
theorem Vals.get:∀ {xs:List V} {us:List Value} {i:Nat} {x:V},Vals xs us→xs[i]? = some x→∃ u,us[i]? = some u∧RelV x u
 | _,_,_,_, .nil,e => by simp at e
 | _,_,0,_, .cons r _,e => by simp at e; subst e; exact ⟨_,rfl,r⟩
 | _,_,i + 1,x, .cons _ t,e => by
  obtain ⟨u,h1,h2⟩:=Vals.get (i:=i) (x:=x) t (by simpa using e)
  exact ⟨u,by simpa using h1,h2⟩
theorem Vals.append:∀ {xs ys:List V} {us ws:List Value},Vals xs us→Vals ys ws→Vals (xs ++ ys) (us ++ ws)
 | _,_,_,_, .nil,s => s
 | _,_,_,_, .cons r t,s => .cons r (Vals.append t s)
theorem Vals.take:∀ {xs:List V} {us:List Value} (n:Nat),Vals xs us→Vals (xs.take n) (us.take n)
 | _,_,0,_ => .nil
 | _,_,_ + 1, .nil => .nil
 | _,_,n + 1, .cons r t => .cons r (Vals.take n t)
theorem Vals.drop:∀ {xs:List V} {us:List Value} (n:Nat),Vals xs us→Vals (xs.drop n) (us.drop n)
 | _,_,0,r => r
 | _,_,_ + 1, .nil => .nil
 | _,_,n + 1, .cons _ t => Vals.drop n t
def RelO:Option V→Option Value→Prop
 | some v,some u => RelV v u
 | none,none => True
 | _,_ => False
def KV {κ : Type}:List (κ × V)→List (κ × Value)→Prop:=Paired fun (p : κ × V) (q : κ × Value) => p.1 = q.1∧RelV p.2 q.2
def kV:Key→V
 | .inl i => .bl i
 | .inr x => .str x
inductive HO where
 | lst (xs:List V)
 | tup (xs:List V)
 | dK (kvs:List (Key × V)) | dT (kvs:List (List Key × V))
 | set (S:Int→Bool) (n:Nat)
 | ins (C dx:Addr) (fs:List (Str × V))
 | own (x:Addr)
 | xd (fs:List (Str × V))
 | met (f x:Addr)
 | rng (lo hi:Int)
 | frz (o:Obj) (u:HO)
 | tbl (ps:Array Value)
 | ext (φ : Heap→Prop)
abbrev Hp:=Addr→Option HO
def upd (H:Hp) (a:Addr) (o:HO):Hp:=fun b => if b = a then some o else H b
theorem Jak {H:Hp} {a:Addr} {o:HO}:upd H a o a = some o:=by unfold upd; rw [if_pos rfl]
theorem Jae {H:Hp} {a b:Addr} {o:HO} (h:b ≠ a):upd H a o b = H b:=by unfold upd; rw [if_neg h]
theorem ne_of {H:Hp} {a b:Addr} {o u:HO} (h:H a = some o) (h':H b = some u) (d:o ≠ u):a ≠ b:=by
 intro e; subst e; rw [h] at h'; exact d (Option.some.inj h')
theorem Jah {H:Hp} {a b:Addr} {o:HO} (h:H a = some o) (h':H b = none):a ≠ b:=by
 intro e; subst e; rw [h] at h'; cases h'
section
variable (P:Program) (w:World)
def ObjOk (H:Hp) (h:Heap) (a:Addr):HO→Prop
 | .lst xs => xs.length ≤ sizeLine∧∃ (its:List Value) (n:Nat),Vals xs its∧h.get? a = some { cls:=.type "list",data:=.seq its.toArray n }
 | .tup xs => xs.length ≤ sizeLine∧∃ its:List Value,Vals xs its∧IsTup h a its.toArray
 | .dK kvs => kvs.length ≤ sizeLine∧(a == sysModules) = false∧∃ vs,KV kvs vs∧h.DictOf (JaJ P w) a vs
 | .dT kvs => kvs.length ≤ sizeLine∧(a == sysModules) = false∧∃ xs:List (List Key × Addr × Value),
   Paired (fun (p:List Key × V) (q:List Key × Addr × Value) => p.1 = q.1∧H q.2.1 = some (.tup (p.1.map kV))∧RelV p.2 q.2.2) kvs xs ∧
   ∃ o es ep,h.get? a = some o∧o.ExactDict∧o.data = .dict es ep∧es.toList = xs.map (entryOfKey (tupleKind (JaJ P w)))∧(xs.map (·.1)).Nodup
 | .set S n => h.SetOf (intKind P w) a S n
 | .ins C dx fs => H dx = some (.own a)∧fs.length ≤ 1000∧dx ≠ a∧h.get? a = some (PySem.W.instObj C dx) ∧
   ∃ mA,h.Ns1 dx mA∧(∀ f,RelO (fs.lookup f) (mA f))∧PySem.Within mA (fs.map (·.1))
 | .own _ => ∃ o,h.get? a = some o
 | .xd fs => ∃ mA,h.Ns1 a mA∧∀ f,RelO (fs.lookup f) (mA f)
 | .rng lo hi => ∃ t u v,h.get? a = some { cls:=.type "range",data:=.fields #[.int lo t, .int hi u, .int 1 v] }
 | .frz o u => h.get? a = some o∧ObjOk H h a u
 | .tbl ps => h.get? a = some { cls:=.none,data:=.fields ps }
 | .met f x => h.get? a = some (PySem.W.methodObj (.ref f) (.ref x))
 | .ext φ => φ h∧(∃ o,h.get? a = some o)∧∀ h1 h2:Heap, φ h1→(∀ o,h1.get? a = some o→h2.get? a = some o)→φ h2
def HOk (H:Hp) (h:Heap):Prop:=∀ a o,H a = some o→ObjOk P w H h a o
end
section
variable {P:Program} {w:World} {H H':Hp} {h h':Heap} {a:Addr} {o:HO}
theorem ObjOk.lt (x:ObjOk P w H h a o):a < h.objs.size:=by
 cases o with
 | lst xs => obtain ⟨_,_,_,_,e⟩:=x; exact Heap.lt_size e
 | tup xs => obtain ⟨_,_,_,p⟩:=x; exact p.lt
 | dK kvs => obtain ⟨_,_,_,_,o,_,_,e,_⟩:=x; exact Heap.lt_size e
 | dT kvs => obtain ⟨_,_,_,_,o,_,_,e,_⟩:=x; exact Heap.lt_size e
 | set S n => obtain ⟨o,_,_,_,e,_⟩:=x; exact Heap.lt_size e
 | ins C dx fs => obtain ⟨_,_,_,e,_⟩:=x; exact Heap.lt_size e
 | own y => obtain ⟨_,e⟩:=x; exact Heap.lt_size e
 | xd fs => obtain ⟨_,⟨_,_,_,e,_⟩,_⟩:=x; exact Heap.lt_size e
 | rng lo hi => obtain ⟨_,_,_,e⟩:=x; exact Heap.lt_size e
 | frz ob u => obtain ⟨e,_⟩:=x; exact Heap.lt_size e
 | tbl ps => exact Heap.lt_size (show h.get? a = some _ from x)
 | met f y => exact Heap.lt_size (show h.get? a = some _ from x)
 | ext φ => obtain ⟨_,⟨_,e⟩,_⟩:=x; exact Heap.lt_size e
theorem Paired.mapP {α β : Type} {F G : α→β→Prop}:∀ {l₁ : List α} {l₂ : List β},Paired F l₁ l₂→(∀ a b,F a b→G a b)→Paired G l₁ l₂
 | _,_, .nil,_ => .nil
 | _,_, .cons r t,f => .cons (f _ _ r) (Paired.mapP t f)
theorem ObjOk.stay (x:ObjOk P w H h a o) (k:∀ b u,(b = a ∨ H b = some (.own a))→h.get? b = some u→h'.get? b = some u)
  (ho:∀ b,H b = some (.own a)→H' b = some (.own a)) (ht:∀ b xs,H b = some (.tup xs)→H' b = some (.tup xs)):ObjOk P w H' h' a o:=by
 induction o with
 | lst xs => obtain ⟨z,its,n,r,e⟩:=x; exact ⟨z,its,n,r,k _ _ (.inl rfl) e⟩
 | tup xs => obtain ⟨z,its,r,ob,e,c⟩:=x; exact ⟨z,its,r,ob,k _ _ (.inl rfl) e,c⟩
 | dK kvs => obtain ⟨z,y,vs,r,ob,es,ep,e,c⟩:=x; exact ⟨z,y,vs,r,ob,es,ep,k _ _ (.inl rfl) e,c⟩
 | dT kvs =>
  obtain ⟨z,y,xs,r,ob,es,ep,e,c⟩:=x
  exact ⟨z,y,xs,Paired.mapP r fun p q z => ⟨z.1,ht _ _ z.2.1,z.2.2⟩,ob,es,ep,k _ _ (.inl rfl) e,c⟩
 | set S n => obtain ⟨ob,es,ep,t,e,c⟩:=x; exact ⟨ob,es,ep,t,k _ _ (.inl rfl) e,c⟩
 | ins C dx fs =>
  obtain ⟨d,z,ne,e,mA,⟨od,es,ep,e2,c⟩,r⟩:=x
  exact ⟨ho _ d,z,ne,k _ _ (.inl rfl) e,mA,⟨od,es,ep,k _ _ (.inr d) e2,c⟩,r⟩
 | own y => obtain ⟨ob,e⟩:=x; exact ⟨ob,k _ _ (.inl rfl) e⟩
 | xd fs => obtain ⟨mA,⟨od,es,ep,e,c⟩,r⟩:=x; exact ⟨mA,⟨od,es,ep,k _ _ (.inl rfl) e,c⟩,r⟩
 | rng lo hi => obtain ⟨t,u,v,e⟩:=x; exact ⟨t,u,v,k _ _ (.inl rfl) e⟩
 | frz ob u ih => obtain ⟨e,q⟩:=x; exact ⟨k _ _ (.inl rfl) e,ih q⟩
 | tbl ps =>
  have e:h.get? a = some { cls:=.none,data:=.fields ps }:=x
  show h'.get? a = some { cls:=.none,data:=.fields ps }
  exact k a _ (.inl rfl) e
 | met f y =>
  have e:h.get? a = some (PySem.W.methodObj (.ref f) (.ref y)):=x
  show h'.get? a = some (PySem.W.methodObj (.ref f) (.ref y))
  exact k a _ (.inl rfl) e
 | ext φ => obtain ⟨p,⟨o,e⟩,st⟩:=x; exact ⟨st _ _ p fun o q => k _ _ (.inl rfl) q,⟨o,k _ _ (.inl rfl) e⟩,st⟩
theorem HOk.lt (x:HOk P w H h) (e:H a = some o):a < h.objs.size:=(x a o e).lt
theorem HOk.fresh (x:HOk P w H h) (e:h.objs.size ≤ a):H a = none:=by
 cases q:H a with
 | none => rfl
 | some u => exact absurd (Nat.lt_of_lt_of_le (x.lt q) e) (Nat.lt_irrefl _)
theorem HOk.kept (x:HOk P w H h) (k:∀ b u,h.get? b = some u→h'.get? b = some u):HOk P w H h':=fun a o e =>
 (x a o e).stay (fun b u _ q => k b u q) (fun _ q => q) fun _ _ q => q
theorem HOk.laid (x:HOk P w H h) (k:∀ b u,h.get? b = some u→h'.get? b = some u) (hp:h.objs.size ≤ a) (new:ObjOk P w (upd H a o) h' a o):HOk P w (upd H a o) h':=fun b u e => by
 have hn:=x.fresh hp
 by_cases hb:b = a
 ·subst hb; rw [Jak] at e; cases e; exact new
 ·rw [Jae hb] at e
  exact (x b u e).stay (fun c v _ q => k c v q) (fun c q => by rw [Jae (Jah q hn)]; exact q) fun c xs q => by rw [Jae (Jah q hn)]; exact q
end
def Rd (H:Hp) (a:Addr) (u:HO):Prop:=H a = some u ∨ ∃ o,H a = some (.frz o u)
theorem Rd.ok {P:Program} {w:World} {H:Hp} {h:Heap} {a:Addr} {u:HO} (r:Rd H a u) (x:HOk P w H h):ObjOk P w H h a u:=by
 rcases r with r | ⟨o,r⟩
 ·exact x a u r
 ·obtain ⟨_,q⟩:=x a _ r
  exact q
def Mut:Option HO→Prop
 | some (.lst _) => True
 | some (.dK _) => True
 | some (.dT _) => True
 | some (.set _ _) => True
 | some (.ins _ _ _) => True
 | some (.ext _) => True
 | _ => False
section
variable {P:Program} {w:World} {H:Hp} {h h':Heap} {x e:Addr} {o':HO}
theorem HOk.write (ok:HOk P w H h) (mu:Mut (H x)) (he:e = x ∨ H e = some (.own x)) (k:∀ b u,b ≠ e→h.get? b = some u→h'.get? b = some u) (heo:∃ u,h'.get? e = some u)
  (new:ObjOk P w (upd H x o') h' x o'):HOk P w (upd H x o') h':=fun b u q => by
 have nown:∀ c y,H c = some (.own y)→c ≠ x:=fun c y r z => by subst z; rw [r] at mu; exact mu
 have ntup:∀ c xs,H c = some (.tup xs)→c ≠ x:=fun c xs r z => by subst z; rw [r] at mu; exact mu
 by_cases hb:b = x
 ·subst hb; rw [Jak] at q; cases q; exact new
 ·rw [Jae hb] at q
  by_cases hbe:b = e
  ·have q':H b = some (.own x):=by
    rcases he with z | z
    ·exact absurd (hbe.trans z) hb
    ·rw [hbe]; exact z
   rw [q] at q'; cases q'
   obtain ⟨v,hv⟩:=heo
   exact ⟨v,by rw [hbe]; exact hv⟩
  ·refine (ok b u q).stay (fun c v hc r => k c v ?_ r) (fun c r => by rw [Jae (nown c b r)]; exact r) fun c xs r => by rw [Jae (ntup c xs r)]; exact r
   rcases hc with rfl | hc
   ·exact hbe
   ·rintro rfl
    rcases he with z | z
    ·exact nown c b hc z
    ·rw [hc] at z; cases z; exact hb rfl
end
structure Un (fs ex:List Addr) (H H':Hp) (h h':Heap):Prop where
 keep:∀ b o,h.get? b = some o→H b = none→b ∉ fs→b ∉ ex→h'.get? b = some o
 slot:∀ b o,h.get? b = some o→H b = none→b ∈ fs→b ∉ ex→∃ sl,h'.get? b = some { o with slots:=sl }
 free:∀ b o,h.get? b = some o→H b = none→b ∉ ex→H' b = none
 there:∀ b o,h.get? b = some o→b ∉ ex→∃ o',h'.get? b = some o'
 tups:∀ b xs,H b = some (.tup xs)→H' b = some (.tup xs)
 frzs:∀ b o u,H b = some (.frz o u)→H' b = some (.frz o u)
 tbls:∀ b ps,H b = some (.tbl ps)→∃ more,H' b = some (.tbl (ps ++ more))
section
variable {fs fs' ex ex':List Addr} {H H1 H2:Hp} {h h1 h2 h':Heap} {a x e:Addr} {o:HO}
theorem Un.any (u:Un fs ex H H1 h h1) {b:Addr} {ob:Obj} (q:h.get? b = some ob) (n:H b = none) (hx:b ∉ ex):∃ sl,h1.get? b = some { ob with slots:=sl }:=by
 by_cases hb:b ∈ fs
 ·exact u.slot b ob q n hb hx
 ·exact ⟨ob.slots,u.keep b ob q n hb hx⟩
theorem Un.trans (a:Un fs ex H H1 h h1) (b:Un fs ex H1 H2 h1 h2):Un fs ex H H2 h h2 where
 keep:=fun c ob q n hc hx => b.keep c ob (a.keep c ob q n hc hx) (a.free c ob q n hx) hc hx
 slot:=fun c ob q n hc hx => by
  obtain ⟨sl,e1⟩:=a.slot c ob q n hc hx
  obtain ⟨sl',e2⟩:=b.slot c _ e1 (a.free c ob q n hx) hc hx
  exact ⟨sl',e2⟩
 free:=fun c ob q n hx => by
  obtain ⟨o',e1⟩:=a.there c ob q hx
  exact b.free c o' e1 (a.free c ob q n hx) hx
 there:=fun c ob q hx => by
  obtain ⟨o',e1⟩:=a.there c ob q hx
  exact b.there c o' e1 hx
 tups:=fun c xs q => b.tups c xs (a.tups c xs q)
 frzs:=fun c ob xs q => b.frzs c ob xs (a.frzs c ob xs q)
 tbls:=fun c ps q => by
  obtain ⟨m1,e1⟩:=a.tbls c ps q
  obtain ⟨m2,e2⟩:=b.tbls c _ e1
  exact ⟨m1 ++ m2,by rw [e2,Array.append_assoc]⟩
theorem Un.kept (k:∀ b u,h.get? b = some u→h'.get? b = some u):Un fs ex H H h h' :=
 ⟨fun b ob q _ _ _ => k b ob q,fun b ob q _ _ _ => ⟨ob.slots,k b ob q⟩,fun _ _ _ n _ => n,fun b ob q _ => ⟨ob,k b ob q⟩,fun _ _ q => q,fun _ _ _ q => q,fun _ ps q => ⟨#[],by rw [q]; simp⟩⟩
theorem Un.refl:Un fs ex H H h h:=Un.kept fun _ _ q => q
theorem Un.laid (k:∀ b u,h.get? b = some u→h'.get? b = some u) (hp:h.objs.size ≤ a) (hn:H a = none):Un fs ex H (upd H a o) h h' where
 keep:=fun b u q _ _ _ => k b u q
 slot:=fun b u q _ _ _ => ⟨u.slots,k b u q⟩
 free:=fun b u q n _ => by rw [Jae (Nat.ne_of_lt (Nat.lt_of_lt_of_le (Heap.lt_size q) hp))]; exact n
 there:=fun b u q _ => ⟨u,k b u q⟩
 tups:=fun b xs q => by rw [Jae (Jah q hn)]; exact q
 frzs:=fun b u xs q => by rw [Jae (Jah q hn)]; exact q
 tbls:=fun b ps q => ⟨#[],by rw [Jae (Jah q hn),q]; simp⟩
theorem Un.write (mu:Mut (H x)) (he:e = x ∨ H e = some (.own x)) (k:∀ b u,b ≠ e→h.get? b = some u→h'.get? b = some u) (heo:∃ u,h'.get? e = some u):Un fs ex H (upd H x o) h h':=by
 have hx:∀ b,H b = none→b ≠ x:=fun b n z => by subst z; rw [n] at mu; exact mu
 have hb:∀ b,H b = none→b ≠ e:=fun b n z => by
  subst z
  rcases he with r | r
  ·exact hx b n r
  ·rw [n] at r; cases r
 have hm:∀ b u,H b = some u→¬ Mut (some u)→b ≠ x:=fun b u q nm z => by subst z; rw [q] at mu; exact nm mu
 refine ⟨fun b u q n _ _ => k b u (hb b n) q,fun b u q n _ _ => ⟨u.slots,k b u (hb b n) q⟩,fun b u q n _ => by rw [Jae (hx b n)]; exact n,fun b u q _ => ?_,
  fun b xs q => by rw [Jae (hm b _ q fun z => z)]; exact q,fun b u xs q => by rw [Jae (hm b _ q fun z => z)]; exact q,fun b ps q => ⟨#[],by rw [Jae (hm b _ q fun z => z),q]; simp⟩⟩
 by_cases hbe:b = e
 ·subst hbe; exact heo
 ·exact ⟨u,k b u hbe q⟩
end
def trk (h:Heap) (H:Hp):List Addr:=(List.range h.objs.size).filter fun a => (H a).isSome
def hidT (h:Heap) (H:Hp):Heap:=PySem.W.hideAll h (trk h H)
theorem JfX (h:Heap) (H:Hp):(hidT h H).objs.size = h.objs.size:=PySem.W.hideAll_size _ _
theorem JgT {h:Heap} {H:Hp} {b:Addr} {o:Obj} (e:h.get? b = some o) (n:H b = none):(hidT h H).get? b = some o :=
 PySem.W.hideAll_get _ e fun hm => by
  have q:(H b).isSome = true:=(List.mem_filter.mp hm).2
  rw [n] at q; simp at q
theorem JhV {h:Heap} {H:Hp} {b:Addr} {o:Obj} (e:(hidT h H).get? b = some o):h.get? b = some o∧H b = none:=by
 have e':h.get? b = some o:=PySem.W.of_hideAll (trk h H) e
 refine ⟨e', ?_⟩
 cases q:H b with
 | none => rfl
 | some x =>
  have hm:b ∈ trk h H:=List.mem_filter.mpr ⟨List.mem_range.mpr (Heap.lt_size e'),by simp [q]⟩
  have z:(hidT h H).get? b = none:=PySem.W.hideAll_none (trk h H) hm
  rw [z] at e; cases e
def Jhw (g h:Heap) (L:Addr):List (Addr × Obj):=(List.range h.objs.size).filterMap fun a => if a = L ∨ (g.get? a).isSome = true then none else (h.get? a).map fun o => (a,o)
def rest (g h:Heap) (L d:Addr):List (Addr × Obj):=(Jhw g h L).filter fun p => decide (p.1 ≠ d)
end L2
namespace L2
open PySem PySem.Spec PyProof.Rows
structure Mod (K:PySem.W.Frag) (mg:Str→Option Value) (base:Heap):Prop where
 kin:K.In base
 glob:base.Ns mainGlobals mg
 blt:∃ mb,base.Ns builtinsNs mb∧∀ x:Str,x ≠ "__name__"→mb x = bootBuiltins x
 nolimit:base.NoLimit
structure Cx where
 prog:Program
 w:World
 K:PySem.W.Frag
 mg:Str→Option Value
 base:Heap
 A:Around
 N:List Str
 s₀ : Shared
 H₀ : Hp
 env:Env
 outer:List Env
 stack:List Env
 ex:List Addr
 fn:Str→Bool
 calm:Bool
 pn:List (Addr × Obj)
 xe:Value→Shared→Prop
def frs (l:List Env):List Addr:=l.filterMap (·.frame)
abbrev Cx.fs (X:Cx):List Addr:=frs X.outer
def Vis (sc:Scope) (x:Str):Prop:=sc.names.lookup x = some .local ∨ sc.names.lookup x = some .cell ∨ sc.names.lookup x = some .free
def Loc (sc:Scope) (x:Str):Prop:=sc.names.lookup x = some .local ∨ sc.names.lookup x = some .cell
def Look (env:Env) (h:Heap) (m:Str→Option Value) (x:Str) (u:Value):Prop :=
 (env.kindOf x = some .local∧m x = some u) ∨ ((env.kindOf x = some .cell ∨ env.kindOf x = some .free)∧∃ c,env.cells.lookup x = some c∧h.IsCell c (some u))
structure Cx.Ok (X:Cx):Prop where
 mod:Mod X.K X.mg X.base
 kind:X.env.scope.kind = .function
 glob:X.env.globals = mainGlobals
 blt:X.env.builtins = builtinsNs
 above:X.s₀.heap.objs.size ≤ X.env.locals
 inj:∀ x y c,X.env.cells.lookup x = some c→X.env.cells.lookup y = some c→x = y
 has:∀ x,(X.env.kindOf x = some .cell ∨ X.env.kindOf x = some .free)→∃ c,X.env.cells.lookup x = some c
 cab:∀ x c,X.fn x = true→X.env.cells.lookup x = some c→X.s₀.heap.objs.size ≤ c
 hd:X.calm = true→X.A.handled = none
 frames:X.A.frames = some X.stack
 stk:X.stack = X.outer ∨ (X.stack = X.env :: X.outer∧X.env.frame = some X.env.locals)
 exf:∀ b ∈ X.ex,b ≠ X.env.locals∧∀ x c,X.env.cells.lookup x = some c→c ≠ b
 bs:∀ b o,X.base.get? b = some o→X.s₀.heap.get? b = some o∧X.H₀ b = none
 bsz:X.base.objs.size ≤ X.s₀.heap.objs.size
 noex:∀ b o,X.base.get? b = some o→b ∉ X.ex
 exfs:∀ b ∈ X.ex,b ∉ X.fs
 funs:X.s₀.heap.FunFrames X.base X.outer
 frf:∀ b ∈ X.fs,X.H₀ b = none
structure Inv (X:Cx) (pins:List (Addr × Obj)) (σ : List (Option V)) (H:Hp) (s:Shared):Prop where
 ok:X.Ok
 os:s.os = X.s₀.os
 bare:AllBare s.gens
 base:Un X.fs X.ex X.H₀ H X.s₀.heap s.heap
 loc:∃ m,s.heap.Ns X.env.locals m∧∀ (i:Nat) (x:Str) (v:V),X.N[i]? = some x→σ[i]? = some (some v)→Vis X.env.scope x→∃ u,RelV v u∧Look X.env s.heap m x u
 cell:∀ x c,X.env.cells.lookup x = some c→∃ v,s.heap.IsCell c v
 free:H X.env.locals = none
 freeC:∀ x c,X.env.cells.lookup x = some c→H c = none
 pin:∀ p ∈ X.pn ++ pins,s.heap.get? p.1 = some p.2∧H p.1 = none∧p.1 ≠ X.env.locals∧p.1 ∉ X.fs∧∀ v,p.2.data ≠ .cell v
 hok:HOk X.prog X.w H s.heap
 len : σ.length = X.N.length
section
variable {X:Cx} {pins:List (Addr × Obj)} {σ : List (Option V)} {H H':Hp} {s:Shared} {h':Heap}
theorem Cx.Ok.nofr (ok:X.Ok) {b:Addr} {o:Obj} (e:X.base.get? b = some o):b ∉ X.fs:=fun hb => by
 have:=(ok.funs.mem hb).1
 rw [e] at this; cases this
theorem Inv.bs (I:Inv X pins σ H s):∀ b o,X.base.get? b = some o→s.heap.get? b = some o∧H b = none:=fun b o e =>
 ⟨I.base.keep b o (I.ok.bs b o e).1 (I.ok.bs b o e).2 (I.ok.nofr e) (I.ok.noex b o e),I.base.free b o (I.ok.bs b o e).1 (I.ok.bs b o e).2 (I.ok.noex b o e)⟩
theorem Inv.bk (I:Inv X pins σ H s):∀ b o,X.base.get? b = some o→s.heap.get? b = some o:=fun b o e => (I.bs b o e).1
theorem Inv.mod (I:Inv X pins σ H s):Mod X.K X.mg X.base:=I.ok.mod
theorem Inv.kIn (I:Inv X pins σ H s):X.K.In s.heap:=I.ok.mod.kin.keeps I.bk
theorem Inv.fr (I:Inv X pins σ H s):∃ m,Fr X.base X.env.locals s.heap m :=
 let ⟨m,hn,_⟩:=I.loc
 ⟨m,hn,I.bk,Nat.le_trans I.ok.bsz I.ok.above⟩
theorem Inv.lt (I:Inv X pins σ H s):X.env.locals < s.heap.objs.size:=let ⟨_,hn,_⟩:=I.loc; hn.lt
theorem Inv.sz (I:Inv X pins σ H s):X.s₀.heap.objs.size ≤ s.heap.objs.size:=Nat.le_trans I.ok.above (Nat.le_of_lt I.lt)
theorem Inv.nofs (I:Inv X pins σ H s) {a:Addr} (h:s.heap.objs.size ≤ a):a ∉ X.fs:=fun hb => by
 obtain ⟨_,o,ho,_⟩:=I.ok.funs.mem hb
 exact absurd (Nat.lt_of_lt_of_le (Heap.lt_size ho) (Nat.le_trans I.sz h)) (Nat.lt_irrefl _)
theorem Inv.cne (I:Inv X pins σ H s):∀ x c,X.env.cells.lookup x = some c→c ≠ X.env.locals:=fun x c e z => by
 obtain ⟨v,o,ho,hd⟩:=I.cell x c e
 obtain ⟨m,⟨o',es,ep,ho',hd',_⟩,_⟩:=I.loc
 rw [z,ho'] at ho; cases ho; rw [hd'] at hd; cases hd
theorem Inv.funs (I:Inv X pins σ H s):s.heap.FunFrames X.base X.outer:=by
 have all:∀ (l:List Env),(∀ b ∈ frs l,b ∈ X.fs)→X.s₀.heap.FunFrames X.base l→s.heap.FunFrames X.base l:=by
  intro l
  induction l with
  | nil => intro _ _; trivial
  | cons env r ih =>
   intro hs hl
   obtain ⟨hk,⟨L,o,hf,hn,ho,hd⟩,hr⟩:=hl
   have hL:L ∈ X.fs:=hs L (by unfold frs; rw [List.filterMap_cons,hf]; exact List.mem_cons_self)
   obtain ⟨sl,e⟩:=I.base.slot L o ho (I.ok.frf L hL) hL fun z => I.ok.exfs L z hL
   exact ⟨hk,⟨L,_,hf,hn,e,hd⟩,ih (fun b hb => hs b (by unfold frs; rw [List.filterMap_cons,hf]; exact List.mem_cons_of_mem _ hb)) hr⟩
 exact all X.outer (fun _ hb => hb) I.ok.funs
theorem Inv.stack (I:Inv X pins σ H s):s.heap.FunFrames X.base X.stack:=by
 rcases I.ok.stk with e | ⟨e,hf⟩
 ·rw [e]; exact I.funs
 ·rw [e]
  obtain ⟨m,hn,_⟩:=I.loc
  refine .cons (by rw [I.ok.kind]; decide) hf hn ?_ I.funs
  exact Heap.get?_none_of_le (Nat.le_trans I.ok.bsz I.ok.above)
theorem Inv.stkSub (I:Inv X pins σ H s):∀ b ∈ frs X.stack,b ∈ X.env.locals :: X.fs:=fun b hb => by
 rcases I.ok.stk with e | ⟨e,hf⟩
 ·rw [e] at hb; exact List.mem_cons_of_mem _ hb
 ·rw [e] at hb
  unfold frs at hb
  rw [List.filterMap_cons,hf] at hb
  exact hb
theorem Inv.stkFree (I:Inv X pins σ H s):∀ b ∈ frs X.stack,H b = none:=fun b hb => by
 rcases List.mem_cons.mp (I.stkSub b hb) with e | hb
 ·rw [e]; exact I.free
 ·obtain ⟨_,o,ho,_⟩:=I.ok.funs.mem hb
  exact I.base.free b o ho (I.ok.frf b hb) fun z => I.ok.exfs b z hb
theorem Inv.step {g':Array GenState} {t':Nat} {d':Drawn} {ch:List Addr} (I:Inv X pins σ H s)
  (hch:∀ b ∈ ch,(b ∈ X.ex ∨ X.s₀.heap.objs.size ≤ b)∧b ≠ X.env.locals∧(∀ x c,X.env.cells.lookup x = some c→c ≠ b)∧∀ p ∈ X.pn ++ pins,p.1 ≠ b)
  (keep:∀ b o,b ≠ X.env.locals→b ∉ X.fs→b ∉ ch→s.heap.get? b = some o→H b = none→h'.get? b = some o)
  (slot:∀ b o,b ≠ X.env.locals→b ∈ X.fs→b ∉ ch→s.heap.get? b = some o→H b = none→∃ sl,h'.get? b = some { o with slots:=sl }) (free:∀ b o,b ∉ ch→s.heap.get? b = some o→H b = none→H' b = none)
  (there:∀ b o,b ∉ ch→s.heap.get? b = some o→∃ o',h'.get? b = some o')
  (tups:∀ b xs,H b = some (.tup xs)→H' b = some (.tup xs)) (frzs:∀ b o u,H b = some (.frz o u)→H' b = some (.frz o u)) (tbls:∀ b ps,H b = some (.tbl ps)→∃ more,H' b = some (.tbl (ps ++ more)))
  (ns:∀ m,s.heap.Ns X.env.locals m→h'.Ns X.env.locals m) (hok:HOk X.prog X.w H' h') (hg:AllBare g') :
  Inv X pins σ H' { s with heap:=h',gens:=g',drawn:=d',toks:=t' }:=by
 have neL:∀ b o,X.s₀.heap.get? b = some o→b ≠ X.env.locals:=fun b o e => Nat.ne_of_lt (Nat.lt_of_lt_of_le (Heap.lt_size e) I.ok.above)
 have neC:∀ b o,X.s₀.heap.get? b = some o→b ∉ X.ex→b ∉ ch:=fun b o e hx hb => by
  rcases (hch b hb).1 with z | z
  ·exact hx z
  ·exact absurd (Nat.lt_of_lt_of_le (Heap.lt_size e) z) (Nat.lt_irrefl _)
 have cellK:∀ x c,X.env.cells.lookup x = some c→∀ v,s.heap.IsCell c v→h'.IsCell c v:=fun x c e v ⟨o,ho,hd⟩ => by
  have nch:c ∉ ch:=fun z => (hch c z).2.2.1 x c e rfl
  by_cases hc:c ∈ X.fs
  ·obtain ⟨sl,q⟩:=slot c o (I.cne x c e) hc nch ho (I.freeC x c e)
   exact ⟨_,q,hd⟩
  ·exact ⟨o,keep c o (I.cne x c e) hc nch ho (I.freeC x c e),hd⟩
 refine ⟨I.ok,I.os,hg,⟨fun b o e n hb hx => ?_,fun b o e n hb hx => ?_,fun b o e n hx => ?_,fun b o e hx => ?_,fun b xs e => tups b xs (I.base.tups b xs e),fun b o xs e => frzs b o xs (I.base.frzs b o xs e),fun b ps e => ?_⟩, ?_,fun x c e => ?_, ?_,fun x c e => ?_,fun p hp => ?_,hok,I.len⟩
 ·exact keep b o (neL b o e) hb (neC b o e hx) (I.base.keep b o e n hb hx) (I.base.free b o e n hx)
 ·obtain ⟨sl,e1⟩:=I.base.slot b o e n hb hx
  obtain ⟨sl',e2⟩:=slot b _ (neL b o e) hb (neC b o e hx) e1 (I.base.free b o e n hx)
  exact ⟨sl',e2⟩
 ·obtain ⟨o',e1⟩:=I.base.there b o e hx
  exact free b o' (neC b o e hx) e1 (I.base.free b o e n hx)
 ·obtain ⟨o',e1⟩:=I.base.there b o e hx
  exact there b o' (neC b o e hx) e1
 ·obtain ⟨m1,e1⟩:=I.base.tbls b ps e
  obtain ⟨m2,e2⟩:=tbls b _ e1
  exact ⟨m1 ++ m2,by rw [e2,Array.append_assoc]⟩
 ·obtain ⟨m,hn,hl⟩:=I.loc
  refine ⟨m,ns m hn,fun i x v e1 e2 e3 => ?_⟩
  obtain ⟨u,r,l⟩:=hl i x v e1 e2 e3
  refine ⟨u,r, ?_⟩
  rcases l with l | ⟨k,c,e,z⟩
  ·exact .inl l
  ·exact .inr ⟨k,c,e,cellK x c e _ z⟩
 ·obtain ⟨v,z⟩:=I.cell x c e
  exact ⟨v,cellK x c e v z⟩
 ·obtain ⟨m,⟨o,_,_,ho,_⟩,_⟩:=I.loc
  exact free _ o (fun z => (hch _ z).2.1 rfl) ho I.free
 ·obtain ⟨v,o,ho,hd⟩:=I.cell x c e
  exact free c o (fun z => (hch c z).2.2.1 x c e rfl) ho (I.freeC x c e)
 ·obtain ⟨e,n,ne,nf,d⟩:=I.pin p hp
  have nch:p.1 ∉ ch:=fun z => (hch p.1 z).2.2.2 p hp rfl
  exact ⟨keep p.1 p.2 ne nf nch e n,free p.1 p.2 nch e n,ne,nf,d⟩
theorem Inv.un {t':Nat} (I:Inv X pins σ H s) (u:Un X.fs [] H H' s.heap h') (hok:HOk X.prog X.w H' h'):Inv X pins σ H' { s with heap:=h',toks:=t' }:=by
 obtain ⟨m,⟨o,es,ep,ho,r⟩,_⟩:=id I.loc
 obtain ⟨sl,hL⟩:=u.any ho I.free (by simp)
 exact I.step (g':=s.gens) (d':=s.drawn) (ch:=[]) (fun _ z => nomatch z) (fun b o _ hb _ e n => u.keep b o e n hb (by simp)) (fun b o _ hb _ e n => u.slot b o e n hb (by simp)) (fun b o _ e n => u.free b o e n (by simp)) (fun b o _ e => u.there b o e (by simp)) u.tups u.frzs u.tbls (fun m' hm => by
  obtain ⟨o',es',ep',ho',r'⟩:=hm
  rw [ho] at ho'; cases ho'
  exact ⟨_,es',ep',hL,r'⟩) hok I.bare
theorem Inv.call {g':Array GenState} {t':Nat} {d':Drawn} {ch:List Addr} (I:Inv X pins σ H s) (u:Un (frs X.stack) ch H H' s.heap h') (hok:HOk X.prog X.w H' h') (hg:AllBare g')
  (hch:∀ b ∈ ch,(b ∈ X.ex ∨ X.s₀.heap.objs.size ≤ b)∧b ≠ X.env.locals∧(∀ x c,X.env.cells.lookup x = some c→c ≠ b)∧∀ p ∈ X.pn ++ pins,p.1 ≠ b) :
  Inv X pins σ H' { s with heap:=h',gens:=g',drawn:=d',toks:=t' }:=by
 obtain ⟨m,⟨o,es,ep,ho,r⟩,_⟩:=id I.loc
 obtain ⟨sl,hL⟩:=u.any ho I.free fun z => (hch _ z).2.1 rfl
 exact I.step (ch:=ch) hch (fun b o hL hb hc e n => u.keep b o e n (fun z => (List.mem_cons.mp (I.stkSub b z)).elim hL hb) hc) (fun b o _ _ hc e n => u.any e n hc) (fun b o hc e n => u.free b o e n hc) (fun b o hc e => u.there b o e hc) u.tups u.frzs u.tbls (fun m' hm => by
  obtain ⟨o',es',ep',ho',r'⟩:=hm
  rw [ho] at ho'; cases ho'
  exact ⟨_,es',ep',hL,r'⟩) hok hg
theorem Inv.turned {t':Nat} {it:Addr} (I:Inv X pins σ H s) (k:∀ b o,b ≠ it→s.heap.get? b = some o→h'.get? b = some o) (hn:H it = none) (hL:it ≠ X.env.locals)
  (h1:it ∈ X.ex ∨ X.s₀.heap.objs.size ≤ it) (h2:∀ x c,X.env.cells.lookup x = some c→c ≠ it) (h3:∀ p ∈ X.pn ++ pins,p.1 ≠ it):Inv X pins σ H { s with heap:=h',toks:=t' }:=by
 have nit:∀ b u,H b = some u→b ≠ it:=fun b u e z => by rw [z,hn] at e; cases e
 refine I.step (g':=s.gens) (d':=s.drawn) (ch:=[it]) (fun b hb => ?_) (fun b o _ _ hc e _ => k b o (fun z => hc (by simp [z])) e) (fun b o _ _ hc e _ => ⟨o.slots,k b o (fun z => hc (by simp [z])) e⟩) (fun _ _ _ _ n => n)
  (fun b o hc e => ⟨o,k b o (fun z => hc (by simp [z])) e⟩) (fun _ _ e => e) (fun _ _ _ e => e) (fun b ps e => ⟨#[],by rw [e]; simp⟩) (fun m hm => ?_) (fun b u e => ?_) I.bare
 ·have e:b = it:=by simpa using hb
  subst e
  exact ⟨h1,hL,h2,h3⟩
 ·obtain ⟨o,es,ep,ho,r⟩:=hm
  exact ⟨o,es,ep,k _ o (Ne.symm hL) ho,r⟩
 ·refine (I.hok b u e).stay (fun c v hc q => k c v ?_ q) (fun _ q => q) fun _ _ q => q
  rcases hc with z | z
  ·rw [z]; exact nit b u e
  ·exact nit c _ z
theorem Inv.tok (I:Inv X pins σ H s) (t:Nat):Inv X pins σ H { s with toks:=t }:=I.un (h':=s.heap) (t':=t) Un.refl I.hok
theorem Inv.kept {t':Nat} (I:Inv X pins σ H s) (k:∀ b u,s.heap.get? b = some u→h'.get? b = some u):Inv X pins σ H { s with heap:=h',toks:=t' }:=I.un (Un.kept k) (I.hok.kept k)
theorem Inv.laid {a:Addr} {o:HO} {t':Nat} (I:Inv X pins σ H s) (k:∀ b u,s.heap.get? b = some u→h'.get? b = some u) (hp:s.heap.objs.size ≤ a) (new:ObjOk X.prog X.w (upd H a o) h' a o) :
  Inv X pins σ (upd H a o) { s with heap:=h',toks:=t' }:=I.un (Un.laid k hp (I.hok.fresh hp)) (I.hok.laid k hp new)
theorem Inv.write {x e:Addr} {o:HO} {t':Nat} (I:Inv X pins σ H s) (mu:Mut (H x)) (he:e = x ∨ H e = some (.own x)) (k:∀ b u,b ≠ e→s.heap.get? b = some u→h'.get? b = some u) (heo:∃ u,h'.get? e = some u)
  (new:ObjOk X.prog X.w (upd H x o) h' x o):Inv X pins σ (upd H x o) { s with heap:=h',toks:=t' }:=I.un (Un.write mu he k heo) (I.hok.write mu he k heo new)
theorem Inv.pins_of {pins':List (Addr × Obj)} (I:Inv X pins σ H s) (h:∀ p ∈ pins',s.heap.get? p.1 = some p.2∧H p.1 = none∧p.1 ≠ X.env.locals∧p.1 ∉ X.fs∧∀ v,p.2.data ≠ .cell v):Inv X pins' σ H s :=
 ⟨I.ok,I.os,I.bare,I.base,I.loc,I.cell,I.free,I.freeC,fun p hp => (List.mem_append.mp hp).elim (fun z => I.pin p (List.mem_append_left _ z)) (h p),I.hok,I.len⟩
theorem JdD {N:List Str} (hN:N.Nodup) {i j:Nat} {x:Str} (a:N[i]? = some x) (b:N[j]? = some x):i = j:=by
 obtain ⟨h1,e1⟩:=List.getElem?_eq_some_iff.mp a
 obtain ⟨h2,e2⟩:=List.getElem?_eq_some_iff.mp b
 exact (List.getElem_inj hN).mp (e1.trans e2.symm)
theorem Jgu {M:Model} {A:Around} {E:Value→Shared→Prop} {i:Nat} {x:Str} {v:V} {u:Value} {Q:Unit→Shared→Prop} (I:Inv X pins σ H s) (hN:X.N.Nodup) (hi:X.N[i]? = some x) (hx:Loc X.env.scope x) (r:RelV v u)
  (h:∀ s',Inv X pins (σ.set i (some v)) H s'→(∃ a,Heap.SameBut a s.heap s'.heap∧(a = X.env.locals ∨ X.env.cells.lookup x = some a))→Q () s') (hf:X.fn x = true ∨ X.env.scope.names.lookup x = some .local:=by first | exact .inl rfl | exact .inr rfl | assumption):wpAny M A (storeName X.env x u) Q E s:=by
 obtain ⟨m,hn,hl⟩:=id I.loc
 have hcls:(X.env.scope.kind == .class || (X.env.scope.kind == .module && X.env.locals != X.env.globals)) = false:=by rw [I.ok.kind]; rfl
 have hiσ : i < σ.length:=by rw [I.len]; exact (List.getElem?_eq_some_iff.mp hi).1
 have cne:=I.cne
 have tracked:∀ {a:Addr} {h':Heap},(∃ o,s.heap.get? a = some o∧H a = none)→Heap.SameBut a s.heap h'→HOk X.prog X.w H h':=fun {a h'} ha hs b ob e => by
  obtain ⟨_,_,hfree⟩:=ha
  refine (I.hok b ob e).stay (fun c w' hc q => (hs.2 c ?_).trans q) (fun _ q => q) fun _ _ q => q
  rintro rfl
  rcases hc with rfl | hc
  ·rw [hfree] at e; cases e
  ·rw [hfree] at hc; cases hc
 rcases hx with hk | hk
 ·refine wpAny_storeName_local hk hn (fun h' hn' hs => ?_) hcls
  obtain ⟨oL,_,_,hoL,_⟩:=id hn
  refine h _ ⟨I.ok,I.os,I.bare,⟨fun b o e n hb hx => ?_,fun b o e n hb hx => ?_,I.base.free,fun b o e hx => ?_,I.base.tups,I.base.frzs,I.base.tbls⟩,⟨_,hn',fun j y v' e1 e2 e3 => ?_⟩,fun y c e => ?_,I.free,I.freeC,fun p hp => ?_,tracked ⟨oL,hoL,I.free⟩ hs,by simpa using I.len⟩ ⟨_,hs, .inl rfl⟩
  ·exact (hs.2 b (Nat.ne_of_lt (Nat.lt_of_lt_of_le (Heap.lt_size e) I.ok.above))).trans (I.base.keep b o e n hb hx)
  ·obtain ⟨sl,e1⟩:=I.base.slot b o e n hb hx
   exact ⟨sl,(hs.2 b (Nat.ne_of_lt (Nat.lt_of_lt_of_le (Heap.lt_size e) I.ok.above))).trans e1⟩
  ·obtain ⟨o',e1⟩:=I.base.there b o e hx
   exact ⟨o',(hs.2 b (Nat.ne_of_lt (Nat.lt_of_lt_of_le (Heap.lt_size e) I.ok.above))).trans e1⟩
  ·by_cases hj:j = i
   ·subst hj
    rw [hi] at e1; cases e1
    rw [List.getElem?_set_self hiσ] at e2
    cases e2
    exact ⟨u,r, .inl ⟨hk,by simp⟩⟩
   ·rw [List.getElem?_set_ne (Ne.symm hj)] at e2
    obtain ⟨u',r',q⟩:=hl j y v' e1 e2 e3
    refine ⟨u',r', ?_⟩
    rcases q with ⟨k,e⟩ | ⟨k,c,e,z⟩
    ·refine .inl ⟨k, ?_⟩
     have : y ≠ x:=fun e => hj (JdD hN e1 (e ▸ hi))
     simp [this,e]
    ·exact .inr ⟨k,c,e,z.sameBut hs (cne y c e)⟩
  ·obtain ⟨w',z⟩:=I.cell y c e
   exact ⟨w',z.sameBut hs (cne y c e)⟩
  ·obtain ⟨e,n,ne,nf,d⟩:=I.pin p hp
   exact ⟨(hs.2 p.1 ne).trans e,n,ne,nf,d⟩
 ·have hfn:X.fn x = true:=by
   rcases hf with z | z
   ·exact z
   ·rw [z] at hk; cases hk
  obtain ⟨c,hc⟩:=I.ok.has x (.inl hk)
  obtain ⟨w',z⟩:=I.cell x c hc
  refine wpAny_storeName_cell I.ok.kind hk hc z (fun h' hc' hs => ?_)
  obtain ⟨oc,hoc,hocd⟩:=id z
  refine h { s with heap:=h' } ⟨I.ok,I.os,I.bare,⟨fun b o e n hb hx => ?_,fun b o e n hb hx => ?_,I.base.free,fun b o e hx => ?_,I.base.tups,I.base.frzs,I.base.tbls⟩,⟨m,hn.sameBut hs (Ne.symm (cne x c hc)),fun j y v' e1 e2 e3 => ?_⟩,fun y c' e => ?_,I.free,I.freeC,fun p hp => ?_,tracked ⟨oc,hoc,I.freeC x c hc⟩ hs,by simpa using I.len⟩ ⟨c,hs, .inr hc⟩
  ·exact (hs.2 b (Nat.ne_of_lt (Nat.lt_of_lt_of_le (Heap.lt_size e) (I.ok.cab x c hfn hc)))).trans (I.base.keep b o e n hb hx)
  ·obtain ⟨sl,e1⟩:=I.base.slot b o e n hb hx
   exact ⟨sl,(hs.2 b (Nat.ne_of_lt (Nat.lt_of_lt_of_le (Heap.lt_size e) (I.ok.cab x c hfn hc)))).trans e1⟩
  ·obtain ⟨o',e1⟩:=I.base.there b o e hx
   exact ⟨o',(hs.2 b (Nat.ne_of_lt (Nat.lt_of_lt_of_le (Heap.lt_size e) (I.ok.cab x c hfn hc)))).trans e1⟩
  ·by_cases hj:j = i
   ·subst hj
    rw [hi] at e1; cases e1
    rw [List.getElem?_set_self hiσ] at e2
    cases e2
    exact ⟨u,r, .inr ⟨.inl hk,c,hc,hc'⟩⟩
   ·rw [List.getElem?_set_ne (Ne.symm hj)] at e2
    obtain ⟨u',r',q⟩:=hl j y v' e1 e2 e3
    refine ⟨u',r', ?_⟩
    rcases q with q | ⟨k,c',e,z'⟩
    ·exact .inl q
    ·refine .inr ⟨k,c',e,z'.sameBut hs ?_⟩
     rintro rfl
     exact hj (JdD hN e1 (I.ok.inj _ _ _ e hc ▸ hi))
  ·by_cases hcc:c' = c
   ·subst hcc; exact ⟨_,hc'⟩
   ·obtain ⟨w2,z2⟩:=I.cell y c' e
    exact ⟨w2,z2.sameBut hs hcc⟩
  ·obtain ⟨e,n,ne,nf,d⟩:=I.pin p hp
   refine ⟨(hs.2 p.1 ?_).trans e,n,ne,nf,d⟩
   intro q
   rw [q,hoc] at e
   have q':oc = p.2:=Option.some.inj e
   exact d w' (by rw [← q']; exact hocd)
theorem JcM {M:Model} {A:Around} {E:Value→Shared→Prop} {i:Nat} {x:Str} {v:V} {u:Value} {Q:Unit→Shared→Prop} (I:Inv X pins σ H s) (hN:X.N.Nodup) (hi:X.N[i]? = some x) (hx:Loc X.env.scope x) (r:RelV v u)
  (h:∀ s',Inv X pins (σ.set i (some v)) H s'→Q () s') (hf:X.fn x = true ∨ X.env.scope.names.lookup x = some .local:=by first | exact .inl rfl | exact .inr rfl | assumption):wpAny M A (storeName X.env x u) Q E s :=
 Jgu I hN hi hx r (fun s' I' _ => h s' I') hf
theorem Inv.call' {s':Shared} {ch:List Addr} (I:Inv X pins σ H s) (ho:s'.os = s.os) (u:Un (frs X.stack) ch H H' s.heap s'.heap) (hok:HOk X.prog X.w H' s'.heap) (hg:AllBare s'.gens)
  (hch:∀ b ∈ ch,(b ∈ X.ex ∨ X.s₀.heap.objs.size ≤ b)∧b ≠ X.env.locals∧(∀ x c,X.env.cells.lookup x = some c→c ≠ b)∧∀ p ∈ X.pn ++ pins,p.1 ≠ b):Inv X pins σ H' s':=by
 obtain ⟨h',g',d',t',o'⟩:=s'
 have e:o' = s.os:=ho
 subst e
 exact I.call (g':=g') (t':=t') (d':=d') u hok hg hch
end
abbrev XK:=Value→Option Addr→Hp→Prop
abbrev St:=List (Option V)
abbrev VK:=V→Hp→Prop
abbrev TE:=St→Hp→VK→Prop
abbrev TT:=St→Hp→(Bool→Hp→Prop)→Prop
abbrev TA:=St→Hp→(List V→Hp→Prop)→Prop
structure Ends where
 nx:St→Hp→Prop
 rt:VK
 bk:St→Hp→Prop:=fun _ _ => False
 ct:St→Hp→Prop:=fun _ _ => False
abbrev TS:=Ends→St→Hp→Prop
def EP (X:Cx) (pins:List (Addr × Obj)) (σ : St) (Q:VK) (u:Value) (s':Shared):Prop:=∃ v H',Inv X pins σ H' s'∧RelV v u∧Q v H'
def TP (X:Cx) (pins:List (Addr × Obj)) (σ : St) (Q:Bool→Hp→Prop) (b:Bool) (s':Shared):Prop:=∃ H',Inv X pins σ H' s'∧Q b H'
def AP (X:Cx) (pins:List (Addr × Obj)) (σ : St) (Q:List V→Hp→Prop) (us:List Value) (s':Shared):Prop:=∃ vs H',Inv X pins σ H' s'∧Vals vs us∧Q vs H'
def SP (X:Cx) (pins:List (Addr × Obj)) (D:Ends) (f:Flow) (s':Shared):Prop :=
 match f with
 | .next => ∃ σ' H',Inv X pins σ' H' s'∧D.nx σ' H'
 | .brk => ∃ σ' H',Inv X pins σ' H' s'∧D.bk σ' H'
 | .cont => ∃ σ' H',Inv X pins σ' H' s'∧D.ct σ' H'
 | .ret u => ∃ v σ' H',Inv X pins σ' H' s'∧RelV v u∧D.rt v H'
def PE (X:Cx) (e:Expr) (t:TE):Prop :=
 ∀ (pins:List (Addr × Obj)) (s:Shared) (σ : St) (H:Hp) (Q:VK),Inv X pins σ H s→t σ H Q→wpAny (model X.prog X.w) X.A (eval e X.env) (EP X pins σ Q) X.xe s
def PT (X:Cx) (e:Expr) (t:TT):Prop :=
 ∀ (pins:List (Addr × Obj)) (s:Shared) (σ : St) (H:Hp) (Q:Bool→Hp→Prop),Inv X pins σ H s→t σ H Q→wpAny (model X.prog X.w) X.A (isTrue e X.env (eval e X.env)) (TP X pins σ Q) X.xe s
def PW (X:Cx) (e:Expr) (t:TT):Prop :=
 ∀ (whole:Sem Value) (pins:List (Addr × Obj)) (s:Shared) (σ : St) (H:Hp) (Q:Bool→Hp→Prop),Inv X pins σ H s→t σ H Q→wpAny (model X.prog X.w) X.A (isTrue e X.env whole) (TP X pins σ Q) X.xe s
theorem PW.pt {X:Cx} {e:Expr} {t:TT} (h:PW X e t):PT X e t:=h _
def PA (X:Cx) (es:List Expr) (t:TA):Prop :=
 ∀ (pos:Pos) (pins:List (Addr × Obj)) (s:Shared) (σ : St) (H:Hp) (Q:List V→Hp→Prop),Inv X pins σ H s→t σ H Q→wpAny (model X.prog X.w) X.A (spliced (backTo pos (starEach es X.env))) (AP X pins σ Q) X.xe s
def PS (X:Cx) (st:Stmt) (t:TS):Prop :=
 ∀ (pins:List (Addr × Obj)) (s:Shared) (σ : St) (H:Hp) (D:Ends),Inv X pins σ H s→t D σ H→wpAny (model X.prog X.w) X.A (exec st X.env) (SP X pins D) X.xe s
def PSs (X:Cx) (st:List Stmt) (t:TS):Prop :=
 ∀ (pins:List (Addr × Obj)) (s:Shared) (σ : St) (H:Hp) (D:Ends),Inv X pins σ H s→t D σ H→wpAny (model X.prog X.w) X.A (execs st X.env) (SP X pins D) X.xe s
theorem thn {α : Type} {t:Sem α} {Q Q' : α→Shared→Prop} {M:Model} {A:Around} {E:Value→Shared→Prop} {s:Shared} (h:wpAny M A t Q E s) (hQ:∀ a s,Q a s→Q' a s):wpAny M A t Q' E s:=wpAny_mono h hQ fun _ _ x => x
end L2
namespace L2
open PySem PySem.Spec PyProof.Rows
section
variable {X:Cx}
def tVar (i:Nat):TE:=fun σ H Q => ∃ v, σ[i]? = some (some v)∧Q v H
def tC (v:V):TE:=fun _ H Q => Q v H
theorem JiJ {i:Nat} {x:Str} {pos:Pos} (hN:X.N[i]? = some x) (hv:Vis X.env.scope x) (hd:(x == ("__debug__" : Str)) = false:=by decide) (hcd:(x == ("__classdict__" : Str)) = false:=by decide):PE X (.Name x pos) (tVar i):=by
 intro pins s σ H Q I h
 obtain ⟨v,e,h⟩:=h
 obtain ⟨m,hn,hl⟩:=I.loc
 obtain ⟨u,r,l⟩:=hl i x v hN e hv
 have fin:EP X pins σ Q u s:=⟨v,H,I,r,h⟩
 rcases l with ⟨hk,hm⟩ | ⟨hk,c,hc,hcell⟩
 ·exact wpAny_Name (wpAny_loadName_local I.ok.kind hk hn hm fin) hd
 ·rcases hk with hk | hk
  ·exact wpAny_Name (wpAny_loadName_cell I.ok.kind hk hc hcell fin) hd
  ·exact wpAny_Name (wpAny_loadName_free I.ok.kind hk hc hcell fin hcd) hd
theorem Jab {i j pos}:PE X (.Constant (.int i) j pos) (tC (.int i)):=fun _ _ _ H _ I h => wpAny_Constant_int ⟨.int i,H,I.tok _,⟨_,rfl⟩,h⟩
theorem pe_bl {b j pos}:PE X (.Constant (.bool b) j pos) (tC (.bl b)):=fun _ _ _ H _ I h => Constant_bool ⟨.bl b,H,I,rfl,h⟩
theorem Jbf {j pos}:PE X (.Constant .none j pos) (tC .non):=fun _ _ _ H _ I h => Constant_none ⟨.non,H,I,rfl,h⟩
theorem JaG {x j pos}:PE X (.Constant (.str x) j pos) (tC (.str x)):=fun _ _ _ H _ I h => Calls.Constant_str ⟨.str x,H,I.tok _,⟨_,rfl⟩,h⟩
def Gl (X:Cx) (x:Str):Prop:=X.env.kindOf x = some .globalImplicit
theorem JbA {E:Value→Shared→Prop} {pins:List (Addr × Obj)} {s:Shared} {σ : St} {H:Hp} {x:Str} {u:Value} {pos:Pos} {Q:Value→Shared→Prop} (I:Inv X pins σ H s) (hg:Gl X x) (hm:X.mg x = some u) (h:Q u s)
  (hd:(x == ("__debug__" : Str)) = false:=by decide):wpAny (model X.prog X.w) X.A (eval (.Name x pos) X.env) Q E s :=
 Calls.Name_function_global I.ok.kind hg (Calls.loadGlobal_global (by rw [I.ok.glob]; exact I.mod.glob.keeps I.bk) hm h) hd
theorem Jd6 {E:Value→Shared→Prop} {pins:List (Addr × Obj)} {s:Shared} {σ : St} {H:Hp} {x:Str} {u:Value} {pos:Pos} {Q:Value→Shared→Prop} (I:Inv X pins σ H s) (hg:Gl X x) (hm:X.mg x = none) (hv:bootBuiltins x = some u) (h:Q u s)
  (hn:x ≠ "__name__":=by decide) (hd:(x == ("__debug__" : Str)) = false:=by decide):wpAny (model X.prog X.w) X.A (eval (.Name x pos) X.env) Q E s:=by
 obtain ⟨mb,h1,h2⟩:=I.mod.blt
 exact Calls.Name_function_global I.ok.kind hg (Calls.loadGlobal_builtin (by rw [I.ok.glob]; exact I.mod.glob.keeps I.bk) hm (by rw [I.ok.blt]; exact h1.keeps I.bk) ((h2 x hn).trans hv) h) hd
theorem JaX {x:Str} {v:V} {u:Value} {pos:Pos} (hg:Gl X x) (hm:X.mg x = some u) (r:RelV v u) (hd:(x == ("__debug__" : Str)) = false:=by decide):PE X (.Name x pos) (tC v) :=
 fun _ _ _ H _ I h => JbA I hg hm ⟨v,H,I,r,h⟩ hd
theorem Jb6 {x:Str} {v:V} {u:Value} {pos:Pos} (hg:Gl X x) (hm:X.mg x = none) (hv:bootBuiltins x = some u) (r:RelV v u) (hn:x ≠ "__name__":=by decide) (hd:(x == ("__debug__" : Str)) = false:=by decide):PE X (.Name x pos) (tC v) :=
 fun _ _ _ H _ I h => Jd6 I hg hm hv ⟨v,H,I,r,h⟩ hn hd
variable {a b:Expr} {ta tb:TE} {pos:Pos}
def PC (X:Cx) (op:CmpOp) (a b:Expr) (t:TE):Prop :=
 ∀ (pins:List (Addr × Obj)) (s:Shared) (σ : St) (H:Hp) (Q:VK),Inv X pins σ H s→t σ H Q →
  wpAny (model X.prog X.w) X.A (eval a X.env) (fun v s₁ => wpAny (model X.prog X.w) X.A (eval b X.env) (fun u s₂ => wpAny (model X.prog X.w) X.A (compareOp op v u) (EP X pins σ Q) X.xe s₂) X.xe s₁) X.xe s
theorem JgY (b:Expr) {op:CmpOp} (h:op ≠ .In) (h2:op ≠ .NotIn):behindInMarks op b = false:=by
 have e1:(op == CmpOp.In) = false:=by cases op <;> first | rfl | exact absurd rfl h
 have e2:(op == CmpOp.NotIn) = false:=by cases op <;> first | rfl | exact absurd rfl h2
 cases b <;> simp [behindInMarks,e1,e2]
def tB (t:TE):TT:=fun σ H Q => t σ H fun x H1 => ∃ c,x = .bl c∧Q c H1
theorem Jck {op:CmpOp} {t:TE} (h:PC X op a b t) (h1:behindInMarks op b = false:=by first | exact JgY _ (by decide) (by decide) | rfl):PT X (.Compare a [op] [b] pos) (tB t):=by
 intro pins s σ H Q I hw
 refine wpAny_isTrue_Compare1 (thn (h pins s σ H _ I hw) fun v s1 h1 => thn h1 fun u s2 h2 => thn h2 fun c s3 ⟨x,H1,I1,r1,q1⟩ => ?_) h1
 obtain ⟨d,rfl,q⟩:=q1
 cases r1
 exact wpAny_truthy_bool ⟨H1,I1,q⟩
theorem Jbc {e:Expr} {t:TE} (h:PE X e t) (he:∀ whole,isTrue e X.env whole = (do let v ← whole; standAt e.pos; holding [v] (truthy v)):=by intro _; rfl):PT X e (tB t):=by
 intro pins s σ H Q I hw
 refine isTrue_plain (thn (h pins s σ H _ I hw) fun v s1 ⟨x,H1,I1,r1,q1⟩ => ?_) (he _)
 obtain ⟨d,rfl,q⟩:=q1
 cases r1
 exact wpAny_truthy_bool ⟨H1,I1,q⟩
variable {tA tB':TT} {rest:List Expr}
def tAnd (t u:TT):TT:=fun σ H Q => t σ H fun c H1 => if c = true then u σ H1 Q else Q false H1
def tOr (t u:TT):TT:=fun σ H Q => t σ H fun c H1 => if c = true then Q true H1 else u σ H1 Q
def tNot (t:TT):TT:=fun σ H Q => t σ H fun c H1 => Q (!c) H1
theorem Jgo (ha:PT X a tA):PW X (.BoolOp .And [a] pos) tA:=by
 intro wh pins s σ H Q I h
 refine isTrue_and (thn (ha pins s σ H Q I h) fun c s1 e => ?_)
 cases c with
 | true => exact isTrue_and_nil e
 | false => exact e
theorem Jby (ha:PT X a tA):PW X (.BoolOp .Or [a] pos) tA:=by
 intro wh pins s σ H Q I h
 refine isTrue_or (thn (ha pins s σ H Q I h) fun c s1 e => ?_)
 cases c with
 | false => exact isTrue_or_nil e
 | true => exact e
theorem Jgn (ha:PT X a tA) (hb:PW X (.BoolOp .And (b :: rest) pos) tB'):PW X (.BoolOp .And (a :: b :: rest) pos) (tAnd tA tB'):=by
 intro wh pins s σ H Q I h
 refine isTrue_and (thn (ha pins s σ H _ I h) fun c s1 ⟨H1,I1,q1⟩ => ?_)
 cases c with
 | true => exact hb wh pins s1 σ H1 Q I1 q1
 | false => exact ⟨H1,I1,q1⟩
theorem pw_or (ha:PT X a tA) (hb:PW X (.BoolOp .Or (b :: rest) pos) tB'):PW X (.BoolOp .Or (a :: b :: rest) pos) (tOr tA tB'):=by
 intro wh pins s σ H Q I h
 refine isTrue_or (thn (ha pins s σ H _ I h) fun c s1 ⟨H1,I1,q1⟩ => ?_)
 cases c with
 | true => exact ⟨H1,I1,q1⟩
 | false => exact hb wh pins s1 σ H1 Q I1 q1
theorem Jbb (ha:PT X a tA):PT X (.UnaryOp .Not a pos) (tNot tA):=by
 intro pins s σ H Q I h
 exact isTrue_not (ha pins s σ H (fun c H1 => Q (!c) H1) I h)
def tAndV (ta tb:TE):TE:=fun σ H Q => ta σ H fun x H1 => ∃ c,x = .bl c∧if c = true then tb σ H1 Q else Q (.bl false) H1
def tOrV (ta tb:TE):TE:=fun σ H Q => ta σ H fun x H1 => ∃ c,x = .bl c∧if c = true then Q (.bl true) H1 else tb σ H1 Q
def tNotV (ta:TE):TE:=fun σ H Q => ta σ H fun x H1 => ∃ c,x = .bl c∧Q (.bl (!c)) H1
theorem JcC {op} {t:TE} (h:PE X a t):PE X (.BoolOp op [a] pos) t:=fun pins s σ H Q I hw => BoolOp_one (h pins s σ H Q I hw)
theorem Jb0 (ha:PE X a ta) (hb:PE X (.BoolOp .And (b :: rest) pos) tb):PE X (.BoolOp .And (a :: b :: rest) pos) (tAndV ta tb):=by
 intro pins s σ H Q I h
 refine BoolOp_and (thn (ha pins s σ H _ I h) fun v s1 ⟨x,H1,I1,r1,q1⟩ => ?_)
 obtain ⟨c,rfl,q1⟩:=q1
 cases r1
 refine wpAny_truthy_bool ?_
 cases c with
 | true => exact hb pins s1 σ H1 Q I1 q1
 | false => exact ⟨.bl false,H1,I1,rfl,q1⟩
theorem pe_or (ha:PE X a ta) (hb:PE X (.BoolOp .Or (b :: rest) pos) tb):PE X (.BoolOp .Or (a :: b :: rest) pos) (tOrV ta tb):=by
 intro pins s σ H Q I h
 refine BoolOp_or (thn (ha pins s σ H _ I h) fun v s1 ⟨x,H1,I1,r1,q1⟩ => ?_)
 obtain ⟨c,rfl,q1⟩:=q1
 cases r1
 refine wpAny_truthy_bool ?_
 cases c with
 | false => exact hb pins s1 σ H1 Q I1 q1
 | true => exact ⟨.bl true,H1,I1,rfl,q1⟩
theorem Je6 (ha:PE X a ta):PE X (.UnaryOp .Not a pos) (tNotV ta):=by
 intro pins s σ H Q I h
 refine UnaryOp_ (thn (ha pins s σ H _ I h) fun v s1 ⟨x,H1,I1,r1,q1⟩ => ?_)
 obtain ⟨c,rfl,q1⟩:=q1
 cases r1
 exact not_of (wpAny_truthy_bool ⟨.bl (!c),H1,I1,rfl,q1⟩)
def tIf (t:TT) (ta tb:TE):TE:=fun σ H Q => t σ H fun c H1 => if c = true then ta σ H1 Q else tb σ H1 Q
end
end L2
namespace L2
open PySem PySem.Spec PyProof.Rows
def SqL (K:PySem.W.Frag) (H:Hp) (a:Addr) (xs:List V):Prop :=
 Rd H a (.lst xs) ∨
  ∃ (o:Obj) (its:Array Value) (n:Nat),K.lookup a = some o∧o.cls = .type "list"∧o.dict = none∧o.data = .seq its n∧its.size ≤ sizeLine∧Vals xs its.toList
def SqT (K:PySem.W.Frag) (H:Hp) (a:Addr) (xs:List V):Prop :=
 Rd H a (.tup xs) ∨
  ∃ (o:Obj) (its:Array Value) (n:Nat),K.lookup a = some o∧o.cls = .type "tuple"∧o.data = .seq its n∧its.size ≤ sizeLine∧Vals xs its.toList
def absV:Value→Option V
 | .none => some .non
 | .bool b => some (.bl b)
 | .int i _ => some (.int i)
 | .str x _ => some (.str x)
 | .bytes b _ => some (.byt b)
 | .float b _ => some (.flt b)
 | .ref a => some (.ref a)
 | .type n => some (.ty n)
 | _ => none
theorem RelV.abs {x:V} {u:Value} (r:RelV x u):absV u = some x:=by
 cases x with
 | non => cases r; rfl
 | bl _ => cases r; rfl
 | int _ => obtain ⟨t,rfl⟩:=r; rfl
 | str _ => obtain ⟨t,rfl⟩:=r; rfl
 | byt _ => obtain ⟨t,rfl⟩:=r; rfl
 | flt _ => obtain ⟨t,rfl⟩:=r; rfl
 | ref _ => cases r; rfl
 | ty _ => cases r; rfl
theorem RelV.inj {x y:V} {u:Value} (r:RelV x u) (q:RelV y u):x = y:=Option.some.inj (r.abs.symm.trans q.abs)
theorem Vals.inj:∀ {xs ys:List V} {us:List Value},Vals xs us→Vals ys us→xs = ys
 | _,_,_, .nil, .nil => rfl
 | _,_,_, .cons r t, .cons r' t' => by rw [r.inj r',Vals.inj t t']
section
variable {X:Cx} {pins:List (Addr × Obj)} {σ : St} {H:Hp} {s:Shared} {a:Addr} {xs ys:List V}
theorem SqL.of {K:PySem.W.Frag} (h:H a = some (.lst xs)):SqL K H a xs:=.inl (.inl h)
theorem SqT.of {K:PySem.W.Frag} (h:H a = some (.tup xs)):SqT K H a xs:=.inl (.inl h)
theorem Inv.list (I:Inv X pins σ H s) (h:SqL X.K H a xs):∃ its:List Value,Vals xs its∧PlainL s.heap a its.toArray∧xs.length ≤ sizeLine:=by
 rcases h with h | ⟨o,its,n,hk,hc,hd,hs,hz,r⟩
 ·obtain ⟨z,its,n,r,e⟩:=h.ok I.hok
  exact ⟨its,r,⟨_,n,e,rfl,rfl,rfl⟩,z⟩
 ·refine ⟨its.toList,r,⟨o,n,I.kIn a o hk,hc,hd,by simpa using hs⟩, ?_⟩
  have e:=r.length
  simp only [Array.length_toList] at e
  omega
theorem Inv.tuple (I:Inv X pins σ H s) (h:SqT X.K H a xs):∃ its:List Value,Vals xs its∧IsTup s.heap a its.toArray∧xs.length ≤ sizeLine:=by
 rcases h with h | ⟨o,its,n,hk,hc,hs,hz,r⟩
 ·obtain ⟨z,its,r,p⟩:=h.ok I.hok
  exact ⟨its,r,p,z⟩
 ·refine ⟨its.toList,r,⟨o,I.kIn a o hk,hc,n,by simpa using hs⟩, ?_⟩
  have e:=r.length
  simp only [Array.length_toList] at e
  omega
theorem Inv.list_inj (I:Inv X pins σ H s) (h:SqL X.K H a xs) (h':SqL X.K H a ys):xs = ys:=by
 obtain ⟨its,r,⟨o,n,e,_,_,d⟩,_⟩:=I.list h
 obtain ⟨its',r',⟨o',n',e',_,_,d'⟩,_⟩:=I.list h'
 rw [e] at e'; cases e'
 rw [d] at d'
 injection d' with d1 _
 have : its = its':=by simpa using congrArg Array.toList d1
 subst this
 exact r.inj r'
theorem Inv.tuple_inj (I:Inv X pins σ H s) (h:SqT X.K H a xs) (h':SqT X.K H a ys):xs = ys:=by
 obtain ⟨its,r,⟨o,e,_,n,d⟩,_⟩:=I.tuple h
 obtain ⟨its',r',⟨o',e',_,n',d'⟩,_⟩:=I.tuple h'
 rw [e] at e'; cases e'
 rw [d] at d'
 injection d' with d1 _
 have : its = its':=by simpa using congrArg Array.toList d1
 subst this
 exact r.inj r'
end
abbrev Cx.wish (X:Cx) (E:Value→Shared→Prop):Cx:={ X with xe:=E }
abbrev Cx.nox (X:Cx):Cx:=X.wish fun _ _ => False
theorem Cx.Ok.wish {X:Cx} (ok:X.Ok) (E:Value→Shared→Prop):(X.wish E).Ok :=
 ⟨ok.mod,ok.kind,ok.glob,ok.blt,ok.above,ok.inj,ok.has,ok.cab,ok.hd,ok.frames,ok.stk,ok.exf,ok.bs,ok.bsz,ok.noex,ok.exfs,ok.funs,ok.frf⟩
theorem Cx.Ok.unwish {X:Cx} {E:Value→Shared→Prop} (ok:(X.wish E).Ok):X.Ok :=
 ⟨ok.mod,ok.kind,ok.glob,ok.blt,ok.above,ok.inj,ok.has,ok.cab,ok.hd,ok.frames,ok.stk,ok.exf,ok.bs,ok.bsz,ok.noex,ok.exfs,ok.funs,ok.frf⟩
section
variable {X:Cx} {pins:List (Addr × Obj)} {σ : St} {H:Hp} {s:Shared} {E:Value→Shared→Prop}
theorem Inv.wish (I:Inv X pins σ H s) (E:Value→Shared→Prop):Inv (X.wish E) pins σ H s:=⟨I.ok.wish E,I.os,I.bare,I.base,I.loc,I.cell,I.free,I.freeC,I.pin,I.hok,I.len⟩
theorem Inv.unwish (I:Inv (X.wish E) pins σ H s):Inv X pins σ H s:=⟨I.ok.unwish,I.os,I.bare,I.base,I.loc,I.cell,I.free,I.freeC,I.pin,I.hok,I.len⟩
theorem SP.unwish {D:Ends} {f:Flow} {s':Shared} (h:SP (X.wish E) pins D f s'):SP X pins D f s':=by
 cases f with
 | next => obtain ⟨σ',H',I,q⟩:=h; exact ⟨σ',H',I.unwish,q⟩
 | brk => obtain ⟨σ',H',I,q⟩:=h; exact ⟨σ',H',I.unwish,q⟩
 | cont => obtain ⟨σ',H',I,q⟩:=h; exact ⟨σ',H',I.unwish,q⟩
 | ret u => obtain ⟨v, σ',H',I,r,q⟩:=h; exact ⟨v, σ',H',I.unwish,r,q⟩
theorem PSs.nox {st:List Stmt} {t:TS} (h:PSs X.nox st t):PSs X st t:=fun pins s σ H D I hw =>
 wpAny_mono (h pins s σ H D (I.wish _) hw) (fun _ _ q => q.unwish) fun _ _ z => False.elim z
end
section
variable {X:Cx} {st:Stmt} {rest:List Stmt} {t u:TS} {e:Expr} {te:TE} {pos:Pos}
def tNext:TS:=fun D σ H => D.nx σ H
def tSeq (t u:TS):TS:=fun D σ H => t { D with nx:=u D } σ H
theorem Jau:PSs X [] tNext:=fun _ _ σ H _ I h => wpAny_execs_nil ⟨σ,H,I,h⟩
theorem Jac (h1:PS X st t) (h2:PSs X rest u):PSs X (st :: rest) (tSeq t u):=by
 intro pins s σ H D I h
 refine wpAny_execs_cons (thn (h1 pins s σ H { D with nx:=u D } I h) fun f s1 q => ?_)
 cases f with
 | next =>
  obtain ⟨σ',H',I',q⟩:=q
  exact h2 pins s1 σ' H' D I' q
 | ret v => exact q
 | brk => exact q
 | cont => exact q
theorem Jai (h1:PS X st t):PSs X [st] t:=by
 intro pins s σ H D I h
 refine wpAny_execs_cons (thn (h1 pins s σ H D I h) fun f s1 q => ?_)
 cases f with
 | next => exact wpAny_execs_nil q
 | ret v => exact q
 | brk => exact q
 | cont => exact q
theorem Inv.quiet {pins:List (Addr × Obj)} {σ : St} {H:Hp} {s:Shared} (I:Inv X pins σ H s):interactive X.env = false:=by simp [interactive,I.ok.kind]
def tDrop (te:TE):TS:=fun D σ H => te σ H fun _ H1 => D.nx σ H1
theorem Ja7 (he:PE X e te) (hs:swapsWith e none pos.line X.env = pure false:=by rfl):PS X (.Expr e pos) (tDrop te):=by
 intro pins s σ H D I h
 exact wpAny_Expr_any (thn (he pins s σ H _ I h) fun v s1 ⟨x,H1,I1,r1,q1⟩ => ⟨σ,H1,I1,q1⟩) I.quiet hs
def tRet (te:TE):TS:=fun D σ H => te σ H D.rt
theorem Jao (he:PE X e te):PS X (.Return (some e) pos) (tRet te):=by
 intro pins s σ H D I h
 exact wpAny_Return_some (thn (he pins s σ H _ I h) fun v s1 ⟨x,H1,I1,r1,q1⟩ => ⟨x, σ,H1,I1,r1,q1⟩)
def tRetN:TS:=fun D _ H => D.rt .non H
def tIfS (c:TT) (t u:TS):TS:=fun D σ H => c σ H fun b H1 => if b = true then t D σ H1 else u D σ H1
theorem ps_if {c:Expr} {a b:List Stmt} {tc:TT} (hc:PT X c tc) (ha:PSs X a t) (hb:PSs X b u):PS X (.If c a b pos) (tIfS tc t u):=by
 intro pins s σ H D I h
 refine wpAny_If (thn (hc pins s σ H _ I h) fun d s1 ⟨H1,I1,q1⟩ => ?_)
 cases d with
 | true => exact ha pins s1 σ H1 D I1 q1
 | false => exact hb pins s1 σ H1 D I1 q1
end
abbrev TG:=V→St→Hp→(St→Hp→Prop)→Prop
abbrev TGs:=List V→St→Hp→(St→Hp→Prop)→Prop
def PG (X:Cx) (target:Expr) (t:TG):Prop :=
 ∀ (pins:List (Addr × Obj)) (s:Shared) (σ : St) (H:Hp) (v:V) (u:Value) (Q:St→Hp→Prop),Inv X pins σ H s→RelV v u→t v σ H Q →
  wpAny (model X.prog X.w) X.A (assign target X.env u) (fun _ s' => ∃ σ' H',Inv X pins σ' H' s'∧Q σ' H') X.xe s
def PGs (X:Cx) (ts:List Expr) (t:TGs):Prop :=
 ∀ (pins:List (Addr × Obj)) (s:Shared) (σ : St) (H:Hp) (vs:List V) (us:List Value) (Q:St→Hp→Prop),Inv X pins σ H s→Vals vs us→t vs σ H Q →
  wpAny (model X.prog X.w) X.A (assignInOrder ((assignEach ts X.env).map (·.2)) us) (fun _ s' => ∃ σ' H',Inv X pins σ' H' s'∧Q σ' H') X.xe s
section
variable {X:Cx} {pos:Pos}
def gName (i:Nat):TG:=fun v σ H Q => Q (σ.set i (some v)) H
theorem JaR {i:Nat} {x:Str} (hN:X.N.Nodup) (hi:X.N[i]? = some x) (hx:Loc X.env.scope x) (hf:X.fn x = true ∨ X.env.scope.names.lookup x = some .local:=by first | exact .inl rfl | exact .inr rfl | assumption):PG X (.Name x pos) (gName i):=by
 intro pins s σ H v u Q I r h
 exact wpAny_assign_Name (JcM I hN hi hx r (fun s' I' => ⟨_,H,I',h⟩) hf)
def gNil:TGs:=fun vs σ H Q => vs = []∧Q σ H
def gCons (t:TG) (u:TGs):TGs:=fun vs σ H Q => ∃ v r,vs = v :: r∧t v σ H fun σ' H' => u r σ' H' Q
theorem JdL:PGs X [] gNil:=by
 intro pins s σ H vs us Q I r h
 obtain ⟨e,h⟩:=h
 subst e
 cases r
 exact assignInOrder_nil ⟨σ,H,I,h⟩
theorem Jbs {e:Expr} {es:List Expr} {t:TG} {u:TGs} (h1:PG X e t) (h2:PGs X es u)
  (hs:(assignEach (e :: es) X.env).map (·.2) = assign e X.env :: (assignEach es X.env).map (·.2):=by rfl):PGs X (e :: es) (gCons t u):=by
 intro pins s σ H vs us Q I r h
 obtain ⟨v,vr,e1,h⟩:=h
 subst e1
 cases r with
 | cons r rr =>
  rw [hs]
  refine assignInOrder_cons (thn (h1 pins s σ H _ _ _ I r h) fun _ s1 ⟨σ1,H1,I1,q1⟩ => ?_)
  exact h2 pins s1 σ1 H1 _ _ Q I1 rr q1
def gTup (K:PySem.W.Frag) (n:Nat) (t:TGs):TG:=fun v σ H Q => ∃ a xs,v = .ref a∧SqT K H a xs∧xs.length = n∧t xs σ H Q
theorem Je7 {es:List Expr} {k:Nat} {t:TGs} {n:Nat} (hc:X.calm = true) (h:PGs X es t)
  (hn:(assignEach es X.env).length = n:=by rfl) (hst:(assignEach es X.env).findIdx? (·.1) = none:=by rfl):PG X (.Tuple es k pos) (gTup X.K n t):=by
 intro pins s σ H v u Q I r hw
 obtain ⟨a,xs,e1,hq,hl,hw⟩:=hw
 subst e1
 cases r
 obtain ⟨its,rv,ht,hz⟩:=I.tuple hq
 refine assign_Tuple_tuple (I.ok.hd hc) ht (by simp [hn, ← hl,rv.length]) hst fun h' hx => ?_
 have I1:Inv X pins σ H { s with heap:=h' }:=I.kept (t':=s.toks) fun b o e => hx b o (Nat.ne_of_lt (Heap.lt_size e)) e
 exact h pins _ σ H xs _ Q I1 (by simpa using rv) hw
def tAsg (te:TE) (g:TG):TS:=fun D σ H => te σ H fun x H1 => g x σ H1 D.nx
theorem Jho {tg e:Expr} {te:TE} {g:TG} (he:PE X e te) (hg:PG X tg g) (hs:swapsWithSole [tg] e pos.line X.env = pure false:=by rfl) (hw:swappedStores [tg] e X.env = pure none:=by rfl)
  (h1:(assignEach [tg] X.env).map (·.2) = [assign tg X.env]:=by rfl):PS X (.Assign [tg] e pos) (tAsg te g):=by
 intro pins s σ H D I h
 refine wpAny_Assign_stores (thn (he pins s σ H _ I h) fun v s1 ⟨x,H1,I1,r1,q1⟩ => ?_) hs hw
 rw [h1]
 exact thn (hg pins s1 σ H1 x v _ I1 r1 q1) fun _ s2 q => q
theorem Jar {i:Nat} {x:Str} {e:Expr} {te:TE} {pos':Pos} (hN:X.N.Nodup) (hi:X.N[i]? = some x) (hx:Loc X.env.scope x) (he:PE X e te) (hs:swapsWith e (some (.Name x pos')) pos.line X.env = pure false:=by rfl) (hf:X.fn x = true ∨ X.env.scope.names.lookup x = some .local:=by first | exact .inl rfl | exact .inr rfl | assumption) :
  PS X (.Assign [.Name x pos'] e pos) (tAsg te (gName i)):=by
 intro pins s σ H D I h
 refine wpAny_Assign_Name (thn (he pins s σ H _ I h) fun v s1 ⟨y,H1,I1,r1,q1⟩ => ?_) hs
 exact JcM I1 hN hi hx r1 (fun s2 I2 => ⟨_,H1,I2,q1⟩) hf
end
section
variable {X:Cx} {pos:Pos}
def JiW (c:TT) (tb:TS):TS:=fun D σ H => ∃ W:Nat→St→Hp→Prop,(∃ m,W m σ H)∧∀ m σ H,W m σ H →
 c σ H fun b H1 => if b = true then ∃ N:St→Hp→Prop,(∀ σ' H',N σ' H'→∃ m',m' < m∧W m' σ' H')∧tb { D with nx:=N,ct:=N,bk:=D.nx } σ H1 else D.nx σ H1
theorem JdN {c:Expr} {body:List Stmt} {tc:TT} {tb:TS} (hp:PassesOwn (model X.prog X.w) X.A X.env X.xe) (hc:PT X c tc) (hb:PSs X body tb):PS X (.While c body [] pos) (JiW tc tb):=by
 intro pins s σ H D I h
 obtain ⟨W,⟨m0,w0⟩,turn⟩:=h
 refine wpAny_While (codeAny_whileLoop (fun n s' => ∃ σ' H',Inv X pins σ' H' s'∧W n σ' H') ?_ m0 ⟨σ,H,I,w0⟩)
 rintro n s1 ⟨σ1,H1,I1,w1⟩
 refine wpAny_passesOwn hp (thn (hc pins s1 σ1 H1 _ I1 (turn n σ1 H1 w1)) fun b s2 ⟨H2,I2,q2⟩ => ?_)
 cases b with
 | true =>
  obtain ⟨N,hN,q2⟩:=q2
  rw [if_pos rfl]
  refine wpAny_passesOwn hp (thn (hb pins s2 σ1 H2 _ I2 q2) fun f s3 q3 => ?_)
  cases f with
  | next =>
   obtain ⟨σ3,H3,I3,n3⟩:=q3
   obtain ⟨m',hm,w3⟩:=hN σ3 H3 n3
   exact ⟨m',hm, σ3,H3,I3,w3⟩
  | cont =>
   obtain ⟨σ3,H3,I3,n3⟩:=q3
   obtain ⟨m',hm,w3⟩:=hN σ3 H3 n3
   exact ⟨m',hm, σ3,H3,I3,w3⟩
  | brk => exact q3
  | ret v => exact q3
 | false =>
  rw [if_neg Bool.false_ne_true]
  exact wpAny_execs_nil ⟨σ1,H2,I2,q2⟩
end
structure It where
 go:Nat→Hp→Prop
 yld:Nat→Hp→V→Hp→Prop
 stop:Nat→Hp→Prop
def FpOk (X:Cx) (pins:List (Addr × Obj)) (H:Hp) (b:Addr):Prop :=
 H b = none∧b ≠ X.env.locals∧b ∉ X.fs∧(b ∈ X.ex ∨ X.s₀.heap.objs.size ≤ b)∧(∀ x c,X.env.cells.lookup x = some c→c ≠ b)∧∀ p ∈ X.pn ++ pins,p.1 ≠ b
theorem Inv.fpOk {X:Cx} {pins:List (Addr × Obj)} {σ : St} {H H':Hp} {s:Shared} {b:Addr} (I:Inv X pins σ H s) (hb:s.heap.objs.size ≤ b) (hn:H' b = none):FpOk X pins H' b:=by
 refine ⟨hn,Nat.ne_of_gt (Nat.lt_of_lt_of_le I.lt hb),I.nofs hb, .inr (Nat.le_trans I.sz hb),fun x c e z => ?_,fun p hp z => ?_⟩
 ·obtain ⟨v,q⟩:=I.cell x c e
  exact absurd (Nat.lt_of_lt_of_le q.lt (by rw [z]; exact hb)) (Nat.lt_irrefl _)
 ·exact absurd (Nat.lt_of_lt_of_le (Heap.lt_size (I.pin p hp).1) (by rw [z]; exact hb)) (Nat.lt_irrefl _)
structure Turn (P:Program) (w:World) (K:PySem.W.Frag) (tg:Expr) (J:It) (fp:List Addr) (it:Addr) (tn:Nat→Heap→Prop):Prop where
 mem:it ∈ fp
 obj:∀ i h,tn i h→∀ b ∈ fp, ∃ o,h.get? b = some o∧∀ v,o.data ≠ .cell v
 keep:∀ i h h',tn i h→(∀ b ∈ fp, ∀ o,h.get? b = some o→h'.get? b = some o)→tn i h'
 item:∀ (X:Cx),X.prog = P→X.w = w→X.K = K→X.calm = true→∀ (i:Nat) (pins:List (Addr × Obj)) (s:Shared) (σ : St) (H:Hp) (E:Value→Shared→Prop),Inv X pins σ H s→(∀ b ∈ fp,FpOk X pins H b)→tn i s.heap→J.go i H →
  wpAny (model P w) X.A (pyNext (.ref it)) (fun r s1 => ∃ u,r = some u ∧
   wpAny (model P w) X.A (letOwnedTupleGo tg (.ref it) u) (fun _ s2 => ∃ x H',Inv X pins σ H' s2∧RelV x u∧J.yld i H x H'∧tn (i + 1) s2.heap∧∀ b ∈ fp,H' b = none) E s1) E s
 done:∀ (X:Cx),X.prog = P→X.w = w→X.K = K→X.calm = true→∀ (i:Nat) (pins:List (Addr × Obj)) (s:Shared) (σ : St) (H:Hp) (E:Value→Shared→Prop),Inv X pins σ H s→(∀ b ∈ fp,FpOk X pins H b)→tn i s.heap→J.stop i H →
  wpAny (model P w) X.A (pyNext (.ref it)) (fun r s1 => r = none∧Inv X pins σ H s1) E s
 self:∀ (A:Around) (i:Nat) (s:Shared) (Q:Value→Shared→Prop) (E:Value→Shared→Prop),tn i s.heap→Q (.ref it) s→wpAny (model P w) A (pyIter (.ref it)) Q E s
abbrev TI:=St→Hp→(It→Hp→Prop)→Prop
def PIE (X:Cx) (pins:List (Addr × Obj)) (σ : St) (tg:Expr) (R:It→Hp→Prop) (itv:Value) (s2:Shared):Prop :=
 ∃ (it:Addr) (fp:List Addr) (tn:Nat→Heap→Prop) (J:It) (H':Hp),itv = .ref it∧Inv X pins σ H' s2∧Turn X.prog X.w X.K tg J fp it tn∧tn 0 s2.heap∧(∀ b ∈ fp,FpOk X pins H' b)∧R J H'
def PI (X:Cx) (tg iter:Expr) (wi:TI):Prop :=
 ∀ (pins:List (Addr × Obj)) (s:Shared) (σ : St) (H:Hp) (R:It→Hp→Prop),Inv X pins σ H s→wi σ H R →
  wpAny (model X.prog X.w) X.A (eval iter X.env) (fun v s1 => wpAny (model X.prog X.w) X.A (pyIter v) (PIE X pins σ tg R) X.xe s1) X.xe s
theorem go_of {M:Model} {A:Around} {E:Value→Shared→Prop} {s:Shared} {tg:Expr} {it:Addr} {u:Value} {o:Obj} {n:String} {vs:Array Value} {Q:Unit→Shared→Prop} (ho:s.heap.get? it = some o) (hc:o.cls = .type n) (hd:o.data = .fields vs)
    (hn:["enumerate", "zip", "dict_itemiterator", "dict_reverseitemiterator", "odict_iterator", "itertools.zip_longest", "itertools.pairwise"].contains n = false) (hQ:Q () s):wpAny M A (letOwnedTupleGo tg (.ref it) u) Q E s:=by
  unfold letOwnedTupleGo
  cases tg <;> first
    | exact wpAny_pure hQ
    | (cases u <;> first
        | exact wpAny_pure hQ
        | (refine wpAny_bind (wpAny_load ho ?_)
           rw [hc,hd]
           show wpAny M A (if (["enumerate", "zip", "dict_itemiterator", "dict_reverseitemiterator", "odict_iterator", "itertools.zip_longest", "itertools.pairwise"].contains n && vs[0]? == some (rawInt _)) = true then _ else _) Q E s
           rw [if_neg (by intro h; rw [hn,Bool.false_and] at h; cases h)]
           exact wpAny_pure hQ))
def Itl (K:PySem.W.Frag) (a:Addr):It :=
 ⟨fun i H => ∃ xs x,SqL K H a xs∧xs[i]? = some x,fun i H x H' => H' = H∧∀ xs,SqL K H a xs→xs[i]? = some x,fun i H => ∃ xs,SqL K H a xs∧xs.length ≤ i⟩
def Itt (K:PySem.W.Frag) (a:Addr):It :=
 ⟨fun i H => ∃ xs x,SqT K H a xs∧xs[i]? = some x,fun i H x H' => H' = H∧∀ xs,SqT K H a xs→xs[i]? = some x,fun i H => ∃ xs,SqT K H a xs∧xs.length ≤ i⟩
def Itr (lo:Int) (n:Nat):It:=⟨fun i _ => i < n,fun i H x H' => H' = H∧x = .int (lo + i),fun i _ => n ≤ i⟩
theorem JgA {P:Program} {w:World} {K:PySem.W.Frag} {tg:Expr} (a it:Addr):Turn P w K tg (Itl K a) [it] it (fun i h => h.IsListIter it a i) where
 mem:=by simp
 obj:=fun i h st b hb => by
  have e:b = it:=by simpa using hb
  subst e
  obtain ⟨o,e,c,d⟩:=st
  exact ⟨o,e,fun v z => by rw [d] at z; cases z⟩
 keep:=fun i h h' st k => st.at fun o e => k it (by simp) o e
 item:=by
  intro X hP hw hK hc i pins s σ H E I hf st hg
  subst hP hw hK
  obtain ⟨xs,x,hq,hx⟩:=hg
  obtain ⟨its,rv,p,hz⟩:=I.list hq
  obtain ⟨u,hu,ru⟩:=rv.get hx
  obtain ⟨f0,f1,f2,f3,f4,f5⟩:=hf it (by simp)
  refine wpAny_pyNext_list_item st p.isList (x:=u) (by simpa using hu) fun h' st' sb => ?_
  have I1:Inv X pins σ H { s with heap:=h' }:=I.turned (t':=s.toks) (fun b o hb e => (sb.2 b hb).trans e) f0 f1 f3 f4 f5
  obtain ⟨o,e,c,d⟩:=id st'
  exact ⟨u,rfl,go_of (s:={ s with heap:=h' }) e c d (by decide) ⟨x,H,I1,ru,⟨rfl,fun ys hy => by rw [I.list_inj hy hq]; exact hx⟩,st',fun b hb => (hf b hb).1⟩⟩
 done:=by
  intro X hP hw hK hc i pins s σ H E I hf st hg
  subst hP hw hK
  obtain ⟨xs,hq,hx⟩:=hg
  obtain ⟨its,rv,p,hz⟩:=I.list hq
  obtain ⟨f0,f1,f2,f3,f4,f5⟩:=hf it (by simp)
  have hl:=rv.length
  exact wpAny_pyNext_list_end (I.ok.hd hc) st p.isList (by simp; omega) fun h' eb => ⟨rfl,I.turned (t':=s.toks) (fun b o hb e => eb b o hb e) f0 f1 f3 f4 f5⟩
 self:=fun _ _ _ _ _ st h => wpAny_pyIter_listiter st h
theorem JfF {P:Program} {w:World} {K:PySem.W.Frag} {tg:Expr} (a it:Addr):Turn P w K tg (Itt K a) [it] it (fun i h => h.IsTupleIter it a i) where
 mem:=by simp
 obj:=fun i h st b hb => by
  have e:b = it:=by simpa using hb
  subst e
  obtain ⟨o,e,c,d⟩:=st
  exact ⟨o,e,fun v z => by rw [d] at z; cases z⟩
 keep:=fun i h h' st k => st.at fun o e => k it (by simp) o e
 item:=by
  intro X hP hw hK hc i pins s σ H E I hf st hg
  subst hP hw hK
  obtain ⟨xs,x,hq,hx⟩:=hg
  obtain ⟨its,rv,p,hz⟩:=I.tuple hq
  obtain ⟨u,hu,ru⟩:=rv.get hx
  obtain ⟨f0,f1,f2,f3,f4,f5⟩:=hf it (by simp)
  refine wpAny_pyNext_tuple_item st (show s.heap.IsTuple a its.toArray from p) (x:=u) (by simpa using hu) fun h' st' sb => ?_
  have I1:Inv X pins σ H { s with heap:=h' }:=I.turned (t':=s.toks) (fun b o hb e => (sb.2 b hb).trans e) f0 f1 f3 f4 f5
  obtain ⟨o,e,c,d⟩:=id st'
  exact ⟨u,rfl,go_of (s:={ s with heap:=h' }) e c d (by decide) ⟨x,H,I1,ru,⟨rfl,fun ys hy => by rw [I.tuple_inj hy hq]; exact hx⟩,st',fun b hb => (hf b hb).1⟩⟩
 done:=by
  intro X hP hw hK hc i pins s σ H E I hf st hg
  subst hP hw hK
  obtain ⟨xs,hq,hx⟩:=hg
  obtain ⟨its,rv,p,hz⟩:=I.tuple hq
  obtain ⟨f0,f1,f2,f3,f4,f5⟩:=hf it (by simp)
  have hl:=rv.length
  exact wpAny_pyNext_tuple_end (I.ok.hd hc) st (show s.heap.IsTuple a its.toArray from p) (by simp; omega) fun h' eb => ⟨rfl,I.turned (t':=s.toks) (fun b o hb e => eb b o hb e) f0 f1 f3 f4 f5⟩
 self:=fun _ _ _ _ _ st h => wpAny_pyIter_tupleiter st h
theorem JfE {P:Program} {w:World} {K:PySem.W.Frag} {tg:Expr} (it:Addr) (lo:Int) (n:Nat):Turn P w K tg (Itr lo n) [it] it (fun i h => IsRangeIter h it (lo + (i:Nat) * 1) ((n:Int) - (i:Nat)) 1) where
 mem:=by simp
 obj:=fun i h st b hb => by
  have e:b = it:=by simpa using hb
  subst e
  exact ⟨_,st,fun v z => by
   have z':Data.fields _ = Data.cell v:=z
   cases z'⟩
 keep:=fun i h h' st k => k it (by simp) _ st
 item:=by
  intro X hP hw hK hc i pins s σ H E I hf st hg
  subst hP hw hK
  obtain ⟨f0,f1,f2,f3,f4,f5⟩:=hf it (by simp)
  have W:=Walks.range (prog:=X.prog) (w:=X.w) (I.ok.hd hc) it lo 1 n
  refine W.item i s _ _ hg st fun v h' tk hv st' kk => ?_
  obtain ⟨t,rfl⟩:=hv
  have I1:Inv X pins σ H { s with heap:=h',toks:=tk }:=I.turned (fun b o hb e => kk b o (by simpa using hb) e) f0 f1 f3 f4 f5
  refine ⟨_,rfl,go_of (s:={ s with heap:=h',toks:=tk }) (n:="range_iterator") st' rfl rfl (by decide) ⟨.int (lo + i),H,I1,⟨t, ?_⟩,⟨rfl,rfl⟩,st',fun b hb => (hf b hb).1⟩⟩
  rw [Int.mul_one]
 done:=by
  intro X hP hw hK hc i pins s σ H E I hf st hg
  subst hP hw hK
  obtain ⟨f0,f1,f2,f3,f4,f5⟩:=hf it (by simp)
  exact wpAny_pyNext_range_end (I.ok.hd hc) st (by have : n ≤ i:=hg; omega) fun h' eb => ⟨rfl,I.turned (t':=s.toks) (fun b o hb e => eb b o hb e) f0 f1 f3 f4 f5⟩
 self:=fun _ _ _ _ _ st h => wpAny_pyIter_rangeiter st h
end L2
namespace L2
open PySem PySem.Spec PyProof.Rows
section
variable {X:Cx} {tg:Expr}
theorem Jg8 {pins:List (Addr × Obj)} {σ : St} {H:Hp} {s:Shared} {R:It→Hp→Prop} {E:Value→Shared→Prop} {lo hi:Int} {t u v:Tok} {tk:Nat} (I:Inv X pins σ H s) (h1 : -(2 ^ 62) ≤ lo) (h2:lo < 2 ^ 62) (h3 : -(2 ^ 62) ≤ hi) (h4:hi < 2 ^ 62)
  (q:R (Itr lo (hi - lo).toNat) H):wpAny (model X.prog X.w) X.A (pyIter (.ref s.heap.objs.size)) (PIE X pins σ tg R) E { s with heap:=s.heap.push { cls:=.type "range",data:=.fields #[.int lo t, .int hi u, .int 1 v] },toks:=tk }:=by
 refine wpAny_pyIter_range (IsRange.new ..) (small_one h1 h2 h3 h4) ?_
 have I1:Inv X pins σ H { s with heap:=s.heap.push { cls:=.type "range",data:=.fields #[.int lo t, .int hi u, .int 1 v] },toks:=tk }:=I.kept fun b o e => Heap.get?_push_of_some _ e
 refine ⟨(s.heap.push { cls:=.type "range",data:=.fields #[.int lo t, .int hi u, .int 1 v] }).objs.size,[(s.heap.push { cls:=.type "range",data:=.fields #[.int lo t, .int hi u, .int 1 v] }).objs.size],_,_,H,rfl,
  I1.kept (t':=tk) fun b o e => Heap.get?_push_of_some _ e,JfE _ lo (hi - lo).toNat, ?_,fun b hb => ?_,q⟩
 ·have e1:lo + ((0:Nat):Int) * 1 = lo:=by simp
  have e2:(((hi - lo).toNat:Nat):Int) - ((0:Nat):Int) = Builtin.Range.rangeSize lo hi 1:=by rw [rangeSize_one]; split <;> omega
  show IsRangeIter _ _ (lo + ((0:Nat):Int) * 1) ((((hi - lo).toNat:Nat):Int) - ((0:Nat):Int)) 1
  rw [e1,e2]
  exact Heap.get?_push_size _ rfl
 ·have e:b = (s.heap.push { cls:=.type "range",data:=.fields #[.int lo t, .int hi u, .int 1 v] }).objs.size:=by simpa using hb
  subst e
  exact I1.fpOk (Nat.le_refl _) (I1.hok.fresh (Nat.le_refl _))
def iRng1 (ta:TA):TI:=fun σ H R => ta σ H fun vs H1 => ∃ j:Int,vs = [.int j]∧-(2 ^ 62) ≤ j∧j < 2 ^ 62∧R (Itr 0 j.toNat) H1
def iRng2 (ta:TA):TI:=fun σ H R => ta σ H fun vs H1 => ∃ i j:Int,vs = [.int i, .int j]∧(-(2 ^ 62) ≤ i∧i < 2 ^ 62∧-(2 ^ 62) ≤ j∧j < 2 ^ 62)∧R (Itr i (j - i).toNat) H1
theorem Jee {a:Expr} {ta:TA} {p pos:Pos} (hg:Gl X "range") (hm:X.mg "range" = none) (ha:PA X [a] ta) (hs:starEach [a] X.env = [(false,eval a X.env)]:=by rfl):PI X tg (.Call (.Name "range" p) [a] [] pos) (iRng1 ta):=by
 intro pins s σ H R I h
 refine Call_ (Jd6 I hg hm boot_range (PyProof.Rows.callWith_type1 (thn (ha pos pins s σ H _ I h) fun us s1 ⟨vs,H1,I1,r1,q1⟩ => ?_) hs rfl))
 obtain ⟨j,e,q1,q2,q⟩:=q1
 subst e
 cases r1 with
 | cons r rr =>
  cases rr
  obtain ⟨t,rfl⟩:=r
  exact call_range_1 (Jg8 I1 (by omega) (by omega) q1 q2 (by simpa using q))
def tFor (wi:TI) (g:TG) (tb:TS):TS:=fun D σ H => wi σ H fun J H1 => ∃ W:Nat→Nat→St→Hp→Prop,(∃ m,W 0 m σ H1)∧∀ i m σ H,W i m σ H →
 (J.stop i H∧D.nx σ H) ∨ (J.go i H∧∃ N:St→Hp→Prop,(∀ σ' H',N σ' H'→∃ m',m' < m∧W (i + 1) m' σ' H')∧∀ x H',J.yld i H x H'→g x σ H' fun σ2 H2 => tb { D with nx:=N,ct:=N,bk:=D.nx } σ2 H2)
def Je8 (fp:List Addr) (h:Heap):List (Addr × Obj):=fp.filterMap fun b => (h.get? b).map fun o => (b,o)
theorem Jcr {fp:List Addr} {h:Heap} {b:Addr} {o:Obj} (hb:b ∈ fp) (e:h.get? b = some o):(b,o) ∈ Je8 fp h:=List.mem_filterMap.mpr ⟨b,hb,by rw [e]; rfl⟩
theorem Jf8 {fp:List Addr} {h:Heap} {p:Addr × Obj} (hp:p ∈ Je8 fp h):p.1 ∈ fp∧h.get? p.1 = some p.2:=by
 obtain ⟨b,hb,e⟩:=List.mem_filterMap.mp hp
 cases q:h.get? b with
 | none => rw [q] at e; cases e
 | some o =>
  rw [q] at e
  have e':(b,o) = p:=Option.some.inj e
  subst e'
  exact ⟨hb,q⟩
theorem Inv.pinned {pins:List (Addr × Obj)} {σ : St} {H:Hp} {s:Shared} {fp:List Addr} (I:Inv X pins σ H s) (hf:∀ b ∈ fp,FpOk X pins H b) (ho:∀ b ∈ fp, ∃ o,s.heap.get? b = some o∧∀ v,o.data ≠ .cell v):Inv X (pins ++ Je8 fp s.heap) σ H s :=
 I.pins_of fun p hp => (List.mem_append.mp hp).elim (fun z => I.pin p (List.mem_append_right _ z)) fun z => by
  obtain ⟨hb,e⟩:=Jf8 z
  obtain ⟨f0,f1,f2,_⟩:=hf p.1 hb
  obtain ⟨o,e',d⟩:=ho p.1 hb
  rw [e] at e'; cases e'
  exact ⟨e,f0,f1,f2,d⟩
theorem Inv.unpinned {pins pl:List (Addr × Obj)} {σ : St} {H:Hp} {s:Shared} (I:Inv X (pins ++ pl) σ H s):Inv X pins σ H s:=I.pins_of fun p hp => I.pin p (List.mem_append_right _ (List.mem_append_left _ hp))
theorem Jcj {iter:Expr} {body:List Stmt} {wi:TI} {g:TG} {tb:TS} {pos:Pos} (hp:PassesOwn (model X.prog X.w) X.A X.env X.xe) (hc:X.calm = true) (hi:PI X tg iter wi) (hg:PG X tg g) (hb:PSs X body tb)
  (hs:∀ x,foldedSetIterable iter X.env x = pure x:=by intro _; rfl):PS X (.For tg iter body [] pos) (tFor wi g tb):=by
 intro pins s σ H D I h
 refine wpAny_For (thn (hi pins s σ H _ I h) fun v s1 h1 => thn h1 fun itv s2 h2 => ?_) hs
 obtain ⟨it,fp,tn,J,H2,e,I2,T,st2,f2,W,⟨m0,w0⟩,turn⟩:=h2
 subst e
 have stat:∀ {H':Hp},(∀ b ∈ fp,H' b = none)→∀ b ∈ fp,FpOk X pins H' b:=fun hn b hb => ⟨hn b hb,(f2 b hb).2⟩
 refine codeAny_forLoop_any (fun n s' => ∃ i σ' H',Inv X pins σ' H' s'∧tn i s'.heap∧(∀ b ∈ fp,H' b = none)∧W i n σ' H') ?_ m0 ⟨0, σ,H2,I2,st2,fun b hb => (f2 b hb).1,w0⟩
 rintro n s3 ⟨i, σ3,H3,I3,st3,fr3,w3⟩
 rcases turn i n σ3 H3 w3 with ⟨stop,qn⟩ | ⟨go,N,hN,step⟩
 ·refine wpAny_passesOwn hp (thn (T.done X rfl rfl rfl hc i pins s3 σ3 H3 X.xe I3 (stat fr3) st3 stop) fun r s4 ⟨hr,I4⟩ => ?_)
  subst hr
  exact wpAny_execs_nil ⟨σ3,H3,I4,qn⟩
 ·refine wpAny_passesOwn hp (thn (T.item X rfl rfl rfl hc i pins s3 σ3 H3 X.xe I3 (stat fr3) st3 go) fun r s4 ⟨u,hr,h4⟩ => ?_)
  subst hr
  refine wpAny_passesOwn hp (thn h4 fun _ s5 ⟨x,H5,I5,r5,y5,st5,fr5⟩ => ?_)
  have I5':=I5.pinned (stat fr5) (T.obj _ _ st5)
  refine wpAny_passesOwn hp (thn (hg _ s5 σ3 H5 x u _ I5' r5 (step x H5 y5)) fun _ s6 ⟨σ6,H6,I6,q6⟩ => ?_)
  refine wpAny_passesOwn hp (thn (hb _ s6 σ6 H6 _ I6 q6) fun f s7 q7 => ?_)
  have again:∀ {σ7:St} {H7:Hp},Inv X (pins ++ Je8 fp s5.heap) σ7 H7 s7→N σ7 H7→∃ m,m < n∧∃ i σ' H',Inv X pins σ' H' s7∧tn i s7.heap∧(∀ b ∈ fp,H' b = none)∧W i m σ' H':=fun {σ7 H7} I7 n7 => by
   obtain ⟨m',hm,w7⟩:=hN σ7 H7 n7
   refine ⟨m',hm,i + 1, σ7,H7,I7.unpinned,T.keep _ _ _ st5 fun b hb o e => (I7.pin (b,o) (List.mem_append_right _ (List.mem_append_right _ (Jcr hb e)))).1,fun b hb => ?_,w7⟩
   obtain ⟨o,e,d⟩:=T.obj _ _ st5 b hb
   exact (I7.pin (b,o) (List.mem_append_right _ (List.mem_append_right _ (Jcr hb e)))).2.1
  cases f with
  | next => obtain ⟨σ7,H7,I7,n7⟩:=q7; exact again I7 n7
  | cont => obtain ⟨σ7,H7,I7,n7⟩:=q7; exact again I7 n7
  | brk => obtain ⟨σ7,H7,I7,q7⟩:=q7; exact ⟨σ7,H7,I7.unpinned,q7⟩
  | ret v => obtain ⟨x7, σ7,H7,I7,r7,q7⟩:=q7; exact ⟨x7, σ7,H7,I7.unpinned,r7,q7⟩
end
theorem JgP {K:PySem.W.Frag} {a:Addr} {xs:List V} {g:TG} {tb:TS} {D:Ends} {σ : St} {H:Hp} (Pv:Nat→St→Hp→Prop) (h0:Pv 0 σ H) (hl:∀ i σ H,i ≤ xs.length→Pv i σ H→SqL K H a xs)
  (hs:∀ i x σ H,xs[i]? = some x→Pv i σ H→g x σ H fun σ2 H2 => tb { D with nx:=Pv (i + 1),ct:=Pv (i + 1),bk:=D.nx } σ2 H2) (hd:∀ σ H,Pv xs.length σ H→D.nx σ H) :
  ∃ W:Nat→Nat→St→Hp→Prop,(∃ m,W 0 m σ H)∧∀ i m σ H,W i m σ H →
   ((Itl K a).stop i H∧D.nx σ H) ∨ ((Itl K a).go i H∧∃ N:St→Hp→Prop,(∀ σ' H',N σ' H'→∃ m',m' < m∧W (i + 1) m' σ' H')∧∀ x H',(Itl K a).yld i H x H'→g x σ H' fun σ2 H2 => tb { D with nx:=N,ct:=N,bk:=D.nx } σ2 H2):=by
 refine ⟨fun i m σ H => m = xs.length - i∧i ≤ xs.length∧Pv i σ H,⟨xs.length,by simp,Nat.zero_le _,h0⟩, ?_⟩
 rintro i m σ H ⟨rfl,hi,p⟩
 have q:=hl i σ H hi p
 by_cases hlt:i < xs.length
 ·refine .inr ⟨⟨xs,xs[i],q,by simp [hlt]⟩,Pv (i + 1),fun σ' H' p' => ⟨xs.length - (i + 1),by omega,rfl,hlt,p'⟩,fun x H' y => ?_⟩
  obtain ⟨e,y⟩:=y
  subst e
  exact hs i x σ _ (y xs q) p
 ·have e:i = xs.length:=by omega
  subst e
  exact .inl ⟨⟨xs,q,Nat.le_refl _⟩,hd σ H p⟩
theorem JhP {K:PySem.W.Frag} {a:Addr} {xs:List V} {g:TG} {tb:TS} {D:Ends} {σ : St} {H:Hp} (Pv:Nat→St→Hp→Prop) (h0:Pv 0 σ H) (hl:∀ i σ H,i ≤ xs.length→Pv i σ H→SqT K H a xs)
  (hs:∀ i x σ H,xs[i]? = some x→Pv i σ H→g x σ H fun σ2 H2 => tb { D with nx:=Pv (i + 1),ct:=Pv (i + 1),bk:=D.nx } σ2 H2) (hd:∀ σ H,Pv xs.length σ H→D.nx σ H) :
  ∃ W:Nat→Nat→St→Hp→Prop,(∃ m,W 0 m σ H)∧∀ i m σ H,W i m σ H →
   ((Itt K a).stop i H∧D.nx σ H) ∨ ((Itt K a).go i H∧∃ N:St→Hp→Prop,(∀ σ' H',N σ' H'→∃ m',m' < m∧W (i + 1) m' σ' H')∧∀ x H',(Itt K a).yld i H x H'→g x σ H' fun σ2 H2 => tb { D with nx:=N,ct:=N,bk:=D.nx } σ2 H2):=by
 refine ⟨fun i m σ H => m = xs.length - i∧i ≤ xs.length∧Pv i σ H,⟨xs.length,by simp,Nat.zero_le _,h0⟩, ?_⟩
 rintro i m σ H ⟨rfl,hi,p⟩
 have q:=hl i σ H hi p
 by_cases hlt:i < xs.length
 ·refine .inr ⟨⟨xs,xs[i],q,by simp [hlt]⟩,Pv (i + 1),fun σ' H' p' => ⟨xs.length - (i + 1),by omega,rfl,hlt,p'⟩,fun x H' y => ?_⟩
  obtain ⟨e,y⟩:=y
  subst e
  exact hs i x σ _ (y xs q) p
 ·have e:i = xs.length:=by omega
  subst e
  exact .inl ⟨⟨xs,q,Nat.le_refl _⟩,hd σ H p⟩
theorem JfU {lo:Int} {n:Nat} {g:TG} {tb:TS} {D:Ends} {σ : St} {H:Hp} (Pv:Nat→St→Hp→Prop) (h0:Pv 0 σ H)
  (hs:∀ i σ H,i < n→Pv i σ H→g (.int (lo + i)) σ H fun σ2 H2 => tb { D with nx:=Pv (i + 1),ct:=Pv (i + 1),bk:=D.nx } σ2 H2) (hd:∀ σ H,Pv n σ H→D.nx σ H) :
  ∃ W:Nat→Nat→St→Hp→Prop,(∃ m,W 0 m σ H)∧∀ i m σ H,W i m σ H →
   ((Itr lo n).stop i H∧D.nx σ H) ∨ ((Itr lo n).go i H∧∃ N:St→Hp→Prop,(∀ σ' H',N σ' H'→∃ m',m' < m∧W (i + 1) m' σ' H')∧∀ x H',(Itr lo n).yld i H x H'→g x σ H' fun σ2 H2 => tb { D with nx:=N,ct:=N,bk:=D.nx } σ2 H2):=by
 refine ⟨fun i m σ H => m = n - i∧i ≤ n∧Pv i σ H,⟨n,by simp,Nat.zero_le _,h0⟩, ?_⟩
 rintro i m σ H ⟨rfl,hi,p⟩
 by_cases hlt:i < n
 ·refine .inr ⟨hlt,Pv (i + 1),fun σ' H' p' => ⟨n - (i + 1),by omega,rfl,hlt,p'⟩,fun x H' y => ?_⟩
  obtain ⟨e,y⟩:=y
  subst e y
  exact hs i σ _ hlt p
 ·have e:i = n:=by omega
  subst e
  exact .inl ⟨Nat.le_refl _,hd σ H p⟩
end L2
namespace L2
open PySem PySem.Spec PyProof.Rows
abbrev R2:=V→V→Hp→VK→Prop
def OpR (X:Cx) (f:Value→Value→Sem Value) (r:R2):Prop :=
 ∀ (pins:List (Addr × Obj)) (s:Shared) (σ : St) (H:Hp) (x y:V) (v u:Value) (Q:VK),Inv X pins σ H s→RelV x v→RelV y u→r x y H Q →
  wpAny (model X.prog X.w) X.A (f v u) (EP X pins σ Q) X.xe s
def UnR (X:Cx) (f:Value→Sem Value) (r:V→Hp→VK→Prop):Prop :=
 ∀ (pins:List (Addr × Obj)) (s:Shared) (σ : St) (H:Hp) (x:V) (v:Value) (Q:VK),Inv X pins σ H s→RelV x v→r x H Q →
  wpAny (model X.prog X.w) X.A (f v) (EP X pins σ Q) X.xe s
def CallR (X:Cx) (f:Value) (r:List V→Hp→VK→Prop):Prop :=
 ∀ (pins:List (Addr × Obj)) (s:Shared) (σ : St) (H:Hp) (xs:List V) (us:List Value) (Q:VK),Inv X pins σ H s→Vals xs us→r xs H Q →
  wpAny (model X.prog X.w) X.A (call f us) (EP X pins σ Q) X.xe s
def tOp (r:R2) (ta tb:TE):TE:=fun σ H Q => ta σ H fun x H1 => tb σ H1 fun y H2 => r x y H2 Q
def tUn (r:V→Hp→VK→Prop) (ta:TE):TE:=fun σ H Q => ta σ H fun x H1 => r x H1 Q
def rI (C:Int→Int→Prop) (g:Int→Int→V):R2:=fun x y H Q => ∃ i j,x = .int i∧y = .int j∧C i j∧Q (g i j) H
def rI0 (g:Int→Int→V):R2:=fun x y H Q => ∃ i j,x = .int i∧y = .int j∧Q (g i j) H
def rU (g:Int→V):V→Hp→VK→Prop:=fun x H Q => ∃ i,x = .int i∧Q (g i) H
section
variable {X:Cx} {a b c:Expr} {ta tb tc:TE} {pos:Pos}
theorem binT (ha:PE X a ta) (hb:PE X b tb) {pins:List (Addr × Obj)} {s:Shared} {σ : St} {H:Hp} {R:V→V→Hp→Prop} (I:Inv X pins σ H s)
  (h:ta σ H fun x H1 => tb σ H1 fun y H2 => R x y H2) {Q:Value→Shared→Prop} {f:Value→Value→Sem Value}
  (hf:∀ v u s2 x y H2,Inv X pins σ H2 s2→RelV x v→RelV y u→R x y H2→wpAny (model X.prog X.w) X.A (f v u) Q X.xe s2) :
  wpAny (model X.prog X.w) X.A (eval a X.env) (fun v s₁ => wpAny (model X.prog X.w) X.A (eval b X.env) (fun u s₂ => wpAny (model X.prog X.w) X.A (f v u) Q X.xe s₂) X.xe s₁) X.xe s:=by
 refine thn (ha pins s σ H _ I h) fun v s1 ⟨x,H1,I1,r1,q1⟩ => ?_
 refine thn (hb pins s1 σ H1 _ I1 q1) fun u s2 ⟨y,H2,I2,r2,q2⟩ => ?_
 exact hf v u s2 x y H2 I2 r1 r2 q2
theorem pe_op {op:Operator} {r:R2} (ho:OpR X (binaryOp op) r) (ha:PE X a ta) (hb:PE X b tb):PE X (.BinOp a op b pos) (tOp r ta tb):=by
 intro pins s σ H Q I h
 exact wpAny_BinOp (binT ha hb I h fun v u s2 x y H2 I2 rx ry q => ho pins s2 σ H2 x y v u Q I2 rx ry q)
theorem pe_un {op:UnaryOp} {r:V→Hp→VK→Prop} (ho:UnR X (unaryOp op) r) (ha:PE X a ta):PE X (.UnaryOp op a pos) (tUn r ta):=by
 intro pins s σ H Q I h
 exact UnaryOp_ (thn (ha pins s σ H _ I h) fun v s1 ⟨x,H1,I1,r1,q1⟩ => ho pins s1 σ H1 x v Q I1 r1 q1)
theorem opI {f:Value→Value→Sem Value} {C:Int→Int→Prop} {g:Int→Int→Int}
  (rule:∀ (i j:Int) (t u:Tok) (s:Shared) (Q:Value→Shared→Prop) (E:Value→Shared→Prop),C i j→Q (.int (g i j) s.toks) { s with toks:=s.toks + 1 }→wpAny (model X.prog X.w) X.A (f (.int i t) (.int j u)) Q E s) :
  OpR X f (rI C fun i j => .int (g i j)):=by
 intro pins s σ H x y v u Q I rx ry h
 obtain ⟨i,j,rfl,rfl,hc,q⟩:=h
 obtain ⟨t,rfl⟩:=rx
 obtain ⟨t',rfl⟩:=ry
 exact rule i j t t' s _ _ hc ⟨.int (g i j),H,I.tok _,⟨_,rfl⟩,q⟩
theorem opI0 {f:Value→Value→Sem Value} {g:Int→Int→Int}
  (rule:∀ (i j:Int) (t u:Tok) (s:Shared) (Q:Value→Shared→Prop) (E:Value→Shared→Prop),Q (.int (g i j) s.toks) { s with toks:=s.toks + 1 }→wpAny (model X.prog X.w) X.A (f (.int i t) (.int j u)) Q E s) :
  OpR X f (rI0 fun i j => .int (g i j)):=by
 intro pins s σ H x y v u Q I rx ry h
 obtain ⟨i,j,rfl,rfl,q⟩:=h
 obtain ⟨t,rfl⟩:=rx
 obtain ⟨t',rfl⟩:=ry
 exact rule i j t t' s _ _ ⟨.int (g i j),H,I.tok _,⟨_,rfl⟩,q⟩
theorem opB0 {f:Value→Value→Sem Value} {g:Int→Int→Bool}
  (rule:∀ (i j:Int) (t u:Tok) (s:Shared) (Q:Value→Shared→Prop) (E:Value→Shared→Prop),Q (.bool (g i j)) s→wpAny (model X.prog X.w) X.A (f (.int i t) (.int j u)) Q E s) :
  OpR X f (rI0 fun i j => .bl (g i j)):=by
 intro pins s σ H x y v u Q I rx ry h
 obtain ⟨i,j,rfl,rfl,q⟩:=h
 obtain ⟨t,rfl⟩:=rx
 obtain ⟨t',rfl⟩:=ry
 exact rule i j t t' s _ _ ⟨.bl (g i j),H,I,rfl,q⟩
def CPow (i j:Int):Prop:=0 ≤ j∧j ≤ 1000000∧i.natAbs < 2 ^ 64
theorem JiD:OpR X (binaryOp .Add) (rI0 fun i j => .int (i + j)):=opI0 fun _ _ _ _ _ _ _ q => add_int q
theorem Je5:OpR X (binaryOp .Sub) (rI0 fun i j => .int (i - j)):=opI0 fun _ _ _ _ _ _ _ q => sub_int q
theorem JhX:OpR X (binaryOp .Mod) (rI (fun _ j => j ≠ 0) fun i j => .int (i.fmod j)):=opI fun _ _ _ _ _ _ _ hc q => mod_int' hc q
theorem JiH:OpR X (binaryOp .Pow) (rI CPow fun i j => .int (i ^ j.toNat)):=opI fun _ _ _ _ _ _ _ hc q => pow_int_small hc.1 hc.2.1 hc.2.2 q
theorem unI {f:Value→Sem Value} {g:Int→Int}
  (rule:∀ (i:Int) (t:Tok) (s:Shared) (Q:Value→Shared→Prop) (E:Value→Shared→Prop),Q (.int (g i) s.toks) { s with toks:=s.toks + 1 }→wpAny (model X.prog X.w) X.A (f (.int i t)) Q E s) :
  UnR X f (rU fun i => .int (g i)):=by
 intro pins s σ H x v Q I rx h
 obtain ⟨i,rfl,q⟩:=h
 obtain ⟨t,rfl⟩:=rx
 exact rule i t s _ _ ⟨.int (g i),H,I.tok _,⟨_,rfl⟩,q⟩
theorem JgC:UnR X (unaryOp .USub) (rU fun i => .int (-i)):=unI fun _ _ _ _ _ q => neg_int q
end
def scal:V→V→Bool
 | .non, .non => true | .non, .int _ => true | .int _, .non => true | .non, .bl _ => true | .bl _, .non => true | .non, .str _ => true | .str _, .non => true
 | .int _, .int _ => true | .bl _, .bl _ => true | .str _, .str _ => true | .byt _, .byt _ => true
 | .int _, .str _ => true | .str _, .int _ => true | .bl _, .str _ => true | .str _, .bl _ => true
 | _,_ => false
def rEq:R2:=fun x y H Q => scal x y = true∧Q (.bl (decide (x = y))) H
def rNe:R2:=fun x y H Q => scal x y = true∧Q (.bl (!decide (x = y))) H
theorem JfR {i j:Int}:decide (V.int i = V.int j) = (i == j):=by
 rw [Bool.eq_iff_iff]
 simp
theorem Jhd {i j:Bool}:decide (V.bl i = V.bl j) = (i == j):=by
 rw [Bool.eq_iff_iff]
 simp
theorem JfS {i j:Str}:decide (V.str i = V.str j) = (i == j):=by
 rw [Bool.eq_iff_iff]
 simp
theorem JfQ {i j:Array UInt8}:decide (V.byt i = V.byt j) = (i.toList == j.toList):=by
 rw [Bool.eq_iff_iff]
 cases i
 cases j
 simp
section
variable {X:Cx} {a b c:Expr} {ta tb tc:TE} {pos:Pos}
theorem JaI {pins:List (Addr × Obj)} {σ : St} {H:Hp} {s:Shared} {Q:VK} {k k':Bool} (I:Inv X pins σ H s) (q:Q (.bl k) H) (e:k = k'):EP X pins σ Q (.bool k') s:=by
 subst e
 exact ⟨.bl k,H,I,rfl,q⟩
theorem op_eq:OpR X (compareOp .Eq) rEq:=by
 intro pins s σ H x y v u Q I rx ry h
 obtain ⟨hs,q⟩:=h
 cases x with
 | non =>
  cases rx
  cases y with
  | non => cases ry; exact PySem.EqNone.eq_none_none (JaI I q (by simp))
  | bl j => cases ry; exact PySem.EqNone.eq_none_bool (JaI I q (by simp))
  | int j => obtain ⟨t',rfl⟩:=ry; exact PySem.EqNone.eq_none_int (JaI I q (by simp))
  | str j => obtain ⟨t',rfl⟩:=ry; exact PySem.EqNone.eq_none_str (JaI I q (by simp))
  | _ => exact absurd (show false = true from hs) Bool.false_ne_true
 | bl i =>
  cases rx
  cases y with
  | non => cases ry; exact PySem.EqNone.eq_bool_none (JaI I q (by simp))
  | bl j => cases ry; exact eq_bool (JaI I q Jhd)
  | str j => obtain ⟨t',rfl⟩:=ry; exact PySem.EqMixed.eq_bool_str (JaI I q (by simp))
  | _ => exact absurd (show false = true from hs) Bool.false_ne_true
 | int i =>
  obtain ⟨t,rfl⟩:=rx
  cases y with
  | non => cases ry; exact PySem.EqNone.eq_int_none (JaI I q (by simp))
  | int j => obtain ⟨t',rfl⟩:=ry; exact eq_int (JaI I q JfR)
  | str j => obtain ⟨t',rfl⟩:=ry; exact PySem.EqMixed.eq_int_str (JaI I q (by simp))
  | _ => exact absurd (show false = true from hs) Bool.false_ne_true
 | str i =>
  obtain ⟨t,rfl⟩:=rx
  cases y with
  | non => cases ry; exact PySem.EqNone.eq_str_none (JaI I q (by simp))
  | bl j => cases ry; exact PySem.EqMixed.eq_str_bool (JaI I q (by simp))
  | int j => obtain ⟨t',rfl⟩:=ry; exact PySem.EqMixed.eq_str_int (JaI I q (by simp))
  | str j => obtain ⟨t',rfl⟩:=ry; exact eq_str (JaI I q JfS)
  | _ => exact absurd (show false = true from hs) Bool.false_ne_true
 | byt i =>
  obtain ⟨t,rfl⟩:=rx
  cases y with
  | byt j => obtain ⟨t',rfl⟩:=ry; exact PySem.W.eq_bytes (JaI I q JfQ)
  | _ => exact absurd (show false = true from hs) Bool.false_ne_true
 | _ => cases y <;> exact absurd (show false = true from hs) Bool.false_ne_true
theorem op_ne:OpR X (compareOp .NotEq) rNe:=by
 intro pins s σ H x y v u Q I rx ry h
 obtain ⟨hs,q⟩:=h
 cases x with
 | non =>
  cases rx
  cases y with
  | non => cases ry; exact PySem.EqNone.ne_none_none (JaI I q (by simp))
  | bl j => cases ry; exact PySem.EqNone.ne_none_bool (JaI I q (by simp))
  | int j => obtain ⟨t',rfl⟩:=ry; exact PySem.EqNone.ne_none_int (JaI I q (by simp))
  | str j => obtain ⟨t',rfl⟩:=ry; exact PySem.EqNone.ne_none_str (JaI I q (by simp))
  | _ => exact absurd (show false = true from hs) Bool.false_ne_true
 | bl i =>
  cases rx
  cases y with
  | non => cases ry; exact PySem.EqNone.ne_bool_none (JaI I q (by simp))
  | bl j => cases ry; exact ne_bool (JaI I q (congrArg not Jhd))
  | str j => obtain ⟨t',rfl⟩:=ry; exact PySem.EqMixed.ne_bool_str (JaI I q (by simp))
  | _ => exact absurd (show false = true from hs) Bool.false_ne_true
 | int i =>
  obtain ⟨t,rfl⟩:=rx
  cases y with
  | non => cases ry; exact PySem.EqNone.ne_int_none (JaI I q (by simp))
  | int j => obtain ⟨t',rfl⟩:=ry; exact ne_int (JaI I q (congrArg not JfR))
  | str j => obtain ⟨t',rfl⟩:=ry; exact PySem.EqMixed.ne_int_str (JaI I q (by simp))
  | _ => exact absurd (show false = true from hs) Bool.false_ne_true
 | str i =>
  obtain ⟨t,rfl⟩:=rx
  cases y with
  | non => cases ry; exact PySem.EqNone.ne_str_none (JaI I q (by simp))
  | bl j => cases ry; exact PySem.EqMixed.ne_str_bool (JaI I q (by simp))
  | int j => obtain ⟨t',rfl⟩:=ry; exact PySem.EqMixed.ne_str_int (JaI I q (by simp))
  | str j => obtain ⟨t',rfl⟩:=ry; exact ne_str (JaI I q (congrArg not JfS))
  | _ => exact absurd (show false = true from hs) Bool.false_ne_true
 | byt i =>
  obtain ⟨t,rfl⟩:=rx
  cases y with
  | byt j => obtain ⟨t',rfl⟩:=ry; exact PySem.W.ne_bytes (JaI I q (congrArg not JfQ))
  | _ => exact absurd (show false = true from hs) Bool.false_ne_true
 | _ => cases y <;> exact absurd (show false = true from hs) Bool.false_ne_true
theorem op_lt:OpR X (compareOp .Lt) (rI0 fun i j => .bl (decide (i < j))):=opB0 fun _ _ _ _ _ _ _ q => lt_int q
theorem op_gt:OpR X (compareOp .Gt) (rI0 fun i j => .bl (decide (j < i))):=opB0 fun _ _ _ _ _ _ _ q => gt_int q
theorem op_ge:OpR X (compareOp .GtE) (rI0 fun i j => .bl (decide (j ≤ i))):=opB0 fun _ _ _ _ _ _ _ q => ge_int q
theorem Jgd:OpR X (compareOp .In) (fun x y H Q => ∃ i j,x = .str i∧y = .str j∧Q (.bl (!(Builtin.Str.occurrences j i 0 j.length 1).isEmpty)) H):=by
 intro pins s σ H x y v u Q I rx ry h
 obtain ⟨i,j,rfl,rfl,q⟩:=h
 obtain ⟨t,rfl⟩:=rx
 obtain ⟨t',rfl⟩:=ry
 exact in_str (JaI I q rfl)
theorem JiG:OpR X (compareOp .Is) (fun x y H Q => y = .non∧Q (.bl (decide (x = .non))) H):=by
 intro pins s σ H x y v u Q I rx ry h
 obtain ⟨rfl,q⟩:=h
 cases ry
 refine is_none_gen (JaI I q ?_)
 cases x <;> first
  | (cases rx; rfl)
  | (obtain ⟨t,rfl⟩:=rx; rfl)
theorem Jh0:OpR X (compareOp .IsNot) (fun x y H Q => y = .non∧Q (.bl (!decide (x = .non))) H):=by
 intro pins s σ H x y v u Q I rx ry h
 obtain ⟨rfl,q⟩:=h
 cases ry
 refine isnot_none_gen (JaI I q ?_)
 cases x <;> first
  | (cases rx; rfl)
  | (obtain ⟨t,rfl⟩:=rx; rfl)
theorem Jaz (b:Expr) {op:CmpOp} (h:op ≠ .In:=by decide) (h2:op ≠ .NotIn:=by decide):behindInMarks op b = false:=by
 have e1:(op == CmpOp.In) = false:=by cases op <;> first | rfl | exact absurd rfl h
 have e2:(op == CmpOp.NotIn) = false:=by cases op <;> first | rfl | exact absurd rfl h2
 cases b <;> simp [behindInMarks,e1,e2]
theorem Jbl {op:CmpOp} {r:R2} (ho:OpR X (compareOp op) r) (ha:PE X a ta) (hb:PE X b tb) (hm:behindInMarks op b = false):PE X (.Compare a [op] [b] pos) (tOp r ta tb):=by
 intro pins s σ H Q I h
 exact wpAny_Compare1 (binT ha hb I h fun v u s2 x y H2 I2 rx ry q => ho pins s2 σ H2 x y v u Q I2 rx ry q) hm
def tTest (t:TE):TT:=fun σ H Q => t σ H fun x H' => ∃ k,x = .bl k∧Q k H'
theorem Jay {op:CmpOp} {r:R2} (ho:OpR X (compareOp op) r) (ha:PE X a ta) (hb:PE X b tb) (hm:behindInMarks op b = false):PT X (.Compare a [op] [b] pos) (tTest (tOp r ta tb)):=by
 intro pins s σ H Q I h
 refine wpAny_isTrue_Compare1 (thn (ha pins s σ H _ I h) fun v s1 ⟨x,H1,I1,r1,q1⟩ => thn (hb pins s1 σ H1 _ I1 q1) fun u s2 ⟨y,H2,I2,r2,q2⟩ =>
  thn (ho pins s2 σ H2 x y v u _ I2 r1 r2 q2) fun c s3 ⟨z,H3,I3,r3,k,e,q3⟩ => ?_) hm
 subst e
 cases r3
 exact wpAny_truthy_bool ⟨H3,I3,q3⟩
def JiS (r r':R2) (ta tb tc:TE):TE:=fun σ H Q => ta σ H fun x H1 => tb σ H1 fun y H2 => r x y H2 fun z H3 => ∃ k,z = .bl k ∧
 (if k = true then tc σ H3 fun w' H4 => r' y w' H4 Q else Q (.bl false) H3)
theorem Jd7:(sizeLine:Nat) < 2 ^ 63:=by rw [sizeLine_eq]; decide
theorem Jfy:OpR X (binaryOp .Add) (fun x y H Q => ∃ i j,x = .str i∧y = .str j∧i.length + j.length ≤ sizeLine∧Q (.str (i ++ j)) H):=by
 intro pins s σ H x y v u Q I rx ry h
 obtain ⟨i,j,rfl,rfl,hz,q⟩:=h
 obtain ⟨t,rfl⟩:=rx
 obtain ⟨t',rfl⟩:=ry
 exact add_str (fun t' tk => ⟨.str (i ++ j),H,I.tok _,⟨_,rfl⟩,q⟩) hz
theorem vals1 {x:V} {us:List Value} (r:Vals [x] us):∃ u,us = [u]∧RelV x u:=by
 cases r with
 | cons r1 r2 => cases r2; exact ⟨_,rfl,r1⟩
theorem vals2 {x y:V} {us:List Value} (r:Vals [x,y] us):∃ u w',us = [u,w']∧RelV x u∧RelV y w':=by
 cases r with
 | cons r1 r2 =>
  cases r2 with
  | cons r3 r4 => cases r4; exact ⟨_,_,rfl,r1,r3⟩
theorem JgJ:CallR X (.builtin "abs") (fun xs H Q => ∃ i,xs = [.int i]∧Q (.int (if i < 0 then -i else i)) H):=by
 intro pins s σ H xs us Q I r h
 obtain ⟨i,rfl,q⟩:=h
 obtain ⟨u,rfl,t,rfl⟩:=vals1 r
 exact call_abs_int fun u tk => ⟨.int (if i < 0 then -i else i),H,I.tok _,⟨_,rfl⟩,q⟩
theorem JfI (hc:X.calm = true):CallR X (.builtin "min") (fun xs H Q => ∃ i j,xs = [.int i, .int j]∧Q (.int (if j < i then j else i)) H):=by
 intro pins s σ H xs us Q I r h
 obtain ⟨i,j,rfl,q⟩:=h
 obtain ⟨u,w',rfl,⟨t,rfl⟩,⟨t',rfl⟩⟩:=vals2 r
 refine min_two_ints (I.ok.hd hc) fun h' tk k => ⟨_,H,I.kept k, ?_,q⟩
 by_cases hj:j < i
 ·rw [if_pos hj,if_pos hj]; exact ⟨_,rfl⟩
 ·rw [if_neg hj,if_neg hj]; exact ⟨_,rfl⟩
end
end L2
namespace L2
open PySem PySem.Spec PyProof.Rows
structure ObjM (h:Heap) (x dx C:Addr) (mA:Str→Option Value):Prop where
 obj:h.get? x = some (PySem.W.instObj C dx)
 ns:h.Ns1 dx mA
 ne:dx ≠ x
theorem Jd8 {h:Heap} {dx:Addr} {mA:Str→Option Value} (n:h.Ns1 dx mA):∃ od,h.get? dx = some od∧∀ name,PySem.W.lookIn name od = some (mA name):=by
 obtain ⟨o,es,ep,ho,hd,hk,_,hm⟩:=n
 refine ⟨o,ho,fun name => ?_⟩
 have e:=hm name
 unfold nsFind findBy at e
 rw [← Array.find?_toList] at e
 unfold PySem.W.lookIn
 rw [hd]
 dsimp only
 split
 ·rename_i y q
  rw [q] at e
  exact congrArg some e
 ·rename_i q
  rw [q] at e
  have a:es.toList.any (·.refKey) = false:=by
   rw [List.any_eq_false]
   intro y hy
   obtain ⟨z,t,hkey⟩:=hk y (Array.mem_toList_iff.mp hy)
   simp [DictEntry.refKey,hkey]
  have a':¬ es.toList.any (·.refKey) = true:=by rw [a]; exact Bool.false_ne_true
  rw [if_neg a']
  exact congrArg some e
theorem ObjM.look {h:Heap} {x dx C:Addr} {mA:Str→Option Value} (I:ObjM h x dx C mA):∃ od,PySem.W.InstAt h x (PySem.W.instObj C dx) C (some od)∧∀ name,PySem.W.lookIn name od = some (mA name) :=
 let ⟨od,ho,hl⟩:=Jd8 I.ns
 ⟨od,⟨I.obj,rfl,rfl,ho⟩,hl⟩
section
variable {prog:Program} {w:World} {A:Around} {E:Value→Shared→Prop} {s:Shared} {K:PySem.W.Frag} {x dx C f:Addr} {mA:Str→Option Value} {name:Str} {v:Value}
theorem get_map {expr:Bool} {Q:Value→Shared→Prop} (X:K.In s.heap) (I:ObjM s.heap x dx C mA) (hg:PySem.W.plainGet K C name = true) (hh:PySem.W.hasDictIn K C = true)
  (ha:PySem.W.findIn K (.ref C) name = some none) (hv:mA name = some v) (hv':PySem.W.handedIn v = true) (h:Q v { s with toks:=s.toks + 1 }) :
  wpAny (model prog w) A (getAttr (.ref x) name expr) Q E s:=by
 obtain ⟨od,J,hl⟩:=I.look
 exact PySem.W.get_value X J (PySem.W.plainGet_of hg).1 (PySem.W.findObj_own hh ha rfl (by rw [hl,hv])) hv' h
theorem JgS {pl:Sem Bool} {Q:Value × List Value→Shared→Prop} (X:K.In s.heap) (I:ObjM s.heap x dx C mA) (hg:PySem.W.plainGet K C name = true)
  (hf:PySem.W.findIn K (.ref C) name = some (some (.ref f))) (ht:PySem.W.isFn K (.ref f) = true) (hv:mA name = none) (h:Q (.ref f,[.ref x]) s) :
  wpAny (model prog w) A (getMethod (.ref x) name pl) Q E s:=by
 obtain ⟨od,J,hl⟩:=I.look
 exact PySem.W.method_fn X J (PySem.W.plainGet_of hg).1 (PySem.W.plainGet_of hg).2 hf (beq_iff_eq.mp ht) (by show (PySem.W.lookIn name od).map (·.isSome) = some false; rw [hl,hv]; rfl) h
theorem Jh8 {ns:List Str} {Q:Unit→Shared→Prop} (X:K.In s.heap) (I:ObjM s.heap x dx C mA)
  (hs:PySem.W.findIn K (.ref C) "__setattr__" = some (some (.builtin "object.__setattr__"))) (hp:PySem.W.plainOver K C = true) (ht:PySem.W.takerIn K C name = some none) (hh:PySem.W.hasDictIn K C = true)
  (hw:PySem.Within mA ns) (hsz:ns.length ≤ sizeLine)
  (h:∀ h',ObjM h' x dx C (fun y => if y = name then some v else mA y)→Heap.SameBut dx s.heap h'→Q () { s with heap:=h',toks:=s.toks + 2 }) :
  wpAny (model prog w) A (setAttr (.ref x) name v) Q E s:=by
 obtain ⟨od,J,hl⟩:=I.look
 refine PySem.W.set_plain X J hs (PySem.W.osa_open (s:={ s with toks:=s.toks + 1 }) (r:=none) X J hp ht fun b => ?_)
 obtain ⟨cd,hc,hd'⟩:=PySem.W.any_some hh
 have hx:s.heap.get? x = some ⟨.ref C,some dx, .plain, #[]⟩:=I.obj
 refine wpAny_bind (wpAny_pure (wpAny_bind (wpAny_bind (wpAny_loadPart hx (wpAny_bind (PySem.W.Looks.here (s:={ s with toks:=s.toks + 1 }) (PySem.W.looks_clsIn X hc) ?_))))))
 rw [hd']
 refine wpAny_pure (a:=some dx) (wpAny_bind (wpAny_pure (wpAny_bind ?_)))
 refine wpAny_nsSet1 (s:={ s with toks:=s.toks + 1 }) I.ns fun h' hn2 hs2 => ?_
 obtain ⟨oD,esD,epD,hoD,hdD,hcD⟩:=hn2.count (PySem.Within.cons name v hw)
 refine wpAny_bind (wpAny_lookBehind hoD (by rw [hdD]; exact pastItsLine_dict (Nat.le_trans hcD (by rw [List.length_cons]; omega))) ?_)
 exact wpAny_pure (h _ ⟨(hs2.2 _ (Ne.symm I.ne)).trans I.obj,hn2,I.ne⟩ hs2)
theorem Je4 {R:Result→Shared→Prop} {vs:List Value} {kw:List (Str × Value)} (X:K.In s.heap) (hm:PySem.W.makesIn K C = true)
  (hi:PySem.W.findIn K (.ref C) "__init__" = some (some (.ref f))) (hf:PySem.W.typeIn K (.ref f) = some (.type "function"))
  (h:codeAny (model prog w) (A.under (.builtin "type.__call__" ⟨.ref C :: vs,kw⟩)) (.call (.ref f) ⟨.ref (s.heap.objs.size + 1) :: vs,kw⟩) (PySem.W.InitBack (s.heap.objs.size + 1) R)
   { s with heap:=(s.heap.push PySem.W.emptyDict).push (PySem.W.instObj C s.heap.objs.size) }) :
  codeAny (model prog w) A (.call (.ref C) ⟨vs,kw⟩) R s:=by
 obtain ⟨hh,g,d,t,os⟩:=s
 exact PySem.W.make_core (PySem.W.makes_of X hm) (PySem.W.looks_findIn X hi) (fun self => PySem.W.bind_fn X self hf) (.inl rfl) h
end
def putF (f:Str) (v:V):List (Str × V)→List (Str × V)
 | [] => [(f,v)]
 | (g,x) :: r => if g = f then (g,v) :: r else (g,x) :: putF f v r
theorem JcX (f g:Str) (v:V):∀ fs:List (Str × V),(putF f v fs).lookup g = if g = f then some v else fs.lookup g
 | [] => by
  show List.lookup g [(f,v)] = _
  by_cases h:g = f
  ·have hb:(g == f) = true:=beq_iff_eq.mpr h
   simp only [List.lookup,hb,if_pos h]
  ·have hb:(g == f) = false:=beq_eq_false_iff_ne.mpr h
   simp only [List.lookup,hb,if_neg h]
 | (k,x) :: r => by
  have ih:=JcX f g v r
  rw [show putF f v ((k,x) :: r) = (if k = f then (k,v) :: r else (k,x) :: putF f v r) from rfl]
  by_cases hk:k = f
  ·rw [if_pos hk]
   by_cases h:g = k
   ·have hb:(g == k) = true:=beq_iff_eq.mpr h
    simp only [List.lookup,hb,if_pos (h.trans hk)]
   ·have hb:(g == k) = false:=beq_eq_false_iff_ne.mpr h
    simp only [List.lookup,hb,if_neg (fun e:g = f => h (e.trans hk.symm))]
  ·rw [if_neg hk]
   by_cases h:g = k
   ·have hb:(g == k) = true:=beq_iff_eq.mpr h
    simp only [List.lookup,hb,if_neg (fun e:g = f => hk (h.symm.trans e))]
   ·have hb:(g == k) = false:=beq_eq_false_iff_ne.mpr h
    simp only [List.lookup,hb]
    exact ih
theorem JcU (f:Str) (v:V):∀ fs:List (Str × V),f ∈ (putF f v fs).map (·.1)∧∀ g,g ∈ fs.map (·.1)→g ∈ (putF f v fs).map (·.1)
 | [] => ⟨by simp [putF],fun g h => by simp at h⟩
 | (k,x) :: r => by
  obtain ⟨i1,i2⟩:=JcU f v r
  rw [show putF f v ((k,x) :: r) = (if k = f then (k,v) :: r else (k,x) :: putF f v r) from rfl]
  by_cases hk:k = f
  ·rw [if_pos hk]
   subst hk
   exact ⟨by simp,fun g h => by simpa using h⟩
  ·rw [if_neg hk]
   refine ⟨?_,fun g h => ?_⟩
   ·rw [List.map_cons]
    exact List.mem_cons_of_mem _ i1
   ·rw [List.map_cons] at h ⊢
    rcases List.mem_cons.mp h with e | e
    ·exact List.mem_cons.mpr (.inl e)
    ·exact List.mem_cons_of_mem _ (i2 g e)
theorem JcW (f:Str) (v:V):∀ fs:List (Str × V),(putF f v fs).length ≤ fs.length + 1
 | [] => by simp [putF]
 | (k,x) :: r => by
  have ih:=JcW f v r
  rw [show putF f v ((k,x) :: r) = (if k = f then (k,v) :: r else (k,x) :: putF f v r) from rfl]
  by_cases hk:k = f
  ·rw [if_pos hk,List.length_cons,List.length_cons]; omega
  ·rw [if_neg hk,List.length_cons,List.length_cons]; omega
theorem RelO.some_of {v:V} {o:Option Value} (r:RelO (some v) o):∃ u,o = some u∧RelV v u:=by
 cases o with
 | none => exact (show False from r).elim
 | some u => exact ⟨u,rfl,r⟩
theorem RelO.none_of {o:Option Value} (r:RelO none o):o = none:=by
 cases o with
 | none => rfl
 | some u => exact (show False from r).elim
theorem JfW {v:V} {u:Value} (r:RelV v u):PySem.W.handedIn u = true:=by
 cases v with
 | non => cases (show u = Value.none from r); rfl
 | bl b => cases (show u = Value.bool b from r); rfl
 | int i => obtain ⟨t,e⟩:=(show ∃ t,u = Value.int i t from r); cases e; rfl
 | str x => obtain ⟨t,e⟩:=(show ∃ t,u = Value.str x t from r); cases e; rfl
 | byt b => obtain ⟨t,e⟩:=(show ∃ t,u = Value.bytes b t from r); cases e; rfl
 | flt b => obtain ⟨t,e⟩:=(show ∃ t,u = Value.float b t from r); cases e; rfl
 | ref a => cases (show u = Value.ref a from r); rfl
 | ty n => cases (show u = Value.type n from r); rfl
section
variable {P:Program} {w:World} {H H':Hp} {h h':Heap} {a C dx:Addr} {fs fs':List (Str × V)}
theorem JdA (hok:HOk P w H h) (e:H a = some (.ins C dx fs)):∃ mA,ObjM h a dx C mA∧(∀ f,RelO (fs.lookup f) (mA f))∧PySem.Within mA (fs.map (·.1))∧fs.length ≤ 1000∧H dx = some (.own a):=by
 obtain ⟨d,z,ne,ob,mA,n,r,q⟩:=(show ObjOk P w H h a (.ins C dx fs) from hok a _ e)
 exact ⟨mA,⟨ob,n,ne⟩,r,q,z,d⟩
end
structure Cls (K:PySem.W.Frag) (C:Addr):Prop where
 pg:PySem.W.plainGet K C Str.empty = true
 hd:PySem.W.hasDictIn K C = true
 po:PySem.W.plainOver K C = true
 sa:PySem.W.findIn K (.ref C) "__setattr__" = some (some (.builtin "object.__setattr__"))
theorem Cls.get {K:PySem.W.Frag} {C:Addr} (c:Cls K C) (f:Str):PySem.W.plainGet K C f = true:=c.pg
def JaS (K:PySem.W.Frag) (C:Addr) (f:Str):Prop:=PySem.W.findIn K (.ref C) f = some none
theorem JaS.taker {K:PySem.W.Frag} {C:Addr} {f:Str} (n:JaS K C f):PySem.W.takerIn K C f = some none:=by
 unfold PySem.W.takerIn
 rw [show PySem.W.findIn K (.ref C) f = some none from n]
 rfl
structure Meth (K:PySem.W.Frag) (C:Addr) (m:Str) (f:Addr):Prop where
 at_:PySem.W.findIn K (.ref C) m = some (some (.ref f))
 fn:PySem.W.isFn K (.ref f) = true
 kp:PySem.W.keepIn K (.ref f) = true
section
variable {X:Cx} {pins:List (Addr × Obj)} {σ : St} {H:Hp} {s:Shared} {a C dx:Addr} {fs:List (Str × V)} {f:Str} {v:V} {A:Around} {E:Value→Shared→Prop}
theorem Jfl {b:Bool} {Q:Value→Shared→Prop} (I:Inv X pins σ H s) (e:H a = some (.ins C dx fs)) (c:Cls X.K C) (n:JaS X.K C f) (l:fs.lookup f = some v)
  (h:∀ u s',Inv X pins σ H s'→RelV v u→Q u s'):wpAny (model X.prog X.w) A (getAttr (.ref a) f b) Q E s:=by
 obtain ⟨mA,O,r,_,_,_⟩:=JdA I.hok e
 obtain ⟨u,hu,ru⟩:=RelO.some_of (v:=v) (o:=mA f) (by rw [← l]; exact r f)
 exact get_map I.kIn O (c.get f) c.hd n hu (JfW ru) (h u _ (I.tok _) ru)
theorem Jdj {m:Str} {g:Addr} {pl:Sem Bool} {Q:Value × List Value→Shared→Prop} (I:Inv X pins σ H s) (e:H a = some (.ins C dx fs)) (c:Cls X.K C) (k:Meth X.K C m g) (l:fs.lookup m = none)
  (h:Q (.ref g,[.ref a]) s):wpAny (model X.prog X.w) A (getMethod (.ref a) m pl) Q E s:=by
 obtain ⟨mA,O,r,_,_,_⟩:=JdA I.hok e
 have hn:mA m = none:=RelO.none_of (by rw [← l]; exact r m)
 exact JgS I.kIn O (c.get m) k.at_ k.fn hn h
theorem JfD {y:V} {u:Value} {Q:Unit→Shared→Prop} (I:Inv X pins σ H s) (e:H a = some (.ins C dx fs)) (c:Cls X.K C) (n:JaS X.K C f) (hl:fs.length < 1000) (ry:RelV y u)
  (h:∀ s',Inv X pins σ (upd H a (.ins C dx (putF f y fs))) s'→Q () s'):wpAny (model X.prog X.w) A (setAttr (.ref a) f u) Q E s:=by
 obtain ⟨mA,O,r,wi,_,ho⟩:=JdA I.hok e
 have hz:(fs.map (·.1)).length ≤ sizeLine:=by rw [List.length_map,sizeLine_eq]; omega
 refine Jh8 I.kIn O c.sa c.po n.taker c.hd wi hz fun h' O' sb => h _ ?_
 have hd:∃ o,h'.get? dx = some o:=let ⟨o,_,_,e',_⟩:=O'.ns; ⟨o,e'⟩
 refine I.write (x:=a) (e:=dx) (by rw [e]; exact True.intro) (.inr ho) (fun b q hb z => (sb.2 b hb).trans z) hd ?_
 refine ⟨by rw [Jae O.ne]; exact ho, ?_,O.ne,O'.obj,_,O'.ns,fun g => ?_,fun g hg => ?_⟩
 ·have:=JcW f y fs; omega
 ·show RelO ((putF f y fs).lookup g) (if g = f then some u else mA g)
  rw [JcX]
  by_cases q:g = f
  ·rw [if_pos q,if_pos q]; exact ry
  ·rw [if_neg q,if_neg q]; exact r g
 ·by_cases q:g = f
  ·rw [q]; exact (JcU f y fs).1
  ·refine (JcU f y fs).2 g (wi g fun z => hg ?_)
   show (if g = f then some u else mA g) = none
   rw [if_neg q]; exact z
theorem Inv.made (I:Inv X pins σ H s):Inv X pins σ (upd (upd H s.heap.objs.size (.own (s.heap.objs.size + 1))) (s.heap.objs.size + 1) (.ins C s.heap.objs.size []))
  { s with heap:=(s.heap.push PySem.W.emptyDict).push (PySem.W.instObj C s.heap.objs.size) }:=by
 have e1:(s.heap.push PySem.W.emptyDict).get? s.heap.objs.size = some PySem.W.emptyDict:=Heap.get?_push_size s.heap rfl
 have e2:((s.heap.push PySem.W.emptyDict).push (PySem.W.instObj C s.heap.objs.size)).get? (s.heap.objs.size + 1) = some (PySem.W.instObj C s.heap.objs.size):=by
  have:=Heap.get?_push_size (s.heap.push PySem.W.emptyDict) (o:=PySem.W.instObj C s.heap.objs.size) rfl
  rwa [Heap.size_push] at this
 have e3:(s.heap.push PySem.W.emptyDict).Ns s.heap.objs.size (fun _ => none):=⟨PySem.W.emptyDict, #[],_,e1,rfl,(fun e he => absurd he (by simp)),fun _ => rfl⟩
 have I1:=I.laid (a:=s.heap.objs.size) (o:=.own (s.heap.objs.size + 1)) (h':=s.heap.push PySem.W.emptyDict) (t':=s.toks) (fun b u q => Heap.get?_push_of_some _ q) (Nat.le_refl _) ⟨_,e1⟩
 refine I1.laid (a:=s.heap.objs.size + 1) (o:=.ins C s.heap.objs.size []) (t':=s.toks) (fun b u q => Heap.get?_push_of_some _ q) (Nat.le_of_eq (Heap.size_push _ _)) ?_
 have ne:s.heap.objs.size ≠ s.heap.objs.size + 1:=Nat.ne_of_lt (Nat.lt_succ_self _)
 refine ⟨by rw [Jae ne,Jak],Nat.zero_le _,ne,e2,fun _ => none,(Heap.Ns1.of_empty e3).at fun o q => Heap.get?_push_of_some _ q,fun _ => True.intro,fun y hy => absurd rfl hy⟩
theorem Jhx {prog:Program} {w:World} {env:Env} {e:Expr} {f:Str} {pos:Pos} {s:Shared} {Q:Value→Shared→Prop} (hb:attributeBase e f env (eval e env) = eval e env)
  (h:wpAny (model prog w) A (eval e env) (fun o s₁ => wpAny (model prog w) A (getAttr o f true) Q E s₁) E s):wpAny (model prog w) A (eval (.Attribute e f pos) env) Q E s :=
 Attribute_any_ h (by rw [arm_eval_Attribute,hb])
end
def tFld (K:PySem.W.Frag) (ta:TE) (f:Str):TE:=fun σ H Q => ta σ H fun x H1 => ∃ a C dx fs v,x = .ref a∧H1 a = some (.ins C dx fs)∧Cls K C∧JaS K C f∧fs.lookup f = some v∧Q v H1
def sFld (K:PySem.W.Frag) (ta tv:TE) (f:Str):TS:=fun D σ H => tv σ H fun y H1 => ta σ H1 fun x H2 => ∃ a C dx fs,x = .ref a∧H2 a = some (.ins C dx fs)∧Cls K C∧JaS K C f∧fs.length < 1000 ∧
 D.nx σ (upd H2 a (.ins C dx (putF f y fs)))
section
variable {X:Cx} {o e value:Expr} {f:Str} {pos pos' tpos:Pos} {ta tv:TE}
theorem JaE (he:PE X e ta) (hb:attributeBase e f X.env (eval e X.env) = eval e X.env):PE X (.Attribute e f pos) (tFld X.K ta f):=by
 intro pins s σ H Q I h
 refine Jhx hb (thn (he pins s σ H _ I h) fun u s1 ⟨x,H1,I1,rx,a,C,dx,fs,v,ex,ea,c,n,l,q⟩ => ?_)
 subst ex
 obtain rfl:u = Value.ref a:=rx
 exact Jfl I1 ea c n l fun u' s2 I2 ru => ⟨v,H1,I2,ru,q⟩
theorem Jbm (ha:PE X o ta) (hv:PE X value tv) (hs:swapsWith value (some (.Attribute o f pos')) pos.line X.env = pure false):PS X (.Assign [.Attribute o f pos'] value pos) (sFld X.K ta tv f):=by
 intro pins s σ H D I h
 refine plainObj_wpAny_Assign_Attribute (thn (hv pins s σ H _ I h) fun u s1 ⟨y,H1,I1,ry,q⟩ => thn (ha pins s1 σ H1 _ I1 q) fun ov s2 ⟨x,H2,I2,rx,a,C,dx,fs,ex,ea,c,n,l,q2⟩ => ?_) hs
 subst ex
 obtain rfl:ov = Value.ref a:=rx
 exact JfD I2 ea c n l ry fun s3 I3 => ⟨σ,_,I3,q2⟩
end
section
variable {X:Cx} {pins:List (Addr × Obj)} {σ : St} {H:Hp} {s:Shared} {A:Around} {E:Value→Shared→Prop} {Q:Value→Shared→Prop} {c:Value} {b:Bool}
inductive TyOf (K:PySem.W.Frag) (H:Hp):V→Value→Prop where
 | non:TyOf K H .non (.type "NoneType")
 | bl (x:Bool):TyOf K H (.bl x) (.type "bool")
 | int (i:Int):TyOf K H (.int i) (.type "int")
 | str (x:Str):TyOf K H (.str x) (.type "str")
 | flt (x:UInt64):TyOf K H (.flt x) (.type "float")
 | lst {a:Addr} {xs:List V} (e:H a = some (.lst xs)):TyOf K H (.ref a) (.type "list")
 | frz {a:Addr} {o:Obj} {xs:List V} (e:H a = some (.frz o (.lst xs))):TyOf K H (.ref a) (.type "list")
 | tup {a:Addr} {xs:List V} (e:H a = some (.tup xs)):TyOf K H (.ref a) (.type "tuple")
 | dK {a:Addr} {kvs:List (Key × V)} (e:H a = some (.dK kvs)):TyOf K H (.ref a) (.type "dict")
 | dT {a:Addr} {kvs:List (List Key × V)} (e:H a = some (.dT kvs)):TyOf K H (.ref a) (.type "dict")
 | ins {a C dx:Addr} {fs:List (Str × V)} (e:H a = some (.ins C dx fs)) (cl:Cls K C) (ha:PySem.W.findIn K (.ref C) "__class__" = some (some (.builtin "object.__class__")))
   (hn:PySem.W.specialIn K (.builtin "object.__class__") "__get__" = some (some (.builtin "getset_descriptor.__get__"))) (htk:PySem.W.takesIn K (.builtin "object.__class__") = some true)
   (hm:PySem.W.mroIn K C (.type "object") = some true):TyOf K H (.ref a) (.ref C)
theorem Jf0 {x:V} {u t:Value} (I:Inv X pins σ H s) (rx:RelV x u) (ty:TyOf X.K H x t) (e:PySem.W.kitOne X.K t c = some b) (h:∀ tk,Q (.bool b) { s with toks:=tk }) :
  wpAny (model X.prog X.w) A (call (.builtin "isinstance") [u,c]) Q E s:=by
 cases ty with
 | non => cases (show u = Value.none from rx); exact PySem.W.kia_one PySem.W.kitx_none I.kIn True.intro e (fun z => nomatch z) h
 | bl y => cases (show u = Value.bool y from rx); exact PySem.W.kia_one PySem.W.kitx_bool I.kIn True.intro e (fun z => nomatch z) h
 | int i => obtain ⟨t,q⟩:=(show ∃ t,u = Value.int i t from rx); cases q; exact PySem.W.kia_one PySem.W.kitx_int I.kIn True.intro e (fun z => nomatch z) h
 | str y => obtain ⟨t,q⟩:=(show ∃ t,u = Value.str y t from rx); cases q; exact PySem.W.kia_one PySem.W.kitx_str I.kIn True.intro e (fun z => nomatch z) h
 | flt y => obtain ⟨t,q⟩:=(show ∃ t,u = Value.float y t from rx); cases q; exact PySem.W.kia_one PySem.W.kitx_float I.kIn True.intro e (fun z => nomatch z) h
 | @lst a xs ea =>
  cases (show u = Value.ref a from rx)
  obtain ⟨_,_,n,_,h1⟩:=(show ObjOk X.prog X.w H s.heap a (.lst xs) from I.hok a _ ea)
  exact PySem.W.kia_one PySem.W.kitx_list I.kIn ⟨_,h1,rfl⟩ e (fun z => nomatch z) h
 | @frz a ob xs ea =>
  cases (show u = Value.ref a from rx)
  obtain ⟨_,_,_,n,_,h1⟩:=(show ObjOk X.prog X.w H s.heap a (.frz ob (.lst xs)) from I.hok a _ ea)
  exact PySem.W.kia_one PySem.W.kitx_list I.kIn ⟨_,h1,rfl⟩ e (fun z => nomatch z) h
 | @tup a xs ea =>
  cases (show u = Value.ref a from rx)
  obtain ⟨_,_,_,p⟩:=(show ObjOk X.prog X.w H s.heap a (.tup xs) from I.hok a _ ea)
  obtain ⟨o,h1,h2,_⟩:=p
  exact PySem.W.kia_one PySem.W.kitx_tuple I.kIn ⟨o,h1,h2⟩ e (fun z => nomatch z) h
 | @dK a kvs ea =>
  cases (show u = Value.ref a from rx)
  obtain ⟨_,_,vs,_,p⟩:=(show ObjOk X.prog X.w H s.heap a (.dK kvs) from I.hok a _ ea)
  obtain ⟨o,es,ep,h1,h2,_⟩:=p
  exact PySem.W.kia_one PySem.W.kitx_dict I.kIn ⟨o,h1,h2.1⟩ e (fun z => nomatch z) h
 | @dT a kvs ea =>
  cases (show u = Value.ref a from rx)
  obtain ⟨_,_,xs,_,o,es,ep,h1,h2,_⟩:=(show ObjOk X.prog X.w H s.heap a (.dT kvs) from I.hok a _ ea)
  exact PySem.W.kia_one PySem.W.kitx_dict I.kIn ⟨o,h1,h2.1⟩ e (fun z => nomatch z) h
 | @ins a C dx fs ea cl ha hn htk hm =>
  cases (show u = Value.ref a from rx)
  obtain ⟨mA,O,_⟩:=JdA I.hok ea
  obtain ⟨od,J,_⟩:=O.look
  exact PySem.W.kia_one (PySem.W.kitx_own (cl.get _) cl.hd ha hn htk hm) I.kIn J e (fun z => nomatch z) h
end
end L2
namespace L2
open PySem PySem.Spec PyProof.Rows
structure Room (k:Nat) (A:Around):Prop where
 hd:A.handled = none
 dp:A.depth + 3 * k + 5 < recursionLimit
 un:A.units + 16 * k + 200 < cLine
theorem Room.mono {j k:Nat} {A:Around} (r:Room k A) (h:j ≤ k):Room j A:=⟨r.hd,by have:=r.dp; omega,by have:=r.un; omega⟩
theorem Room.deeper {k:Nat} {A:Around} (r:Room (k + 1) A) (env:Env):Room k (A.deeper env) :=
 ⟨r.hd,by have:=r.dp; show A.depth + 1 + 3 * k + 5 < _; omega,by have:=r.un; show A.units + 3 + 16 * k + 200 < _; omega⟩
theorem Jfp {A:Around} {C:Addr} {us:List Value} {kw:List (Str × Value)}:(A.under (.builtin "type.__call__" ⟨.ref C :: us,kw⟩)).depth = A.depth + 1:=by
 first | rfl | simp [Around.under,Code.weight,Code.isCreation,Code.isGuard,Code.isCaller,Code.frames,Code.isFrame,guardIds]
theorem Jfq {A:Around} {C:Addr} {us:List Value} {kw:List (Str × Value)}:(A.under (.builtin "type.__call__" ⟨.ref C :: us,kw⟩)).units = A.units + 1:=by
 first | rfl | simp [Around.under,Code.cUnits,Code.frames,Code.isFrame]
theorem Room.make {k:Nat} {A:Around} (r:Room (k + 1) A) (C:Addr) (us:List Value) (kw:List (Str × Value)):Room k (A.under (.builtin "type.__call__" ⟨.ref C :: us,kw⟩)) :=
 ⟨r.hd,by have:=r.dp; rw [Jfp]; omega,by have:=r.un; rw [Jfq]; omega⟩
theorem Room.depth {k:Nat} {A:Around} (r:Room k A):A.depth < recursionLimit:=by have:=r.dp; omega
theorem Room.units {k:Nat} {A:Around} (r:Room k A):A.units + 64 < cLine:=by have:=r.un; omega
def tNil:TA:=fun _ H Q => Q [] H
def tCons (ta:TE) (tr:TA):TA:=fun σ H Q => ta σ H fun x H1 => tr σ H1 fun xs H2 => Q (x :: xs) H2
section
variable {X:Cx} {e:Expr} {es:List Expr} {te:TE} {t:TA} {pos:Pos}
theorem Jad:PA X [] tNil:=fun _ _ _ _ H Q I h => Calls.spliced_nil ⟨[],H,I, .nil,h⟩
theorem Jgg (ha:PE X e te) (hr:PA X es t) (hs:starEach (e :: es) X.env = (false,eval e X.env) :: starEach es X.env:=by rfl):PA X (e :: es) (tCons te t):=by
 intro pos pins s σ H Q I h
 rw [hs]
 show wpAny _ _ (spliced ((false,eval e X.env) :: backTo pos (starEach es X.env))) _ _ s
 refine Calls.spliced_cons (thn (ha pins s σ H _ I h) fun u s1 ⟨x,H1,I1,r1,q1⟩ => ?_)
 exact thn (hr pos pins s1 σ H1 _ I1 q1) fun us s2 ⟨xs,H2,I2,r2,q2⟩ => ⟨x :: xs,H2,I2, .cons r1 r2,q2⟩
def tTup (t:TA):TE:=fun σ H Q => t σ H fun xs H1 => xs.length ≤ sizeLine∧∀ p,H1 p = none→Q (.ref p) (upd H1 p (.tup xs))
def tLst (t:TA):TE:=fun σ H Q => t σ H fun xs H1 => xs.length ≤ sizeLine∧∀ p,H1 p = none→Q (.ref p) (upd H1 p (.lst xs))
theorem JaQ {x1} (h:PA X es t):PE X (.Tuple es x1 pos) (tTup t):=by
 intro pins s σ H Q I hq
 refine wpAny_Tuple_spliced (thn (h pos pins s σ H _ I hq) fun us s1 ⟨xs,H1,I1,r,z,q⟩ => ⟨by rw [← r.length]; exact z, ?_⟩)
 have hf:H1 s1.heap.objs.size = none:=I1.hok.fresh (Nat.le_refl _)
 refine ⟨.ref s1.heap.objs.size,upd H1 s1.heap.objs.size (.tup xs),I1.laid (t':=s1.toks) (fun b u e => Heap.get?_push_of_some _ e) (Nat.le_refl _) ?_,rfl,q _ hf⟩
 exact ⟨z,us,r,⟨_,Heap.get?_push_size _ rfl,rfl,_,rfl⟩⟩
theorem JaP (h:PA X es t):PE X (.List es pos) (tLst t):=by
 intro pins s σ H Q I hq
 refine wpAny_List_spliced (thn (h pos pins s σ H _ I hq) fun us s1 ⟨xs,H1,I1,r,z,q⟩ => ⟨by rw [← r.length]; exact z, ?_⟩)
 have hf:H1 s1.heap.objs.size = none:=I1.hok.fresh (Nat.le_refl _)
 refine ⟨.ref s1.heap.objs.size,upd H1 s1.heap.objs.size (.lst xs),I1.laid (t':=s1.toks) (fun b u e => Heap.get?_push_of_some _ e) (Nat.le_refl _) ?_,rfl,q _ hf⟩
 exact ⟨z,us,0,r,Heap.get?_push_size _ rfl⟩
end
abbrev Sp:=List V→Hp→VK→XK→Prop
abbrev CXT:=List Env→Hp→Shared→XK→Value→Shared→Prop
structure Env0 (P:Program) (w:World) (K:PySem.W.Frag) (mg:Str→Option Value) (base:Heap) (A:Around) (outer:List Env) (s:Shared) (H:Hp):Prop where
 frames:A.frames = some outer
 mod:Mod K mg base
 bs:∀ b o,base.get? b = some o→s.heap.get? b = some o∧H b = none
 bsz:base.objs.size ≤ s.heap.objs.size
 funs:s.heap.FunFrames base outer
 frf:∀ b ∈ frs outer,H b = none
 hok:HOk P w H s.heap
 bare:AllBare s.gens
def CE (outer:List Env) (P:Program) (w:World) (H:Hp) (s:Shared) (Q:VK) (u:Value) (s':Shared):Prop :=
 ∃ v H',s'.os = s.os∧AllBare s'.gens∧Un (frs outer) [] H H' s.heap s'.heap∧HOk P w H' s'.heap∧RelV v u∧Q v H'
def CR (CX:CXT) (outer:List Env) (P:Program) (w:World) (H:Hp) (s:Shared) (Q:VK) (E:XK) (r:Result) (s':Shared):Prop :=
 match r with
 | .ok (.ret u) => CE outer P w H s Q u s'
 | .ok _ => False
 | .error e => CX outer H s E e s'
structure FnOk (P:Program) (w:World) (K:PySem.W.Frag) (mg:Str→Option Value) (base:Heap) (CX:CXT) (k:Nat) (f:Addr) (fd:FuncData) (ps:List Str) (sp:Sp):Prop where
 len:∀ vs H Q E,sp vs H Q E→vs.length = ps.length
 run:∀ (A:Around) (outer:List Env) (s:Shared) (H:Hp) (args:Args) (us:List Value) (vs:List V) (Q:VK) (E:XK),Room k A→Env0 P w K mg base A outer s H→BindsTo s fd args (ps.zip us)→Vals vs us→sp vs H Q E →
  codeAny (model P w) A (.call (.ref f) args) (CR CX outer P w H s Q E) s
theorem Env0.make {P:Program} {w:World} {K:PySem.W.Frag} {mg:Str→Option Value} {base:Heap} {A:Around} {outer:List Env} {s:Shared} {H:Hp} (e:Env0 P w K mg base A outer s H) (C:Addr) (us:List Value) (kw:List (Str × Value)) :
  Env0 P w K mg base (A.under (.builtin "type.__call__" ⟨.ref C :: us,kw⟩)) outer s H:=⟨by first | exact e.frames | (simpa [Around.under,Code.envs,Code.isFrame,pushEnvs] using e.frames),e.mod,e.bs,e.bsz,e.funs,e.frf,e.hok,e.bare⟩
section
variable {X:Cx} {pins:List (Addr × Obj)} {σ : St} {H:Hp} {s s':Shared}
theorem Inv.env0 (I:Inv X pins σ H s):Env0 X.prog X.w X.K X.mg X.base X.A X.stack s H :=
 ⟨I.ok.frames,I.ok.mod,I.bs,Nat.le_trans I.ok.bsz I.sz,I.stack,I.stkFree,I.hok,I.bare⟩
theorem Inv.after {Q:VK} {u:Value} (I:Inv X pins σ H s) (h:CE X.stack X.prog X.w H s Q u s'):EP X pins σ Q u s':=by
 obtain ⟨v,H',os,bare,un,hok,r,q⟩:=h
 obtain ⟨hh,g,d,t,os'⟩:=s'
 obtain rfl:os' = s.os:=os
 exact ⟨v,H',I.call (h':=hh) (g':=g) (d':=d) (t':=t) (ch:=[]) un hok bare (fun b z => absurd z (by simp)),r,q⟩
end
def tCall (sp:Sp) (dvs:List V) (E:XK) (t:TA):TE:=fun σ H Q => t σ H fun vs H1 => sp (vs ++ dvs) H1 Q E
def tMake (C:Addr) (sp:Sp) (dvs:List V) (E:XK) (t:TA):TE:=fun σ H Q => t σ H fun vs H1 => ∀ x dx,H1 x = none→H1 dx = none→dx ≠ x →
 sp (.ref x :: (vs ++ dvs)) (upd (upd H1 dx (.own x)) x (.ins C dx [])) (fun v H2 => v = .non∧Q (.ref x) H2) E
def Binds (K:PySem.W.Frag) (fd:FuncData) (ps:List Str) (ds:List Value):Prop :=
 ∀ (s:Shared) (us:List Value),K.In s.heap→(us ++ ds).length = ps.length→BindsTo s fd ⟨us,[]⟩ (ps.zip (us ++ ds))
theorem Binds.all {K:PySem.W.Frag} {fd:FuncData} {ps:List Str} (h:∀ us:List Value,us.length = ps.length→bindArgs fd ⟨us,[]⟩ = pure (ps.zip us)):Binds K fd ps []:=fun s us _ hl => by
 rw [List.append_nil] at hl ⊢
 exact .of_eq (h us hl)
def Jbo (CX:CXT) (X:Cx) (E:XK):Prop:=∀ (pins:List (Addr × Obj)) (σ : St) (H:Hp) (s:Shared) (e:Value) (s':Shared),Inv X pins σ H s→CX X.stack H s E e s'→X.xe e s'
section
variable {X:Cx} {CX:CXT} {k:Nat} {f C:Addr} {fd:FuncData} {ps:List Str} {sp:Sp} {dvs:List V} {ds:List Value} {E:XK} {x m:Str} {p pos apos:Pos} {e o:Expr} {es:List Expr} {ta:TE} {t:TA}
theorem Je9 {pins:List (Addr × Obj)} {σ : St} {H:Hp} {s:Shared} {Q:VK} {us:List Value} {vs:List V} (F:FnOk X.prog X.w X.K X.mg X.base CX k f fd ps sp) (hr:Room k X.A) (hb:Binds X.K fd ps ds) (hd:Vals dvs ds) (hx:Jbo CX X E)
  (I:Inv X pins σ H s) (r:Vals vs us) (h:sp (vs ++ dvs) H Q E):wpAny (model X.prog X.w) X.A (call (.ref f) us) (EP X pins σ Q) X.xe s:=by
 have r2:Vals (vs ++ dvs) (us ++ ds):=r.append hd
 have hl:(us ++ ds).length = ps.length:=by rw [← r2.length]; exact F.len _ _ _ _ h
 refine wpAny_call (codeAny_mono (F.run X.A X.stack s H ⟨us,[]⟩ (us ++ ds) (vs ++ dvs) Q E hr I.env0 (hb s us I.kIn hl) r2 h) fun r s' hq => ?_)
 cases r with
 | error e => exact hx pins σ H s e s' I hq
 | ok fl =>
  cases fl with
  | ret u => exact I.after hq
  | next => exact False.elim hq
  | brk => exact False.elim hq
  | cont => exact False.elim hq
theorem Jh1 (F:FnOk X.prog X.w X.K X.mg X.base CX k f fd ps sp) (hr:Room k X.A) (hg:Gl X x) (hm:X.mg x = some (.ref f)) (hk:PySem.W.keepIn X.K (.ref f) = true) (hb:Binds X.K fd ps ds) (hd:Vals dvs ds) (hx:Jbo CX X E)
  (ha:PA X (e :: es) t) (hdb:(x == ("__debug__" : Str)) = false:=by decide) (he:starEach (e :: es) X.env = (false,eval e X.env) :: starEach es X.env:=by rfl) (hpl:(backTo pos (starEach es X.env)).any (·.1) = false:=by rfl) :
  PE X (.Call (.Name x p) (e :: es) [] pos) (tCall sp dvs E t):=by
 intro pins s σ H Q I h
 refine wpAny_Call_Name_kw (JbA I hg hm ?_ hdb)
 refine PySem.W.callWith_K (h₀:=X.base) I.ok.mod.kin hk (thn (ha pos pins s σ H _ I h) fun us s1 ⟨vs,H1,I1,r,q⟩ => ⟨I1.kIn, ?_⟩) he hpl
 exact Je9 F hr hb hd hx I1 r q
theorem Jg1 (F:FnOk X.prog X.w X.K X.mg X.base CX k f fd ps sp) (hr:Room k X.A) (hg:Gl X x) (hm:X.mg x = some (.ref f)) (hk:PySem.W.keepIn X.K (.ref f) = true) (hb:Binds X.K fd ps ds) (hd:Vals dvs ds) (hx:Jbo CX X E)
  (hdb:(x == ("__debug__" : Str)) = false:=by decide):PE X (.Call (.Name x p) [] [] pos) (tCall sp dvs E tNil):=by
 intro pins s σ H Q I h
 refine wpAny_Call_Name_kw (JbA I hg hm ?_ hdb)
 exact PySem.W.callWith_K0 I.kIn hk (Je9 (us:=[]) F hr hb hd hx I .nil h)
structure Mk (K:PySem.W.Frag) (C f:Addr):Prop where
 makes:PySem.W.makesIn K C = true
 init:PySem.W.findIn K (.ref C) "__init__" = some (some (.ref f))
 fn:PySem.W.isFn K (.ref f) = true
 kp:PySem.W.keepIn K (.ref C) = true
theorem Jfa {pins:List (Addr × Obj)} {σ : St} {H:Hp} {s:Shared} {Q:VK} {us:List Value} {vs:List V} (M:Mk X.K C f) (F:FnOk X.prog X.w X.K X.mg X.base CX k f fd ps sp) (hr:Room (k + 1) X.A) (hb:Binds X.K fd ps ds) (hd:Vals dvs ds)
  (hx:Jbo CX X E) (I:Inv X pins σ H s) (r:Vals vs us)
  (h:∀ x dx,H x = none→H dx = none→dx ≠ x→sp (.ref x :: (vs ++ dvs)) (upd (upd H dx (.own x)) x (.ins C dx [])) (fun v H2 => v = .non∧Q (.ref x) H2) E) :
  wpAny (model X.prog X.w) X.A (call (.ref C) us) (EP X pins σ Q) X.xe s:=by
 have hq:=h (s.heap.objs.size + 1) s.heap.objs.size (I.hok.fresh (Nat.le_succ _)) (I.hok.fresh (Nat.le_refl _)) (Nat.ne_of_lt (Nat.lt_succ_self _))
 have I2:=Inv.made (C:=C) I
 have r2:Vals (V.ref (s.heap.objs.size + 1) :: (vs ++ dvs)) (Value.ref (s.heap.objs.size + 1) :: (us ++ ds)):=.cons rfl (r.append hd)
 have hl:(Value.ref (s.heap.objs.size + 1) :: us ++ ds).length = ps.length:=by
  have e:=r2.length
  rw [F.len _ _ _ _ hq] at e
  exact e.symm
 refine wpAny_call (Je4 (f:=f) I.kIn M.makes M.init (beq_iff_eq.mp M.fn) (codeAny_mono (F.run _ X.stack _ _ ⟨Value.ref (s.heap.objs.size + 1) :: us,[]⟩ (Value.ref (s.heap.objs.size + 1) :: (us ++ ds)) _ _ E (hr.make C us [])
  (I2.env0.make C us []) (hb _ (Value.ref (s.heap.objs.size + 1) :: us) I2.kIn hl) r2 hq) fun r s' hq' => ?_))
 cases r with
 | error e => exact hx pins σ _ _ e s' I2 hq'
 | ok fl =>
  cases fl with
  | ret u =>
   obtain ⟨v,H',I3,rv,ev,q3⟩:=I2.after hq'
   subst ev
   exact ⟨rv,⟨V.ref (s.heap.objs.size + 1),H',I3,rfl,q3⟩⟩
  | next => exact False.elim hq'
  | brk => exact False.elim hq'
  | cont => exact False.elim hq'
theorem Jh3 (M:Mk X.K C f) (F:FnOk X.prog X.w X.K X.mg X.base CX k f fd ps sp) (hr:Room (k + 1) X.A) (hg:Gl X x) (hm:X.mg x = some (.ref C)) (hb:Binds X.K fd ps ds) (hd:Vals dvs ds) (hx:Jbo CX X E)
  (ha:PA X (e :: es) t) (hdb:(x == ("__debug__" : Str)) = false:=by decide) (he:starEach (e :: es) X.env = (false,eval e X.env) :: starEach es X.env:=by rfl) (hpl:(backTo pos (starEach es X.env)).any (·.1) = false:=by rfl) :
  PE X (.Call (.Name x p) (e :: es) [] pos) (tMake C sp dvs E t):=by
 intro pins s σ H Q I h
 refine wpAny_Call_Name_kw (JbA I hg hm ?_ hdb)
 refine PySem.W.callWith_K (h₀:=X.base) I.ok.mod.kin M.kp (thn (ha pos pins s σ H _ I h) fun us s1 ⟨vs,H1,I1,r,q⟩ => ⟨I1.kIn, ?_⟩) he hpl
 exact Jfa M F hr hb hd hx I1 r q
theorem Jg3 (M:Mk X.K C f) (F:FnOk X.prog X.w X.K X.mg X.base CX k f fd ps sp) (hr:Room (k + 1) X.A) (hg:Gl X x) (hm:X.mg x = some (.ref C)) (hb:Binds X.K fd ps ds) (hd:Vals dvs ds) (hx:Jbo CX X E)
  (hdb:(x == ("__debug__" : Str)) = false:=by decide):PE X (.Call (.Name x p) [] [] pos) (tMake C sp dvs E tNil):=by
 intro pins s σ H Q I h
 refine wpAny_Call_Name_kw (JbA I hg hm ?_ hdb)
 exact PySem.W.callWith_K0 I.kIn M.kp (Jfa (us:=[]) M F hr hb hd hx I .nil h)
end
section
variable {X:Cx} {CX:CXT} {k:Nat} {f C:Addr} {fd:FuncData} {ps ks:List Str} {sp:Sp} {E:XK} {x m:Str} {p pos apos kpos:Pos} {e o:Expr} {es:List Expr} {kws:List Keyword} {te ta:TE} {t tk:TA} {nm:Option Str}
variable {g:List Value→List Value→List Value} {gV:List V→List V→List V}
end
structure Jaq (N P:List Str) (sc:Scope):Prop where
 kind:sc.kind = .function
 co:sc.isCoroutine = false
 gen:sc.isGenerator = false
 nd:N.Nodup
 pre:N.take P.length = P
 par:∀ x ∈ P,sc.names.lookup x = some .local ∨ sc.names.lookup x = some .cell
 nofree:∀ y ∈ sc.names,y.2 ≠ .free
theorem JdY {kindOf:Str→Option NameKind} {x:Str}:∀ {binds:List (Str × Value)} {m:Str→Option Value},(∀ v,(x,v) ∉ binds)→bindL kindOf binds m x = m x
 | [],_,_ => rfl
 | (n,v) :: r,m,h => by
  unfold bindL
  rw [JdY fun w hw => h w (List.mem_cons_of_mem _ hw)]
  split
  ·have : x ≠ n:=by rintro rfl; exact h v List.mem_cons_self
   simp [this]
  ·rfl
theorem JdW {kindOf:Str→Option NameKind} {x:Str}:∀ {binds:List (Str × Value)} {m:Str→Option Value},(∀ v,(x,v) ∉ binds)→bindC kindOf binds m x = m x
 | [],_,_ => rfl
 | (n,v) :: r,m,h => by
  unfold bindC
  rw [JdW fun w hw => h w (List.mem_cons_of_mem _ hw)]
  split
  ·rfl
  ·have : x ≠ n:=by rintro rfl; exact h v List.mem_cons_self
   simp [this]
theorem JdX {kindOf:Str→Option NameKind} {x:Str} {v:Value}:∀ {P:List Str} {vs:List Value} {i:Nat} {m:Str→Option Value},P.Nodup→P[i]? = some x→vs[i]? = some v→kindOf x = some .local →
  bindL kindOf (P.zip vs) m x = some v
 | [],_,_,_,_,h,_,_ => by simp at h
 | _ :: _,[],_,_,_,_,h,_ => by simp at h
 | p :: P,w :: vs,0,m,nd,h1,h2,hk => by
  simp at h1 h2; subst h1; subst h2
  show bindL kindOf ((p,w) :: P.zip vs) m p = _
  unfold bindL
  rw [JdY fun v hv => (List.nodup_cons.mp nd).1 (List.of_mem_zip hv).1,if_pos hk]
  simp
 | p :: P,w :: vs,i + 1,m,nd,h1,h2,hk => by
  show bindL kindOf ((p,w) :: P.zip vs) m x = _
  unfold bindL
  exact JdX (i:=i) (List.nodup_cons.mp nd).2 (by simpa using h1) (by simpa using h2) hk
theorem JdV {kindOf:Str→Option NameKind} {x:Str} {v:Value}:∀ {P:List Str} {vs:List Value} {i:Nat} {m:Str→Option Value},P.Nodup→P[i]? = some x→vs[i]? = some v→kindOf x ≠ some .local →
  bindC kindOf (P.zip vs) m x = some v
 | [],_,_,_,_,h,_,_ => by simp at h
 | _ :: _,[],_,_,_,_,h,_ => by simp at h
 | p :: P,w :: vs,0,m,nd,h1,h2,hk => by
  simp at h1 h2; subst h1; subst h2
  show bindC kindOf ((p,w) :: P.zip vs) m p = _
  unfold bindC
  rw [JdW fun v hv => (List.nodup_cons.mp nd).1 (List.of_mem_zip hv).1,if_neg hk]
  simp
 | p :: P,w :: vs,i + 1,m,nd,h1,h2,hk => by
  show bindC kindOf ((p,w) :: P.zip vs) m x = _
  unfold bindC
  exact JdV (i:=i) (List.nodup_cons.mp nd).2 (by simpa using h1) (by simpa using h2) hk
def start (N:List Str) (vs:List V):St:=vs.map some ++ List.replicate (N.length - vs.length) none
def cxOf (CX:CXT) (P:Program) (w:World) (K:PySem.W.Frag) (mg:Str→Option Value) (base:Heap) (N:List Str) (qual:Str) (scope:Scope) (f:Addr) (cd:Value) (A:Around) (outer:List Env) (s:Shared) (H:Hp) (E:XK):Cx where
 prog:=P
 w:=w
 K:=K
 mg:=mg
 base:=base
 A:=A.deeper (envOfC qual scope s.heap.objs.size f cd)
 N:=N
 s₀:=s
 H₀:=H
 env:=envOfC qual scope s.heap.objs.size f cd
 outer:=outer
 stack:=envOfC qual scope s.heap.objs.size f cd :: outer
 ex:=[]
 calm:=true
 fn:=fun _ => true
 pn:=[]
 xe:=fun e s' => wpAny (model P w) (A.deeper (envOfC qual scope s.heap.objs.size f cd)) (leaving (envOfC qual scope s.heap.objs.size f cd) e) (fun _ s'' => CX outer H s E e s'') (fun e' s'' => CX outer H s E e' s'') s'
theorem JeU {sc:Scope} {n:Nat} {x:Str} (h:sc.names.lookup x = some .cell):∃ c,(cellsFrom n sc.names []).lookup x = some c:=by
 have q:=PySem.W.cellsFrom_some sc.names n [] (.inl h)
 exact Option.isSome_iff_exists.mp q
theorem JfZ {CX:CXT} {P:Program} {w:World} {K:PySem.W.Frag} {mg:Str→Option Value} {base:Heap} {N ps:List Str} {qual:Str} {scope:Scope} {f:Addr} {cd:Value} {A:Around} {outer:List Env} {s s1:Shared} {H:Hp} {E:XK} {us:List Value} {vs:List V}
  (S:Jaq N ps scope) (hd:A.handled = none) (e0:Env0 P w K mg base A outer s H) (hl:vs.length = ps.length) (r:Vals vs us)
  (x:InCallC s s.heap.objs.size (bindL (envOfC qual scope s.heap.objs.size f cd).kindOf (ps.zip us) fun _ => none) (cellsFrom (s.heap.objs.size + 1) scope.names []) (bindC (envOfC qual scope s.heap.objs.size f cd).kindOf (ps.zip us) fun _ => none) s1) :
  Inv (cxOf CX P w K mg base N qual scope f cd A outer s H E) [] (start N vs) H s1:=by
 have hpl:ps.length ≤ N.length:=by have:=congrArg List.length S.pre; rw [List.length_take] at this; omega
 obtain ⟨h1,tk,rfl,hk⟩:=x.done
 have noA:∀ b:Addr,b ∉ (cxOf CX P w K mg base N qual scope f cd A outer s H E).ex:=fun b z => absurd (show b ∈ ([]:List Addr) from z) (by simp)
 refine ⟨⟨e0.mod,S.kind,rfl,rfl,Nat.le_refl _,fun y z c h1 h2 => ?_,fun y hy => ?_,fun y c _ h => ?_,fun _ => hd,Around.frames_deeper e0.frames, .inr ⟨rfl,rfl⟩,fun b z => absurd z (noA b),e0.bs,e0.bsz,fun b _ _ => noA b,fun b z => absurd z (noA b),e0.funs,e0.frf⟩,
  rfl,e0.bare,Un.kept hk,⟨_,x.toInCall.ns,fun i y v h1 h2 h3 => ?_⟩,fun y c h => ⟨_,x.cell y c h⟩,e0.hok.fresh (Nat.le_refl _),fun y c h => ?_,fun p hp => absurd (show p ∈ ([]:List (Addr × Obj)) from hp) (by simp),e0.hok.kept hk, ?_⟩
 ·exact name_of_addr x.apart (PySem.mem_of_lookup h1) (PySem.mem_of_lookup h2)
 ·have hy:scope.names.lookup y = some .cell ∨ scope.names.lookup y = some .free:=hy
  rcases hy with hy | hy
  ·exact JeU hy
  ·exact absurd rfl (S.nofree _ (PySem.mem_of_lookup hy))
 ·exact Nat.le_of_lt (x.above y c (PySem.mem_of_lookup h))
 ·have hi:i < vs.length:=by
   unfold start at h2
   by_cases hi:i < vs.length
   ·exact hi
   ·rw [List.getElem?_append_right (by simpa using hi)] at h2
    rw [List.getElem?_replicate] at h2
    split at h2 <;> cases h2
  have ha:vs[i]? = some v:=by
   unfold start at h2
   rw [List.getElem?_append_left (by simpa using hi),List.getElem?_map] at h2
   cases e:vs[i]? with
   | none => rw [e] at h2; cases h2
   | some a => rw [e] at h2; cases h2; rfl
  obtain ⟨u,hu,rv⟩:=r.get ha
  have hp:ps[i]? = some y:=by
   rw [← S.pre,List.getElem?_take_of_lt (by omega)]; exact h1
  have ndP:ps.Nodup:=by rw [← S.pre]; exact S.nd.sublist (List.take_sublist _ _)
  refine ⟨u,rv, ?_⟩
  rcases S.par y (List.mem_of_getElem? hp) with k | k
  ·exact .inl ⟨k,JdX ndP hp hu k⟩
  ·obtain ⟨c,e⟩:=JeU (n:=s.heap.objs.size + 1) k
   refine .inr ⟨.inl k,c,e, ?_⟩
   have q:=x.cell y c e
   rw [JdV ndP hp hu (by show scope.names.lookup y ≠ _; rw [k]; decide)] at q
   exact q
 ·exact e0.hok.fresh (Nat.le_of_lt (x.above y c (PySem.mem_of_lookup h)))
 ·unfold start
  show _ = N.length
  rw [List.length_append,List.length_map,List.length_replicate]
  omega
theorem fn_of {CX:CXT} {P:Program} {w:World} {K:PySem.W.Frag} {mg:Str→Option Value} {base:Heap} {k:Nat} {f:Addr} {name qual:Str} {params:Arguments} {body:List Stmt} {scope:Scope} {dV kV doc pm cdv ct oc:Value} {an od:Option Addr}
  {osl:Array (Option Value)} {N ps:List Str} {sp:Sp} (lk:K.lookup f = some ⟨oc,od, .func (PySem.W.fnOf name qual params body scope dV kV doc pm an cdv ct),osl⟩) (hcd:PySem.W.codeIn K cdv qual = true) (S:Jaq N ps scope)
  (len:∀ vs H Q E,sp vs H Q E→vs.length = ps.length)
  (hbody:∀ (A:Around) (outer:List Env) (s:Shared) (H:Hp) (vs:List V) (Q:VK) (E:XK),Room k (A.deeper (envOfC qual scope s.heap.objs.size f cdv))→sp vs H Q E →
   ∃ t,PSs (cxOf CX P w K mg base N qual scope f cdv A outer s H E) body t∧t { nx:=fun _ H' => Q .non H',rt:=Q } (start N vs) H) :
  FnOk P w K mg base CX (k + 1) f (PySem.W.fnOf name qual params body scope dV kV doc pm an cdv ct) ps sp:=by
 refine ⟨len,fun A outer s H args us vs Q E hr e0 hb r hsp => ?_⟩
 have hl:=len _ _ _ _ hsp
 have KX:K.In s.heap:=e0.mod.kin.keeps fun b o e => (e0.bs b o e).1
 have lim:s.heap.NoLimit:=e0.mod.nolimit.keeps fun b o e => (e0.bs b o e).1
 have hkind:∀ y ∈ ps.zip us,scope.names.lookup y.1 = some .local ∨ (scope.names.lookup y.1 = some .cell∧((cellsFrom (s.heap.objs.size + 1) scope.names []).lookup y.1).isSome = true):=fun ⟨n,v⟩ hy => by
  rcases S.par n (List.of_mem_zip hy).1 with q | q
  ·exact .inl q
  ·exact .inr ⟨q,PySem.W.cellsFrom_some _ _ _ (.inl q)⟩
 refine codeAny_call_function hr.depth (KX _ _ lk) rfl S.co S.gen rfl (PySem.W.codeRec_of KX hcd) (hb _ _ _ _ ?_)
 refine wpAny_newFunctionEnv_cells S.kind hkind fun env he s1 x => ?_
 subst he
 refine ⟨lim.keeps x.toInCall.keep,codeAny_func ?_⟩
 obtain ⟨t,ht,hq⟩:=hbody A outer s H vs Q E (hr.deeper _) hsp
 have I:Inv (cxOf CX P w K mg base N qual scope f cdv A outer s H E) [] (start N vs) H s1:=JfZ S hr.hd e0 hl r x
 refine wpAny_mono (ht [] s1 (start N vs) H _ I hq) (fun fl s' hs => ?_) fun e s' hs => hs
 have fin:∀ {σ':St} {H':Hp} {v:V} {u:Value},Inv (cxOf CX P w K mg base N qual scope f cdv A outer s H E) [] σ' H' s'→RelV v u→Q v H'→CE outer P w H s Q u s' :=
  fun {σ' H' v u} J rv q => ⟨v,H',J.os,J.bare,J.base,J.hok,rv,q⟩
 cases fl with
 | ret u =>
  obtain ⟨v, σ',H',J,rv,q⟩:=hs
  exact fin J rv q
 | next =>
  obtain ⟨σ',H',J,q⟩:=hs
  exact fin (v:=V.non) (u:=Value.none) J rfl q
 | brk =>
  obtain ⟨_,_,_,q⟩:=hs
  exact False.elim q
 | cont =>
  obtain ⟨_,_,_,q⟩:=hs
  exact False.elim q
end L2
namespace L2
open PySem PySem.Spec PyProof.Rows
section
variable {X:Cx} {x:Str} {p pos:Pos} {e:Expr} {es:List Expr} {t:TA} {id T:String} {r:List V→Hp→VK→Prop}
def tCB (r:List V→Hp→VK→Prop) (t:TA):TE:=fun σ H Q => t σ H fun vs H1 => r vs H1 Q
theorem JaB (hc:CallR X (.builtin id) r) (hg:Gl X x) (hm:X.mg x = none) (hv:bootBuiltins x = some (.builtin id)) (ha:PA X (e :: es) t) (hn:x ≠ "__name__":=by decide) (hdb:(x == ("__debug__" : Str)) = false:=by decide)
  (he:starEach (e :: es) X.env = (false,eval e X.env) :: starEach es X.env:=by rfl) (hpl:(backTo pos (starEach es X.env)).any (·.1) = false:=by rfl):PE X (.Call (.Name x p) (e :: es) [] pos) (tCB r t):=by
 intro pins s σ H Q I h
 refine wpAny_Call_Name_kw (Jd6 I hg hm hv ?_ hn hdb)
 exact PyProof.Rows.callWith_builtin1 (thn (ha pos pins s σ H _ I h) fun us s1 ⟨vs,H1,I1,r1,q1⟩ => hc pins s1 σ H1 vs us Q I1 r1 q1) he hpl
theorem Jci (hc:CallR X (.type T) r) (hg:Gl X x) (hm:X.mg x = none) (hv:bootBuiltins x = some (.type T)) (ha:PA X (e :: es) t) (hn:x ≠ "__name__":=by decide) (hdb:(x == ("__debug__" : Str)) = false:=by decide)
  (he:starEach (e :: es) X.env = (false,eval e X.env) :: starEach es X.env:=by rfl) (hpl:(backTo pos (starEach es X.env)).any (·.1) = false:=by rfl):PE X (.Call (.Name x p) (e :: es) [] pos) (tCB r t):=by
 intro pins s σ H Q I h
 refine wpAny_Call_Name_kw (Jd6 I hg hm hv ?_ hn hdb)
 exact PyProof.Rows.callWith_type1 (thn (ha pos pins s σ H _ I h) fun us s1 ⟨vs,H1,I1,r1,q1⟩ => hc pins s1 σ H1 vs us Q I1 r1 q1) he hpl
end
end L2
namespace HT
open PySem PyProof.Rows
section
open PySem.SeqAt
open PySem.AutoSeq1 (wpAny_loadPart')
open PySem.MeetsSeq PySem.MeetsSeq2 PySem.MeetsSeq3
end
section
variable {prog:Program} {w:World} {A:Around} {E:Value→Shared→Prop} {s:Shared}
theorem cat_tup {t b:Addr} {vs ws:List Value} {Q:Value→Shared→Prop} (ht:IsTup s.heap t vs.toArray) (hb:IsTup s.heap b ws.toArray) (hv:vs ≠ [])
  (h1:ws = []→Q (.ref t) s) (h2:ws ≠ []→Q (.ref s.heap.objs.size) { s with heap:=s.heap.push { cls:=.type "tuple",data:=.seq (vs ++ ws).toArray } })
  (hsz:vs.length + ws.length ≤ sizeLine):wpAny (model prog w) A (binaryOp .Add (.ref t) (.ref b)) Q E s:=by
 obtain ⟨⟨cls,dd,data,sl⟩,ho,hc,n,hd⟩:=id ht
 obtain ⟨⟨cls2,dd2,data2,sl2⟩,ho2,hc2,n2,hd2⟩:=id hb
 simp only at hc hd hc2 hd2
 subst hc hd hc2 hd2
 have e:vs.toArray ++ ws.toArray = (vs ++ ws).toArray:=by simp
 by_cases hw:ws = []
 ·exact concat_meets ⟨_,ho,rfl⟩ ⟨_,ho2,rfl⟩ noFill_tuple_add seq_tuple_add PySem.F.slot_tuple_add PySem.F.entry_tuple_add (PySem.F.args_tuple_add_2 _ _)
   (tuple_addW1 t b vs.toArray ws.toArray n n2 dd dd2 sl sl2 (by simpa using hv) (by simp [hw])) ⟨ho,ho2,h1 hw⟩
 ·refine concat_meets ⟨_,ho,rfl⟩ ⟨_,ho2,rfl⟩ noFill_tuple_add seq_tuple_add PySem.F.slot_tuple_add PySem.F.entry_tuple_add (PySem.F.args_tuple_add_2 _ _)
   (tuple_addW2 t b vs.toArray ws.toArray n n2 dd dd2 sl sl2 (by simpa using hv) (by simpa using hw) (by rw [List.size_toArray,List.size_toArray]; exact hsz)) ⟨ho,ho2, ?_⟩
  rw [e]
  exact h2 hw
def sIx (n d:Nat):Option Int→Nat
 | none => d
 | some v => if v < 0 then (v + (n:Int)).toNat else min v.toNat n
theorem JiP (n d:Nat) (hd:d ≤ n) (o:Option Int):sIx n d o ≤ n:=by
 cases o with
 | none => exact hd
 | some v =>
  show (if v < 0 then (v + (n:Int)).toNat else min v.toNat n) ≤ n
  by_cases hv:v < 0
  ·rw [if_pos hv]; omega
  ·rw [if_neg hv]; exact Nat.min_le_right _ _
theorem JfK (v:Int) (n d:Nat):(if v < 0 then max (v + (n:Int)) 0 else min v (n:Int)) = ((sIx n d (some v):Nat):Int):=by
 show (if v < 0 then max (v + (n:Int)) 0 else min v (n:Int)) = (((if v < 0 then (v + (n:Int)).toNat else min v.toNat n):Nat):Int)
 by_cases hv:v < 0
 ·simp only [if_pos hv]; omega
 ·simp only [if_neg hv]; omega
theorem Jff (lo hi:Option Int) (n:Nat):Builtin.Slice.sliceAdjust lo hi 1 (n:Int) = (((sIx n 0 lo:Nat):Int),((sIx n n hi:Nat):Int)):=by
 have h1:¬ ((1:Int) < 0):=by omega
 unfold Builtin.Slice.sliceAdjust
 simp only [h1,if_false]
 refine Prod.ext ?_ ?_
 ·cases lo with
  | none => rfl
  | some v => exact JfK v n 0
 ·cases hi with
  | none => rfl
  | some v => exact JfK v n n
theorem Jfz (i j:Nat):Builtin.Slice.slicePlaces (i:Int) (j:Int) 1 = j - i:=by
 unfold Builtin.Slice.slicePlaces
 have h1:(1:Int) > 0:=by omega
 simp only [h1,if_true,Int.ediv_one]
 split <;> omega
theorem Jdo {v:Value} {o:Option Int} {Q:Option Int→Shared→Prop} (p:IsPart v o) (h:Q o s):wpAny (model prog w) A (Builtin.Slice.slicePartIndex v) Q E s:=by
 cases p with
 | none => exact slicePart_none h
 | int i t => exact slicePart_int h
theorem JcG {sl:Addr} {vl vu:Value} {lo hi:Option Int} {n:Nat} {Q:Int × Int × Nat→Shared→Prop} (hs:s.heap.IsSliceOf sl vl vu .none) (pl:IsPart vl lo) (pu:IsPart vu hi)
  (h:Q (((sIx n 0 lo:Nat):Int),1,sIx n n hi - sIx n 0 lo) s):wpAny (model prog w) A (Builtin.Slice.sliceApplied (.ref sl) (pure (n:Int))) Q E s:=by
 obtain ⟨os,hos,hcs,hds⟩:=id hs
 unfold Builtin.Slice.sliceApplied Builtin.Slice.sliceFields
 refine wpAny_bind (wpAny_bind (wpAny_field hos hds (x:=vl) rfl (wpAny_bind (wpAny_field hos hds (x:=vu) rfl (wpAny_bind (wpAny_field hos hds (x:=.none) rfl (wpAny_pure ?_)))))))
 refine wpAny_bind (slicePart_none ?_)
 show wpAny _ _ (if ((1:Int) == 0) = true then _ else _) _ _ s
 rw [if_neg (by decide)]
 refine wpAny_bind (Jdo pl (wpAny_bind (Jdo pu (wpAny_bind (wpAny_pure ?_)))))
 show wpAny _ _ (match Builtin.Slice.sliceAdjust lo hi 1 (n:Int) with | (lo,hi) => pure (lo,(1:Int),Builtin.Slice.slicePlaces lo hi 1)) _ _ s
 rw [Jff lo hi n]
 show wpAny _ _ (pure (((sIx n 0 lo:Nat):Int),(1:Int),Builtin.Slice.slicePlaces ((sIx n 0 lo:Nat):Int) ((sIx n n hi:Nat):Int) 1)) _ _ s
 rw [Jfz]
 exact wpAny_pure h
theorem Jg5 (xs:Array Value) (i k:Nat):((List.range k).filterMap fun (m:Nat) => xs[((i:Int) + (m:Int) * 1).toNat]?).toArray = ((xs.toList.drop i).take k).toArray:=by
 have e:(fun (m:Nat) => xs[((i:Int) + (m:Int) * 1).toNat]?) = fun m => xs[i + m]?:=by
  funext m
  have : ((i:Int) + (m:Int) * 1).toNat = i + m:=by omega
  rw [this]
 rw [e]
 have:=pick_run xs i k
 rw [List.filterMap_map] at this
 have e2:((fun x => xs[x]?) ∘ fun x => i + x) = fun m => xs[i + m]?:=rfl
 rw [e2] at this
 rw [this]
theorem getItem_tuple_cut {t sl:Addr} {items:Array Value} {vl vu:Value} {lo hi:Option Int} {Q:Value→Shared→Prop} (ht:IsTup s.heap t items) (hs:s.heap.IsSliceOf sl vl vu .none) (pl:IsPart vl lo) (pu:IsPart vu hi)
  (hw:¬ (sIx items.size 0 lo = 0∧sIx items.size items.size hi = items.size))
  (h:Q (.ref s.heap.objs.size) { s with heap:=s.heap.push { cls:=.type "tuple",data:=.seq ((items.toList.drop (sIx items.size 0 lo)).take (sIx items.size items.size hi - sIx items.size 0 lo)).toArray } })
  (hsz:items.size ≤ sizeLine):wpAny (model prog w) A (getItem (.ref t) (.ref sl)) Q E s:=by
 have htake:sizeOk (.seq ((items.toList.drop (sIx items.size 0 lo)).take (sIx items.size items.size hi - sIx items.size 0 lo)).toArray):=by
  show ((items.toList.drop (sIx items.size 0 lo)).take (sIx items.size items.size hi - sIx items.size 0 lo)).toArray.size ≤ sizeLine
  rw [List.size_toArray,List.length_take,List.length_drop,Array.length_toList]
  omega
 have hj:sIx items.size items.size hi ≤ items.size:=JiP _ _ (Nat.le_refl _) hi
 obtain ⟨os,hos,hcs,hds⟩:=id hs
 have hTs:s.TypeIs (.ref sl) "slice":=⟨os,hos,hcs⟩
 unfold getItem
 try with_reducible refine wpAny_holding ?_
 first | refine wpAny_bind (wpAny_pure ?_) | skip
 refine wpAny_bind (wpAny_sequenceKey ht.typeIs (by decide) ?_)
 refine wpAny_bind (wpAny_callSpecial?_slot (name:=Str.ofString "__getitem__") ht.typeIs PyProof.Rows.slot_tuple_getitem
  (wpAny_call_entry PyProof.Rows.slot_tuple_getitem ht.typeIs entry_tuple_getitem ?_ (args_tuple_getitem _ _)))
 show wpAny _ _ (Builtin.Tuple.tupleItemsOf (.ref t) >>= _) _ _ s
 refine wpAny_bind (tupleItemsOf_ ht ?_)
 refine wpAny_bind (wpAny_typeOf hTs ?_)
 rw [if_pos (by decide)]
 refine wpAny_bind (JcG hs pl pu ?_)
 have hno:¬ ((((sIx items.size 0 lo:Nat):Int) == 0 && (1:Int) == 1 && (sIx items.size items.size hi - sIx items.size 0 lo) == items.size) = true):=by
  intro q
  rw [Bool.and_eq_true,Bool.and_eq_true] at q
  have q1:((sIx items.size 0 lo:Nat):Int) = 0:=eq_of_beq q.1.1
  have q2:sIx items.size items.size hi - sIx items.size 0 lo = items.size:=eq_of_beq q.2
  exact hw ⟨by omega,by omega⟩
 show wpAny _ _ (if (((sIx items.size 0 lo:Nat):Int) == 0 && (1:Int) == 1 && (sIx items.size items.size hi - sIx items.size 0 lo) == items.size) = true then _ else _) _ _ s
 rw [if_neg hno,Jg5]
 first
  | exact wpAny_bind (m:=Builtin.Tuple.tupleExact _) (wpAny_newObj_type (wpAny_pure ⟨_,rfl,wpAny_pure h⟩) htake)
  | exact wpAny_bind (m:=Builtin.Tuple.tupleExact _) (wpAny_newObj_type (wpAny_bind (wpAny_pure (wpAny_pure ⟨_,rfl,wpAny_pure h⟩))) htake)
  | exact wpAny_bind (wpAny_bind (m:=Builtin.Tuple.tupleExact _) (wpAny_newObj_type (wpAny_pure (wpAny_pure ⟨_,rfl,wpAny_pure h⟩)) htake))
  | exact wpAny_bind (wpAny_bind (m:=Builtin.Tuple.tupleExact _) (wpAny_newObj_type (wpAny_pure ⟨_,rfl,wpAny_pure h⟩) htake))
end
end HT
namespace L2
open PySem PySem.Spec PyProof.Rows
abbrev TO:=St→Hp→(Option Int→Hp→Prop)→Prop
def PO (X:Cx) (e:Option Expr) (t:TO):Prop :=
 ∀ (pins:List (Addr × Obj)) (s:Shared) (σ : St) (H:Hp) (Q:Option Int→Hp→Prop),Inv X pins σ H s→t σ H Q →
  wpAny (model X.prog X.w) X.A (evalPart e X.env) (fun u s' => ∃ o H',Inv X pins σ H' s'∧IsPart u o∧Q o H') X.xe s
def Jgy:TO:=fun _ H Q => Q none H
def tPart (t:TE):TO:=fun σ H Q => t σ H fun x H1 => ∃ i,x = .int i∧Q (some i) H1
section
variable {X:Cx} {e:Expr} {te:TE} {lo hi:Option Expr} {tl th:TO} {pos p2:Pos}
theorem JeE:PO X none Jgy:=by
 intro pins s σ H Q I h
 rw [evalPart_none]
 exact wpAny_pure ⟨none,H,I, .none,h⟩
theorem JeF (h:PE X e te):PO X (some e) (tPart te):=by
 intro pins s σ H Q I hw
 rw [evalPart_some]
 refine thn (h pins s σ H _ I hw) fun u s1 ⟨x,H1,I1,r1,q1⟩ => ?_
 obtain ⟨i,rfl,q⟩:=q1
 obtain ⟨t,rfl⟩:=r1
 exact ⟨some i,H1,I1, .int i t,q⟩
def SlR (X:Cx) (r:V→Option Int→Option Int→Hp→VK→Prop):Prop :=
 ∀ (pins:List (Addr × Obj)) (s:Shared) (σ : St) (H:Hp) (x:V) (v vl vu:Value) (lo hi:Option Int) (sl:Addr) (Q:VK),Inv X pins σ H s→RelV x v→s.heap.IsSliceOf sl vl vu .none→IsPart vl lo→IsPart vu hi→r x lo hi H Q →
  ∃ T id,typeLookup (.type T) "__getitem__" = pure (some (.builtin id))∧s.TypeIs v T∧wpAny (model X.prog X.w) X.A (getItem v (.ref sl)) (EP X pins σ Q) X.xe s
theorem SlR.or {r r':V→Option Int→Option Int→Hp→VK→Prop} (h:SlR X r) (h':SlR X r'):SlR X (fun x lo hi H Q => r x lo hi H Q ∨ r' x lo hi H Q):=by
 intro pins s σ H x v vl vu lo hi sl Q I rx hs pl pu q
 rcases q with q | q
 ·exact h pins s σ H x v vl vu lo hi sl Q I rx hs pl pu q
 ·exact h' pins s σ H x v vl vu lo hi sl Q I rx hs pl pu q
def tSl (r:V→Option Int→Option Int→Hp→VK→Prop) (te:TE) (tl th:TO):TE:=fun σ H Q => te σ H fun x H1 => tl σ H1 fun l H2 => th σ H2 fun u H3 => r x l u H3 Q
theorem JdK {r:V→Option Int→Option Int→Hp→VK→Prop} (hr:SlR X r) (he:PE X e te) (hl:PO X lo tl) (hu:PO X hi th):PE X (.Subscript e (.Slice lo hi none p2) pos) (tSl r te tl th):=by
 intro pins s σ H Q I h
 refine Subscript_ (thn (he pins s σ H _ I h) fun v s1 ⟨x,H1,I1,r1,q1⟩ => ?_)
 refine wpAny_Slice (thn (hl pins s1 σ H1 _ I1 q1) fun vl s2 ⟨l,H2,I2,pl,q2⟩ => thn (hu pins s2 σ H2 _ I2 q2) fun vu s3 ⟨u,H3,I3,pu,q3⟩ => ?_)
 rw [evalPart_none]
 refine wpAny_pure ?_
 have I4:Inv X pins σ H3 { s3 with heap:=s3.heap.push { cls:=.type "slice",data:=.fields #[vl,vu, .none] } }:=I3.kept (t':=s3.toks) fun b ob q => Heap.get?_push_of_some _ q
 obtain ⟨T,id,hT,ht,hg⟩:=hr pins { s3 with heap:=s3.heap.push { cls:=.type "slice",data:=.fields #[vl,vu, .none] } } σ H3 x v vl vu l u s3.heap.objs.size Q I4 r1 (Heap.IsSliceOf.new ..) pl pu q3
 show wpAny (model X.prog X.w) X.A (subscriptTail e (.Slice lo hi none p2) v (.ref s3.heap.objs.size)) (EP X pins σ Q) X.xe { s3 with heap:=s3.heap.push { cls:=.type "slice",data:=.fields #[vl,vu, .none] } }
 exact tail_any (ops:=[.ref s3.heap.objs.size,v]) ht hT hg (by with_unfolding_all rfl)
def cutV (xs:List V) (lo hi:Option Int):List V:=(xs.drop (HT.sIx xs.length 0 lo)).take (HT.sIx xs.length xs.length hi - HT.sIx xs.length 0 lo)
theorem JcO (xs:List V) (lo hi:Option Int):(cutV xs lo hi).length ≤ xs.length:=by
 unfold cutV
 rw [List.length_take,List.length_drop]
 omega
def rSlT (K:PySem.W.Frag):V→Option Int→Option Int→Hp→VK→Prop:=fun x lo hi H Q => ∃ a xs,x = .ref a∧SqT K H a xs ∧
 ¬ (HT.sIx xs.length 0 lo = 0∧HT.sIx xs.length xs.length hi = xs.length)∧∀ p,H p = none→Q (.ref p) (upd H p (.tup (cutV xs lo hi)))
theorem JiR:SlR X (rSlT X.K):=by
 intro pins s σ H x v vl vu lo hi sl Q I rx hs pl pu h
 obtain ⟨a,xs,rfl,hx,hw,q⟩:=h
 cases rx
 obtain ⟨its,r,ht,hz⟩:=I.tuple hx
 have hlen:its.toArray.size = xs.length:=by rw [List.size_toArray]; exact r.length.symm
 refine ⟨"tuple",_,PyProof.Rows.slot_tuple_getitem.lookup,ht.typeIs, ?_⟩
 refine HT.getItem_tuple_cut ht hs pl pu (by rw [hlen]; exact hw) ?_ (by rw [hlen]; exact hz)
 rw [hlen]
 refine ⟨.ref s.heap.objs.size,_,I.laid (t':=s.toks) (o:=.tup (cutV xs lo hi)) (fun b ob q => Heap.get?_push_of_some _ q) (Nat.le_refl _) ?_,rfl,q _ (I.hok.fresh (Nat.le_refl _))⟩
 exact ⟨Nat.le_trans (JcO xs lo hi) hz,_,(r.drop (HT.sIx xs.length 0 lo)).take (HT.sIx xs.length xs.length hi - HT.sIx xs.length 0 lo),IsTup.new _ _⟩
def rCatT (K:PySem.W.Frag):R2:=fun x y H Q => ∃ a b xs ys,x = .ref a∧y = .ref b∧SqT K H a xs∧SqT K H b ys∧xs ≠ []∧xs.length + ys.length ≤ sizeLine ∧
 (ys = []→Q (.ref a) H)∧(ys ≠ []→∀ p,H p = none→Q (.ref p) (upd H p (.tup (xs ++ ys))))
theorem Vals.nil_iff {xs:List V} {us:List Value} (r:Vals xs us):us = [] ↔ xs = []:=by
 cases r with
 | nil => simp
 | cons _ _ => simp
theorem JhW:OpR X (binaryOp .Add) (rCatT X.K):=by
 intro pins s σ H x y v u Q I rx ry h
 obtain ⟨a,b,xs,ys,rfl,rfl,ha,hb,hx,hz,q1,q2⟩:=h
 cases rx
 cases ry
 obtain ⟨its,r1,p1,_⟩:=I.tuple ha
 obtain ⟨its2,r2,p2,_⟩:=I.tuple hb
 refine HT.cat_tup p1 p2 (fun z => hx (r1.nil_iff.mp z)) (fun z => ⟨.ref a,H,I,rfl,q1 (r2.nil_iff.mp z)⟩) (fun z => ?_) (by rw [← r1.length, ← r2.length]; exact hz)
 refine ⟨.ref s.heap.objs.size,_,I.laid (t':=s.toks) (o:=.tup (xs ++ ys)) (fun b ob q => Heap.get?_push_of_some _ q) (Nat.le_refl _) ?_,rfl,q2 (fun w => z (r2.nil_iff.mpr w)) _ (I.hok.fresh (Nat.le_refl _))⟩
 exact ⟨by rw [List.length_append]; exact hz,_,r1.append r2,IsTup.new _ _⟩
end
end L2
namespace L2
open PySem PySem.Spec PyProof.Rows
def ixN (n:Nat) (i:Int):Option Nat:=if 0 ≤ i then (if i < n then some i.toNat else none) else if -(n:Int) ≤ i then some (i + n).toNat else none
def atI {α : Type} (xs:List α) (i:Int):Option α:=(ixN xs.length i).bind fun j => xs[j]?
theorem JhR {n:Nat} {i:Int} {j:Nat} (h:ixN n i = some j):seqIndex? i n = some j∧j < n∧-(n:Int) ≤ i∧i < n:=by
 unfold ixN at h
 by_cases h0:0 ≤ i
 ·rw [if_pos h0] at h
  by_cases h1:i < n
  ·rw [if_pos h1] at h
   have e:i.toNat = j:=Option.some.inj h
   exact ⟨by rw [seqIndex_of h0 h1,e],by omega,by omega,h1⟩
  ·rw [if_neg h1] at h; cases h
 ·rw [if_neg h0] at h
  by_cases h1 : -(n:Int) ≤ i
  ·rw [if_pos h1] at h
   have e:(i + n).toNat = j:=Option.some.inj h
   exact ⟨by rw [seqIndex_neg (by omega) h1,e],by omega,h1,by omega⟩
  ·rw [if_neg h1] at h; cases h
theorem Jen {α : Type} {xs:List α} {i:Int} {v : α} (h:atI xs i = some v):∃ j,seqIndex? i xs.length = some j∧xs[j]? = some v∧j < xs.length∧-(xs.length:Int) ≤ i∧i < xs.length:=by
 unfold atI at h
 cases e:ixN xs.length i with
 | none => rw [e] at h; cases h
 | some j =>
  rw [e] at h
  obtain ⟨h1,h2,h3,h4⟩:=JhR e
  exact ⟨j,h1,h,h2,h3,h4⟩
theorem Jcn {α : Type} {xs:List α} {j:Nat} {v : α} (h:xs[j]? = some v):atI xs (j:Int) = some v:=by
 have hj:j < xs.length:=(List.getElem?_eq_some_iff.mp h).1
 have e:ixN xs.length (j:Int) = some j:=by
  unfold ixN
  rw [if_pos (by omega),if_pos (by omega)]; simp
 unfold atI; rw [e]; exact h
def Jhv (b:Expr):Prop:=∀ o i,subscripted b false o i = operate [o,i] (getItem o i)
def IxR (X:Cx) (r:R2):Prop :=
 ∀ (value slice:Expr) (pins:List (Addr × Obj)) (s:Shared) (σ : St) (H:Hp) (x y:V) (v u:Value) (Q:VK),Inv X pins σ H s→RelV x v→RelV y u→r x y H Q →
  subscripted slice false v u = operate [v,u] (getItem v u)→wpAny (model X.prog X.w) X.A (subscriptTail value slice v u) (EP X pins σ Q) X.xe s
def MtR (X:Cx) (id:String) (r:V→List V→Hp→VK→Prop):Prop :=
 ∀ (pins:List (Addr × Obj)) (s:Shared) (σ : St) (H:Hp) (x:V) (xs:List V) (v:Value) (us:List Value) (Q:VK),Inv X pins σ H s→RelV x v→Vals xs us→r x xs H Q →
  wpAny (model X.prog X.w) X.A (call (.builtin id) (v :: us)) (EP X pins σ Q) X.xe s
section
variable {X:Cx} {a b:Expr} {ta tb:TE} {pos:Pos}
theorem pe_ix {r:R2} (hr:IxR X r) (ha:PE X a ta) (hb:PE X b tb) (hs:Jhv b):PE X (.Subscript a b pos) (tOp r ta tb):=by
 intro pins s σ H Q I h
 exact Subscript_ (binT ha hb I h fun v u s2 x y H2 I2 rx ry q => hr a b pins s2 σ H2 x y v u Q I2 rx ry q (hs _ _))
def rIxL (K:PySem.W.Frag):R2:=fun x y H Q => ∃ p xs i v,x = .ref p∧y = .int i∧SqL K H p xs∧atI xs i = some v∧Q v H
def rIxT (K:PySem.W.Frag):R2:=fun x y H Q => ∃ p xs i v,x = .ref p∧y = .int i∧SqT K H p xs∧atI xs i = some v∧Q v H
def rIxS:R2:=fun x y H Q => ∃ z i c,x = .str z∧y = .int i∧z.length ≤ sizeLine∧atI z.cps.toList i = some c∧Q (.str ⟨#[c]⟩) H
theorem JhS:IxR X (rIxL X.K):=by
 intro value slice pins s σ H x y v u Q I rx ry h hs
 obtain ⟨p,xs,i,z,rfl,rfl,hq,he,q⟩:=h
 cases rx
 obtain ⟨t,rfl⟩:=ry
 obtain ⟨its,r,pl,hz⟩:=I.list hq
 obtain ⟨j,h1,h2,h3,h4,h5⟩:=Jen he
 obtain ⟨w,ew,rw'⟩:=r.get h2
 have hl:=r.length
 have hn:=Jd7
 have fin:EP X pins σ Q w s:=⟨z,H,I,rw',q⟩
 by_cases h0:0 ≤ i
 ·have hj:i.toNat = j:=by
   rw [seqIndex_of h0 h5] at h1
   exact Option.some.inj h1
  exact item_listR pl.isList h0 (by omega) (by rw [hj]; simpa using ew) fin hs
 ·have hj:(i + (its.toArray.size:Int)).toNat = j:=by
   rw [seqIndex_neg (by omega) h4] at h1
   rw [List.size_toArray, ← hl]
   exact Option.some.inj h1
  exact subscriptTail_builtinR (x:=w) pl.isList.typeIs slot_list_getitem.lookup
   (wpAny_getItem_list_neg (Q:=fun r s' => r = w∧EP X pins σ Q r s') pl.isList (by omega) (by rw [List.size_toArray] <;> omega) (by omega) (by rw [hj]; simpa using ew) ⟨rfl,fin⟩) hs
theorem Jiu:IxR X (rIxT X.K):=by
 intro value slice pins s σ H x y v u Q I rx ry h hs
 obtain ⟨p,xs,i,z,rfl,rfl,hq,he,q⟩:=h
 cases rx
 obtain ⟨t,rfl⟩:=ry
 obtain ⟨its,r,pl,hz⟩:=I.tuple hq
 obtain ⟨j,h1,h2,h3,h4,h5⟩:=Jen he
 obtain ⟨w,ew,rw'⟩:=r.get h2
 have hl:=r.length
 have hn:=Jd7
 have fin:EP X pins σ Q w s:=⟨z,H,I,rw',q⟩
 exact subscriptTail_builtinR (x:=w) pl.typeIs slot_tuple_getitem.lookup
  (getItem_tuple (j:=j) (Q:=fun r s' => r = w∧EP X pins σ Q r s') pl (by omega) (by omega) (by rw [List.size_toArray, ← hl]; exact h1) (by simpa using ew) ⟨rfl,fin⟩) hs
theorem Jit:IxR X rIxS:=by
 intro value slice pins s σ H x y v u Q I rx ry h hs
 obtain ⟨z,i,c,rfl,rfl,hz,he,q⟩:=h
 obtain ⟨t,rfl⟩:=rx
 obtain ⟨t',rfl⟩:=ry
 obtain ⟨j,h1,h2,h3,h4,h5⟩:=Jen he
 have hl:z.cps.toList.length = z.length:=by simp [Str.length]
 rw [hl] at h1 h4 h5
 have hn:=Jd7
 exact tail_any (typeIs_str s z t) slot_str_getitem.lookup (getItem_str (c:=c) (by
  have e1:decide (i < -(2 ^ 63:Int)) = false:=decide_eq_false (by omega)
  have e2:decide (i ≥ 2 ^ 63) = false:=decide_eq_false (by omega)
  rw [e1,e2,Bool.or_false]) (by rw [h1]; simpa using h2) ⟨.str ⟨#[c]⟩,H,I.tok _,⟨_,rfl⟩,q⟩) hs
theorem Inv.lst {pins:List (Addr × Obj)} {σ : St} {H:Hp} {s:Shared} {p:Addr} {xs:List V} (I:Inv X pins σ H s) (h:H p = some (.lst xs)) :
  ∃ (its:List Value) (n:Nat),Vals xs its∧s.heap.get? p = some { cls:=.type "list",data:=.seq its.toArray n }∧xs.length ≤ sizeLine:=by
 obtain ⟨z,its,n,r,e⟩:=I.hok p _ h
 exact ⟨its,n,r,e,z⟩
theorem Jeh (lo hi:Option Int) (n:Nat):(sliceBounds lo hi none n).1 = ((HT.sIx n 0 lo:Nat):Int)∧(sliceBounds lo hi none n).2.1 = ((HT.sIx n n hi:Nat):Int)∧(sliceBounds lo hi none n).2.2 = 1:=by
 refine ⟨?_, ?_,rfl⟩
 ·cases lo with
  | none => simp [sliceBounds,HT.sIx]
  | some i =>
   simp only [sliceBounds,HT.sIx,Option.getD_none,show (1:Int) > 0 by decide,if_true]
   by_cases h:i < 0
   ·simp only [h,if_true] <;> omega
   ·simp only [h,if_false] <;> omega
 ·cases hi with
  | none => simp [sliceBounds,HT.sIx]
  | some i =>
   simp only [sliceBounds,HT.sIx,Option.getD_none,show (1:Int) > 0 by decide,if_true]
   by_cases h:i < 0
   ·simp only [h,if_true] <;> omega
   ·simp only [h,if_false] <;> omega
theorem JdU (its:List Value) (lo hi:Option Int):slicePick its.toArray lo hi none = ((its.drop (HT.sIx its.length 0 lo)).take (HT.sIx its.length its.length hi - HT.sIx its.length 0 lo)).toArray:=by
 obtain ⟨h1,h2,h3⟩:=Jeh lo hi its.toArray.size
 unfold slicePick
 rw [h1,h2,h3]
 simp only [sliceRange_one,pick_run,List.size_toArray] <;> rfl
def rSlL (K:PySem.W.Frag):V→Option Int→Option Int→Hp→VK→Prop:=fun x lo hi H Q => ∃ a xs,x = .ref a∧SqL K H a xs∧∀ p,H p = none→Q (.ref p) (upd H p (.lst (cutV xs lo hi)))
theorem Jh9:SlR X (rSlL X.K):=by
 intro pins s σ H x v vl vu lo hi sl Q I rx hs pl pu h
 obtain ⟨a,xs,rfl,hx,q⟩:=h
 cases rx
 obtain ⟨its,r,ht,hz⟩:=I.list hx
 have hlen:=r.length
 refine ⟨"list",_,slot_list_getitem.lookup,ht.isList.typeIs, ?_⟩
 refine wpAny_getItem_list_slice ht.isList hs pl pu .none (by simp) ?_ (by rw [List.size_toArray] <;> omega)
 rw [JdU, ← hlen]
 refine ⟨.ref s.heap.objs.size,_,I.laid (t':=s.toks) (o:=.lst (cutV xs lo hi)) (fun b ob q => Heap.get?_push_of_some _ q) (Nat.le_refl _) ?_,rfl,q _ (I.hok.fresh (Nat.le_refl _))⟩
 exact ⟨Nat.le_trans (JcO xs lo hi) hz,_,0,(r.drop (HT.sIx xs.length 0 lo)).take (HT.sIx xs.length xs.length hi - HT.sIx xs.length 0 lo),Heap.get?_push_size _ rfl⟩
def flatV:V→Bool
 | .non => true
 | .bl _ => true
 | .int _ => true
 | .str _ => true
 | _ => false
def eqV:V→V→Bool
 | .non, .non => true
 | .bl a, .bl b => a == b
 | .bl a, .int b => (if a then 1 else 0) == b
 | .int a, .bl b => a == (if b then 1 else 0)
 | .int a, .int b => a == b
 | .str a, .str b => a == b
 | _,_ => false
theorem Jhe {A:Around} {s:Shared} {y x:V} {u v:Value} (ry:RelV y u) (rx:RelV x v) (fy:flatV y = true) (fx:flatV x = true):SeqAt.EqAt A s u v (eqV y x):=by
 cases y with
 | non =>
  cases ry
  cases x with
  | non => cases rx; exact SeqAt.EqAt.same _
  | bl b => cases rx; exact SeqAt.EqAt.none_bool b
  | int b => obtain ⟨t,rfl⟩:=rx; exact SeqAt.EqAt.none_int b t
  | str b => obtain ⟨t,rfl⟩:=rx; exact SeqAt.EqAt.none_str b t
  | _ => exact absurd (show false = true from fx) Bool.false_ne_true
 | bl a =>
  cases ry
  cases x with
  | non => cases rx; exact SeqAt.EqAt.bool_none a
  | bl b => cases rx; exact SeqAt.EqAt.bool_bool a b
  | int b => obtain ⟨t,rfl⟩:=rx; exact SeqAt.EqAt.bool_int a b t
  | str b => obtain ⟨t,rfl⟩:=rx; exact SeqAt.EqAt.bool_str a b t
  | _ => exact absurd (show false = true from fx) Bool.false_ne_true
 | int a =>
  obtain ⟨t',rfl⟩:=ry
  cases x with
  | non => cases rx; exact SeqAt.EqAt.int_none a t'
  | bl b => cases rx; exact SeqAt.EqAt.int_bool a t' b
  | int b => obtain ⟨t,rfl⟩:=rx; exact SeqAt.EqAt.int_int a t' b t
  | str b => obtain ⟨t,rfl⟩:=rx; exact SeqAt.EqAt.int_str a t' b t
  | _ => exact absurd (show false = true from fx) Bool.false_ne_true
 | str a =>
  obtain ⟨t',rfl⟩:=ry
  cases x with
  | non => cases rx; exact SeqAt.EqAt.str_none a t'
  | bl b => cases rx; exact SeqAt.EqAt.str_bool a t' b
  | int b => obtain ⟨t,rfl⟩:=rx; exact SeqAt.EqAt.str_int a t' b t
  | str b => obtain ⟨t,rfl⟩:=rx; exact SeqAt.EqAt.str_str a t' b t
  | _ => exact absurd (show false = true from fx) Bool.false_ne_true
 | _ => exact absurd (show false = true from fy) Bool.false_ne_true
def eqU (x:V) (u:Value):Bool:=match u with
 | .none => eqV .non x
 | .bool b => eqV (.bl b) x
 | .int i _ => eqV (.int i) x
 | .str z _ => eqV (.str z) x
 | _ => false
theorem Jhf {x y:V} {u:Value} (r:RelV y u) (f:flatV y = true):eqU x u = eqV y x:=by
 cases y with
 | non => cases r; rfl
 | bl b => cases r; rfl
 | int i => obtain ⟨t,rfl⟩:=r; rfl
 | str z => obtain ⟨t,rfl⟩:=r; rfl
 | _ => exact absurd (show false = true from f) Bool.false_ne_true
theorem Jem {x:V}:∀ {xs:List V} {us:List Value},Vals xs us→xs.all flatV = true→us.any (eqU x) = xs.any fun y => eqV y x
 | _,_, .nil,_ => rfl
 | y :: xs,u :: us, .cons r t,f => by
  rw [List.all_cons,Bool.and_eq_true] at f
  rw [List.any_cons,List.any_cons,Jhf r f.1,Jem t f.2]
theorem JdC {A:Around} {s:Shared} {x:V} {v:Value} (rx:RelV x v) (fx:flatV x = true):∀ {xs:List V} {us:List Value},Vals xs us→xs.all flatV = true→∀ u ∈ us,SeqAt.EqAt A s u v (eqU x u)
 | _,_, .nil,_ => fun u hu => by cases hu
 | y :: xs,u :: us, .cons r t,f => fun u' hu => by
  rw [List.all_cons,Bool.and_eq_true] at f
  rcases List.mem_cons.mp hu with rfl | hu
  ·rw [Jhf r f.1]; exact Jhe r rx f.1 fx
  ·exact JdC rx fx t f.2 u' hu
def inV (x:V) (xs:List V):Bool:=xs.any fun y => eqV y x
def rIn (K:PySem.W.Frag) (neg:Bool):R2:=fun x y H Q => ∃ p xs,y = .ref p∧(SqL K H p xs ∨ SqT K H p xs)∧flatV x = true∧xs.all flatV = true∧Q (.bl (if neg then !inV x xs else inV x xs)) H
theorem Jgc:OpR X (compareOp .In) (rIn X.K false):=by
 intro pins s σ H x y v u Q I rx ry h
 obtain ⟨p,xs,rfl,hq,fx,fs,q⟩:=h
 cases ry
 rcases hq with hq | hq
 ·obtain ⟨its,r,pl,hz⟩:=I.list hq
  refine SeqAt.in_listAt (eqU x) pl.isList (fun w hw => JdC rx fx r fs w (by simpa using hw)) ⟨.bl _,H,I,rfl, ?_⟩
  rw [show its.toArray.any (eqU x) = its.any (eqU x) by simp,Jem r fs]
  exact q
 ·obtain ⟨its,r,pl,hz⟩:=I.tuple hq
  refine SeqAt.in_tupleAt (eqU x) pl (fun w hw => JdC rx fx r fs w (by simpa using hw)) ⟨.bl _,H,I,rfl, ?_⟩
  rw [show its.toArray.any (eqU x) = its.any (eqU x) by simp,Jem r fs]
  exact q
theorem JdZ:CallR X (.builtin "len") (fun xs H Q => ∃ p ys,xs = [.ref p]∧(SqL X.K H p ys ∨ SqT X.K H p ys)∧Q (.int ys.length) H):=by
 intro pins s σ H xs us Q I r h
 obtain ⟨p,ys,rfl,hq,q⟩:=h
 obtain ⟨u,rfl,rx⟩:=vals1 r
 cases rx
 have hn:=Jd7
 rcases hq with hq | hq
 ·obtain ⟨its,r',pl,hz⟩:=I.list hq
  have hlen:=r'.length
  exact Calls.call_len_list pl.isList (by simp only [List.size_toArray] <;> omega) ⟨.int ys.length,H,I.tok _,⟨s.toks + 1,by rw [List.size_toArray,hlen]⟩,q⟩
 ·obtain ⟨its,r',pl,hz⟩:=I.tuple hq
  have hlen:=r'.length
  exact len_tuple pl (by simp only [List.size_toArray] <;> omega) ⟨.int ys.length,H,I.tok _,⟨s.toks + 1,by rw [List.size_toArray,hlen]⟩,q⟩
theorem Jd0:CallR X (.builtin "len") (fun xs H Q => ∃ z,xs = [.str z]∧z.length ≤ sizeLine∧Q (.int z.length) H):=by
 intro pins s σ H xs us Q I r h
 obtain ⟨z,rfl,hz,q⟩:=h
 obtain ⟨u,rfl,t,rfl⟩:=vals1 r
 have hn:=Jd7
 exact len_str (by omega) ⟨.int z.length,H,I.tok _,⟨_,rfl⟩,q⟩
theorem Jd1:CallR X (.type "list") (fun xs H Q => ∃ p ys,xs = [.ref p]∧(SqL X.K H p ys ∨ SqT X.K H p ys)∧∀ l,H l = none→Q (.ref l) (upd H l (.lst ys))):=by
 intro pins s σ H xs us Q I r h
 obtain ⟨p,ys,rfl,hq,q⟩:=h
 obtain ⟨u,rfl,rx⟩:=vals1 r
 cases rx
 have fin:∀ (its:List Value),Vals ys its→ys.length ≤ sizeLine→∀ (h':Heap) (c':Nat),(∀ b o',s.heap.get? b = some o'→h'.get? b = some o') →
   h'.get? s.heap.objs.size = some { cls:=.type "list",dict:=none,data:=.seq its.toArray c',slots:=#[] }→EP X pins σ Q (.ref s.heap.objs.size) { s with heap:=h' }:=fun its r' hz h' c' kp e =>
  ⟨.ref s.heap.objs.size,_,I.laid (t':=s.toks) kp (Nat.le_refl _) (show ObjOk X.prog X.w _ h' _ (.lst ys) from ⟨hz,its,c',r',e⟩),rfl,q _ (I.hok.fresh (Nat.le_refl _))⟩
 rcases hq with hq | hq
 ·obtain ⟨its,r',pl,hz⟩:=I.list hq
  have hlen:=r'.length
  obtain ⟨o,ho,hc,n,hd⟩:=pl.isList
  exact call_list_seq p (.inl rfl) ho hc hd (fun h' c' kp e => fin its r' hz h' c' kp e) (by simp only [List.size_toArray] <;> omega)
 ·obtain ⟨its,r',pl,hz⟩:=I.tuple hq
  have hlen:=r'.length
  obtain ⟨o,ho,hc,n,hd⟩:=pl
  exact call_list_seq p (.inr rfl) ho hc hd (fun h' c' kp e => fin its r' hz h' c' kp e) (by simp only [List.size_toArray] <;> omega)
def tyV (K:PySem.W.Frag) (T:String) (x:V) (H:Hp):Prop:=match x with
 | .str _ => T = "str"
 | .int _ => T = "int"
 | .ref p => (T = "list"∧∃ xs,SqL K H p xs) ∨ (T = "tuple"∧∃ o,K.lookup p = some o∧o.cls = .type "tuple"∧o.dict = none) ∨
   (T = "dict"∧((∃ kvs,H p = some (.dK kvs)) ∨ ∃ kvs,H p = some (.dT kvs))) ∨ (T = "set"∧∃ S n,H p = some (.set S n))
 | _ => False
theorem Jht {pins:List (Addr × Obj)} {σ : St} {H:Hp} {s:Shared} {T:String} {x:V} {v:Value} (I:Inv X pins σ H s) (r:RelV x v) (ty:tyV X.K T x H) :
  s.TypeIs v T∧∀ a,v = .ref a→∃ ob,s.heap.get? a = some ob∧ob.dict = none:=by
 cases x with
 | str z =>
  obtain ⟨t,rfl⟩:=r
  cases (show T = "str" from ty)
  exact ⟨typeIs_str s z t,fun _ e => nomatch e⟩
 | int i =>
  obtain ⟨t,rfl⟩:=r
  cases (show T = "int" from ty)
  exact ⟨typeIs_int s i t,fun _ e => nomatch e⟩
 | ref p =>
  cases r
  rcases ty with ⟨rfl,xs,hq⟩ | ⟨rfl,o,hk,hc,hd⟩ | ⟨rfl,hk⟩ | ⟨rfl,S,n,hk⟩
  ·obtain ⟨its,_,pl,_⟩:=I.list hq
   refine ⟨pl.isList.typeIs,fun a e => ?_⟩
   cases e
   obtain ⟨o,n,e,c,hd,_⟩:=pl
   exact ⟨o,e,hd⟩
  ·refine ⟨⟨o,I.kIn p o hk,hc⟩,fun a e => ?_⟩
   cases e
   exact ⟨o,I.kIn _ o hk,hd⟩
  ·have z:∃ o,s.heap.get? p = some o∧o.ExactDict:=by
    rcases hk with ⟨kvs,hk⟩ | ⟨kvs,hk⟩
    ·obtain ⟨_,_,_,_,o,_,_,e,ex,_⟩:=I.hok p _ hk
     exact ⟨o,e,ex⟩
    ·obtain ⟨_,_,_,_,o,_,_,e,ex,_⟩:=I.hok p _ hk
     exact ⟨o,e,ex⟩
   obtain ⟨o,e,ex⟩:=z
   refine ⟨⟨o,e,ex.1⟩,fun a e2 => ?_⟩
   cases e2
   exact ⟨o,e,ex.2.1⟩
  ·obtain ⟨o,_,_,_,e,ex,_⟩:=I.hok p _ hk
   refine ⟨⟨o,e,ex.1⟩,fun a e2 => ?_⟩
   cases e2
   exact ⟨o,e,ex.2.1⟩
 | _ => exact False.elim ty
def tBM0 (K:PySem.W.Frag) (T:String) (r:V→List V→Hp→VK→Prop) (to:TE):TE:=fun σ H Q => to σ H fun x H1 => tyV K T x H1∧r x [] H1 Q
def tBM (K:PySem.W.Frag) (T:String) (r:V→List V→Hp→VK→Prop) (to:TE) (t:TA):TE:=fun σ H Q => to σ H fun x H1 => tyV K T x H1∧t σ H1 fun xs H2 => r x xs H2 Q
variable {o e:Expr} {es:List Expr} {to:TE} {t:TA} {name:Str} {apos cpos:Pos} {T id:String} {r:V→List V→Hp→VK→Prop}
theorem Jhn (pa:PlainAttrs T) (slot:Slot T name id) (hty:typeOf (.builtin id) = pure (.type "method_descriptor")) (hm:MtR X id r) (ho:PE X o to)
  (hbase:attributeBase o name X.env (eval o X.env) = eval o X.env:=by rfl) (hline:(apos.endLine == cpos.line) = true:=by rfl):PE X (.Call (.Attribute o name apos) [] [] cpos) (tBM0 X.K T r to):=by
 intro pins s σ H Q I h
 refine wpAny_Call_method0_late hbase hline (thn (ho pins s σ H _ I h) fun v s1 ⟨x,H1,I1,r1,ty,q1⟩ => ?_)
 obtain ⟨h1,h2⟩:=Jht I1 r1 ty
 exact ⟨T,id,pa,slot,hty,h1,h2,Calls.callWith_builtin rfl (PySem.evalArgs_none (hm pins s1 σ H1 x [] v [] Q I1 r1 .nil q1))⟩
theorem pe_bm (pa:PlainAttrs T) (slot:Slot T name id) (hty:typeOf (.builtin id) = pure (.type "method_descriptor")) (hm:MtR X id r) (ho:PE X o to) (ha:PA X (e :: es) t)
  (hbase:attributeBase o name X.env (eval o X.env) = eval o X.env:=by rfl)
  (hfew:((backTo cpos (starEach (e :: es) X.env)).all (fun x => !x.1) && (backToKw cpos (keywordEach [] X.env)).all (fun x => x.1.isSome)
   && decide ((e :: es).length + ([]:List Keyword).length + (if ([]:List Keyword).isEmpty then 0 else 1) < 30)) = true:=by rfl)
  (hline:(apos.endLine == cpos.line) = true:=by rfl) (hs:starEach (e :: es) X.env = (false,eval e X.env) :: starEach es X.env:=by rfl) (hplain:(backTo cpos (starEach es X.env)).any (·.1) = false:=by rfl) :
  PE X (.Call (.Attribute o name apos) (e :: es) [] cpos) (tBM X.K T r to t):=by
 intro pins s σ H Q I h
 refine wpAny_Call_method_late hbase hfew hline rfl (thn (ho pins s σ H _ I h) fun v s1 ⟨x,H1,I1,r1,ty,q1⟩ => ?_)
 obtain ⟨h1,h2⟩:=Jht I1 r1 ty
 refine ⟨T,id,pa,slot,hty,h1,h2, ?_⟩
 have hA:=ha cpos pins s1 σ H1 _ I1 q1
 rw [hs] at hA ⊢
 refine Calls.callWith_builtin (by show (false || (backTo cpos (starEach es X.env)).any (·.1)) = false; rw [hplain] <;> rfl) (Calls.evalArgs_plain ?_)
 exact thn hA fun us s2 ⟨vs,H2,I2,r2,q2⟩ => hm pins s2 σ H2 x vs v us Q I2 r1 r2 q2
/- xs.append(e),list.index on a module's tuple .. are MtR facts of 06m -/
end
end L2
namespace L2
open PySem PySem.Spec PyProof.Rows
def MtM (X:Cx) (id:String) (r:V→List V→Hp→VK→Prop):Prop :=
 ∀ (pins:List (Addr × Obj)) (s:Shared) (σ : St) (H:Hp) (x:V) (xs:List V) (v:Value) (us:List Value) (Q:VK),Inv X pins σ H s→RelV x v→Vals xs us→r x xs H Q →
  wpAny (model X.prog X.w) X.A (call (.builtin id) (v :: us)) (EP X pins σ Q) X.xe s
theorem Vals.one:∀ {x:V} {us:List Value},Vals [x] us→∃ u,us = [u]∧RelV x u
 | _,_, .cons r .nil => ⟨_,rfl,r⟩
theorem Vals.zero:∀ {us:List Value},Vals [] us→us = []
 | _, .nil => rfl
theorem Vals.dropLast {xs:List V} {us:List Value} (h:Vals xs us):Vals xs.dropLast us.dropLast:=by
 induction h with
 | nil => exact .nil
 | cons r t ih =>
  cases t with
  | nil => exact .nil
  | cons q t' => exact .cons r ih
theorem Vals.reverse {xs:List V} {us:List Value} (h:Vals xs us):Vals xs.reverse us.reverse:=by
 induction h with
 | nil => exact .nil
 | cons r t ih => rw [List.reverse_cons,List.reverse_cons]; exact Vals.append ih (.cons r .nil)
theorem Jfk {α : Type} (l:List α):l.eraseIdx (l.length - 1) = l.dropLast:=by
 induction l with
 | nil => rfl
 | cons a r ih =>
  cases r with
  | nil => rfl
  | cons b r =>
   have e:(a :: b :: r).length - 1 = ((b :: r).length - 1) + 1:=by
    have h1:(a :: b :: r).length = r.length + 2:=rfl
    have h2:(b :: r).length = r.length + 1:=rfl
    omega
   rw [e,List.eraseIdx_cons_succ,ih]
   all_goals rfl
section
variable {X:Cx} {pins:List (Addr × Obj)} {σ : St} {H:Hp} {s:Shared} {l b:Addr} {xs ys zs:List V}
theorem Inv.lset {its its':List Value} {n:Nat} {f:Array Value→Array Value} {t':Nat} (I:Inv X pins σ H s) (hH:H l = some (.lst xs))
  (e:s.heap.get? l = some { cls:=.type "list",data:=.seq its.toArray n }) (hf:f its.toArray = its'.toArray) (hv:Vals ys its') (hz:ys.length ≤ sizeLine) :
  Inv X pins σ (upd H l (.lst ys)) { s with heap:=s.heap.update l (Obj.mapSeq f),toks:=t' }:=by
 have q:=PySem.IsL.update e f
 rw [hf] at q
 refine I.write (x:=l) (e:=l) (by rw [hH]; exact trivial) (.inl rfl) (fun b' u hb hu => (Heap.get?_update_other s.heap (Obj.mapSeq f) (Ne.symm hb)).trans hu) ⟨_,q⟩ ?_
 exact ⟨hz,its',_,hv,q⟩
theorem Inv.lnew {its:List Value} {t':Nat} (I:Inv X pins σ H s) (hv:Vals ys its) (hz:ys.length ≤ sizeLine) :
  Inv X pins σ (upd H s.heap.objs.size (.lst ys)) { s with heap:=s.heap.push { cls:=.type "list",data:=.seq its.toArray },toks:=t' } :=
 I.laid (fun _ _ q => Heap.get?_push_of_some _ q) (Nat.le_refl _) ⟨hz,its,0,hv,Heap.get?_push_size _ rfl⟩
theorem Inv.fresh (I:Inv X pins σ H s):H s.heap.objs.size = none:=I.hok.fresh (Nat.le_refl _)
theorem Inv.lstM (I:Inv X pins σ H s) (hH:H l = some (.lst xs)):xs.length ≤ sizeLine∧∃ (its:List Value) (n:Nat),Vals xs its∧xs.length = its.length∧s.heap.get? l = some { cls:=.type "list",data:=.seq its.toArray n }:=by
 obtain ⟨z,its,n,r,e⟩:=I.hok l _ hH
 exact ⟨z,its,n,r,r.length,e⟩
end
section
variable {X:Cx}
def Jh5:V→List V→Hp→VK→Prop:=fun x vs H Q => ∃ l xs y,x = .ref l∧vs = [y]∧H l = some (.lst xs)∧xs.length < sizeLine∧Q .non (upd H l (.lst (xs ++ [y])))
theorem JaZ:MtM X "list.append" Jh5:=by
 intro pins s σ H x vs v us Q I rx rv h
 obtain ⟨l,xs,y,rfl,rfl,hH,hz,q⟩:=h
 cases rx
 obtain ⟨u,rfl,ru⟩:=rv.one
 obtain ⟨z,its,n,r,hl,e⟩:=I.lstM hH
 refine call_meets F.slot_list_append ⟨_,e,rfl⟩ F.entry_list_append (F.args_list_append_2 _ _) (PySem.list_append l its.toArray n u (by rw [List.size_toArray]; omega)) ⟨e, ?_⟩
 refine ⟨.non,_,I.lset (its':=its ++ [u]) hH e (by simp) (r.append (.cons ru .nil)) ?_,rfl,q⟩
 rw [List.length_append,List.length_singleton]
 omega
def rPop:V→List V→Hp→VK→Prop:=fun x vs H Q => ∃ l xs y,x = .ref l∧vs = []∧H l = some (.lst xs)∧xs[xs.length - 1]? = some y∧Q y (upd H l (.lst xs.dropLast))
theorem JiB:MtM X "list.pop" rPop:=by
 intro pins s σ H x vs v us Q I rx rv h
 obtain ⟨l,xs,y,rfl,rfl,hH,hy,q⟩:=h
 cases rx
 have hus:=rv.zero
 subst hus
 obtain ⟨z,its,n,r,hl,e⟩:=I.lstM hH
 obtain ⟨u,hu,ru⟩:=r.get hy
 have hy':its.toArray[its.toArray.size - 1]? = some u:=by
  show its.toArray[its.length - 1]? = some u
  rw [← Array.getElem?_toList, ← hl]
  exact hu
 refine call_meets F.slot_list_pop ⟨_,e,rfl⟩ F.entry_list_pop (F.args_list_pop_1 _) (MeetsSeq.list_pop_last l its.toArray n u hy' (by rw [List.size_toArray]; omega)) ⟨e, ?_⟩
 refine ⟨y,_,I.lset (its':=its.dropLast) hH e ?_ r.dropLast ?_,ru,q⟩
 ·show its.toArray.eraseIdxIfInBounds (its.toArray.size - 1) = its.dropLast.toArray
  rw [List.size_toArray,List.eraseIdxIfInBounds_toArray,Jfk]
 ·rw [List.length_dropLast]
  omega
def Jg7:V→List V→Hp→VK→Prop:=fun x vs H Q => ∃ l xs,x = .ref l∧vs = []∧H l = some (.lst xs)∧Q .non (upd H l (.lst xs.reverse))
theorem Jfr:MtM X "list.reverse" Jg7:=by
 intro pins s σ H x vs v us Q I rx rv h
 obtain ⟨l,xs,rfl,rfl,hH,q⟩:=h
 cases rx
 have hus:=rv.zero
 subst hus
 obtain ⟨z,its,n,r,hl,e⟩:=I.lstM hH
 refine call_meets F.slot_list_reverse ⟨_,e,rfl⟩ F.entry_list_reverse (F.args_list_reverse_1 _) (AutoSeq1.list_reverse_list_0 l its.toArray n (by rw [List.size_toArray]; omega)) ⟨e, ?_⟩
 refine ⟨.non,_,I.lset (its':=its.reverse) hH e (by simp) r.reverse ?_,rfl,q⟩
 rw [List.length_reverse]
 omega
def rCat:R2:=fun x y H Q => ∃ l b xs zs,x = .ref l∧y = .ref b∧H l = some (.lst xs)∧H b = some (.lst zs)∧xs.length + zs.length ≤ sizeLine∧∀ p,H p = none→Q (.ref p) (upd H p (.lst (xs ++ zs)))
theorem JiE:OpR X (binaryOp .Add) rCat:=by
 intro pins s σ H x y v u Q I rx ry h
 obtain ⟨l,b,xs,zs,rfl,rfl,hH,hB,hz,q⟩:=h
 cases rx
 cases ry
 obtain ⟨z,its,n,r,hl,e⟩:=I.lstM hH
 obtain ⟨z2,its2,n2,r2,hl2,e2⟩:=I.lstM hB
 refine PySem.P.add_list e e2 ?_ (by rw [List.size_toArray,List.size_toArray]; omega)
 have ea:its.toArray ++ its2.toArray = (its ++ its2).toArray:=by simp
 rw [ea]
 exact ⟨.ref _,_,I.lnew (t':=s.toks) (r.append r2) (by rw [List.length_append]; omega),rfl,q _ I.fresh⟩
end
section
variable {prog:Program} {w:World} {A:Around} {E:Value→Shared→Prop} {s:Shared}
set_option maxRecDepth 100000 in
end
section
variable {X:Cx}
end
end L2
namespace Att
open PySem PySem.W PySem.Calls PyProof.Rows
theorem JcS {P:Params} {h:Heap}:∀ (ns:List Int) (vs:List Value),WellAll P h vs (ns.map WData.int)→IntsAre vs ns:=by
 intro ns
 induction ns with
 | nil =>
  intro vs w
  rw [List.map_nil] at w
  cases w
  exact .nil
 | cons n ns ih =>
  intro vs w
  rw [List.map_cons] at w
  cases w with
  | cons a b =>
   cases a
   exact .cons _ _ (ih _ b)
theorem Jgt {l:OpenLaw} {n:Nat} (hn:l.most = some n) {P:Params} {h:Heap} {args:List WData} {vals:List Value}
  (hpre:l.row.toRowW.claim.pre args = true) (hwl:WellAll P h vals args) :
  ∃ a vs ns,vals = [Value.ref a]∧args = [WData.list (ns.map WData.int)]∧h.get? a = some { cls:=.type "list",data:=.seq vs.toArray }∧IntsAre vs ns∧ns.length ≤ n:=by
 have hsh:WShape.hasAll [] args [.list .int] = true:=(pre_splitW hpre).1
 have hc:l.pre.holds [] { args:=args } = true:=(pre_splitW hpre).2
 obtain ⟨d,r,rfl,h1,h2⟩:=hasAllW_cons hsh
 obtain rfl:=hasAllW_nil h2
 obtain ⟨xs,rfl,h3⟩:=hasW_list h1
 obtain ⟨ns,rfl⟩:=items_int h3
 have hlen:ns.length ≤ n:=by
  unfold OpenLaw.pre at hc
  have h4:(WTm.not (.lt (.lit (.int (n:Int))) (.len (.arg 0)))).holds [] { args:=[.list (ns.map .int)] } = true:=by
   have h4:=(holds_andW hc).1
   rw [hn] at h4
   exact h4
  have h5:=condW_of h4 (w_not (w_lt w_lit (w_len_list (w_arg rfl))))
  rw [List.length_map] at h5
  refine Nat.le_of_not_lt fun q => ?_
  have q':(n:Int) < ((ns.length:Nat):Int):=by omega
  first
   | (rw [decide_eq_true q'] at h5; exact absurd h5 (by decide))
   | (simp at h5; omega)
 cases hwl with
 | cons w1 w2 =>
  cases w2
  cases w1 with
  | list ho hall => exact ⟨_,_,ns,rfl,rfl,ho,JcS ns _ hall,hlen⟩
theorem Jgl (l:OpenLaw) (args:List WData):l.row.toRowW.claim.post args (.bool true) args = true :=
 postW_of (r:=l.row.toRowW) (X:=(true == true))
  (show WShape.has [] (.bool true) .bool = true by first | rfl | decide | simp [WShape.has,WShape.arms,WShape.armsAll])
  (show (WTm.eq .res (.lit (.bool true))).value [] { args:=args,res:=some (.bool true),after:=args } = some (.bool (true == true)) from w_eq_bool (w_res rfl) w_lit) rfl
theorem attach_call {l:OpenLaw} {n:Nat} {q:Program} {loose:List Str} {XP:(Str→Option Value)→Heap→Prop} {YP:World→Heap→Prop} {d:DefRec}
  (hn:l.most = some n) (hdf:d.params.defaults = [])
  (call:∀ (w:World) (s₀ s₁ : Shared) (mg mb:Str→Option Value) (fa:Addr) (o:Obj) (pm cd doc:Value) (a:Addr) (vs:List Value) (ns:List Int),
   Ground q loose [] XP w s₀ mg mb s₁.heap→YP w s₁.heap →
   s₁.heap.get? fa = some o→o.data = .func (docDef d.name d.params d.body d.scope pm cd doc)→s₁.heap.CodeRec cd d.name→mg d.name = some (.ref fa) →
   s₁.heap.get? a = some { cls:=.type "list",data:=.seq vs.toArray }→IntsAre vs ns→ns.length ≤ n→s₁.gens = #[] →
   codeAny (model l.prog w) callerA (.call (.ref fa) ⟨[.ref a],[]⟩) (fun r s' => r = .ok (.ret (.bool true))∧OldK s₁.heap s'.heap∧s'.os = s₁.os∧AllBare s'.gens) s₁) :
  WalkO q loose XP YP l.row.toRowW d [] (fun f vs => PySem.call f vs):=by
 intro w s₀ s₁ mg mb G Y fa o pm cd doc dV kV ho hd hcd hD hmg hg args vals as hpre hlay hrd hwl hlo
 obtain rfl:dV = .none:=Dflts.none hD hdf
 obtain rfl:kV = .none:=Dflts.noKw hD
 obtain ⟨a,vs,ns,rfl,rfl,hobj,hints,hlen⟩:=Jgt hn hpre hwl
 refine enter_call (codeAny_mono (call w s₀ s₁ mg mb fa o pm cd doc a vs ns G Y ho (fd_plain hd) hcd hmg hobj hints hlen hg) fun r s' hq => ?_)
 obtain ⟨rfl,h2,h3,h4⟩:=hq
 exact ⟨.inl ⟨.bool true, .bool true,[],rfl,fun _ => rfl, .bool true,Jgl l _,fun _ => ⟨List.Pairwise.nil,fun _ hm => (nomatch hm)⟩⟩,h2,h3,h4⟩
section
variable {prog:Program} {w:World} {A:Around} {E:Value→Shared→Prop} {s:Shared} {K:Frag}
end
end Att
namespace L2
open PySem PySem.Spec PyProof.Rows
theorem Jel:∀ {vs:List Value} {ns:List Int},IntsAre vs ns→Vals (ns.map V.int) vs
 | _,_, .nil => .nil
 | _,_, .cons n t h => .cons ⟨t,rfl⟩ (Jel h)
def Only (H:Hp):Prop:=∀ b,H b = none ∨ ∃ o xs,H b = some (.frz o (.lst xs))
theorem JgV {P:Program} {w:World} {K:PySem.W.Frag} {mg mb:Str→Option Value} {CX:CXT} {k:Nat} {fa a:Addr} {fd:FuncData} {x:Str} {sp:Sp} {s₁ : Shared} {vs:List Value} {ns:List Int}
  (KX:K.In s₁.heap) (hns:s₁.heap.Ns mainGlobals mg) (hb:s₁.heap.Ns builtinsNs mb) (hbb:∀ x:Str,x ≠ "__name__"→mb x = bootBuiltins x) (hlim:s₁.heap.NoLimit) (hg:s₁.gens = #[])
  (ha:s₁.heap.get? a = some { cls:=.type "list",data:=.seq vs.toArray }) (hi:IntsAre vs ns) (hl:ns.length ≤ sizeLine) (hr:Room k callerA)
  (F:∀ base:Heap,K.In base→base.Ns mainGlobals mg→FnOk P w K mg base CX k fa fd [x] sp) (hbind:∀ (s:Shared) (u:Value),BindsTo s fd ⟨[u],[]⟩ [(x,u)])
  (hsp:∀ H:Hp,Only H→SqL K H a (ns.map V.int)→sp [.ref a] H (fun v _ => v = .bl true) fun _ _ _ => False)
  (hCX:∀ H e s',CX [] H s₁ (fun _ _ _ => False) e s'→False) :
  codeAny (model P w) callerA (.call (.ref fa) ⟨[.ref a],[]⟩) (fun r s' => r = .ok (.ret (.bool true))∧OldK s₁.heap s'.heap∧s'.os = s₁.os∧AllBare s'.gens) s₁:=by
 have rv:=Jel hi
 have lenV:=hi.length
 have core:∀ H:Hp,Only H→SqL K H a (ns.map V.int)→HOk P w H s₁.heap→(∀ b,H b ≠ none→b = a)→(H a ≠ none→K.lookup a = none) →
   codeAny (model P w) callerA (.call (.ref fa) ⟨[.ref a],[]⟩) (fun r s' => r = .ok (.ret (.bool true))∧OldK s₁.heap s'.heap∧s'.os = s₁.os∧AllBare s'.gens) s₁:=by
  intro H hO hS hok hA hK
  have base_of:∀ {b:Addr} {o:Obj},s₁.heap.get? b = some o→H b = none→(hidT s₁.heap H).get? b = some o:=fun e n => JgT e n
  have noA:∀ {b:Addr} {o:Obj} {es:Array DictEntry} {ep:Nat},s₁.heap.get? b = some o→o.data = .dict es ep→H b = none:=fun {b o es ep} e d => by
   cases q:H b with
   | none => rfl
   | some u =>
    have e':b = a:=hA b (by rw [q]; simp)
    subst e'
    rw [ha] at e; cases e
    have d':Data.seq vs.toArray _ = Data.dict es ep:=d
    cases d'
  have nsK:∀ {b:Addr} {m:Str→Option Value},s₁.heap.Ns b m→(hidT s₁.heap H).Ns b m:=fun {b m} ⟨o,es,ep,e,d,r⟩ => ⟨o,es,ep,base_of e (noA e d),d,r⟩
  have hKb:K.In (hidT s₁.heap H):=fun b o e => base_of (KX b o e) (by
   cases q:H b with
   | none => rfl
   | some u =>
    have e':b = a:=hA b (by rw [q]; simp)
    subst e'
    rw [hK (by rw [q]; simp)] at e; cases e)
  have hM:Mod K mg (hidT s₁.heap H):=⟨hKb,nsK hns,⟨mb,nsK hb,hbb⟩,let ⟨mc,h1,h2⟩:=hlim; ⟨mc,nsK h1,h2⟩⟩
  have e0:Env0 P w K mg (hidT s₁.heap H) callerA [] s₁ H:=⟨rfl,hM,fun b o e => JhV e,Nat.le_of_eq (JfX _ _),trivial,fun b hb => absurd (show b ∈ ([]:List Addr) from hb) (by simp),hok, .of_eq hg⟩
  refine codeAny_mono ((F _ hKb (nsK hns)).run callerA [] s₁ H ⟨[.ref a],[]⟩ [.ref a] [.ref a] _ _ hr e0 (hbind s₁ (.ref a)) (.cons rfl .nil) (hsp H hO hS)) fun r s' h => ?_
  cases r with
  | error e => exact (hCX H e s' h).elim
  | ok fl =>
   cases fl with
   | next => exact False.elim h
   | brk => exact False.elim h
   | cont => exact False.elim h
   | ret u =>
    obtain ⟨v,H',os,bare,un,hok',r',q⟩:=h
    have q':v = .bl true:=q
    subst q'
    obtain rfl:u = Value.bool true:=r'
    refine ⟨rfl,OldK.of_keep fun b o e => ?_,os,bare⟩
    cases q:H b with
    | none => exact un.keep b o e q (by intro z; exact absurd (show b ∈ ([]:List Addr) from z) (by simp)) (by simp)
    | some u =>
     rcases hO b with z | ⟨ob,xs,z⟩
     ·rw [q] at z; cases z
     ·have z2:=un.frzs b ob _ z
      obtain ⟨e1,_⟩:=hok b _ z
      obtain ⟨e2,_⟩:=hok' b _ z2
      rw [e] at e1; cases e1
      exact e2
 cases hk:K.lookup a with
 | some o =>
  have e:=KX a o hk
  rw [ha] at e
  cases e
  refine core (fun _ => none) (fun _ => .inl rfl) (.inr ⟨_,vs.toArray,_,hk,rfl,rfl,rfl,by rw [List.size_toArray,lenV]; exact hl,by simpa using rv⟩) (fun b u z => by have z':(none:Option HO) = some u:=z; cases z') (fun b z => absurd rfl z) fun z => absurd rfl z
 | none =>
  refine core (fun b => if b = a then some (.frz { cls:=.type "list",data:=.seq vs.toArray } (.lst (ns.map V.int))) else none) (fun b => ?_) (.inl (.inr ⟨{ cls:=.type "list",data:=.seq vs.toArray },if_pos rfl⟩)) (fun b u z => ?_) (fun b z => ?_) fun _ => hk
  ·by_cases hb:b = a
   ·exact .inr ⟨_,_,if_pos hb⟩
   ·exact .inl (if_neg hb)
  ·by_cases hb:b = a
   ·have z':=(if_pos hb).symm.trans z
    cases z'
    subst hb
    exact ⟨ha,by rw [List.length_map]; exact hl,vs,_,rv,ha⟩
   ·have z':=(if_neg hb).symm.trans z
    cases z'
  ·by_cases hb:b = a
   ·exact hb
   ·exact absurd (if_neg hb) z
end L2
namespace L2
open PySem PySem.Spec PyProof.Rows
abbrev KOf {K:PySem.W.Frag} {h:Heap} (_:K.In h):PySem.W.Frag:=K
theorem JgD {l:PySem.W.OpenLaw} {n k:Nat} {q:Program} {loose:List Str} {XP:(Str→Option Value)→Heap→Prop} {YP:World→Heap→Prop} {d:DefRec} {K:Params→PySem.W.Frag} {CX:World→CXT} {sp:World→Sp} {x:Str}
  (hn:l.most = some n) (hn2:n ≤ sizeLine) (hdf:d.params.defaults = []) (hr:Room k callerA)
  (hY:∀ (w:World) (h:Heap),YP w h→(K w.params).In h)
  (F:∀ (w:World) (mg:Str→Option Value) (fa:Addr) (h:Heap),(K w.params).In h→h.Ns mainGlobals mg→mg d.name = some (.ref fa) →
   ∃ fd:FuncData,(∀ (s:Shared) (u:Value),BindsTo s fd ⟨[u],[]⟩ [(x,u)]) ∧
    ∀ base:Heap,(K w.params).In base→base.Ns mainGlobals mg→FnOk l.prog w (K w.params) mg base (CX w) k fa fd [x] (sp w))
  (hsp:∀ (w:World) (H:Hp) (a:Addr) (ns:List Int),ns.length ≤ n→Only H→SqL (K w.params) H a (ns.map V.int)→sp w [.ref a] H (fun v _ => v = .bl true) fun _ _ _ => False)
  (hCX:∀ (w:World) (H:Hp) (s:Shared) (e:Value) (s':Shared),CX w [] H s (fun _ _ _ => False) e s'→False) :
  PySem.W.WalkO q loose XP YP l.row.toRowW d [] (fun f vs => PySem.call f vs):=by
 refine Att.attach_call hn hdf fun w s₀ s₁ mg mb fa o pm cd doc a vs ns G Y ho hd hcd hmg hobj hints hlen hg => ?_
 have KX:=hY w _ Y
 obtain ⟨fd,hb,hF⟩:=F w mg fa _ KX G.T.g hmg
 exact JgV KX G.T.g G.T.b G.T.builtins G.T.nolimit hg hobj hints (Nat.le_trans hlen hn2) hr hF hb (fun H hO hS => hsp w H a ns hlen hO hS) fun H e s' => hCX w H s₁ e s'
end L2
/- THE LAST THEOREM (shape; LID,My.* are yours):
   My.Adr: a structure of the addresses that your layer names (classes,functions); My.Txt K t: a structure (Prop) of the equations over K;
   My.txt_mk:{K} {implicit addresses ..} (e1:nsIn K mainGlobals "law" = some (some (.ref f))) (e2:K.lookup f = some ⟨oc,od, .func (fnOf "law" "law" params body scope dV kV doc pm an cdv ct),sl⟩) (e3:codeIn K cdv "law" = true) .. : ∃ t,My.Txt K t
set_option maxRecDepth 100000 in
set_option maxHeartbeats 0 in
theorem PySem.Challenge.cw_LID_holds : PySem.Challenge.rw_LID.Holds := by
 w_on; o_law; k_head; (case hw => w_witness2)
 k_fill
 refine L2.JgD (l:=PySem.Challenge.rw_LID) (n:=63) (k:=40) (x:="script") (CX:=fun w => ..) (sp:=fun _ => My.Bco) rfl (by decide) rfl ⟨rfl,by decide,by decide⟩ (fun w h Y => PySem.W.kIn_of Y) ?F ?S ?C
 case F =>
  intro w mg fa h KX G hmg
  have T:∃ t,My.Txt (L2.KOf KX) t:=by
   dsimp only [L2.KOf]                          -- K must stand as «<heap const> w.params» for k_is
   refine' My.txt_mk ?e1 ?e2 ?e3 ..
   (case e1 => PySem.W.k_is)                    -- in the order: a name -> its address -> its object -> its parts
   (case e2 => PySem.W.k_is)
   ..
  obtain ⟨t,T⟩:=T
  have e0:=hmg.symm.trans (PySem.W.mg_of KX G T.law)
  cases e0                                       -- fa is the law's own address
  exact ⟨_,fun s u => .of_eq rfl,fun base kb nb => My.law_fn T kb nb⟩     -- if «.of_eq rfl» comes too early: refine' ⟨_, ?b,fun base kb nb => My.law_fn T kb nb⟩; exact fun s u => .of_eq rfl
 case S => exact fun w H a ns hl hO hS => ..
 case C => exact ..
(the tactic k_is has no namespace: write k_is) -/
namespace L2
open PySem PySem.Spec PyProof.Rows
def inClass (s:Stmt) (j:Nat):Stmt:=match s with
 | .ClassDef _ _ _ body _ _ _ _ _ _ _ => body.getD j (.Pass ⟨0,0,0,0⟩)
 | _ => .Pass ⟨0,0,0,0⟩
def Jap (s:Stmt):Arguments:=match s with
 | .FunctionDef _ a _ _ _ _ _ _ _ _ => a
 | _ => { posonlyargs:=[],args:=[],vararg:=none,kwonlyargs:=[],kw_defaults:=[],kwarg:=none,defaults:=[] }
def Jal (s:Stmt):List Stmt:=match s with
 | .FunctionDef _ _ b _ _ _ _ _ _ _ => b
 | _ => []
def Jaf (s:Stmt):Scope:=match s with
 | .FunctionDef _ _ _ _ _ _ sc _ _ _ => sc
 | _ => { kind:=.function,names:=[],isGenerator:=false,isCoroutine:=false }
abbrev E0:XK:=fun _ _ _ => False
structure Fun (K:PySem.W.Frag) (x qual:Str) (st:Stmt) (f:Addr) (fd:FuncData):Prop where
 ex:∃ (oc:Value) (od:Option Addr) (kV doc pm:Value) (an:Option Addr) (cdv ct:Value) (osl:Array (Option Value)),
  fd = PySem.W.fnOf x qual (Jap st) (Jal st) (Jaf st) .none kV doc pm an cdv ct∧K.lookup f = some ⟨oc,od, .func fd,osl⟩∧PySem.W.codeIn K cdv qual = true
 kp:PySem.W.keepIn K (.ref f) = true
section
variable {P:Program} {w:World} {K:PySem.W.Frag} {mg:Str→Option Value} {base:Heap}
theorem Fun.binds {x qual:Str} {st:Stmt} {f:Addr} {fd:FuncData} {ps:List Str} (F:Fun K x qual st f fd)
  (h:∀ (kV doc pm:Value) (an:Option Addr) (cdv ct:Value) (us:List Value),us.length = ps.length→bindArgs (PySem.W.fnOf x qual (Jap st) (Jal st) (Jaf st) .none kV doc pm an cdv ct) ⟨us,[]⟩ = pure (ps.zip us)):Binds K fd ps []:=by
 obtain ⟨oc,od,kV,doc,pm,an,cdv,ct,osl,rfl,lk,hcd⟩:=F.ex
 exact .all (h kV doc pm an cdv ct)
end
section
variable {X:Cx}
theorem pv (i:Nat) {x:Str} {pos:Pos} (hN:X.N[i]? = some x:=by rfl) (hv:Vis X.env.scope x:=by first | exact Or.inl rfl | exact Or.inr (Or.inl rfl) | exact Or.inr (Or.inr rfl)) (hd:(x == ("__debug__" : Str)) = false:=by decide)
  (hcd:(x == ("__classdict__" : Str)) = false:=by decide):PE X (.Name x pos) (tVar i):=JiJ hN hv hd hcd
end
def Same (H H':Hp):Prop:=∀ b o,H b = some o→H' b = some o
theorem Same.refl (H:Hp):Same H H:=fun _ _ h => h
theorem Same.trans {H H1 H2:Hp} (a:Same H H1) (b:Same H1 H2):Same H H2:=fun c o h => b c o (a c o h)
theorem Same.seq {K:PySem.W.Frag} {H H':Hp} {a:Addr} {xs:List V} (e:Same H H') (h:SqL K H a xs):SqL K H' a xs:=by
 rcases h with (h | ⟨o,h⟩) | h
 ·exact .inl (.inl (e _ _ h))
 ·exact .inl (.inr ⟨o,e _ _ h⟩)
 ·exact .inr h
end L2
set_option maxHeartbeats 4000000
namespace L2
open PySem PySem.Spec PyProof.Rows
section
variable {κ : Type} [DecidableEq κ]
def valV (kvs:List (κ × V)) (k : κ):Option V:=(kvs.find? fun kv => decide (kv.1 = k)).map (·.2)
def putK (kvs:List (κ × V)) (k : κ) (v:V):List (κ × V) :=
 if (kvs.any fun kv => decide (kv.1 = k)) = true then kvs.map (fun kv => if kv.1 = k then (kv.1,v) else kv) else kvs ++ [(k,v)]
theorem Ja0 {p : κ × V} {r:List (κ × V)} {k : κ} (e:p.1 = k):valV (p :: r) k = some p.2:=by simp [valV,List.find?_cons,e]
theorem Ja5 {p : κ × V} {r:List (κ × V)} {k : κ} (e:¬ p.1 = k):valV (p :: r) k = valV r k:=by simp [valV,List.find?_cons,e]
theorem JbX (k : κ):∀ kvs:List (κ × V),(kvs.any fun kv => decide (kv.1 = k)) = (valV kvs k).isSome
 | [] => rfl
 | p :: r => by
  rw [List.any_cons]
  by_cases e:p.1 = k
  ·simp only [Ja0 e,decide_eq_true e,Bool.true_or,Option.isSome_some]
  ·rw [Ja5 e,decide_eq_false e,Bool.false_or]; exact JbX k r
theorem Jfc (k j : κ) (y:V):∀ kvs:List (κ × V),valV (kvs.map fun kv => if kv.1 = k then (kv.1,y) else kv) j = (valV kvs j).map fun x => if j = k then y else x
 | [] => rfl
 | p :: r => by
  have ih:=Jfc k j y r
  rw [List.map_cons]
  by_cases h:p.1 = k
  ·rw [if_pos h]
   by_cases e:p.1 = j
   ·rw [Ja0 (p:=(p.1,y)) e,Ja0 e,Option.map_some,if_pos (e.symm.trans h)]
   ·rw [Ja5 (p:=(p.1,y)) e,Ja5 e,ih]
  ·rw [if_neg h]
   by_cases e:p.1 = j
   ·rw [Ja0 (p:=p) e,Ja0 e,Option.map_some,if_neg (fun z => h (e.trans z))]
   ·rw [Ja5 (p:=p) e,Ja5 e,ih]
theorem Jek (k j : κ) (y:V):∀ kvs:List (κ × V),valV kvs k = none→valV (kvs ++ [(k,y)]) j = if j = k then some y else valV kvs j
 | [],_ => by
  by_cases e:k = j
  ·rw [if_pos e.symm]; exact Ja0 (p:=(k,y)) e
  ·rw [if_neg (fun z => e z.symm)]; exact Ja5 (p:=(k,y)) e
 | p :: r,hn => by
  rw [List.cons_append]
  have hk:¬ p.1 = k:=fun z => by rw [Ja0 z] at hn; cases hn
  rw [Ja5 hk] at hn
  have ih:=Jek k j y r hn
  by_cases e:p.1 = j
  ·rw [Ja0 e,Ja0 e,if_neg (fun z => hk (e.trans z))]
  ·rw [Ja5 e,Ja5 e,ih]
theorem JbY (kvs:List (κ × V)) (k j : κ) (y:V):valV (putK kvs k y) j = if j = k then some y else valV kvs j:=by
 unfold putK
 by_cases a:(kvs.any fun kv => decide (kv.1 = k)) = true
 ·rw [if_pos a,Jfc]
  rw [JbX] at a
  by_cases e:j = k
  ·obtain ⟨x,hx⟩:=Option.isSome_iff_exists.mp a
   rw [if_pos e,e,hx,Option.map_some,if_pos rfl]
  ·rw [if_neg e]
   cases valV kvs j with
   | none => rfl
   | some x => rw [Option.map_some,if_neg e]
 ·rw [if_neg a]
  refine Jek k j y kvs ?_
  rw [JbX] at a
  cases q:valV kvs k with
  | none => rfl
  | some x => rw [q] at a; exact (a rfl).elim
theorem JaC (kvs:List (κ × V)) (k : κ) (v:V):(putK kvs k v).length ≤ kvs.length + 1:=by
 unfold putK
 split
 ·rw [List.length_map]; omega
 ·rw [List.length_append,List.length_cons,List.length_nil]; omega
theorem RelO.isSome_eq {o:Option V} {u:Option Value} (r:RelO o u):o.isSome = u.isSome:=by
 cases o with
 | none => cases u with
  | none => rfl
  | some _ => exact (show False from r).elim
 | some _ => cases u with
  | none => exact (show False from r).elim
  | some _ => rfl
theorem RelO.getD {o:Option V} {u:Option Value} {d:V} {d':Value} (r:RelO o u) (rd:RelV d d'):RelV (o.getD d) (u.getD d'):=by
 cases o with
 | none => cases u with
  | none => exact rd
  | some _ => exact (show False from r).elim
 | some _ => cases u with
  | none => exact (show False from r).elim
  | some _ => exact r
theorem KV.val {kvs:List (κ × V)} {vs:List (κ × Value)} (r:KV kvs vs) (k : κ):RelO (valV kvs k) (valueAt vs k):=by
 unfold KV at r
 induction r with
 | nil => exact True.intro
 | @cons p q ps qs h t ih =>
  obtain ⟨h1,h2⟩:=h
  by_cases e:p.1 = k
  ·have e':q.1 = k:=h1.symm.trans e
   have b:valueAt (q :: qs) k = some q.2:=by simp [valueAt,List.find?_cons,e']
   rw [Ja0 e,b]; exact h2
  ·have e':¬ q.1 = k:=fun z => e (h1.trans z)
   have b:valueAt (q :: qs) k = valueAt qs k:=by simp [valueAt,List.find?_cons,e']
   rw [Ja5 e,b]; exact ih
theorem KV.any {kvs:List (κ × V)} {vs:List (κ × Value)} (r:KV kvs vs) (k : κ):(kvs.any fun kv => decide (kv.1 = k)) = vs.any fun kv => decide (kv.1 = k):=by
 unfold KV at r
 induction r with
 | nil => rfl
 | cons h t ih => rw [List.any_cons,List.any_cons,ih,h.1]
theorem KV.repl {kvs:List (κ × V)} {vs:List (κ × Value)} (r:KV kvs vs) (k : κ) {y:V} {u:Value} (ry:RelV y u) :
  KV (kvs.map fun kv => if kv.1 = k then (kv.1,y) else kv) (vs.map fun kv => if kv.1 = k then (kv.1,u) else kv):=by
 unfold KV at r ⊢
 induction r with
 | nil => exact .nil
 | @cons p q ps qs h t ih =>
  rw [List.map_cons,List.map_cons]
  refine .cons ?_ ih
  obtain ⟨h1,h2⟩:=h
  by_cases e:p.1 = k
  ·rw [if_pos e,if_pos (h1.symm.trans e)]; exact ⟨h1,ry⟩
  ·rw [if_neg e,if_neg (fun z => e (h1.trans z))]; exact ⟨h1,h2⟩
theorem KV.put {kvs:List (κ × V)} {vs:List (κ × Value)} (r:KV kvs vs) (k : κ) {y:V} {u:Value} (ry:RelV y u):KV (putK kvs k y) (stored vs k u):=by
 unfold putK stored
 rw [r.any k]
 by_cases e:(vs.any fun kv => decide (kv.1 = k)) = true
 ·rw [if_pos e,if_pos e]; exact r.repl k ry
 ·rw [if_neg e,if_neg e]; exact Paired.snoc r ⟨rfl,ry⟩
theorem KV.length {kvs:List (κ × V)} {vs:List (κ × Value)} (r:KV kvs vs):kvs.length = vs.length:=Paired.length r
end
theorem kV_is {P:Program} {w:World} {k:Key} {u:Value} (r:RelV (kV k) u):(JaJ P w).is k u = true:=by
 cases k with
 | inl i => have e:=(show u = Value.bool i from r); subst e; exact Jd9 P w i
 | inr x => obtain ⟨t,e⟩:=(show ∃ t,u = Value.str x t from r); subst e; exact Jes P w x t
theorem Jd5 {P:Program} {w:World}:∀ {ks:List Key} {us:List Value},Vals (ks.map kV) us→ItemsAre (JaJ P w) ks us
 | [],_,r => by rw [List.map_nil] at r; cases r; exact .nil
 | k :: ks,_,r => by
  rw [List.map_cons] at r
  cases r with
  | cons h t => exact .cons (kV_is h) (Jd5 t)
abbrev KT (H:Hp):List (List Key × V)→List (List Key × Addr × Value)→Prop:=Paired fun p q => p.1 = q.1∧H q.2.1 = some (.tup (p.1.map kV))∧RelV p.2 q.2.2
theorem KT.val {H:Hp} {kvs:List (List Key × V)} {xs:List (List Key × Addr × Value)} (r:KT H kvs xs) (k:List Key):RelO (valV kvs k) ((atKey xs k).map (·.2)):=by
 induction r with
 | nil => exact True.intro
 | @cons p q ps qs h t ih =>
  obtain ⟨h1,_,h2⟩:=h
  by_cases e:p.1 = k
  ·have e':q.1 = k:=h1.symm.trans e
   have b:atKey (q :: qs) k = some q.2:=by simp [atKey,List.find?_cons,e']
   rw [Ja0 e,b]; exact h2
  ·have e':¬ q.1 = k:=fun z => e (h1.trans z)
   have b:atKey (q :: qs) k = atKey qs k:=by simp [atKey,List.find?_cons,e']
   rw [Ja5 e,b]; exact ih
theorem KT.repl {H:Hp} {kvs:List (List Key × V)} {xs:List (List Key × Addr × Value)} (r:KT H kvs xs) (k:List Key) {y:V} {u:Value} (ry:RelV y u) :
  KT H (kvs.map fun kv => if kv.1 = k then (kv.1,y) else kv) (xs.map (putAt k u)):=by
 induction r with
 | nil => exact .nil
 | @cons p q ps qs h t ih =>
  rw [List.map_cons,List.map_cons]
  refine .cons ?_ ih
  obtain ⟨h1,h2,h3⟩:=h
  unfold putAt
  by_cases e:p.1 = k
  ·rw [if_pos e,if_pos (h1.symm.trans e)]; exact ⟨h1,h2,ry⟩
  ·rw [if_neg e,if_neg (fun z => e (h1.trans z))]; exact ⟨h1,h2,h3⟩
theorem KT.put {H:Hp} {kvs:List (List Key × V)} {xs:List (List Key × Addr × Value)} (r:KT H kvs xs) (k:List Key) {b:Addr} {y:V} {u:Value} (hb:H b = some (.tup (k.map kV))) (ry:RelV y u) :
  KT H (putK kvs k y) (storedH xs k b u):=by
 have e:(kvs.any fun kv => decide (kv.1 = k)) = (atKey xs k).isSome:=by
  rw [JbX,(r.val k).isSome_eq,Option.isSome_map]
 unfold putK storedH
 rw [e]
 by_cases q:(atKey xs k).isSome = true
 ·rw [if_pos q,if_pos q]; exact r.repl k ry
 ·rw [if_neg q,if_neg q]; exact Paired.snoc r ⟨rfl,hb,ry⟩
theorem KT.keeps {H H':Hp} {kvs:List (List Key × V)} {xs:List (List Key × Addr × Value)} (r:KT H kvs xs) (ht:∀ b ys,H b = some (.tup ys)→H' b = some (.tup ys)):KT H' kvs xs :=
 Paired.mapP r fun _ _ z => ⟨z.1,ht _ _ z.2.1,z.2.2⟩
section
variable {P:Program} {w:World} {H:Hp} {h:Heap} {a:Addr}
theorem y76y {u:HO} (ok:HOk P w H h) (e:Rd H a u):ObjOk P w H h a u:=e.ok ok
theorem dk_rd {kvs:List (Key × V)} (ok:HOk P w H h) (e:Rd H a (.dK kvs)):kvs.length ≤ sizeLine∧(a == sysModules) = false∧∃ vs,KV kvs vs∧h.DictOf (JaJ P w) a vs :=
 show ObjOk P w H h a (.dK kvs) from y76y ok e
theorem dk_of {kvs:List (Key × V)} (ok:HOk P w H h) (e:H a = some (.dK kvs)):kvs.length ≤ sizeLine∧(a == sysModules) = false∧∃ vs,KV kvs vs∧h.DictOf (JaJ P w) a vs:=dk_rd ok (.inl e)
theorem JcT {ks:List Key} (ok:HOk P w H h) (e:H a = some (.tup (ks.map kV))):(tupleKind (JaJ P w)).is h ks a:=by
 obtain ⟨_,its,r,o,h1,h2,n,h3⟩:=(show ObjOk P w H h a (.tup (ks.map kV)) from ok a _ e)
 exact ⟨o,its.toArray,n,h1,h2,h3,by simpa using Jd5 r⟩
theorem dt_rd {kvs:List (List Key × V)} (ok:HOk P w H h) (e:Rd H a (.dT kvs)):kvs.length ≤ sizeLine∧(a == sysModules) = false ∧
  ∃ xs,KT H kvs xs∧h.DictOfH (tupleKind (JaJ P w)) a xs:=by
 obtain ⟨z,y,xs,r,o,es,ep,h1,h2,h3,h4,h5⟩:=(show ObjOk P w H h a (.dT kvs) from y76y ok e)
 refine ⟨z,y,xs,r,o,es,ep,h1,h2,h3,h4,fun x hx => ?_,h5⟩
 have all:∀ {l:List (List Key × V)} {m:List (List Key × Addr × Value)},KT H l m→∀ x ∈ m,(tupleKind (JaJ P w)).is h x.1 x.2.1:=by
  intro l m q
  induction q with
  | nil => intro x hx; exact nomatch hx
  | @cons p q ps qs hq t ih =>
   intro x hx
   rcases List.mem_cons.mp hx with e | hx
   ·subst e
    exact JcT ok (by rw [← hq.1]; exact hq.2.1)
   ·exact ih x hx
 exact all r x hx
theorem dt_of {kvs:List (List Key × V)} (ok:HOk P w H h) (e:H a = some (.dT kvs)):kvs.length ≤ sizeLine∧(a == sysModules) = false ∧
  ∃ xs,KT H kvs xs∧h.DictOfH (tupleKind (JaJ P w)) a xs:=dt_rd ok (.inl e)
end
def DGet (H:Hp) (a:Addr) (y:V) (r:Option V):Prop :=
 (∃ kvs k,Rd H a (.dK kvs)∧y = kV k∧r = valV kvs k) ∨ ∃ kvs k b,Rd H a (.dT kvs)∧y = .ref b∧H b = some (.tup (k.map kV))∧r = valV kvs k
def DPut (H:Hp) (a:Addr) (y v:V) (H':Hp):Prop :=
 (∃ kvs k,H a = some (.dK kvs)∧y = kV k∧kvs.length < sizeLine∧H' = upd H a (.dK (putK kvs k v))) ∨
 ∃ kvs k b,H a = some (.dT kvs)∧y = .ref b∧H b = some (.tup (k.map kV))∧kvs.length < sizeLine∧H' = upd H a (.dT (putK kvs k v))
theorem DGet.k {H:Hp} {a:Addr} {kvs:List (Key × V)} {k:Key} (e:H a = some (.dK kvs)):DGet H a (kV k) (valV kvs k):=.inl ⟨kvs,k, .inl e,rfl,rfl⟩
theorem DPut.k {H:Hp} {a:Addr} {kvs:List (Key × V)} {k:Key} {v:V} (e:H a = some (.dK kvs)) (hl:kvs.length < sizeLine):DPut H a (kV k) v (upd H a (.dK (putK kvs k v))):=.inl ⟨kvs,k,e,rfl,hl,rfl⟩
section
variable {X:Cx} {pins:List (Addr × Obj)} {σ : St} {H:Hp} {s:Shared} {a:Addr} {y v:V} {u r:Value} {o:Option V} {A:Around} {E:Value→Shared→Prop}
theorem Inv.big (I:Inv X pins σ H s):sysModules < s.heap.objs.size:=by
 have h:mainGlobals < s.heap.objs.size:=(I.mod.glob.keeps I.bk).lt
 exact Nat.lt_trans (by decide) h
theorem JfO {Q:Value→Shared→Prop} (hu:A.units + 1 < cLine) (I:Inv X pins σ H s) (g:DGet H a y (some v)) (ry:RelV y u) (h:∀ w' s',Inv X pins σ H s'→RelV v w'→Q w' s') :
  wpAny (model X.prog X.w) A (getItem (.ref a) u) Q E s:=by
 rcases g with ⟨kvs,k,e,ey,l⟩ | ⟨kvs,k,b,e,ey,eb,l⟩
 ·subst ey
  obtain ⟨z,hd,vs,rel,dd⟩:=dk_rd I.hok e
  obtain ⟨w',hw,rw'⟩:=RelO.some_of (v:=v) (o:=valueAt vs k) (by rw [l]; exact rel.val k)
  exact wpAny_getItem_of (kV_is ry) dd.mapOf hw (h w' _ (I.tok _) rw')
 ·subst ey
  cases (show u = Value.ref b from ry)
  obtain ⟨z,hd,xs,rel,dd⟩:=dt_rd I.hok e
  obtain ⟨w',hw,rw'⟩:=RelO.some_of (v:=v) (o:=(atKey xs k).map (·.2)) (by rw [l]; exact rel.val k)
  obtain ⟨p,hp,hp2⟩:=Option.map_eq_some_iff.mp hw
  refine wpAny_getItem_heap (tupleKind_room_in1 hu) (JcT I.hok eb) dd hp ?_
  rw [hp2]
  exact h w' _ (I.tok _) rw'
theorem d_in {Q:Value→Shared→Prop} (hu:A.units + 1 < cLine) (I:Inv X pins σ H s) (g:DGet H a y o) (ry:RelV y u) (h:∀ s',Inv X pins σ H s'→Q (.bool o.isSome) s') :
  wpAny (model X.prog X.w) A (compareOp .In u (.ref a)) Q E s:=by
 rcases g with ⟨kvs,k,e,ey,l⟩ | ⟨kvs,k,b,e,ey,eb,l⟩
 ·subst ey
  obtain ⟨z,hd,vs,rel,dd⟩:=dk_rd I.hok e
  refine wpAny_in_of (kV_is ry) hd dd.mapOf ?_
  rw [← (rel.val k).isSome_eq, ← l]
  exact h _ (I.tok _)
 ·subst ey
  cases (show u = Value.ref b from ry)
  obtain ⟨z,hd,xs,rel,dd⟩:=dt_rd I.hok e
  refine wpAny_in_heap (tupleKind_room_in1 hu) (JcT I.hok eb) hd dd ?_
  have q:=(rel.val k).isSome_eq
  rw [Option.isSome_map] at q
  rw [← q, ← l]
  exact h _ (I.tok _)
theorem JhI {Q:Value→Shared→Prop} (hu:A.units + 1 < cLine) (I:Inv X pins σ H s) (g:DGet H a y o) (ry:RelV y u) (h:∀ s',Inv X pins σ H s'→Q (.bool (!o.isSome)) s') :
  wpAny (model X.prog X.w) A (compareOp .NotIn u (.ref a)) Q E s:=by
 rcases g with ⟨kvs,k,e,ey,l⟩ | ⟨kvs,k,b,e,ey,eb,l⟩
 ·subst ey
  obtain ⟨z,hd,vs,rel,dd⟩:=dk_rd I.hok e
  refine wpAny_notIn_of (kV_is ry) hd dd.mapOf ?_
  rw [← (rel.val k).isSome_eq, ← l]
  exact h _ (I.tok _)
 ·subst ey
  cases (show u = Value.ref b from ry)
  obtain ⟨z,hd,xs,rel,dd⟩:=dt_rd I.hok e
  refine wpAny_notIn_heap (tupleKind_room_in1 hu) (JcT I.hok eb) hd dd ?_
  have q:=(rel.val k).isSome_eq
  rw [Option.isSome_map] at q
  rw [← q, ← l]
  exact h _ (I.tok _)
theorem Jdv {h':Heap} {t':Nat} {ob:HO} (I:Inv X pins σ H s) (mu:Mut (H a)) (hs:Heap.SameBut a s.heap h') (he:∃ q,h'.get? a = some q) (new:ObjOk X.prog X.w (upd H a ob) h' a ob) :
  Inv X pins σ (upd H a ob) { s with heap:=h',toks:=t' } :=
 I.write (x:=a) (e:=a) mu (.inl rfl) (fun b q hb z => (hs.2 b hb).trans z) he new
theorem JfT {P:Program} {w:World} {H':Hp} {h':Heap} {kvs:List (Key × V)} {vs:List (Key × Value)} (z:kvs.length ≤ sizeLine) (hd:(a == sysModules) = false) (rel:KV kvs vs) (dd:h'.DictOf (JaJ P w) a vs) :
  ObjOk P w H' h' a (.dK kvs):=⟨z,hd,vs,rel,dd⟩
theorem JfP {H':Hp} {Q:Unit→Shared→Prop} (hu:A.units + 1 < cLine) (I:Inv X pins σ H s) (g:DPut H a y v H') (ry:RelV y u) (rv:RelV v r) (h:∀ s',Inv X pins σ H' s'→Q () s') :
  wpAny (model X.prog X.w) A (setItem (.ref a) u r) Q E s:=by
 rcases g with ⟨kvs,k,e,ey,l,eH⟩ | ⟨kvs,k,b,e,ey,eb,l,eH⟩
 ·subst ey eH
  obtain ⟨z,hd,vs,rel,dd⟩:=dk_of I.hok e
  have hz:vs.length ≤ sizeLine:=by rw [← rel.length]; exact z
  have hl:(putK kvs k v).length ≤ sizeLine:=by have:=JaC kvs k v; omega
  refine wpAny_setItem_pairs (hsz:=hz) (kV_is ry) dd fun h' dd' hs => h _ ?_
  have he:∃ q,h'.get? a = some q:=let ⟨q,_,_,hq,_⟩:=dd'; ⟨q,hq⟩
  exact Jdv I (by rw [e]; exact True.intro) hs he (JfT hl hd (rel.put k rv) dd')
 ·subst ey eH
  cases (show u = Value.ref b from ry)
  obtain ⟨z,hd,xs,rel,dd⟩:=dt_of I.hok e
  have hz:xs.length ≤ sizeLine:=by rw [← Paired.length rel]; exact z
  have hl:(putK kvs k v).length ≤ sizeLine:=by have:=JaC kvs k v; omega
  refine wpAny_setItem_heap (hsz:=hz) (tupleKind_room_in1 hu) (JcT I.hok eb) dd fun h' dd' hs => h _ ?_
  obtain ⟨q,es,ep,hq,h2,h3,h4,_,h5⟩:=dd'
  refine Jdv I (by rw [e]; exact True.intro) hs ⟨q,hq⟩ ⟨hl,hd,_,(rel.put k eb rv).keeps fun c ys ec => ?_,q,es,ep,hq,h2,h3,h4,h5⟩
  rw [Jae (ne_of ec e (fun z => nomatch z))]
  exact ec
end
section
variable {X:Cx} {pins:List (Addr × Obj)} {σ : St} {H:Hp} {s:Shared} {a:Addr} {kvs:List (Key × V)} {k:Key} {u:Value} {A:Around} {E:Value→Shared→Prop}
end
def NoSl (i:Expr):Prop:=∀ ov iv,subscripted i false ov iv = operate [ov,iv] (getItem ov iv)
theorem Jia {prog:Program} {w:World} {A:Around} {E:Value→Shared→Prop} {s:Shared} {env:Env} {value slice:Expr} {pos:Pos} {T id:String} {Q:Value→Shared→Prop}
  (hl:typeLookup (.type T) "__getitem__" = pure (some (.builtin id))) (hs:NoSl slice)
  (h:wpAny (model prog w) A (eval value env) (fun o s₁ => wpAny (model prog w) A (eval slice env) (fun i s₂ => s₂.TypeIs o T∧wpAny (model prog w) A (getItem o i) Q E s₂) E s₁) E s) :
  wpAny (model prog w) A (eval (.Subscript value slice pos) env) Q E s:=by
 refine Subscript_ (wpAny_mono h (fun o s₁ h₁ => wpAny_mono h₁ (fun i s₂ h₂ => ?_) fun _ _ x => x) fun _ _ x => x)
 obtain ⟨hT,h₂⟩:=h₂
 unfold subscriptTail
 refine wpAny_bind ?_
 rw [getitemInPython_of_ne hT.not_modules]
 refine wpAny_bind (wpAny_specialOf hT hl ?_)
 have fin:wpAny (model prog w) A (subscripted slice false o i) (fun r s₃ => wpAny (model prog w) A (letTemporaryGo value o r >>= fun _ => pure r) Q E s₃) E s₂:=by
  rw [hs o i]
  exact wpAny_operating (wpAny_mono h₂ (fun r s₃ h₃ => wpAny_bind (wpAny_letTemporaryGo (wpAny_pure h₃))) fun _ _ x => x)
 first
  | exact wpAny_pure (wpAny_bind fin)
  | exact wpAny_bind (wpAny_pure (wpAny_bind fin))
  | exact wpAny_bind fin
theorem Jeq {X:Cx} {pins:List (Addr × Obj)} {σ : St} {H:Hp} {s:Shared} {a:Addr} {y:V} {o:Option V} (I:Inv X pins σ H s) (g:DGet H a y o):s.TypeIs (.ref a) "dict":=by
 rcases g with ⟨kvs,k,e,_,_⟩ | ⟨kvs,k,b,e,_,_,_⟩
 ·obtain ⟨_,_,vs,_,dd⟩:=dk_rd I.hok e
  exact dd.typeIs
 ·obtain ⟨_,_,xs,_,dd⟩:=dt_rd I.hok e
  exact dd.typeIs
def tDGet (td ty:TE):TE:=fun σ H Q => td σ H fun x H1 => ty σ H1 fun y H2 => ∃ a v,x = .ref a∧DGet H2 a y (some v)∧Q v H2
def tDIn (ty td:TE):TE:=fun σ H Q => ty σ H fun y H1 => td σ H1 fun x H2 => ∃ a o,x = .ref a∧DGet H2 a y o∧Q (.bl o.isSome) H2
def Jgw (ty td:TE):TE:=fun σ H Q => ty σ H fun y H1 => td σ H1 fun x H2 => ∃ a o,x = .ref a∧DGet H2 a y o∧Q (.bl (!o.isSome)) H2
def sDPut (td ty tv:TE):TS:=fun D σ H => tv σ H fun v H1 => td σ H1 fun x H2 => ty σ H2 fun y H3 => ∃ a H4,x = .ref a∧DPut H3 a y v H4∧D.nx σ H4
section
variable {X:Cx} {o i e value:Expr} {pos pos' tpos:Pos} {td ty tv:TE}
theorem Jcw (hu:X.A.units + 1 < cLine) (ho:PE X o td) (hi:PE X i ty) (hs:NoSl i):PE X (.Subscript o i pos) (tDGet td ty):=by
 intro pins s σ H Q I h
 refine Jia PySem.F.slot_dict_getitem.lookup hs (thn (ho pins s σ H _ I h) fun u s1 ⟨x,H1,I1,rx,q1⟩ => thn (hi pins s1 σ H1 _ I1 q1) fun iv s2 ⟨y,H2,I2,ry,a,v,ex,g,q2⟩ => ?_)
 subst ex
 obtain rfl:u = Value.ref a:=rx
 exact ⟨Jeq I2 g,JfO hu I2 g ry fun w' s3 I3 rw' => ⟨v,H2,I3,rw',q2⟩⟩
theorem Jdm (hu:X.A.units + 1 < cLine) (hi:PE X i ty) (ho:PE X o td):PC X .In i o (tDIn ty td):=by
 intro pins s σ H Q I h
 refine thn (hi pins s σ H _ I h) fun iv s1 ⟨y,H1,I1,ry,q1⟩ => thn (ho pins s1 σ H1 _ I1 q1) fun u s2 ⟨x,H2,I2,rx,a,ov,ex,g,q2⟩ => ?_
 subst ex
 obtain rfl:u = Value.ref a:=rx
 exact d_in hu I2 g ry fun s3 I3 => ⟨.bl ov.isSome,H2,I3,rfl,q2⟩
theorem Jc1 (hu:X.A.units + 1 < cLine) (hi:PE X i ty) (ho:PE X o td):PC X .NotIn i o (Jgw ty td):=by
 intro pins s σ H Q I h
 refine thn (hi pins s σ H _ I h) fun iv s1 ⟨y,H1,I1,ry,q1⟩ => thn (ho pins s1 σ H1 _ I1 q1) fun u s2 ⟨x,H2,I2,rx,a,ov,ex,g,q2⟩ => ?_
 subst ex
 obtain rfl:u = Value.ref a:=rx
 exact JhI hu I2 g ry fun s3 I3 => ⟨.bl (!ov.isSome),H2,I3,rfl,q2⟩
theorem JbD (hu:X.A.units + 1 < cLine) (ho:PE X o td) (hi:PE X i ty) (hv:PE X value tv) (hs:swapsWith value (some (.Subscript o i pos')) pos.line X.env = pure false) :
  PS X (.Assign [.Subscript o i pos'] value pos) (sDPut td ty tv):=by
 intro pins s σ H D I h
 refine wpAny_Assign_Subscript (thn (hv pins s σ H _ I h) fun r s1 ⟨v,H1,I1,rv,q1⟩ => thn (ho pins s1 σ H1 _ I1 q1) fun u s2 ⟨x,H2,I2,rx,q2⟩ => thn (hi pins s2 σ H2 _ I2 q2) fun iv s3 ⟨y,H3,I3,ry,a,H4,ex,g,q3⟩ => ?_) hs
 subst ex
 obtain rfl:u = Value.ref a:=rx
 exact JfP hu I3 g ry rv fun s4 I4 => ⟨σ,H4,I4,q3⟩
end
theorem JeX {P:Program} {w:World} {H:Hp} (h:Heap) (hb:sysModules < h.objs.size):ObjOk P w H (h.push { cls:=.type "dict",data:=.dict #[] }) h.objs.size (.dK []) :=
 ⟨Nat.zero_le _,beq_eq_false_iff_ne.mpr (Ne.symm (Nat.ne_of_lt hb)),[], .nil,Heap.DictOf.new h⟩
def Jhr:TE:=fun _ H Q => ∀ p,H p = none→Q (.ref p) (upd H p (.dK []))
def JiU:TE:=fun _ H Q => ∀ p,H p = none→Q (.ref p) (upd H p (.dT []))
section
variable {X:Cx} {pos:Pos}
theorem JbC:PE X (.Dict [] [] pos) Jhr:=fun pins s σ H Q I h =>
 wpAny_Dict_empty ⟨.ref s.heap.objs.size,_,I.laid (a:=s.heap.objs.size) (o:=.dK []) (t':=s.toks) (fun _ _ q => Heap.get?_push_of_some _ q) (Nat.le_refl _) (JeX s.heap I.big),rfl,h _ (I.hok.fresh (Nat.le_refl _))⟩
end
def Jei:List (TE × TE)→St→Hp→(List (V × V)→Hp→Prop)→Prop
 | [],_,H,Q => Q [] H
 | (tk,tv) :: r, σ,H,Q => tk σ H fun x H1 => tv σ H1 fun y H2 => Jei r σ H2 fun ps H3 => Q ((x,y) :: ps) H3
abbrev VV:List (V × V)→List (Value × Value)→Prop:=Paired fun p q => RelV p.1 q.1∧RelV p.2 q.2
def PPs (X:Cx) (pos:Pos) (keys:List (Option Expr)) (values:List Expr) (trs:List (TE × TE)):Prop :=
 ∀ (pins:List (Addr × Obj)) (s:Shared) (σ : St) (H:Hp) (Q:List (V × V)→Hp→Prop),Inv X pins σ H s→Jei trs σ H Q →
  wpAny (model X.prog X.w) X.A (evalPairs (pairTrees keys values X.env pos)) (fun vs s' => ∃ ps H',Inv X pins σ H' s'∧VV ps vs∧Q ps H') X.xe s
theorem Jh4 {X:Cx} {pos:Pos}:PPs X pos [] [] []:=fun pins s σ H Q I h => pairTrees_nil_walk ⟨[],H,I, .nil,h⟩
theorem Jg6 {X:Cx} {pos:Pos} {k v:Expr} {ks:List (Option Expr)} {vs:List Expr} {tk tv:TE} {trs:List (TE × TE)} (hk:PE X k tk) (hv:PE X v tv) (hr:PPs X pos ks vs trs) :
  PPs X pos (some k :: ks) (v :: vs) ((tk,tv) :: trs):=fun pins s σ H Q I h =>
 pairTrees_cons_walk (thn (hk pins s σ H _ I h) fun u s1 ⟨x,H1,I1,rx,q1⟩ => thn (hv pins s1 σ H1 _ I1 q1) fun w2 s2 ⟨y,H2,I2,ry,q2⟩ =>
  thn (hr pins s2 σ H2 _ I2 q2) fun ws s3 ⟨ps,H3,I3,rel,q3⟩ => ⟨(x,y) :: ps,H3,I3, .cons ⟨rx,ry⟩ rel,q3⟩)
def Jdk (kvs more:List (Key × V)):List (Key × V):=more.foldl (fun acc kv => putK acc kv.1 kv.2) kvs
theorem KV.merge:∀ {more:List (Key × V)} {rs:List (Key × Value)} {kvs:List (Key × V)} {vs:List (Key × Value)},KV more rs→KV kvs vs→KV (Jdk kvs more) (merged vs rs):=by
 intro more rs kvs vs r
 unfold KV at r
 induction r generalizing kvs vs with
 | nil => intro q; exact q
 | @cons p q ps qs h t ih =>
  intro r0
  have e:KV (putK kvs p.1 p.2) (stored vs q.1 q.2):=by
   have:=r0.put p.1 h.2
   rw [← h.1]; exact this
  exact ih e
theorem Jcg:∀ (more kvs:List (Key × V)),(Jdk kvs more).length ≤ kvs.length + more.length
 | [],kvs => by show kvs.length ≤ kvs.length + 0; omega
 | p :: r,kvs => by
  have h1:=Jcg r (putK kvs p.1 p.2)
  have h2:=JaC kvs p.1 p.2
  show (Jdk (putK kvs p.1 p.2) r).length ≤ _
  rw [List.length_cons]; omega
theorem Jdg {P:Program} {w:World}:∀ {kvs:List (Key × V)} {ws:List (Value × Value)},VV (kvs.map fun kv => (kV kv.1,kv.2)) ws→∃ rs,Carries (JaJ P w) ws rs∧KV kvs rs
 | [],_,r => by rw [List.map_nil] at r; cases r; exact ⟨[],True.intro, .nil⟩
 | p :: kvs,_,r => by
  rw [List.map_cons] at r
  cases r with
  | @cons a b as bs h t =>
   obtain ⟨rs,c,q⟩:=Jdg (P:=P) (w:=w) t
   obtain ⟨b1,b2⟩:=b
   exact ⟨(p.1,b2) :: rs,⟨kV_is h.1,rfl,c⟩, .cons ⟨rfl,h.2⟩ q⟩
def tDisp (trs:List (TE × TE)):TE:=fun σ H Q => ∀ p,H p = none→Jei trs σ (upd H p (.dK [])) fun ps H2 => H2 p = some (.dK [])∧∃ kvs:List (Key × V),ps = kvs.map (fun kv => (kV kv.1,kv.2))∧kvs.length ≤ 15∧Q (.ref p) (upd H2 p (.dK (Jdk [] kvs)))
theorem Jh2 {X:Cx} {pos:Pos} {keys:List (Option Expr)} {values:List Expr} {trs:List (TE × TE)} (h:PPs X pos keys values trs) (hall:keys.all (·.isSome) = true) (hl:keys.length = values.length) (h0:keys ≠ [])
  (h15:keys.length ≤ 15):PE X (.Dict keys values pos) (tDisp trs):=by
 intro pins s σ H Q I q
 have hn:=I.hok.fresh (Nat.le_refl s.heap.objs.size)
 have I1:=I.laid (a:=s.heap.objs.size) (o:=.dK []) (h':=s.heap.push { cls:=.type "dict",data:=.dict #[] }) (t':=s.toks) (fun _ _ q => Heap.get?_push_of_some _ q) (Nat.le_refl _) (JeX s.heap I.big)
 refine wpAny_Dict_walk (knd:=JaJ X.prog X.w) hall hl h0 h15 (thn (h pins _ σ _ _ I1 (q _ hn)) fun ws s2 ⟨ps,H2,I2,rel,e,kvs,ep,lk,q2⟩ => ?_)
 subst ep
 obtain ⟨rs,c,rk⟩:=Jdg (P:=X.prog) (w:=X.w) rel
 obtain ⟨z,hd,vs0,r0,dd⟩:=dk_of I2.hok e
 cases r0
 refine ⟨rs,c,dd,fun h' dd' hs => ⟨.ref s.heap.objs.size,_, ?_,rfl,q2⟩⟩
 have hz:(Jdk [] kvs).length ≤ sizeLine:=by
  have h1:=Jcg kvs []
  rw [List.length_nil] at h1
  rw [sizeLine_eq]; omega
 have he:∃ q,h'.get? s.heap.objs.size = some q:=let ⟨q,_,_,hq,_⟩:=dd'; ⟨q,hq⟩
 exact Jdv I2 (by rw [e]; exact True.intro) hs he (JfT hz hd (rk.merge .nil) dd')
structure M1 (X:Cx) (o:Expr) (m:Str) (apos:Pos) (e:Expr) (cpos:Pos):Prop where
 base:attributeBase o m X.env (eval o X.env) = eval o X.env
 few:((backTo cpos (starEach [e] X.env)).all (fun x => !x.1) && (backToKw cpos (keywordEach [] X.env)).all (fun x => x.1.isSome)
  && decide (([e]:List Expr).length + ([]:List Keyword).length + (if ([]:List Keyword).isEmpty then 0 else 1) < 30)) = true
 line:(apos.endLine == cpos.line) = true
 trees:backTo cpos (starEach [e] X.env) = [(false,eval e X.env)]
structure M2 (X:Cx) (o:Expr) (m:Str) (apos:Pos) (e f:Expr) (cpos:Pos):Prop where
 base:attributeBase o m X.env (eval o X.env) = eval o X.env
 few:((backTo cpos (starEach [e,f] X.env)).all (fun x => !x.1) && (backToKw cpos (keywordEach [] X.env)).all (fun x => x.1.isSome)
  && decide (([e,f]:List Expr).length + ([]:List Keyword).length + (if ([]:List Keyword).isEmpty then 0 else 1) < 30)) = true
 line:(apos.endLine == cpos.line) = true
 trees:backTo cpos (starEach [e,f] X.env) = [(false,eval e X.env),(false,eval f X.env)]
def IsD (H:Hp) (a:Addr):Prop:=(∃ kvs,Rd H a (.dK kvs)) ∨ ∃ kvs,Rd H a (.dT kvs)
theorem Je1 {X:Cx} {pins:List (Addr × Obj)} {σ : St} {H:Hp} {s:Shared} {a:Addr} (I:Inv X pins σ H s) (d:IsD H a) :
  s.TypeIs (.ref a) "dict"∧(∀ b,Value.ref a = .ref b→∃ ob,s.heap.get? b = some ob∧ob.dict = none)∧(a == sysModules) = false:=by
 rcases d with ⟨kvs,e⟩ | ⟨kvs,e⟩
 ·obtain ⟨_,hd,vs,_,dd⟩:=dk_rd I.hok e
  refine ⟨dd.typeIs,fun b q => ?_,hd⟩
  cases q
  obtain ⟨ob,_,_,h1,h2,_⟩:=dd
  exact ⟨ob,h1,h2.2.1⟩
 ·obtain ⟨_,hd,xs,_,dd⟩:=dt_rd I.hok e
  refine ⟨dd.typeIs,fun b q => ?_,hd⟩
  cases q
  obtain ⟨ob,_,_,h1,h2,_⟩:=dd
  exact ⟨ob,h1,h2.2.1⟩
section
variable {X:Cx} {pins:List (Addr × Obj)} {σ : St} {H:Hp} {s:Shared} {a:Addr} {y d:V} {u r:Value} {o:Option V} {A:Around} {E:Value→Shared→Prop}
theorem Jin {Q:Value→Shared→Prop} (hu:A.units + 1 < cLine) (I:Inv X pins σ H s) (g:DGet H a y o) (ry:RelV y u) (h:∀ w' s',Inv X pins σ H s'→RelV (o.getD .non) w'→Q w' s') :
  wpAny (model X.prog X.w) A (call (.builtin "dict.get") [.ref a,u]) Q E s:=by
 rcases g with ⟨kvs,k,e,ey,l⟩ | ⟨kvs,k,b,e,ey,eb,l⟩
 ·subst ey
  obtain ⟨z,hd,vs,rel,dd⟩:=dk_rd I.hok e
  refine call_meetsIn PySem.F.slot_dict_get dd.typeIs PySem.F.entry_dict_get (PySem.F.args_dict_get_2 _ _) (meets_dict_get (JaJ X.prog X.w) a (kV_is ry) hd) ⟨_,dd.mapOf,h _ _ (I.tok _) ?_⟩
  rw [l]
  exact (rel.val k).getD rfl
 ·subst ey
  cases (show u = Value.ref b from ry)
  obtain ⟨z,hd,xs,rel,dd⟩:=dt_rd I.hok e
  refine call_meetsIn PySem.F.slot_dict_get dd.typeIs PySem.F.entry_dict_get (PySem.F.args_dict_get_2 _ _) (meetsH_dict_get (tupleKind (JaJ X.prog X.w)) a b hd) ⟨tupleKind_room_in1 hu,k,xs,JcT I.hok eb,dd,h _ _ (I.tok _) ?_⟩
  rw [l]
  exact (rel.val k).getD rfl
theorem Jio {Q:Value→Shared→Prop} (hu:A.units + 1 < cLine) (I:Inv X pins σ H s) (g:DGet H a y o) (ry:RelV y u) (rd:RelV d r) (h:∀ w' s',Inv X pins σ H s'→RelV (o.getD d) w'→Q w' s') :
  wpAny (model X.prog X.w) A (call (.builtin "dict.get") [.ref a,u,r]) Q E s:=by
 rcases g with ⟨kvs,k,e,ey,l⟩ | ⟨kvs,k,b,e,ey,eb,l⟩
 ·subst ey
  obtain ⟨z,hd,vs,rel,dd⟩:=dk_rd I.hok e
  refine call_meetsIn PySem.F.slot_dict_get dd.typeIs PySem.F.entry_dict_get (PySem.F.args_dict_get_3 _ _ _) (meets_dict_get_default (JaJ X.prog X.w) a (kV_is ry) hd r) ⟨_,dd.mapOf,h _ _ (I.tok _) ?_⟩
  rw [l]
  exact (rel.val k).getD rd
 ·subst ey
  cases (show u = Value.ref b from ry)
  obtain ⟨z,hd,xs,rel,dd⟩:=dt_rd I.hok e
  refine call_meetsIn PySem.F.slot_dict_get dd.typeIs PySem.F.entry_dict_get (PySem.F.args_dict_get_3 _ _ _) (meetsH_dict_get_default (tupleKind (JaJ X.prog X.w)) a b hd r) ⟨tupleKind_room_in1 hu,k,xs,JcT I.hok eb,dd,h _ _ (I.tok _) ?_⟩
  rw [l]
  exact (rel.val k).getD rd
end
def Jhp (td ty:TE):TE:=fun σ H Q => td σ H fun x H1 => ∃ a,x = .ref a∧IsD H1 a∧ty σ H1 fun y H2 => ∃ o,DGet H2 a y o∧Q (o.getD .non) H2
def Jhq (td ty tx:TE):TE:=fun σ H Q => td σ H fun x H1 => ∃ a,x = .ref a∧IsD H1 a∧ty σ H1 fun y H2 => tx σ H2 fun z H3 => ∃ o,DGet H3 a y o∧Q (o.getD z) H3
section
variable {X:Cx} {o e f:Expr} {apos cpos:Pos} {td ty tx:TE}
theorem Jg2 (hu:X.A.units + 1 < cLine) (ho:PE X o td) (he:PE X e ty) (m:M1 X o "get" apos e cpos):PE X (.Call (.Attribute o "get" apos) [e] [] cpos) (Jhp td ty):=by
 intro pins s σ H Q I h
 refine wpAny_Call_method m.base m.few m.line PySem.F.plainAttrs_dict PySem.F.slot_dict_get PySem.F.type_dict_get (thn (ho pins s σ H _ I h) fun u s1 ⟨x,H1,I1,rx,a,ex,d,q1⟩ => ?_)
 subst ex
 obtain rfl:u = Value.ref a:=rx
 obtain ⟨t1,t2,_⟩:=Je1 I1 d
 refine ⟨t1,t2, ?_⟩
 rw [m.trees]
 refine Calls.callWith_builtin rfl (Calls.evalArgs_plain (Calls.spliced_cons (thn (he pins s1 σ H1 _ I1 q1) fun iv s2 ⟨y,H2,I2,ry,ov,g,q2⟩ => Calls.spliced_nil ?_)))
 exact Jin hu I2 g ry fun w' s3 I3 rw' => ⟨_,H2,I3,rw',q2⟩
theorem JdJ (hu:X.A.units + 1 < cLine) (ho:PE X o td) (he:PE X e ty) (hf:PE X f tx) (m:M2 X o "get" apos e f cpos):PE X (.Call (.Attribute o "get" apos) [e,f] [] cpos) (Jhq td ty tx):=by
 intro pins s σ H Q I h
 refine wpAny_Call_method m.base m.few m.line PySem.F.plainAttrs_dict PySem.F.slot_dict_get PySem.F.type_dict_get (thn (ho pins s σ H _ I h) fun u s1 ⟨x,H1,I1,rx,a,ex,d,q1⟩ => ?_)
 subst ex
 obtain rfl:u = Value.ref a:=rx
 obtain ⟨t1,t2,_⟩:=Je1 I1 d
 refine ⟨t1,t2, ?_⟩
 rw [m.trees]
 refine Calls.callWith_builtin rfl (Calls.evalArgs_plain (Calls.spliced_cons (thn (he pins s1 σ H1 _ I1 q1) fun iv s2 ⟨y,H2,I2,ry,q2⟩ =>
  Calls.spliced_cons (thn (hf pins s2 σ H2 _ I2 q2) fun fv s3 ⟨z,H3,I3,rz,ov,g,q3⟩ => Calls.spliced_nil ?_))))
 exact Jio hu I3 g ry rz fun w' s4 I4 rw' => ⟨_,H3,I4,rw',q3⟩
end
section
variable {X:Cx} {pins:List (Addr × Obj)} {σ : St} {H:Hp} {s:Shared} {a:Addr} {kvs:List (Key × V)} {A:Around} {E:Value→Shared→Prop}
end
section
variable {X:Cx} {pins:List (Addr × Obj)} {σ : St} {H:Hp} {s:Shared} {a:Addr} {y:V} {u:Value} {A:Around} {E:Value→Shared→Prop}
end
end L2
namespace L2
open PySem PySem.Spec PyProof.Rows
section
variable {κ : Type} [DecidableEq κ]
end
end L2
namespace L2
open PySem PySem.Spec PyProof.Rows
theorem ObjOk.is_there {P:Program} {w:World} {H:Hp} {h:Heap} {a:Addr} {o:HO} (x:ObjOk P w H h a o):∃ ob,h.get? a = some ob:=by
 cases o with
 | lst xs => obtain ⟨_,_,_,_,e⟩:=x; exact ⟨_,e⟩
 | tup xs => obtain ⟨_,_,_,p⟩:=x; obtain ⟨o,e,_⟩:=p; exact ⟨_,e⟩
 | dK kvs => obtain ⟨_,_,_,_,o,_,_,e,_⟩:=x; exact ⟨_,e⟩
 | dT kvs => obtain ⟨_,_,_,_,o,_,_,e,_⟩:=x; exact ⟨_,e⟩
 | set S n =>
  obtain ⟨o,_,_,_,e,_⟩:=x
  exact ⟨_,e⟩
 | ins C dx fs => obtain ⟨_,_,_,e,_⟩:=x; exact ⟨_,e⟩
 | own y => exact x
 | xd fs => obtain ⟨mA,n,_⟩:=x; obtain ⟨od,e,_⟩:=Jd8 n; exact ⟨_,e⟩
 | rng lo hi => obtain ⟨_,_,_,e⟩:=x; exact ⟨_,e⟩
 | frz ob u => exact ⟨_,x.1⟩
 | tbl ps => exact ⟨_,x⟩
 | met f y => exact ⟨_,x⟩
 | ext φ => exact x.2.1
theorem HOk.isnone {P:Program} {w:World} {H:Hp} {h:Heap} {a:Addr} (x:HOk P w H h) (e:h.get? a = none):H a = none:=by
 cases q:H a with
 | none => rfl
 | some u =>
  obtain ⟨ob,z⟩:=(x a u q).is_there
  rw [e] at z
  cases z
structure Fly (l:List Env) (H':Hp) (h0:Heap) (ea:Addr) (cls a0:Value) (B h:Heap):Prop where
 fly:Heap.FlyingW B l ea cls a0 h
 free:H' ea = none
 new:h0.get? ea = none
 kept:∀ b o,h.get? b = some o→((∃ o',h0.get? b = some o') ∨ ∃ u,H' b = some u)→b ∉ frs l→B.get? b = some o
def CX1 (P:Program) (w:World):CXT:=fun outer H s E e s' =>
 ∃ (ea:Addr) (cls a0:Value) (B:Heap) (H':Hp),e = .ref ea∧s'.os = s.os∧AllBare s'.gens∧Un (frs outer) [] H H' s.heap s'.heap∧HOk P w H' s'.heap ∧
  Fly outer H' s.heap ea cls a0 B s'.heap∧E cls none H'
section
variable {P:Program} {w:World} {l l':List Env} {H H':Hp} {h0 h h' B:Heap} {ea:Addr} {cls a0:Value}
theorem Fly.next (u:Un (frs l) [] H H' h0 h) (hok:HOk P w H' h) (F:Fly l H' h0 ea cls a0 B h) (fr:∀ b ∈ frs l,H' b = none) (k:B.StaysIn h') (sl:h.UpToSlots h') :
  HOk P w H' h'∧Un (frs l) [] H H' h0 h'∧∀ b o,h.get? b = some o→((∃ o',h0.get? b = some o') ∨ ∃ u,H' b = some u)→b ∉ frs l→h'.get? b = some o:=by
 have keepB:∀ b o,h.get? b = some o→((∃ o',h0.get? b = some o') ∨ ∃ u,H' b = some u)→b ∉ frs l→h'.get? b = some o:=fun b o q r n => k b o (F.kept b o q r n)
 have frame:∀ b o,b ∈ frs l→h.get? b = some o→∃ s2,h'.get? b = some { o with slots:=s2 }:=fun b o m q => by
  obtain ⟨_,o',q',nf⟩:=F.fly.2.2.1.mem m
  rw [q] at q'
  cases q'
  exact sl b o q nf
 refine ⟨fun a o e => ?_,⟨fun b o q n nb _ => ?_,fun b o q n m _ => ?_,u.free,fun b o q nx => ?_,u.tups,u.frzs,u.tbls⟩,keepB⟩
 ·have tr:∀ b u,H' b = some u→b ∉ frs l:=fun b u q m => by
   rw [fr b m] at q
   cases q
  refine (hok a o e).stay (fun b v hb q => ?_) (fun _ r => r) (fun _ _ r => r)
  rcases hb with rfl | hb
  ·exact keepB _ _ q (.inr ⟨_,e⟩) (tr _ _ e)
  ·exact keepB _ _ q (.inr ⟨_,hb⟩) (tr _ _ hb)
 ·exact keepB b o (u.keep b o q n nb (by simp)) (.inl ⟨o,q⟩) nb
 ·obtain ⟨s1,e1⟩:=u.slot b o q n m (by simp)
  obtain ⟨s2,e2⟩:=frame b _ m e1
  exact ⟨s2,e2⟩
 ·obtain ⟨o',e1⟩:=u.there b o q (by simp)
  by_cases m:b ∈ frs l
  ·obtain ⟨s2,e2⟩:=frame b _ m e1
   exact ⟨_,e2⟩
  ·exact ⟨o',keepB b o' e1 (.inl ⟨o,q⟩) m⟩
end
section
variable {X:Cx} {pins:List (Addr × Obj)} {σ : St} {H H':Hp} {s:Shared} {h h' B:Heap} {ea:Addr} {cls a0:Value}
theorem Inv.out (I:Inv X pins σ H s) (hex:X.ex = []) (u:Un (frs X.stack) [] H H' s.heap h'):Un X.fs [] X.H₀ H' X.s₀.heap h':=by
 have J:=I.base
 rw [hex] at J
 have nL:∀ b o,X.s₀.heap.get? b = some o→b ≠ X.env.locals:=fun b o q z => by
  have h1:=Heap.lt_size q
  have h2:=I.ok.above
  rw [z] at h1
  exact absurd (Nat.lt_of_lt_of_le h1 h2) (Nat.lt_irrefl _)
 have nS:∀ b o,X.s₀.heap.get? b = some o→b ∉ X.fs→b ∉ frs X.stack:=fun b o q nb m => by
  rcases List.mem_cons.mp (I.stkSub b m) with z | z
  ·exact nL b o q z
  ·exact nb z
 refine ⟨fun b o q n nb _ => ?_,fun b o q n m _ => ?_,fun b o q n _ => ?_,fun b o q _ => ?_,fun b xs q => u.tups b xs (J.tups b xs q),fun b o v q => u.frzs b o v (J.frzs b o v q),fun b ps q => ?_⟩
 ·exact u.keep b o (J.keep b o q n nb (by simp)) (J.free b o q n (by simp)) (nS b o q nb) (by simp)
 ·obtain ⟨s1,e1⟩:=J.slot b o q n m (by simp)
  obtain ⟨s2,e2⟩:=u.any e1 (J.free b o q n (by simp)) (by simp)
  exact ⟨s2,e2⟩
 ·obtain ⟨o',e1⟩:=J.there b o q (by simp)
  exact u.free b o' e1 (J.free b o q n (by simp)) (by simp)
 ·obtain ⟨o',e1⟩:=J.there b o q (by simp)
  exact u.there b o' e1 (by simp)
 ·obtain ⟨m1,e1⟩:=J.tbls b ps q
  obtain ⟨m2,e2⟩:=u.tbls b _ e1
  exact ⟨m1 ++ m2,by rw [e2,Array.append_assoc]⟩
theorem Inv.stkFree' (I:Inv X pins σ H s) (u:Un (frs X.stack) [] H H' s.heap h):∀ b ∈ frs X.stack,H' b = none:=fun b m => by
 obtain ⟨_,o,q,_⟩:=I.stack.mem m
 exact u.free b o q (I.stkFree b m) (by simp)
end
section
variable {P:Program} {w:World} {K:PySem.W.Frag} {mg:Str→Option Value} {base:Heap} {N:List Str} {qual:Str} {scope:Scope} {f:Addr} {cdv:Value} {A:Around} {outer:List Env} {s0:Shared} {H0:Hp} {E:XK}
theorem pass1:Jbo (CX1 P w) (cxOf (CX1 P w) P w K mg base N qual scope f cdv A outer s0 H0 E) E:=by
 intro pins σ H s e s' I hx
 obtain ⟨ea,cls,a0,B,H',rfl,hos,hg,u,hok,F,he⟩:=hx
 have fr:=I.stkFree' u
 show wpAny (model P w) (A.deeper (envOfC qual scope s0.heap.objs.size f cdv)) (leaving (envOfC qual scope s0.heap.objs.size f cdv) (.ref ea)) (fun _ s'' => CX1 P w outer H0 s0 E (.ref ea) s'') (fun e' s'' => CX1 P w outer H0 s0 E e' s'') s'
 refine wpAny_leaves_onW (base:=B) (cls:=cls) (a0:=a0) I.ok.frames rfl F.fly fun h' hfl hup => ?_
 obtain ⟨hok',u',kB⟩:=F.next u hok fr hfl.1 hup
 have new0:s0.heap.get? ea = none:=by
  cases q:s0.heap.get? ea with
  | none => rfl
  | some o =>
   obtain ⟨o',e1⟩:=I.base.there ea o q (by intro z; cases z)
   have:=F.new
   rw [e1] at this
   cases this
 refine ⟨ea,cls,a0,B,H',rfl,hos.trans I.os,hg,I.out rfl u',hok',⟨hfl,F.free,new0,fun b o q r nb => ?_⟩,he⟩
 have nL:b ≠ s0.heap.objs.size:=fun z => by
  rcases r with ⟨o',q'⟩ | ⟨v,q'⟩
  ·have:=Heap.lt_size q'
   rw [z] at this
   exact absurd this (Nat.lt_irrefl _)
  ·have e0:=fr s0.heap.objs.size (by
    show s0.heap.objs.size ∈ frs (envOfC qual scope s0.heap.objs.size f cdv :: outer)
    exact List.mem_filterMap.mpr ⟨_,List.mem_cons_self ..,rfl⟩)
   rw [z,e0] at q'
   cases q'
 have nS:b ∉ frs (envOfC qual scope s0.heap.objs.size f cdv :: outer):=fun m => by
  rcases List.mem_cons.mp (I.stkSub b m) with z | z
  ·exact nL z
  ·exact nb z
 have r':(∃ o',s.heap.get? b = some o') ∨ ∃ v,H' b = some v:=by
  rcases r with ⟨o',q'⟩ | r
  ·exact .inl (I.base.there b o' q' (by intro z; cases z))
  ·exact .inr r
 have there':∃ o',s'.heap.get? b = some o':=by
  rcases r' with ⟨o',q'⟩ | ⟨v,q'⟩
  ·exact u.there b o' q' (by simp)
  ·exact (hok b v q').is_there
 obtain ⟨o',q'⟩:=there'
 have z:=F.kept b o' q' r' nS
 have z2:=hfl.1 b o' z
 rw [show h'.get? b = some o from q] at z2
 cases z2
 exact z
end
theorem passF {P:Program} {w:World} {X:Cx}:Jbo (CX1 P w) X E0:=fun _ _ _ _ _ _ _ h => by
 obtain ⟨_,_,_,_,_,_,_,_,_,_,_,z⟩:=h
 exact False.elim z
theorem JhL {K:PySem.W.Frag} {h:Heap} {C:Addr} {bmB:List Value} {newId:String} (X:K.In h) (q:PySem.W.excIn K C bmB newId = true) :
  ∃ (bm:List Value) (N:Addr) (nm qn:Str) (bs:List Value) (hdct:Bool) (sn:List Str) (sub:List Value) (ab:Bool) (col:Option Bool) (dd:Option Addr) (k0 k1 k2 k3 k5:Option Value) (mN:Str→Option Value),
   h.get? C = some (excClassObj nm qn C N bs bm hdct sn sub ab col dd k0 k1 k2 k3 k5 newId)∧h.Ns N mN∧mN "__init__" = none∧OwnTail h bmB bm:=by
 unfold PySem.W.excIn at q
 split at q
 next dd cd sl ho =>
  split at q
  next C' bm k0 k1 k2 k3 n k5 hm hs =>
   have q':((((C' = C∧n = newId)∧cd.hasDel = false)∧PySem.W.tailIn K bmB bm = true)∧PySem.W.nsOkIn K cd.ns = true)∧PySem.W.nsIn K cd.ns "__init__" = some none:=by simpa using q
   obtain ⟨⟨⟨⟨⟨e1,e2⟩,e3⟩,e4⟩,e5⟩,e6⟩:=q'
   obtain ⟨nm,bs,mro,ns,qn,hd,sn,sub,ab,col,del⟩:=cd
   have hl:sl = #[k0,k1,k2,k3,some (.builtin n),k5]:=by
    cases sl
    exact congrArg Array.mk hs
   subst e1
   subst e2
   subst hl
   have hm':mro = .ref C' :: bm:=hm
   subst hm'
   have hd':del = false:=e3
   subst hd'
   exact ⟨bm,ns,nm,qn,bs,hd,sn,sub,ab,col,dd,k0,k1,k2,k3,k5,_,X _ _ ho, .of_isNs (PySem.W.isNs_of_in X e5),PySem.W.nsMap_none_of_in X e5 e6,PySem.W.tail_of_in X e4⟩
  next => cases q
 next => cases q
section
variable {P:Program} {w:World} {K:PySem.W.Frag} {mg:Str→Option Value} {base:Heap} {N:List Str} {qual:Str} {scope:Scope} {f:Addr} {cdv:Value} {A:Around} {outer:List Env} {s0:Shared} {H0:Hp} {E:XK}
theorem Jiz {pins:List (Addr × Obj)} {σ : St} {H:Hp} {s:Shared} {h':Heap} {e:Addr} {cls:Value} {us:List Value}
  (I:Inv (cxOf (CX1 P w) P w K mg base N qual scope f cdv A outer s0 H0 E) pins σ H s) (hm:Heap.MadeExcOf s.heap h' e cls us) (q:E cls none H) :
  (cxOf (CX1 P w) P w K mg base N qual scope f cdv A outer s0 H0 E).xe (.ref e) { s with heap:=h' }:=by
 show wpAny (model P w) (A.deeper (envOfC qual scope s0.heap.objs.size f cdv)) (leaving (envOfC qual scope s0.heap.objs.size f cdv) (.ref e)) (fun _ s'' => CX1 P w outer H0 s0 E (.ref e) s'') (fun e' s'' => CX1 P w outer H0 s0 E e' s'') { s with heap:=h' }
 have fr:=I.stkFree
 have hin:∀ env ∈ (envOfC qual scope s0.heap.objs.size f cdv :: outer), ∀ b,env.frame = some b→b ∈ frs (envOfC qual scope s0.heap.objs.size f cdv :: outer):=fun env he b hb => List.mem_filterMap.mpr ⟨env,he,hb⟩
 refine wpAny_leaves_madeW (base:=PySem.W.hideAll s.heap (frs (envOfC qual scope s0.heap.objs.size f cdv :: outer))) (h:=s.heap) (cls:=cls) (args:=us) I.ok.frames rfl (fun b o z => PySem.W.of_hideAll _ z) (PySem.W.funFrames_hide I.stack hin) hm fun h2 t hfl _ _ hup => ?_
 have enone:H e = none:=I.hok.isnone hm.new
 have keepB:∀ b o,s.heap.get? b = some o→b ∉ frs (envOfC qual scope s0.heap.objs.size f cdv :: outer)→h2.get? b = some o:=fun b o z n => hfl.1 b o (PySem.W.hideAll_get _ z n)
 have u:Un (frs (envOfC qual scope s0.heap.objs.size f cdv :: outer)) [] H H s.heap h2:=by
  refine ⟨fun b o z _ n _ => keepB b o z n,fun b o z _ m _ => ?_,fun _ _ _ n _ => n,fun b o z _ => ?_,fun _ _ z => z,fun _ _ _ z => z,fun _ ps z => ⟨#[],by rw [z]; simp⟩⟩
  ·obtain ⟨_,o',z',nf⟩:=I.stack.mem m
   rw [z] at z'
   cases z'
   exact hup b o (hm.keeps b o z) nf
  ·by_cases m:b ∈ frs (envOfC qual scope s0.heap.objs.size f cdv :: outer)
   ·obtain ⟨_,o',z',nf⟩:=I.stack.mem m
    rw [z] at z'
    cases z'
    obtain ⟨s2,e2⟩:=hup b o (hm.keeps b o z) nf
    exact ⟨_,e2⟩
   ·exact ⟨o,keepB b o z m⟩
 have tr:∀ b v,H b = some v→b ∉ frs (envOfC qual scope s0.heap.objs.size f cdv :: outer):=fun b v z m => by
  rw [fr b m] at z
  cases z
 have hok:HOk P w H h2:=fun a o z => by
  refine (I.hok a o z).stay (fun b v hb z2 => ?_) (fun _ r => r) (fun _ _ r => r)
  rcases hb with rfl | hb
  ·exact keepB _ _ z2 (tr _ _ z)
  ·exact keepB _ _ z2 (tr _ _ hb)
 have new0:s0.heap.get? e = none:=by
  cases z:s0.heap.get? e with
  | none => rfl
  | some o =>
   obtain ⟨o',e1⟩:=I.base.there e o z (by intro z; cases z)
   have:=hm.new
   rw [e1] at this
   cases this
 refine ⟨e,cls, .ref t,_,H,rfl,I.os,I.bare,I.out rfl u,hok,⟨hfl,enone,new0,fun b o z r nb => ?_⟩,q⟩
 have r':∃ o',s.heap.get? b = some o':=by
  rcases r with ⟨o',z'⟩ | ⟨v,z'⟩
  ·exact I.base.there b o' z' (by intro z; cases z)
  ·exact (I.hok b v z').is_there
 have nS:b ∉ frs (envOfC qual scope s0.heap.objs.size f cdv :: outer):=fun m => by
  rcases List.mem_cons.mp (I.stkSub b m) with y | y
  ·rcases r with ⟨o',z'⟩ | ⟨v,z'⟩
   ·have h1:=Heap.lt_size z'
    rw [y] at h1
    exact absurd h1 (Nat.lt_irrefl _)
   ·exact tr b v z' m
  ·exact nb y
 obtain ⟨o',z'⟩:=r'
 have z2:=keepB b o' z' nS
 rw [show h2.get? b = some o from z] at z2
 cases z2
 exact PySem.W.hideAll_get _ z' nS
def Jhs (E:XK) (C:Addr) (ta:TA):TS:=fun _ σ H => ta σ H fun vs H1 => vs.length ≤ sizeLine∧E (.ref C) none H1
theorem JbV {x:Str} {np cpos pos:Pos} {e:Expr} {es:List Expr} {C:Addr} {B newId initId:String} {bmB:List Value} {ta:TA} (FB:ExcBaseFacts B newId initId bmB) (hx:PySem.W.excIn K C bmB newId = true)
  (hg:Gl (cxOf (CX1 P w) P w K mg base N qual scope f cdv A outer s0 H0 E) x) (hm:mg x = some (.ref C)) (ha:PA (cxOf (CX1 P w) P w K mg base N qual scope f cdv A outer s0 H0 E) (e :: es) ta)
  (he:starEach (e :: es) (envOfC qual scope s0.heap.objs.size f cdv) = (false,eval e (envOfC qual scope s0.heap.objs.size f cdv)) :: starEach es (envOfC qual scope s0.heap.objs.size f cdv):=by rfl)
  (hpl:(backTo cpos (starEach es (envOfC qual scope s0.heap.objs.size f cdv))).any (·.1) = false:=by rfl) (hdb:(x == ("__debug__" : Str)) = false:=by decide) :
  PS (cxOf (CX1 P w) P w K mg base N qual scope f cdv A outer s0 H0 E) (.Raise (some (.Call (.Name x np) (e :: es) [] cpos)) none pos) (Jhs E C ta):=by
 intro pins s σ H D I h
 obtain ⟨bm,N',nm,qn,bs,hdct,sn,sub,ab,col,dd,k0,k1,k2,k3,k5,mN,hC,hN,hni,T⟩:=JhL I.mod.kin hx
 have hh:(A.deeper (envOfC qual scope s0.heap.objs.size f cdv)).handled = none:=I.ok.hd rfl
 refine wpAny_Raise_call_subT (C:=C) (nm:=nm) (q:=qn) (N:=N') (bs:=bs) (bm:=bm) (hdct:=hdct) (sn:=sn) (sub:=sub) (ab:=ab) (col:=col) (dd:=dd) (k0:=k0) (k1:=k1) (k2:=k2) (k3:=k3) (k5:=k5)
  FB (mN:=mN) (T.hasType FB.hasBase) hh ?_ hni (JbA I hg hm ⟨rfl, ?_⟩ hdb)
 ·show (backTo cpos (starEach (e :: es) (envOfC qual scope s0.heap.objs.size f cdv))).any (·.1) = false
  rw [he]
  show (false || (backTo cpos (starEach es (envOfC qual scope s0.heap.objs.size f cdv))).any (·.1)) = false
  rw [hpl]
  rfl
 ·have z:=ha cpos pins s σ H _ I h
  show wpAny _ _ (evalArgs (.ref C) true (backTo cpos (starEach (e :: es) (envOfC qual scope s0.heap.objs.size f cdv))) []) _ _ _
  have he':=he
  rw [he]
  refine Calls.evalArgs_plain ?_
  have z':wpAny (model P w) (A.deeper (envOfC qual scope s0.heap.objs.size f cdv)) (spliced (backTo cpos (starEach (e :: es) (envOfC qual scope s0.heap.objs.size f cdv)))) _ _ s:=z
  rw [he] at z'
  refine thn z' fun us s2 ⟨vs,H1,I1,r,hl,q⟩ => ?_
  exact ⟨rfl,by rw [← r.length]; exact hl,I1.bk _ _ hC,hN.keeps I1.bk,T.keeps I1.bk,fun h' e hm => Jiz I1 hm q⟩
end
end L2
namespace L2
open PySem PySem.Spec PyProof.Rows
def PEx (X:Cx) (e:Expr) (t:St→Hp→VK→XK→Prop):Prop :=
 ∀ (pins:List (Addr × Obj)) (s:Shared) (σ : St) (H:Hp) (Q:VK) (E:XK),Inv X pins σ H s→t σ H Q E →
  wpAny (model X.prog X.w) X.A (eval e X.env) (EP X pins σ Q) (fun ev s' => ∃ H1 s1,Inv X pins σ H1 s1∧CX1 X.prog X.w X.stack H1 s1 E ev s') s
def xCall (sp:Sp) (dvs:List V) (t:TA):St→Hp→VK→XK→Prop:=fun σ H Q E => t σ H fun vs H1 => sp (vs ++ dvs) H1 Q E
section
variable {X:Cx} {k:Nat} {f C:Addr} {fd:FuncData} {ps:List Str} {sp:Sp} {dvs:List V} {ds:List Value} {E:XK} {x m:Str} {p pos apos:Pos} {e o:Expr} {es:List Expr} {ta:TE} {t:TA}
theorem Jh7 {pins:List (Addr × Obj)} {σ : St} {H:Hp} {s:Shared} {Q:VK} {us:List Value} {vs:List V} (F:FnOk X.prog X.w X.K X.mg X.base (CX1 X.prog X.w) k f fd ps sp) (hr:Room k X.A) (hb:Binds X.K fd ps ds) (hd:Vals dvs ds)
  (I:Inv X pins σ H s) (r:Vals vs us) (h:sp (vs ++ dvs) H Q E):wpAny (model X.prog X.w) X.A (call (.ref f) us) (EP X pins σ Q) (fun ev s' => ∃ H1 s1,Inv X pins σ H1 s1∧CX1 X.prog X.w X.stack H1 s1 E ev s') s:=by
 have r2:Vals (vs ++ dvs) (us ++ ds):=r.append hd
 have hl:(us ++ ds).length = ps.length:=(r2.length.symm).trans (F.len _ _ _ _ h)
 have go:=F.run X.A X.stack s H ⟨us,[]⟩ (us ++ ds) (vs ++ dvs) Q E hr I.env0 (hb s us I.kIn hl) r2 h
 refine wpAny_call (codeAny_mono go fun res s' hq => ?_)
 match res,hq with
 | .error e,hq => exact ⟨H,s,I,hq⟩
 | .ok (.ret u),hq => exact I.after hq
 | .ok .next,hq => exact hq.elim
 | .ok .brk,hq => exact hq.elim
 | .ok .cont,hq => exact hq.elim
theorem Jg4 (F:FnOk X.prog X.w X.K X.mg X.base (CX1 X.prog X.w) k f fd ps sp) (hr:Room k X.A) (hg:Gl X x) (hm:X.mg x = some (.ref f)) (hk:PySem.W.keepIn X.K (.ref f) = true) (hb:Binds X.K fd ps ds) (hd:Vals dvs ds)
  (ha:PA X.nox (e :: es) t) (hdb:(x == ("__debug__" : Str)) = false:=by decide) (he:starEach (e :: es) X.env = (false,eval e X.env) :: starEach es X.env:=by rfl) (hpl:(backTo pos (starEach es X.env)).any (·.1) = false:=by rfl) :
  PEx X (.Call (.Name x p) (e :: es) [] pos) (xCall sp dvs t):=by
 intro pins s σ H Q E I h
 refine wpAny_Call_Name_kw (JbA I hg hm ?_ hdb)
 have z:=ha pos pins s σ H _ (I.wish _) h
 refine PySem.W.callWith_K (h₀:=X.base) I.ok.mod.kin hk (wpAny_mono z (fun us s1 ⟨vs,H1,I1,r,q⟩ => ⟨I1.unwish.kIn, ?_⟩) fun _ _ y => y.elim) he hpl
 exact Jh7 F hr hb hd I1.unwish r q
end
section
variable {X:Cx} {pins:List (Addr × Obj)} {σ : St} {H H':Hp} {s s':Shared} {h' B:Heap} {ea:Addr} {cls a0:Value}
theorem Inv.track {a:Addr} {o:HO} (I:Inv X pins σ H s) (hn:H a = none) (h1:X.s₀.heap.get? a = none) (h2:a ≠ X.env.locals) (h3:∀ x c,X.env.cells.lookup x = some c→c ≠ a) (h4:∀ p ∈ X.pn ++ pins,p.1 ≠ a)
  (ok:ObjOk X.prog X.w (upd H a o) s.heap a o):Inv X pins σ (upd H a o) s:=by
 have ne:∀ b u,H b = some u→b ≠ a:=fun b u q => Jah q hn
 refine ⟨I.ok,I.os,I.bare,⟨I.base.keep,I.base.slot,fun b ob q n hx => ?_,I.base.there,fun b xs q => ?_,fun b ob u q => ?_,fun b ps q => ?_⟩,I.loc,I.cell, ?_,fun x c e => ?_,fun p hp => ?_,fun b u q => ?_,I.len⟩
 ·have : b ≠ a:=fun z => by rw [z,h1] at q; cases q
  rw [Jae this]
  exact I.base.free b ob q n hx
 ·have z:=I.base.tups b xs q
  rw [Jae (ne _ _ z)]
  exact z
 ·have z:=I.base.frzs b ob u q
  rw [Jae (ne _ _ z)]
  exact z
 ·obtain ⟨mo,z⟩:=I.base.tbls b ps q
  exact ⟨mo,by rw [Jae (ne _ _ z)]; exact z⟩
 ·rw [Jae (Ne.symm h2)]
  exact I.free
 ·rw [Jae (h3 x c e)]
  exact I.freeC x c e
 ·obtain ⟨e,n,r⟩:=I.pin p hp
  exact ⟨e,by rw [Jae (h4 p hp)]; exact n,r⟩
 ·by_cases hb:b = a
  ·subst hb
   rw [Jak] at q
   cases q
   exact ok
  ·rw [Jae hb] at q
   exact (I.hok b u q).stay (fun _ _ _ z => z) (fun c z => by rw [Jae (ne _ _ z)]; exact z) (fun c xs z => by rw [Jae (ne _ _ z)]; exact z)
def ExcO (e C:Addr):HO:=.ext fun h => ∃ ox vs,h.get? e = some ox∧ox.cls = .ref C∧ox.data = .fields vs
theorem Inv.landed {C:Addr} {sF:Shared} (I:Inv X pins σ H s) (hex:X.ex = []) (u:Un (frs X.stack) [] H H' s.heap s'.heap) (hok:HOk X.prog X.w H' s'.heap) (F:Fly X.stack H' s.heap ea (.ref C) a0 B s'.heap) (hos:s'.os = s.os) (hg:AllBare s'.gens)
  (hfl:Heap.FlyingW B X.stack ea (.ref C) a0 h') (hup:s'.heap.UpToSlots h') (hs:sF = { s' with heap:=h' }):Inv X pins σ (upd H' ea (ExcO ea C)) sF:=by
 subst hs
 obtain ⟨hok',u',_⟩:=F.next u hok (I.stkFree' u) hfl.1 hup
 have I2:Inv X pins σ H' { s' with heap:=h' }:=I.call' (s':={ s' with heap:=h' }) hos u' hok' hg (fun b z => absurd z (by simp))
 have there:∀ b o,s.heap.get? b = some o→b ≠ ea:=fun b o q z => by
  have:=F.new
  rw [← z,q] at this
  cases this
 obtain ⟨m,hn,_⟩:=I.loc
 obtain ⟨oL,_,_,hoL,_⟩:=hn
 refine I2.track F.free ?_ (Ne.symm (there _ _ hoL)) (fun x c e z => ?_) (fun p hp z => ?_) ?_
 ·cases q:X.s₀.heap.get? ea with
  | none => rfl
  | some o =>
   obtain ⟨o',e1⟩:=I.base.there ea o q (by rw [hex]; simp)
   exact absurd rfl (there _ _ e1)
 ·obtain ⟨v,hc⟩:=I.cell x c e
  obtain ⟨oc,hoc,_⟩:=hc
  exact there _ _ hoc z
 ·obtain ⟨e,_⟩:=I.pin p hp
  exact there _ _ e z
 ·obtain ⟨oe,vs,he,hc,hd,_⟩:=hfl.first
  exact ⟨⟨oe,vs,he,hc,hd⟩,⟨_,he⟩,fun h1 h2 ⟨ox,ws,e1,e2,e3⟩ k => ⟨ox,ws,k _ e1,e2,e3⟩⟩
abbrev Cx.inx (X:Cx) (e:Addr):Cx:={ X with A:=X.A.mark (some (.ref e)),calm:=false,xe:=fun _ _ => False }
theorem Cx.Ok.inx {X:Cx} (ok:X.Ok) (e:Addr):(X.inx e).Ok :=
 ⟨ok.mod,ok.kind,ok.glob,ok.blt,ok.above,ok.inj,ok.has,ok.cab,fun z => (by cases z),ok.frames,ok.stk,ok.exf,ok.bs,ok.bsz,ok.noex,ok.exfs,ok.funs,ok.frf⟩
theorem Inv.inx (I:Inv X pins σ H s) (e:Addr):Inv (X.inx e) pins σ H s :=
 ⟨I.ok.inx e,I.os,I.bare,I.base,I.loc,I.cell,I.free,I.freeC,I.pin,I.hok,I.len⟩
theorem Inv.outx {e:Addr} (I:Inv (X.inx e) pins σ H s) (ok:X.Ok):Inv X pins σ H s :=
 ⟨ok,I.os,I.bare,I.base,I.loc,I.cell,I.free,I.freeC,I.pin,I.hok,I.len⟩
theorem Inv.goes {i:Nat} {x:Str} {t':Nat} {m m':Str→Option Value} (I:Inv X pins σ H s) (hN:X.N.Nodup) (hi:X.N[i]? = some x) (hs:Heap.SameBut X.env.locals s.heap h')
  (hn:s.heap.Ns X.env.locals m) (hn':h'.Ns X.env.locals m') (hm:∀ y,y ≠ x→m' y = m y):Inv X pins (σ.set i none) H { s with heap:=h',toks:=t' }:=by
 obtain ⟨m0,hn0,hl⟩:=I.loc
 have em:m0 = m:=(Heap.Ns.eq_nsMap hn0).trans (Heap.Ns.eq_nsMap hn).symm
 subst em
 have nL:∀ b o,X.s₀.heap.get? b = some o→b ≠ X.env.locals:=fun b o e => Nat.ne_of_lt (Nat.lt_of_lt_of_le (Heap.lt_size e) I.ok.above)
 refine ⟨I.ok,I.os,I.bare,⟨fun b o e n hb hx => ?_,fun b o e n hb hx => ?_,I.base.free,fun b o e hx => ?_,I.base.tups,I.base.frzs,I.base.tbls⟩,⟨m',hn',fun j y v e1 e2 e3 => ?_⟩,fun y c e => ?_,I.free,I.freeC,fun p hp => ?_,fun a o e => ?_,by rw [List.length_set]; exact I.len⟩
 ·exact (hs.2 b (nL b o e)).trans (I.base.keep b o e n hb hx)
 ·obtain ⟨sl,e1⟩:=I.base.slot b o e n hb hx
  exact ⟨sl,(hs.2 b (nL b o e)).trans e1⟩
 ·obtain ⟨o',e1⟩:=I.base.there b o e hx
  exact ⟨o',(hs.2 b (nL b o e)).trans e1⟩
 ·have hj:j ≠ i:=fun z => by
   subst z
   by_cases hl:j < σ.length
   ·rw [List.getElem?_set_self hl] at e2; cases e2
   ·rw [List.getElem?_eq_none (by rw [List.length_set]; omega)] at e2; cases e2
  rw [List.getElem?_set_ne (Ne.symm hj)] at e2
  obtain ⟨u,r,q⟩:=hl j y v e1 e2 e3
  have hy:y ≠ x:=fun z => hj (JdD hN e1 (z ▸ hi))
  refine ⟨u,r, ?_⟩
  rcases q with ⟨k,e⟩ | ⟨k,c,e,z⟩
  ·exact .inl ⟨k,(hm y hy).trans e⟩
  ·exact .inr ⟨k,c,e,z.sameBut hs (I.cne y c e)⟩
 ·obtain ⟨v,z⟩:=I.cell y c e
  exact ⟨v,z.sameBut hs (I.cne y c e)⟩
 ·obtain ⟨e,n,ne,nf,d⟩:=I.pin p hp
  exact ⟨(hs.2 p.1 ne).trans e,n,ne,nf,d⟩
 ·refine (I.hok a o e).stay (fun c v hc q => (hs.2 c ?_).trans q) (fun _ q => q) fun _ _ q => q
  rintro rfl
  rcases hc with z | hc
  ·rw [← z] at e
   rw [I.free] at e
   cases e
  ·rw [I.free] at hc
   cases hc
end
structure Jcm (K:PySem.W.Frag) (C D:Addr):Prop where
 cl:PySem.W.hasDictIn K D = true
 ty:PySem.W.typeIn K (.ref D) = some (.type "type")
 ex:PySem.W.mroIn K D (.type "BaseException") = some true
 ab:PySem.W.mroIn K C (.ref D) = some true
theorem Jd4 {K:PySem.W.Frag} {M:Model} {h:Heap} {D:Addr} (X:K.In h) (c:PySem.W.hasDictIn K D = true):PySem.W.Looks M h (isType (.ref D)) true:=by
 obtain ⟨cd,hc,_⟩:=PySem.W.any_some c
 unfold PySem.W.clsIn at hc
 split at hc
 next c' d' cd' sl' ho =>
  intro A' Q' E' s' k q
  unfold isType loadHead
  exact wpAny_bind (wpAny_loadPart (k _ _ (X _ _ ho)) (wpAny_pure q))
 next => cases hc
theorem Jd2 {K:PySem.W.Frag} {M:Model} {A:Around} {E:Value→Shared→Prop} {s:Shared} {e C D:Addr} {oe:Obj} {Q:Bool→Shared→Prop} (X:K.In s.heap) (he:s.heap.get? e = some oe) (hc:oe.cls = .ref C) (c:Jcm K C D) (h:Q true s) :
  wpAny M A (excMatches (.ref e) (.ref D)) Q E s:=by
 obtain ⟨hp,g,d,t,os⟩:=s
 have L0:PySem.W.Looks M hp (typeOf (.ref e)) (.ref C):=hc ▸ (PySem.W.Looks.ld he).andThen .now
 have L1:=PySem.W.looks_typeIn (M:=M) X c.ty
 have L2:=PySem.W.looks_mroIn (M:=M) X c.ex
 have L3:=PySem.W.looks_mroIn (M:=M) X c.ab
 have L4:=Jd4 (M:=M) X c.cl
 have f:=tc_notTuple
 unfold excMatches isInstance isExcClass
 repeat (first | lk | wp_step)
 exact h
section
variable {X:Cx} {ce:Expr} {epos pos hpos np:Pos} {x n:Str} {b0:Stmt} {suite:List Stmt} {D:Addr} {t:St→Hp→VK→XK→Prop} {ts:TS}
def JiV (K:PySem.W.Frag) (D:Addr) (i:Nat) (t:St→Hp→VK→XK→Prop) (ts:TS):TS:=fun Dn σ H => t σ H (fun _ H1 => Dn.nx σ H1) fun cls _ H1 => ∃ C,cls = .ref C∧Jcm K C D ∧
 ∀ ea,H1 ea = none→ts { nx:=fun σ' H' => Dn.nx (σ'.set i none) H',rt:=Dn.rt,bk:=fun σ' H' => Dn.bk (σ'.set i none) H',ct:=fun σ' H' => Dn.ct (σ'.set i none) H' } (σ.set i (some (.ref ea))) (upd H1 ea (ExcO ea C))
end
end L2
namespace L2
open PySem PySem.Spec PyProof.Rows
inductive D where
 | non | bl (b:Bool) | int (i:Int) | str (x:Str) | tup (xs:List D) | lst (xs:List D)
mutual
def Rep (K:PySem.W.Frag) (H:Hp):D→V→Prop
 | .non,v => v = .non
 | .bl b,v => v = .bl b
 | .int i,v => v = .int i
 | .str x,v => v = .str x
 | .tup ds,v => ∃ a xs,v = .ref a∧SqT K H a xs∧RepL K H ds xs
 | .lst ds,v => ∃ a xs,v = .ref a∧SqL K H a xs∧RepL K H ds xs
def RepL (K:PySem.W.Frag) (H:Hp):List D→List V→Prop
 | [],vs => vs = []
 | d :: ds,vs => ∃ v r,vs = v :: r∧Rep K H d v∧RepL K H ds r
end
mutual
def eqD:D→D→Bool
 | .non, .non => true
 | .bl a, .bl b => a == b
 | .int a, .int b => a == b
 | .bl a, .int b => (if a then 1 else 0) == b
 | .int a, .bl b => a == (if b then 1 else 0)
 | .str a, .str b => a == b
 | .tup xs, .tup ys => eqL xs ys
 | .lst xs, .lst ys => eqL xs ys
 | _,_ => false
def eqL:List D→List D→Bool
 | [],[] => true
 | x :: xs,y :: ys => eqD x y && eqL xs ys
 | _,_ => false
end
mutual
def depD:D→Nat
 | .tup xs => depL xs + 1
 | .lst xs => depL xs + 1
 | _ => 0
def depL:List D→Nat
 | [] => 0
 | x :: xs => max (depD x) (depL xs)
end
theorem Jdi:∀ {xs ys:List D},eqL xs ys = true→xs.length = ys.length
 | [],[],_ => rfl
 | [],_ :: _,h => by simp [eqL] at h
 | _ :: _,[],h => by simp [eqL] at h
 | x :: xs,y :: ys,h => by
  simp only [eqL,Bool.and_eq_true] at h
  simp only [List.length_cons,Jdi h.2]
mutual
theorem Jbg:∀ d:D,eqD d d = true
 | .non => by simp [eqD]
 | .bl b => by simp [eqD]
 | .int i => by simp [eqD]
 | .str x => by simp [eqD]
 | .tup xs => by simp only [eqD]; exact Jdy xs
 | .lst xs => by simp only [eqD]; exact Jdy xs
theorem Jdy:∀ d:List D,eqL d d = true
 | [] => by simp [eqL]
 | x :: xs => by simp only [eqL,Bool.and_eq_true]; exact ⟨Jbg x,Jdy xs⟩
end
theorem RepL.length {K:PySem.W.Frag} {H:Hp}:∀ {ds:List D} {vs:List V},RepL K H ds vs→ds.length = vs.length
 | [],vs,h => by
  simp only [RepL] at h
  rw [h]; rfl
 | d :: ds,vs,h => by
  simp only [RepL] at h
  obtain ⟨v,r,rfl,_,h2⟩:=h
  simp only [List.length_cons,RepL.length h2]
theorem RepL.get {K:PySem.W.Frag} {H:Hp}:∀ {ds:List D} {vs:List V} {i:Nat} {d:D},RepL K H ds vs→ds[i]? = some d→∃ v,vs[i]? = some v∧Rep K H d v
 | [],_,_,_,_,e => by simp at e
 | d :: ds,vs,i,d',h,e => by
  simp only [RepL] at h
  obtain ⟨v,r,rfl,h1,h2⟩:=h
  cases i with
  | zero => simp at e; subst e; exact ⟨v,rfl,h1⟩
  | succ i =>
   obtain ⟨v',e',h'⟩:=RepL.get h2 (by simpa using e)
   exact ⟨v',by simpa using e',h'⟩
theorem SqL.same {K:PySem.W.Frag} {H H':Hp} {a:Addr} {xs:List V} (e:Same H H') (h:SqL K H a xs):SqL K H' a xs:=e.seq h
theorem SqT.same {K:PySem.W.Frag} {H H':Hp} {a:Addr} {xs:List V} (e:Same H H') (h:SqT K H a xs):SqT K H' a xs:=by
 rcases h with (h | ⟨o,h⟩) | h
 ·exact .inl (.inl (e _ _ h))
 ·exact .inl (.inr ⟨o,e _ _ h⟩)
 ·exact .inr h
mutual
theorem Rep.same {K:PySem.W.Frag} {H H':Hp} (e:Same H H'):∀ {d:D} {v:V},Rep K H d v→Rep K H' d v
 | .non,_,h => by simpa only [Rep] using h
 | .bl _,_,h => by simpa only [Rep] using h
 | .int _,_,h => by simpa only [Rep] using h
 | .str _,_,h => by simpa only [Rep] using h
 | .tup ds,_,h => by
  simp only [Rep] at h ⊢
  obtain ⟨a,xs,h1,h2,h3⟩:=h
  exact ⟨a,xs,h1,h2.same e,RepL.same e h3⟩
 | .lst ds,_,h => by
  simp only [Rep] at h ⊢
  obtain ⟨a,xs,h1,h2,h3⟩:=h
  exact ⟨a,xs,h1,h2.same e,RepL.same e h3⟩
theorem RepL.same {K:PySem.W.Frag} {H H':Hp} (e:Same H H'):∀ {d:List D} {v:List V},RepL K H d v→RepL K H' d v
 | [],_,h => by simpa only [RepL] using h
 | x :: xs,_,h => by
  simp only [RepL] at h ⊢
  obtain ⟨v,r,h1,h2,h3⟩:=h
  exact ⟨v,r,h1,Rep.same e h2,RepL.same e h3⟩
end
section
variable {X:Cx} {pins:List (Addr × Obj)} {σ : St} {H:Hp} {s:Shared}
theorem Inv.list_tuple (I:Inv X pins σ H s) {a:Addr} {xs ys:List V} (h:SqL X.K H a xs) (h':SqT X.K H a ys):False:=by
 obtain ⟨_,_,p,_⟩:=I.list h
 obtain ⟨_,_,q,_⟩:=I.tuple h'
 obtain ⟨o,_,e1,c1,_⟩:=p
 obtain ⟨o',e2,c2,_⟩:=q
 rw [e1] at e2
 cases e2
 rw [c1] at c2
 exact absurd c2 (by decide)
mutual
theorem Inv.rep_inj (I:Inv X pins σ H s):∀ {d e:D} {v:V},Rep X.K H d v→Rep X.K H e v→d = e
 | .non,e,v,h,h' => by
  simp only [Rep] at h; subst h
  cases e <;> simp [Rep] at h' ⊢
 | .bl _,e,v,h,h' => by
  simp only [Rep] at h; subst h
  cases e <;> simp [Rep] at h' ⊢
  exact h'
 | .int _,e,v,h,h' => by
  simp only [Rep] at h; subst h
  cases e <;> simp [Rep] at h' ⊢
  exact h'
 | .str _,e,v,h,h' => by
  simp only [Rep] at h; subst h
  cases e <;> simp [Rep] at h' ⊢
  exact h'
 | .tup ds,e,v,h,h' => by
  simp only [Rep] at h
  obtain ⟨a,xs,rfl,h2,h3⟩:=h
  cases e with
  | tup es =>
   simp only [Rep] at h'
   obtain ⟨a',ys,q,g2,g3⟩:=h'
   cases q
   have:=I.tuple_inj h2 g2
   subst this
   rw [Inv.repL_inj I h3 g3]
  | lst es =>
   simp only [Rep] at h'
   obtain ⟨a',ys,q,g2,g3⟩:=h'
   cases q
   exact (I.list_tuple g2 h2).elim
  | _ => simp [Rep] at h'
 | .lst ds,e,v,h,h' => by
  simp only [Rep] at h
  obtain ⟨a,xs,rfl,h2,h3⟩:=h
  cases e with
  | lst es =>
   simp only [Rep] at h'
   obtain ⟨a',ys,q,g2,g3⟩:=h'
   cases q
   have:=I.list_inj h2 g2
   subst this
   rw [Inv.repL_inj I h3 g3]
  | tup es =>
   simp only [Rep] at h'
   obtain ⟨a',ys,q,g2,g3⟩:=h'
   cases q
   exact (I.list_tuple h2 g2).elim
  | _ => simp [Rep] at h'
theorem Inv.repL_inj (I:Inv X pins σ H s):∀ {d e:List D} {v:List V},RepL X.K H d v→RepL X.K H e v→d = e
 | [],e,v,h,h' => by
  simp only [RepL] at h; subst h
  cases e <;> simp [RepL] at h' ⊢
 | x :: xs,e,v,h,h' => by
  simp only [RepL] at h
  obtain ⟨u,r,rfl,h1,h2⟩:=h
  cases e with
  | nil => simp [RepL] at h'
  | cons y ys =>
   simp only [RepL] at h'
   obtain ⟨u',r',q,g1,g2⟩:=h'
   cases q
   rw [Inv.rep_inj I h1 g1,Inv.repL_inj I h2 g2]
end
end
def JbR {α β : Type} (f : α→β→Bool):List α→List β→Bool
 | [],[] => true
 | x :: xs,y :: ys => f x y && JbR f xs ys
 | _,_ => false
def atB {α β : Type} (f : α→β→Bool) (xs:List α) (ys:List β) (j:Nat):Bool:=match xs[j]?,ys[j]? with
 | some x,some y => f x y
 | _,_ => true
theorem JbS {α β : Type} (f : α→β→Bool):∀ (xs:List α) (ys:List β),
  ((List.range (min xs.length ys.length)).all (atB f xs ys) && (xs.length == ys.length)) = JbR f xs ys
 | [],[] => by simp [JbR]
 | [],_ :: _ => by simp [JbR]
 | _ :: _,[] => by simp [JbR]
 | x :: xs,y :: ys => by
  have ih:=JbS f xs ys
  simp only [JbR,List.length_cons]
  rw [← ih,Nat.succ_min_succ,List.range_succ_eq_map,List.all_cons,List.all_map]
  have e:((List.range (min xs.length ys.length)).all (atB f (x :: xs) (y :: ys) ∘ Nat.succ)) = (List.range (min xs.length ys.length)).all (atB f xs ys):=by
   congr 1
  rw [e]
  have e0:atB f (x :: xs) (y :: ys) 0 = f x y:=by unfold atB; simp
  rw [e0,Bool.and_assoc]
  congr 2
  simp
theorem Jer:∀ xs ys:List D,eqL xs ys = JbR eqD xs ys
 | [],[] => by simp [eqL,JbR]
 | [],_ :: _ => by simp [eqL,JbR]
 | _ :: _,[] => by simp [eqL,JbR]
 | x :: xs,y :: ys => by simp only [eqL,JbR,Jer xs ys]
theorem Jdw:∀ {ds:List D} {d:D},d ∈ ds→depD d ≤ depL ds
 | [],_,h => by simp at h
 | x :: xs,d,h => by
  simp only [depL]
  rcases List.mem_cons.mp h with rfl | h
  ·exact Nat.le_max_left ..
  ·exact Nat.le_trans (Jdw h) (Nat.le_max_right ..)
def flatD:D→Bool
 | .tup _ => false
 | .lst _ => false
 | _ => true
def valD:D→V
 | .bl b => .bl b
 | .int i => .int i
 | .str x => .str x
 | _ => .non
theorem JdO {K:PySem.W.Frag} {H:Hp} {d:D} {v:V} (f:flatD d = true) (h:Rep K H d v):v = valD d:=by
 cases d <;> simp_all [flatD,Rep,valD]
theorem JeZ {d:D} (f:flatD d = true):flatV (valD d) = true:=by
 cases d <;> simp_all [flatD,valD,flatV]
theorem JhK {d e:D} (f:flatD d = true) (g:flatD e = true):eqV (valD d) (valD e) = eqD d e:=by
 cases d <;> cases e <;> simp_all [flatD,valD,eqV,eqD]
section
variable {X:Cx} {pins:List (Addr × Obj)} {σ : St} {H:Hp} {s:Shared}
theorem in1_units (A:Around):A.in1.units = A.units + 1:=rfl
def EqP (X:Cx) (H:Hp) (s:Shared) (n:Nat):Prop:=∀ (d e:D) (A:Around) (x y:V) (u v:Value),depD d ≤ n→Rep X.K H d x→Rep X.K H e y→RelV x u→RelV y v→A.units + n < cLine→SeqAt.EqAt A s u v (eqD d e)
theorem Je2 {n:Nat} (ih:EqP X H s n) {ds es:List D} {xs ys:List V} {its jts:List Value} (h3:RepL X.K H ds xs) (g3:RepL X.K H es ys) (vi:Vals xs its) (vj:Vals ys jts) (hds:depL ds ≤ n) {A:Around} (hA:A.units + n < cLine) :
  ∀ j (p1:j < its.toArray.size) (p2:j < jts.toArray.size),SeqAt.EqAt A s its.toArray[j] jts.toArray[j] (atB eqD ds es j):=by
 intro j p1 p2
 have l1:its.length = ds.length:=by rw [h3.length,vi.length]
 have l2:jts.length = es.length:=by rw [g3.length,vj.length]
 have q1:j < ds.length:=by rw [← l1]; simpa using p1
 have q2:j < es.length:=by rw [← l2]; simpa using p2
 obtain ⟨v1,e1,r1⟩:=h3.get (List.getElem?_eq_getElem q1)
 obtain ⟨v2,e2,r2⟩:=g3.get (List.getElem?_eq_getElem q2)
 obtain ⟨u1,f1,s1⟩:=vi.get e1
 obtain ⟨u2,f2,s2⟩:=vj.get e2
 have z1:its.toArray[j] = u1:=by
  have:=f1
  rw [List.getElem?_eq_getElem (by simpa using p1)] at this
  simpa using this
 have z2:jts.toArray[j] = u2:=by
  have:=f2
  rw [List.getElem?_eq_getElem (by simpa using p2)] at this
  simpa using this
 rw [z1,z2]
 have eb:atB eqD ds es j = eqD ds[j] es[j]:=by
  unfold atB
  rw [List.getElem?_eq_getElem q1,List.getElem?_eq_getElem q2]
 rw [eb]
 exact ih _ _ _ _ _ _ _ (Nat.le_trans (Jdw (List.getElem_mem q1)) hds) r1 r2 s1 s2 hA
theorem JiZ (I:Inv X pins σ H s) {n:Nat} (ih:EqP X H s n) {ds es:List D} {a b:Addr} {xs ys:List V} (h2:SqT X.K H a xs) (h3:RepL X.K H ds xs) (g2:SqT X.K H b ys) (g3:RepL X.K H es ys) (hds:depL ds ≤ n) {A:Around} (hA:A.units + (n + 1) < cLine) :
  SeqAt.RcAt A s (.ref a) (.ref b) (eqD (.tup ds) (.tup es))∧SeqAt.RcNeAt A s (.ref a) (.ref b) (!eqD (.tup ds) (.tup es)):=by
 obtain ⟨its,vi,ht,_⟩:=I.tuple h2
 obtain ⟨jts,vj,hu,_⟩:=I.tuple g2
 have l1:its.length = ds.length:=by rw [h3.length,vi.length]
 have l2:jts.length = es.length:=by rw [g3.length,vj.length]
 have it:=Je2 ih h3 g3 vi vj hds (A:=A.in1) (by rw [in1_units]; omega)
 have eb:eqD (.tup ds) (.tup es) = ((List.range (min its.toArray.size jts.toArray.size)).all (atB eqD ds es) && its.toArray.size == jts.toArray.size):=by
  simp only [eqD,Jer]
  rw [← JbS]
  simp only [List.size_toArray,l1,l2]
 rw [eb]
 exact ⟨SeqAt.RcAt.tuples ht hu (by omega) it,SeqAt.RcNeAt.tuples ht hu (by omega) it⟩
theorem JiA (I:Inv X pins σ H s) {n:Nat} (ih:EqP X H s n) {ds es:List D} {a b:Addr} {xs ys:List V} (h2:SqL X.K H a xs) (h3:RepL X.K H ds xs) (g2:SqL X.K H b ys) (g3:RepL X.K H es ys) (hds:depL ds ≤ n) {A:Around} (hA:A.units + (n + 1) < cLine) :
  SeqAt.RcAt A s (.ref a) (.ref b) (eqD (.lst ds) (.lst es))∧SeqAt.RcNeAt A s (.ref a) (.ref b) (!eqD (.lst ds) (.lst es)):=by
 obtain ⟨its,vi,ht,_⟩:=I.list h2
 obtain ⟨jts,vj,hu,_⟩:=I.list g2
 have l1:its.length = ds.length:=by rw [h3.length,vi.length]
 have l2:jts.length = es.length:=by rw [g3.length,vj.length]
 have it:=Je2 ih h3 g3 vi vj hds (A:=A.in1) (by rw [in1_units]; omega)
 by_cases hl:ds.length = es.length
 ·have eb:eqD (.lst ds) (.lst es) = (List.range its.toArray.size).all (atB eqD ds es):=by
   simp only [eqD,Jer]
   rw [← JbS]
   simp [l1,hl]
  rw [eb]
  exact ⟨SeqAt.RcAt.lists ht.isList hu.isList (by simp [l1,l2,hl]) (by omega) it,SeqAt.RcNeAt.lists ht.isList hu.isList (by simp [l1,l2,hl]) (by omega) it⟩
 ·have eb:eqD (.lst ds) (.lst es) = false:=by
   cases q:eqD (.lst ds) (.lst es) with
   | false => rfl
   | true => simp only [eqD] at q; exact absurd (Jdi q) hl
  rw [eb]
  exact ⟨SeqAt.RcAt.lists_lengths ht.isList hu.isList (by simp [l1,l2,hl]) (by omega),SeqAt.RcNeAt.lists_lengths ht.isList hu.isList (by simp [l1,l2,hl]) (by omega)⟩
theorem Jb7 {K:PySem.W.Frag} {d:D} {x:V} (h:Rep K H d x):(flatD d = true∧x = valD d) ∨ (∃ ds a xs,d = .tup ds∧x = .ref a∧SqT K H a xs∧RepL K H ds xs) ∨ ∃ ds a xs,d = .lst ds∧x = .ref a∧SqL K H a xs∧RepL K H ds xs:=by
 cases d with
 | tup ds => simp only [Rep] at h; obtain ⟨a,xs,h1,h2,h3⟩:=h; exact .inr (.inl ⟨ds,a,xs,rfl,h1,h2,h3⟩)
 | lst ds => simp only [Rep] at h; obtain ⟨a,xs,h1,h2,h3⟩:=h; exact .inr (.inr ⟨ds,a,xs,rfl,h1,h2,h3⟩)
 | _ => exact .inl ⟨rfl,JdO rfl h⟩
theorem JbT (I:Inv X pins σ H s) {d e:D} {x y:V} {u v:Value} (hd:Rep X.K H d x) (he:Rep X.K H e y) (ru:RelV x u) (rv:RelV y v) (m:flatD d = !flatD e) {A:Around} (hA:A.units < cLine) :
  eqD d e = false∧SeqAt.EqAt A s u v false∧SeqAt.RcAt A s u v false∧SeqAt.RcNeAt A s u v true:=by
 rcases Jb7 hd with ⟨fd,rfl⟩ | ⟨ds,a,xs,rfl,rfl,h2,h3⟩ | ⟨ds,a,xs,rfl,rfl,h2,h3⟩
 ·rcases Jb7 he with ⟨fe,rfl⟩ | ⟨es,b,ys,rfl,rfl,g2,g3⟩ | ⟨es,b,ys,rfl,rfl,g2,g3⟩
  ·rw [fd,fe] at m; cases m
  ·obtain rfl:v = Value.ref b:=rv
   obtain ⟨jts,vj,hu,_⟩:=I.tuple g2
   refine ⟨by cases d <;> simp [eqD,flatD] at fd ⊢, ?_⟩
   cases d <;> simp only [valD,RelV] at ru <;> first | (simp [flatD] at fd; done) | skip
   ·subst ru; exact ⟨SeqAt.EqAt.none_tuple hu hA,SeqAt.RcAt.none_tuple hu hA,SeqAt.RcNeAt.none_tuple hu hA⟩
   ·subst ru; exact ⟨SeqAt.EqAt.bool_tuple _ hu hA,SeqAt.RcAt.bool_tuple _ hu hA,SeqAt.RcNeAt.bool_tuple _ hu hA⟩
   ·obtain ⟨t,rfl⟩:=ru; exact ⟨SeqAt.EqAt.int_tuple _ _ hu hA,SeqAt.RcAt.int_tuple _ _ hu hA,SeqAt.RcNeAt.int_tuple _ _ hu hA⟩
   ·obtain ⟨t,rfl⟩:=ru; exact ⟨SeqAt.EqAt.str_tuple _ _ hu hA,SeqAt.RcAt.str_tuple _ _ hu hA,SeqAt.RcNeAt.str_tuple _ _ hu hA⟩
  ·obtain rfl:v = Value.ref b:=rv
   obtain ⟨jts,vj,hu,_⟩:=I.list g2
   have hu:=hu.isList
   refine ⟨by cases d <;> simp [eqD,flatD] at fd ⊢, ?_⟩
   cases d <;> simp only [valD,RelV] at ru <;> first | (simp [flatD] at fd; done) | skip
   ·subst ru; exact ⟨SeqAt.EqAt.none_list hu hA,SeqAt.RcAt.none_list hu hA,SeqAt.RcNeAt.none_list hu hA⟩
   ·subst ru; exact ⟨SeqAt.EqAt.bool_list _ hu hA,SeqAt.RcAt.bool_list _ hu hA,SeqAt.RcNeAt.bool_list _ hu hA⟩
   ·obtain ⟨t,rfl⟩:=ru; exact ⟨SeqAt.EqAt.int_list _ _ hu hA,SeqAt.RcAt.int_list _ _ hu hA,SeqAt.RcNeAt.int_list _ _ hu hA⟩
   ·obtain ⟨t,rfl⟩:=ru; exact ⟨SeqAt.EqAt.str_list _ _ hu hA,SeqAt.RcAt.str_list _ _ hu hA,SeqAt.RcNeAt.str_list _ _ hu hA⟩
 ·rcases Jb7 he with ⟨fe,rfl⟩ | ⟨es,b,ys,rfl,rfl,g2,g3⟩ | ⟨es,b,ys,rfl,rfl,g2,g3⟩
  ·obtain rfl:u = Value.ref a:=ru
   obtain ⟨jts,vj,hu,_⟩:=I.tuple h2
   refine ⟨by cases e <;> simp [eqD,flatD] at fe ⊢, ?_⟩
   cases e <;> simp only [valD,RelV] at rv <;> first | (simp [flatD] at fe; done) | skip
   ·subst rv; exact ⟨SeqAt.EqAt.tuple_none hu hA,SeqAt.RcAt.tuple_none hu hA,SeqAt.RcNeAt.tuple_none hu hA⟩
   ·subst rv; exact ⟨SeqAt.EqAt.tuple_bool _ hu hA,SeqAt.RcAt.tuple_bool _ hu hA,SeqAt.RcNeAt.tuple_bool _ hu hA⟩
   ·obtain ⟨t,rfl⟩:=rv; exact ⟨SeqAt.EqAt.tuple_int _ _ hu hA,SeqAt.RcAt.tuple_int _ _ hu hA,SeqAt.RcNeAt.tuple_int _ _ hu hA⟩
   ·obtain ⟨t,rfl⟩:=rv; exact ⟨SeqAt.EqAt.tuple_str _ _ hu hA,SeqAt.RcAt.tuple_str _ _ hu hA,SeqAt.RcNeAt.tuple_str _ _ hu hA⟩
  ·simp [flatD] at m
  ·simp [flatD] at m
 ·rcases Jb7 he with ⟨fe,rfl⟩ | ⟨es,b,ys,rfl,rfl,g2,g3⟩ | ⟨es,b,ys,rfl,rfl,g2,g3⟩
  ·obtain rfl:u = Value.ref a:=ru
   obtain ⟨jts,vj,hu,_⟩:=I.list h2
   have hu:=hu.isList
   refine ⟨by cases e <;> simp [eqD,flatD] at fe ⊢, ?_⟩
   cases e <;> simp only [valD,RelV] at rv <;> first | (simp [flatD] at fe; done) | skip
   ·subst rv; exact ⟨SeqAt.EqAt.list_none hu hA,SeqAt.RcAt.list_none hu hA,SeqAt.RcNeAt.list_none hu hA⟩
   ·subst rv; exact ⟨SeqAt.EqAt.list_bool _ hu hA,SeqAt.RcAt.list_bool _ hu hA,SeqAt.RcNeAt.list_bool _ hu hA⟩
   ·obtain ⟨t,rfl⟩:=rv; exact ⟨SeqAt.EqAt.list_int _ _ hu hA,SeqAt.RcAt.list_int _ _ hu hA,SeqAt.RcNeAt.list_int _ _ hu hA⟩
   ·obtain ⟨t,rfl⟩:=rv; exact ⟨SeqAt.EqAt.list_str _ _ hu hA,SeqAt.RcAt.list_str _ _ hu hA,SeqAt.RcNeAt.list_str _ _ hu hA⟩
  ·simp [flatD] at m
  ·simp [flatD] at m
theorem seq_eq (I:Inv X pins σ H s) {n:Nat} (ih:EqP X H s n) {d e:D} {x y:V} {u v:Value} (hn:depD d ≤ n + 1) (hd:Rep X.K H d x) (he:Rep X.K H e y) (ru:RelV x u) (rv:RelV y v) (fd:flatD d = false) (fe:flatD e = false) {A:Around} (hA:A.units + (n + 1) < cLine) :
  SeqAt.EqAt A s u v (eqD d e)∧SeqAt.RcAt A s u v (eqD d e)∧SeqAt.RcNeAt A s u v (!eqD d e):=by
 have hd0:=hd
 have he0:=he
 rcases Jb7 hd with ⟨f,_⟩ | ⟨ds,a,xs,rfl,rfl,h2,h3⟩ | ⟨ds,a,xs,rfl,rfl,h2,h3⟩
 ·rw [f] at fd; cases fd
 ·obtain rfl:u = Value.ref a:=ru
  have hds:depL ds ≤ n:=by simp only [depD] at hn; omega
  rcases Jb7 he with ⟨f,_⟩ | ⟨es,b,ys,rfl,rfl,g2,g3⟩ | ⟨es,b,ys,rfl,rfl,g2,g3⟩
  ·rw [f] at fe; cases fe
  ·obtain rfl:v = Value.ref b:=rv
   have R:=JiZ I ih h2 h3 g2 g3 hds hA
   refine ⟨?_,R.1,R.2⟩
   by_cases hab:a = b
   ·subst hab
    rw [I.rep_inj hd0 he0,Jbg]
    exact SeqAt.EqAt.same _
   ·exact SeqAt.EqAt.of_refs hab R.1
  ·obtain rfl:v = Value.ref b:=rv
   obtain ⟨its,_,ht,_⟩:=I.tuple h2
   obtain ⟨jts,_,hu,_⟩:=I.list g2
   exact ⟨SeqAt.EqAt.tuple_list ht hu.isList (by omega),SeqAt.RcAt.tuple_list ht hu.isList (by omega),SeqAt.RcNeAt.tuple_list ht hu.isList (by omega)⟩
 ·obtain rfl:u = Value.ref a:=ru
  have hds:depL ds ≤ n:=by simp only [depD] at hn; omega
  rcases Jb7 he with ⟨f,_⟩ | ⟨es,b,ys,rfl,rfl,g2,g3⟩ | ⟨es,b,ys,rfl,rfl,g2,g3⟩
  ·rw [f] at fe; cases fe
  ·obtain rfl:v = Value.ref b:=rv
   obtain ⟨its,_,ht,_⟩:=I.list h2
   obtain ⟨jts,_,hu,_⟩:=I.tuple g2
   exact ⟨SeqAt.EqAt.list_tuple ht.isList hu (by omega),SeqAt.RcAt.list_tuple ht.isList hu (by omega),SeqAt.RcNeAt.list_tuple ht.isList hu (by omega)⟩
  ·obtain rfl:v = Value.ref b:=rv
   have R:=JiA I ih h2 h3 g2 g3 hds hA
   refine ⟨?_,R.1,R.2⟩
   by_cases hab:a = b
   ·subst hab
    rw [I.rep_inj hd0 he0,Jbg]
    exact SeqAt.EqAt.same _
   ·exact SeqAt.EqAt.of_refs hab R.1
theorem Inv.eqP (I:Inv X pins σ H s):∀ n,EqP X H s n
 | 0 => fun d e A x y u v hn hd he ru rv hA => by
  have fd:flatD d = true:=by
   cases d <;> simp [depD,flatD] at hn ⊢
  cases fe:flatD e with
  | true =>
   have ex:=JdO fd hd
   have ey:=JdO fe he
   subst ex ey
   rw [← JhK fd fe]
   exact Jhe ru rv (JeZ fd) (JeZ fe)
  | false =>
   obtain ⟨e1,e2,_⟩:=JbT I hd he ru rv (by rw [fd,fe]; rfl) (A:=A) (by omega)
   rw [e1]
   exact e2
 | n + 1 => fun d e A x y u v hn hd he ru rv hA => by
  cases fd:flatD d with
  | true =>
   have h0:depD d ≤ n:=by cases d <;> simp [depD,flatD] at fd ⊢
   exact Inv.eqP I n d e A x y u v h0 hd he ru rv (by omega)
  | false =>
   cases fe:flatD e with
   | true =>
    obtain ⟨e1,e2,_⟩:=JbT I hd he ru rv (by rw [fd,fe]; rfl) (A:=A) (by omega)
    rw [e1]
    exact e2
   | false => exact (seq_eq I (Inv.eqP I n) hn hd he ru rv fd fe hA).1
def rEqU (K:PySem.W.Frag):R2:=fun x y H Q => match x,y with
 | .int i, .int j => Q (.bl (decide (i = j))) H
 | .str i, .str j => Q (.bl (decide (i = j))) H
 | .bl i, .bl j => Q (.bl (decide (i = j))) H
 | .non, .non => Q (.bl true) H
 | x,y => ∃ d e,Rep K H d x∧Rep K H e y∧depD d ≤ 50∧(flatD d && flatD e) = false∧Q (.bl (eqD d e)) H
def rNeU (K:PySem.W.Frag):R2:=fun x y H Q => match x,y with
 | .int i, .int j => Q (.bl (!decide (i = j))) H
 | .str i, .str j => Q (.bl (!decide (i = j))) H
 | .bl i, .bl j => Q (.bl (!decide (i = j))) H
 | .non, .non => Q (.bl false) H
 | x,y => ∃ d e,Rep K H d x∧Rep K H e y∧depD d ≤ 50∧(flatD d && flatD e) = false∧Q (.bl (!eqD d e)) H
theorem Jbr (hu:X.A.units + 64 < cLine):OpR X (compareOp .Eq) (rEqU X.K):=fun pins s σ H x y v u Q I rx ry q => by
 unfold rEqU at q
 split at q
 ·rename_i i j; exact op_eq pins s σ H _ _ v u Q I rx ry ⟨rfl,by rw [show decide (V.int i = V.int j) = decide (i = j) from by simp]; exact q⟩
 ·rename_i i j; exact op_eq pins s σ H _ _ v u Q I rx ry ⟨rfl,by rw [show decide (V.str i = V.str j) = decide (i = j) from by simp]; exact q⟩
 ·rename_i i j; exact op_eq pins s σ H _ _ v u Q I rx ry ⟨rfl,by rw [show decide (V.bl i = V.bl j) = decide (i = j) from by simp]; exact q⟩
 ·exact op_eq pins s σ H _ _ v u Q I rx ry ⟨rfl,by simpa using q⟩
 ·obtain ⟨d,e,hd,he,hn,hf,q⟩:=q
  show wpAny (model X.prog X.w) X.A (richCompare .Eq v u) (EP X pins σ Q) X.xe s
  cases fd:flatD d with
  | true =>
   cases fe:flatD e with
   | true => rw [fd,fe] at hf; cases hf
   | false =>
    obtain ⟨e1,_,e3,_⟩:=JbT I hd he rx ry (by rw [fd,fe]; rfl) (A:=X.A) (by omega)
    rw [e1] at q
    exact e3 _ _ _ _ ⟨V.bl _,H,I,rfl,q⟩
  | false =>
   cases fe:flatD e with
   | true =>
    obtain ⟨e1,_,e3,_⟩:=JbT I hd he rx ry (by rw [fd,fe]; rfl) (A:=X.A) (by omega)
    rw [e1] at q
    exact e3 _ _ _ _ ⟨V.bl _,H,I,rfl,q⟩
   | false => exact (seq_eq I (I.eqP 49) hn hd he rx ry fd fe (by omega)).2.1 _ _ _ _ ⟨V.bl _,H,I,rfl,q⟩
theorem JbM (hu:X.A.units + 64 < cLine):OpR X (compareOp .NotEq) (rNeU X.K):=fun pins s σ H x y v u Q I rx ry q => by
 unfold rNeU at q
 split at q
 ·rename_i i j; exact op_ne pins s σ H _ _ v u Q I rx ry ⟨rfl,by rw [show decide (V.int i = V.int j) = decide (i = j) from by simp]; exact q⟩
 ·rename_i i j; exact op_ne pins s σ H _ _ v u Q I rx ry ⟨rfl,by rw [show decide (V.str i = V.str j) = decide (i = j) from by simp]; exact q⟩
 ·rename_i i j; exact op_ne pins s σ H _ _ v u Q I rx ry ⟨rfl,by rw [show decide (V.bl i = V.bl j) = decide (i = j) from by simp]; exact q⟩
 ·exact op_ne pins s σ H _ _ v u Q I rx ry ⟨rfl,by simpa using q⟩
 ·obtain ⟨d,e,hd,he,hn,hf,q⟩:=q
  show wpAny (model X.prog X.w) X.A (richCompare .NotEq v u) (EP X pins σ Q) X.xe s
  cases fd:flatD d with
  | true =>
   cases fe:flatD e with
   | true => rw [fd,fe] at hf; cases hf
   | false =>
    obtain ⟨e1,_,_,e3⟩:=JbT I hd he rx ry (by rw [fd,fe]; rfl) (A:=X.A) (by omega)
    rw [e1] at q
    exact e3 _ _ _ _ ⟨V.bl _,H,I,rfl,q⟩
  | false =>
   cases fe:flatD e with
   | true =>
    obtain ⟨e1,_,_,e3⟩:=JbT I hd he rx ry (by rw [fd,fe]; rfl) (A:=X.A) (by omega)
    rw [e1] at q
    exact e3 _ _ _ _ ⟨V.bl _,H,I,rfl,q⟩
   | false => exact (seq_eq I (I.eqP 49) hn hd he rx ry fd fe (by omega)).2.2 _ _ _ _ ⟨V.bl _,H,I,rfl,q⟩
end
def DivOk (j:Int):Prop:=j ≠ 0∧j.natAbs.log2 < 9000
section
variable {X:Cx}
def rAddU (K:PySem.W.Frag):R2:=fun x y H Q => match x,y with
 | .int i, .int j => Q (.int (i + j)) H
 | .str i, .str j => i.length + j.length ≤ sizeLine∧Q (.str (i ++ j)) H
 | .ref a, .ref b => rCat (.ref a) (.ref b) H Q ∨ rCatT K (.ref a) (.ref b) H Q
 | _,_ => False
theorem JaH:OpR X (binaryOp .Add) (rAddU X.K):=fun pins s σ H x y v u Q I rx ry q => by
 unfold rAddU at q
 split at q
 ·exact JiD pins s σ H _ _ v u Q I rx ry ⟨_,_,rfl,rfl,q⟩
 ·exact Jfy pins s σ H _ _ v u Q I rx ry ⟨_,_,rfl,rfl,q.1,q.2⟩
 ·rcases q with q | q
  ·exact JiE pins s σ H _ _ v u Q I rx ry q
  ·exact JhW pins s σ H _ _ v u Q I rx ry q
 ·exact q.elim
def rMulU:R2:=fun x y H Q => match x,y with
 | .int i, .int j => IntMulOk i j∧Q (.int (i * j)) H
 | _,_ => False
theorem JhY:OpR X (binaryOp .Mult) (rI IntMulOk fun i j => .int (i * j)):=opI fun _ _ _ _ _ _ _ hc q => mul_int q hc
theorem JhZ:OpR X (binaryOp .Mult) rMulU:=fun pins s σ H x y v u Q I rx ry q => by
 unfold rMulU at q
 split at q
 ·exact JhY pins s σ H _ _ v u Q I rx ry ⟨_,_,rfl,rfl,q.1,q.2⟩
 ·exact q.elim
def Jgp:R2:=fun x y H Q => match x,y with
 | .int i, .int j => DivOk j∧Q (.int (i.fdiv j)) H
 | _,_ => False
theorem Jg0:OpR X (binaryOp .FloorDiv) (rI (fun _ j => DivOk j) fun i j => .int (i.fdiv j)):=opI fun _ _ _ _ _ _ _ hc q => floordiv_int hc.1 q (.inl (PyProof.noPylong_of_log2 hc.2))
theorem Jas:OpR X (binaryOp .FloorDiv) Jgp:=fun pins s σ H x y v u Q I rx ry q => by
 unfold Jgp at q
 split at q
 ·exact Jg0 pins s σ H _ _ v u Q I rx ry ⟨_,_,rfl,rfl,q.1,q.2⟩
 ·exact q.elim
def rModU:R2:=fun x y H Q => match x,y with
 | .int i, .int j => j ≠ 0∧Q (.int (i.fmod j)) H
 | _,_ => False
theorem Jan:OpR X (binaryOp .Mod) rModU:=fun pins s σ H x y v u Q I rx ry q => by
 unfold rModU at q
 split at q
 ·exact JhX pins s σ H _ _ v u Q I rx ry ⟨_,_,rfl,rfl,q.1,q.2⟩
 ·exact q.elim
def rPowU:R2:=fun x y H Q => match x,y with
 | .int i, .int j => CPow i j∧Q (.int (i ^ j.toNat)) H
 | _,_ => False
theorem JeD:OpR X (binaryOp .Pow) rPowU:=fun pins s σ H x y v u Q I rx ry q => by
 unfold rPowU at q
 split at q
 ·exact JiH pins s σ H _ _ v u Q I rx ry ⟨_,_,rfl,rfl,q.1,q.2⟩
 ·exact q.elim
def rCmpU (p:Int→Int→Bool):R2:=fun x y H Q => match x,y with
 | .int i, .int j => Q (.bl (p i j)) H
 | _,_ => False
theorem JeC {op:CmpOp} {p:Int→Int→Bool} (h:OpR X (compareOp op) (rI0 fun i j => .bl (p i j))):OpR X (compareOp op) (rCmpU p):=fun pins s σ H x y v u Q I rx ry q => by
 unfold rCmpU at q
 split at q
 ·exact h pins s σ H _ _ v u Q I rx ry ⟨_,_,rfl,rfl,q⟩
 ·exact q.elim
theorem Jge:OpR X (compareOp .Lt) (rCmpU fun i j => decide (i < j)):=JeC op_lt
theorem Jhl:OpR X (compareOp .Gt) (rCmpU fun i j => decide (j < i)):=JeC op_gt
theorem Jhk:OpR X (compareOp .GtE) (rCmpU fun i j => decide (j ≤ i)):=JeC op_ge
def SqA (K:PySem.W.Frag) (H:Hp) (a:Addr) (xs:List V):Prop:=SqL K H a xs ∨ SqT K H a xs
def rIxU (K:PySem.W.Frag):R2:=fun x y H Q => match x,y with
 | .ref p, .int i => ∃ xs v,SqA K H p xs∧atI xs i = some v∧Q v H
 | .str z, .int i => ∃ c,z.length ≤ sizeLine∧atI z.cps.toList i = some c∧Q (.str ⟨#[c]⟩) H
 | _,_ => False
theorem ix_U:IxR X (rIxU X.K):=fun value slice pins s σ H x y v u Q I rx ry q hs => by
 unfold rIxU at q
 split at q
 ·obtain ⟨xs,w,h | h,e,q⟩:=q
  ·exact JhS value slice pins s σ H _ _ v u Q I rx ry ⟨_,_,_,_,rfl,rfl,h,e,q⟩ hs
  ·exact Jiu value slice pins s σ H _ _ v u Q I rx ry ⟨_,_,_,_,rfl,rfl,h,e,q⟩ hs
 ·obtain ⟨c,h1,h2,q⟩:=q
  exact Jit value slice pins s σ H _ _ v u Q I rx ry ⟨_,_,_,rfl,rfl,h1,h2,q⟩ hs
 ·exact q.elim
def rLen (K:PySem.W.Frag):List V→Hp→VK→Prop:=fun xs H Q => match xs with
 | [.ref p] => ∃ ys,SqA K H p ys∧Q (.int ys.length) H
 | [.str z] => z.length ≤ sizeLine∧Q (.int z.length) H
 | _ => False
theorem JaY:CallR X (.builtin "len") (rLen X.K):=fun pins s σ H xs us Q I r q => by
 unfold rLen at q
 split at q
 ·obtain ⟨ys,h,q⟩:=q
  exact JdZ pins s σ H _ us Q I r ⟨_,_,rfl,h,q⟩
 ·exact Jd0 pins s σ H _ us Q I r ⟨_,rfl,q.1,q.2⟩
 ·exact q.elim
def rAbs:List V→Hp→VK→Prop:=fun xs H Q => match xs with
 | [.int i] => Q (.int (if i < 0 then -i else i)) H
 | _ => False
theorem Jcf:CallR X (.builtin "abs") rAbs:=fun pins s σ H xs us Q I r q => by
 unfold rAbs at q
 split at q
 ·exact JgJ pins s σ H _ us Q I r ⟨_,rfl,q⟩
 ·exact q.elim
def rMin:List V→Hp→VK→Prop:=fun xs H Q => match xs with
 | [.int i, .int j] => Q (.int (if j < i then j else i)) H
 | _ => False
theorem JfJ (hc:X.calm = true):CallR X (.builtin "min") rMin:=fun pins s σ H xs us Q I r q => by
 unfold rMin at q
 split at q
 ·exact JfI hc pins s σ H _ us Q I r ⟨_,_,rfl,q⟩
 ·exact q.elim
def rSlU (K:PySem.W.Frag):V→Option Int→Option Int→Hp→VK→Prop:=fun x lo hi H Q => rSlL K x lo hi H Q ∨ rSlT K x lo hi H Q
theorem sl_U:SlR X (rSlU X.K):=SlR.or Jh9 JiR
def isiB (t T:String):Bool:=t == T || (t == "bool" && T == "int")
def tyN (K:PySem.W.Frag) (H:Hp) (x:V) (t:String):Prop:=match x with
 | .int _ => t = "int"
 | .str _ => t = "str"
 | .bl _ => t = "bool"
 | .non => t = "NoneType"
 | .ref a => (t = "list"∧∃ xs,SqL K H a xs) ∨ (t = "tuple"∧∃ xs,SqT K H a xs)
 | _ => False
theorem kit_b (K:PySem.W.Frag) {t T:String} (ht:t ∈ ["int", "str", "bool", "NoneType", "list", "tuple"]) (hT:T ∈ ["int", "str", "bool", "list", "tuple"]):PySem.W.kitOne K (.type t) (.type T) = some (isiB t T):=by
 simp only [List.mem_cons,List.not_mem_nil,or_false] at ht hT
 rcases ht with rfl | rfl | rfl | rfl | rfl | rfl <;> rcases hT with rfl | rfl | rfl | rfl | rfl <;> with_unfolding_all rfl
def rIsi (K:PySem.W.Frag):List V→Hp→VK→Prop:=fun xs H Q => match xs with
 | [x, .ty T] => T ∈ ["int", "str", "bool", "list", "tuple"]∧∃ t,tyN K H x t∧Q (.bl (isiB t T)) H
 | _ => False
theorem JaL:CallR X (.builtin "isinstance") (rIsi X.K):=fun pins s σ H xs us Q I r q => by
 unfold rIsi at q
 split at q
 ·rename_i x T
  obtain ⟨hT,t,ht,q⟩:=q
  obtain ⟨u,c,rfl,ru,rc⟩:=vals2 r
  obtain rfl:c = Value.type T:=rc
  have fin:∀ tk,EP X pins σ Q (.bool (isiB t T)) { s with toks:=tk }:=fun tk => ⟨V.bl _,H,I.tok tk,rfl,q⟩
  unfold tyN at ht
  split at ht
  ·subst ht; obtain ⟨_,rfl⟩:=ru; exact PySem.W.kia_one PySem.W.kitx_int I.kIn True.intro (kit_b _ (by decide) hT) (fun z => nomatch z) fin
  ·subst ht; obtain ⟨_,rfl⟩:=ru; exact PySem.W.kia_one PySem.W.kitx_str I.kIn True.intro (kit_b _ (by decide) hT) (fun z => nomatch z) fin
  ·subst ht; cases (show u = Value.bool _ from ru); exact PySem.W.kia_one PySem.W.kitx_bool I.kIn True.intro (kit_b _ (by decide) hT) (fun z => nomatch z) fin
  ·subst ht; cases (show u = Value.none from ru); exact PySem.W.kia_one PySem.W.kitx_none I.kIn True.intro (kit_b _ (by decide) hT) (fun z => nomatch z) fin
  ·rename_i a
   cases (show u = Value.ref a from ru)
   rcases ht with ⟨rfl,ys,h⟩ | ⟨rfl,ys,h⟩
   ·obtain ⟨its,_,p,_⟩:=I.list h
    obtain ⟨o,_,h1,h2,_⟩:=p
    exact PySem.W.kia_one PySem.W.kitx_list I.kIn ⟨o,h1,h2⟩ (kit_b _ (by decide) hT) (fun z => nomatch z) fin
   ·obtain ⟨its,_,p,_⟩:=I.tuple h
    obtain ⟨o,h1,h2,_⟩:=p
    exact PySem.W.kia_one PySem.W.kitx_tuple I.kIn ⟨o,h1,h2⟩ (kit_b _ (by decide) hT) (fun z => nomatch z) fin
  ·exact ht.elim
 ·exact q.elim
end
section
variable {X:Cx} {tg:Expr}
def iAny (K:PySem.W.Frag) (tl:TE):TI:=fun σ H R => tl σ H fun x H1 => ∃ a,x = .ref a∧(((∃ xs,SqL K H1 a xs)∧R (Itl K a) H1) ∨ ((∃ xs,SqT K H1 a xs)∧R (Itt K a) H1))
theorem pi_U {l:Expr} {tl:TE} (hl:PE X l tl):PI X tg l (iAny X.K tl):=fun pins s σ H R I h => by
 refine thn (hl pins s σ H _ I h) fun v s1 ⟨x,H1,I1,r1,a,ex,q⟩ => ?_
 subst ex
 cases r1
 rcases q with ⟨⟨xs,hq⟩,q⟩ | ⟨⟨xs,hq⟩,q⟩
 ·obtain ⟨its,rv,p,hz⟩:=I1.list hq
  refine wpAny_pyIter_list p.isList ?_
  refine ⟨s1.heap.objs.size,[s1.heap.objs.size],_,_,H1,rfl,I1.kept (t':=s1.toks) fun b o e => Heap.get?_push_of_some _ e,JgA a _,⟨_,Heap.get?_push_size _ rfl,rfl,rfl⟩,fun b hb => ?_,q⟩
  have e:b = s1.heap.objs.size:=by simpa using hb
  subst e
  exact I1.fpOk (Nat.le_refl _) (I1.hok.fresh (Nat.le_refl _))
 ·obtain ⟨its,rv,p,hz⟩:=I1.tuple hq
  refine wpAny_pyIter_tuple (show s1.heap.IsTuple a its.toArray from p) ?_
  refine ⟨s1.heap.objs.size,[s1.heap.objs.size],_,_,H1,rfl,I1.kept (t':=s1.toks) fun b o e => Heap.get?_push_of_some _ e,JfF a _,⟨_,Heap.get?_push_size _ rfl,rfl,rfl⟩,fun b hb => ?_,q⟩
  have e:b = s1.heap.objs.size:=by simpa using hb
  subst e
  exact I1.fpOk (Nat.le_refl _) (I1.hok.fresh (Nat.le_refl _))
theorem JhO {K:PySem.W.Frag} {a:Addr} {xs:List V} {g:TG} {tb:TS} {D:Ends} {σ : St} {H:Hp} (hA:SqA K H a xs) (Pv:Nat→St→Hp→Prop) (h0:Pv 0 σ H) (hl:∀ i σ H',i ≤ xs.length→Pv i σ H'→Same H H')
  (hs:∀ i x σ H,xs[i]? = some x→Pv i σ H→g x σ H fun σ2 H2 => tb { D with nx:=Pv (i + 1),ct:=Pv (i + 1),bk:=D.nx } σ2 H2) (hd:∀ σ H,Pv xs.length σ H→D.nx σ H) :
  ((∃ xs,SqL K H a xs)∧∃ W:Nat→Nat→St→Hp→Prop,(∃ m,W 0 m σ H)∧∀ i m σ H,W i m σ H →
   ((Itl K a).stop i H∧D.nx σ H) ∨ ((Itl K a).go i H∧∃ N:St→Hp→Prop,(∀ σ' H',N σ' H'→∃ m',m' < m∧W (i + 1) m' σ' H')∧∀ x H',(Itl K a).yld i H x H'→g x σ H' fun σ2 H2 => tb { D with nx:=N,ct:=N,bk:=D.nx } σ2 H2)) ∨
  ((∃ xs,SqT K H a xs)∧∃ W:Nat→Nat→St→Hp→Prop,(∃ m,W 0 m σ H)∧∀ i m σ H,W i m σ H →
   ((Itt K a).stop i H∧D.nx σ H) ∨ ((Itt K a).go i H∧∃ N:St→Hp→Prop,(∀ σ' H',N σ' H'→∃ m',m' < m∧W (i + 1) m' σ' H')∧∀ x H',(Itt K a).yld i H x H'→g x σ H' fun σ2 H2 => tb { D with nx:=N,ct:=N,bk:=D.nx } σ2 H2)):=by
 rcases hA with hA | hA
 ·exact .inl ⟨⟨xs,hA⟩,JgP (xs:=xs) Pv h0 (fun i σ H' hi hp => hA.same (hl i σ H' hi hp)) hs hd⟩
 ·exact .inr ⟨⟨xs,hA⟩,JhP (xs:=xs) Pv h0 (fun i σ H' hi hp => hA.same (hl i σ H' hi hp)) hs hd⟩
end
structure FunD (K:PySem.W.Frag) (x qual:Str) (st:Stmt) (dV:Value) (f:Addr) (fd:FuncData):Prop where
 ex:∃ (oc:Value) (od:Option Addr) (kV doc pm:Value) (an:Option Addr) (cdv ct:Value) (osl:Array (Option Value)),
  fd = PySem.W.fnOf x qual (Jap st) (Jal st) (Jaf st) dV kV doc pm an cdv ct∧K.lookup f = some ⟨oc,od, .func fd,osl⟩∧PySem.W.codeIn K cdv qual = true
 kp:PySem.W.keepIn K (.ref f) = true
section
variable {P:Program} {w:World} {K:PySem.W.Frag} {mg:Str→Option Value} {base:Heap}
theorem FunD.okn {x qual:Str} {st:Stmt} {dV:Value} {f:Addr} {fd:FuncData} {N ps:List Str} {k:Nat} {sp:Sp} (F:FunD K x qual st dV f fd) (S:Jaq N ps (Jaf st)) (len:∀ vs H Q E,sp vs H Q E→vs.length = ps.length)
  (hbody:∀ (cdv:Value) (A:Around) (outer:List Env) (s:Shared) (H:Hp) (vs:List V) (Q:VK) (E:XK),Room k (A.deeper (envOfC qual (Jaf st) s.heap.objs.size f cdv))→sp vs H Q E →
   ∃ t,PSs (cxOf (CX1 P w) P w K mg base N qual (Jaf st) f cdv A outer s H E).nox (Jal st) t∧t { nx:=fun _ H' => Q .non H',rt:=Q } (start N vs) H):FnOk P w K mg base (CX1 P w) (k + 1) f fd ps sp:=by
 obtain ⟨oc,od,kV,doc,pm,an,cdv,ct,osl,rfl,lk,hcd⟩:=F.ex
 refine fn_of lk hcd S len fun A outer s H vs Q E hr hsp => ?_
 obtain ⟨t,h,q⟩:=hbody cdv A outer s H vs Q E hr hsp
 exact ⟨t,h.nox,q⟩
theorem FunD.okx {x qual:Str} {st:Stmt} {dV:Value} {f:Addr} {fd:FuncData} {N ps:List Str} {k:Nat} {sp:Sp} (F:FunD K x qual st dV f fd) (S:Jaq N ps (Jaf st)) (len:∀ vs H Q E,sp vs H Q E→vs.length = ps.length)
  (hbody:∀ (cdv:Value) (A:Around) (outer:List Env) (s:Shared) (H:Hp) (vs:List V) (Q:VK) (E:XK),Room k (A.deeper (envOfC qual (Jaf st) s.heap.objs.size f cdv))→sp vs H Q E →
   ∃ t,PSs (cxOf (CX1 P w) P w K mg base N qual (Jaf st) f cdv A outer s H E) (Jal st) t∧t { nx:=fun _ H' => Q .non H',rt:=Q } (start N vs) H):FnOk P w K mg base (CX1 P w) (k + 1) f fd ps sp:=by
 obtain ⟨oc,od,kV,doc,pm,an,cdv,ct,osl,rfl,lk,hcd⟩:=F.ex
 exact fn_of lk hcd S len fun A outer s H vs Q E hr hsp => hbody cdv A outer s H vs Q E hr hsp
theorem FunD.binds {x qual:Str} {st:Stmt} {dV:Value} {f:Addr} {fd:FuncData} {ps:List Str} (F:FunD K x qual st dV f fd)
  (h:∀ (kV doc pm:Value) (an:Option Addr) (cdv ct:Value) (us:List Value),us.length = ps.length→bindArgs (PySem.W.fnOf x qual (Jap st) (Jal st) (Jaf st) dV kV doc pm an cdv ct) ⟨us,[]⟩ = pure (ps.zip us)):Binds K fd ps []:=by
 obtain ⟨oc,od,kV,doc,pm,an,cdv,ct,osl,rfl,lk,hcd⟩:=F.ex
 exact .all (h kV doc pm an cdv ct)
theorem Jat {x qual:Str} {st:Stmt} {dV:Value} {f:Addr} {oc:Value} {od an:Option Addr} {osl:Array (Option Value)} {kV doc pm cdv ct:Value} (l:K.lookup f = some ⟨oc,od, .func (PySem.W.fnOf x qual (Jap st) (Jal st) (Jaf st) dV kV doc pm an cdv ct),osl⟩)
  (c:PySem.W.codeIn K cdv qual = true) (k:PySem.W.keepIn K (.ref f) = true):FunD K x qual st dV f (PySem.W.fnOf x qual (Jap st) (Jal st) (Jaf st) dV kV doc pm an cdv ct):=⟨⟨oc,od,kV,doc,pm,an,cdv,ct,osl,rfl,l,c⟩,k⟩
end
structure Cal (P:Program) (w:World) (K:PySem.W.Frag) (mg:Str→Option Value) (base:Heap) (k:Nat) (x:Str) (ps:List Str) (dvs:List V) (sp:Sp):Prop where
 ex:∃ (f:Addr) (fd:FuncData) (ds:List Value),FnOk P w K mg base (CX1 P w) k f fd ps sp∧mg x = some (.ref f)∧PySem.W.keepIn K (.ref f) = true∧Binds K fd ps ds∧Vals dvs ds
section
variable {X:Cx} {k k':Nat} {x:Str} {ps:List Str} {dvs:List V} {sp:Sp} {E:XK} {p pos:Pos} {e:Expr} {es:List Expr} {t:TA}
theorem Cal.ev (G:Cal X.prog X.w X.K X.mg X.base k x ps dvs sp) (hr:Room k' X.A) (hk:k ≤ k') (hg:Gl X x) (hx:Jbo (CX1 X.prog X.w) X E) (ha:PA X (e :: es) t)
  (hdb:(x == ("__debug__" : Str)) = false:=by decide) (he:starEach (e :: es) X.env = (false,eval e X.env) :: starEach es X.env:=by rfl) (hpl:(backTo pos (starEach es X.env)).any (·.1) = false:=by rfl) :
  PE X (.Call (.Name x p) (e :: es) [] pos) (tCall sp dvs E t):=by
 obtain ⟨f,fd,ds,F,hm,kp,hb,hd⟩:=G.ex
 exact Jh1 F (hr.mono hk) hg hm kp hb hd hx ha hdb he hpl
theorem Cal.ev0 (G:Cal X.prog X.w X.K X.mg X.base k x ps dvs sp) (hr:Room k' X.A) (hk:k ≤ k') (hg:Gl X x) (hx:Jbo (CX1 X.prog X.w) X E) (hdb:(x == ("__debug__" : Str)) = false:=by decide) :
  PE X (.Call (.Name x p) [] [] pos) (tCall sp dvs E tNil):=by
 obtain ⟨f,fd,ds,F,hm,kp,hb,hd⟩:=G.ex
 exact Jg1 F (hr.mono hk) hg hm kp hb hd hx hdb
theorem Cal.tr (G:Cal X.prog X.w X.K X.mg X.base k x ps dvs sp) (hr:Room k' X.A) (hk:k ≤ k') (hg:Gl X x) (ha:PA X.nox (e :: es) t)
  (hdb:(x == ("__debug__" : Str)) = false:=by decide) (he:starEach (e :: es) X.env = (false,eval e X.env) :: starEach es X.env:=by rfl) (hpl:(backTo pos (starEach es X.env)).any (·.1) = false:=by rfl) :
  PEx X (.Call (.Name x p) (e :: es) [] pos) (xCall sp dvs t):=by
 obtain ⟨f,fd,ds,F,hm,kp,hb,hd⟩:=G.ex
 exact Jg4 F (hr.mono hk) hg hm kp hb hd ha hdb he hpl
end
end L2
namespace Mth
def g (a b:Int):Int:=(Int.gcd a b:Nat)
theorem Jhi (a:Int):g a 0 = (a.natAbs:Int):=by unfold g; rw [Int.gcd_zero_right]
theorem g_pos {a b:Int} (h:b ≠ 0):0 < g a b:=by
 unfold g
 exact Int.natCast_pos.mpr (Int.gcd_pos_of_ne_zero_right a h)
theorem Jhg (a b:Int):g a b ∣ a:=Int.gcd_dvd_left ..
theorem Jhh (a b:Int):g a b ∣ b:=Int.gcd_dvd_right ..
theorem Jiq (a b:Int):g b (a % b) = g a b:=by
 unfold g
 rw [Int.gcd_comm b (a % b)]
 first
  | rw [Int.gcd_emod_left]
  | (rw [Int.emod_def]; simp [Int.gcd_comm])
theorem Bc5 (a b:Int):g (if a < 0 then -a else a) (if b < 0 then -b else b) = g a b:=by
 unfold g
 split <;> split <;> simp [Int.neg_gcd,Int.gcd_neg]
theorem Jhc (a:Int):0 ≤ (if a < 0 then -a else a):=by split <;> omega
theorem g_le {a b:Int} (h:b ≠ 0):g a b ≤ (b.natAbs:Int):=by
 unfold g
 exact Int.ofNat_le.mpr (Nat.le_of_dvd (by omega) (Int.natAbs_dvd_natAbs.mpr (by simpa using Int.gcd_dvd_right (a:=a) (b:=b)) |> fun z => by simpa using z))
theorem fm {x y:Int} (h:0 < y):0 ≤ x.fmod y∧x.fmod y < y:=by
 rw [Int.fmod_eq_emod_of_nonneg _ (by omega)]
 exact ⟨Int.emod_nonneg _ (by omega),Int.emod_lt_of_pos _ h⟩
theorem JfV {x y:Int} (h:0 < y):g y (x.fmod y) = g x y:=by
 rw [Int.fmod_eq_emod_of_nonneg _ (by omega)]
 exact Jiq x y
def by_ (t b:Int):Int:=if b < 0 then -(g t b) else g t b
def top (t b:Int):Int:=t.fdiv (by_ t b)
def bot (t b:Int):Int:=b.fdiv (by_ t b)
theorem by_ne {t b:Int} (h:b ≠ 0):by_ t b ≠ 0:=by
 have:=g_pos (a:=t) h
 unfold by_; split <;> omega
theorem JhF (t b:Int):by_ t b ∣ t:=by
 unfold by_; split
 ·exact Int.neg_dvd.mpr (Jhg t b)
 ·exact Jhg t b
theorem JhG (t b:Int):by_ t b ∣ b:=by
 unfold by_; split
 ·exact Int.neg_dvd.mpr (Jhh t b)
 ·exact Jhh t b
theorem JcI {a d:Int} (h:d ∣ a) (hd:d ≠ 0):a.fdiv d * d = a:=by
 obtain ⟨k,rfl⟩:=h
 rw [Int.mul_comm d k,Int.mul_fdiv_cancel _ hd]
theorem JeM {t b:Int} (h:b ≠ 0):top t b * by_ t b = t:=JcI (JhF t b) (by_ne h)
theorem Jep {t b:Int} (h:b ≠ 0):bot t b * by_ t b = b:=JcI (JhG t b) (by_ne h)
theorem JhD {t b:Int} (h:b ≠ 0):1 ≤ bot t b:=by
 have h1:=Jep (t:=t) h
 have h2:=g_pos (a:=t) h
 by_cases hb:b < 0
 ·have e:by_ t b = -(g t b):=by unfold by_; rw [if_pos hb]
  rw [e] at h1
  have h3:bot t b * g t b = -b:=by rw [Int.mul_neg] at h1; omega
  rcases Int.lt_trichotomy (bot t b) 0 with z | z | z
  ·have:=Int.mul_neg_of_neg_of_pos z h2; omega
  ·rw [z] at h3; omega
  ·omega
 ·have e:by_ t b = g t b:=by unfold by_; rw [if_neg hb]
  rw [e] at h1
  rcases Int.lt_trichotomy (bot t b) 0 with z | z | z
  ·have:=Int.mul_neg_of_neg_of_pos z h2; omega
  ·rw [z] at h1; omega
  ·omega
theorem Jf4 (t b:Int):(by_ t b).natAbs = Int.gcd t b:=by
 unfold by_ g; split <;> simp
theorem g_low {t b:Int} (h:b ≠ 0):g (top t b) (bot t b) = 1:=by
 have hg:0 < Int.gcd t b:=Int.gcd_pos_of_ne_zero_right t h
 have e:Int.gcd (top t b * by_ t b) (bot t b * by_ t b) = Int.gcd (top t b) (bot t b) * (by_ t b).natAbs:=Int.gcd_mul_right ..
 rw [JeM h,Jep h,Jf4] at e
 have : Int.gcd (top t b) (bot t b) = 1:=by
  rcases Nat.lt_trichotomy (Int.gcd (top t b) (bot t b)) 1 with z | z | z
  ·have : Int.gcd (top t b) (bot t b) = 0:=by omega
   rw [this] at e; omega
  ·exact z
  ·have:=Nat.mul_le_mul_right (Int.gcd t b) z
   omega
 unfold g; rw [this]; rfl
theorem JiX {t b:Int} (h:b ≠ 0):(top t b).natAbs ≤ t.natAbs:=by
 have h1:=JeM (t:=t) h
 have h2:(by_ t b).natAbs ≠ 0:=by have:=by_ne (t:=t) h; omega
 have h3:=congrArg Int.natAbs h1
 rw [Int.natAbs_mul] at h3
 rw [← h3]
 exact Nat.le_mul_of_pos_right _ (by omega)
theorem bot_le {t b:Int} (h:b ≠ 0):(bot t b).natAbs ≤ b.natAbs:=by
 have h1:=Jep (t:=t) h
 have h2:(by_ t b).natAbs ≠ 0:=by have:=by_ne (t:=t) h; omega
 have h3:=congrArg Int.natAbs h1
 rw [Int.natAbs_mul] at h3
 calc (bot t b).natAbs ≤ (bot t b).natAbs * (by_ t b).natAbs:=Nat.le_mul_of_pos_right _ (by omega)
  _ = b.natAbs:=h3
theorem JhU {n k:Nat} (h:n < 2 ^ k) (hk:k < 9000):n.log2 < 9000:=by
 by_cases z:n = 0
 ·rw [z]; decide
 ·exact Nat.lt_trans ((Nat.log2_lt z).mpr h) hk
def Sz (n:Nat) (i:Int):Prop:=i.natAbs < 2 ^ n
theorem Sz.mono {m n:Nat} {i:Int} (h:Sz m i) (k:m ≤ n):Sz n i:=Nat.lt_of_lt_of_le h (Nat.pow_le_pow_right (by decide) k)
theorem Sz.mul {m n:Nat} {i j:Int} (h:Sz m i) (k:Sz n j):Sz (m + n) (i * j):=by
 unfold Sz at *
 rw [Int.natAbs_mul,Nat.pow_add]
 exact Nat.mul_lt_mul'' h k
theorem Sz.add {n:Nat} {i j:Int} (h:Sz n i) (k:Sz n j):Sz (n + 1) (i + j):=by
 unfold Sz at *
 have:=Int.natAbs_add_le i j
 rw [Nat.pow_succ]
 omega
theorem Sz.top {n:Nat} {t b:Int} (hb:b ≠ 0) (h:Sz n t):Sz n (Mth.top t b):=Nat.lt_of_le_of_lt (JiX hb) h
theorem Sz.bot {n:Nat} {t b:Int} (hb:b ≠ 0) (h:Sz n b):Sz n (Mth.bot t b):=Nat.lt_of_le_of_lt (bot_le hb) h
theorem Sz.lit {n:Nat} {i:Int} (h1 : -(2 ^ n) < i) (h2:i < 2 ^ n):Sz n i:=by
 unfold Sz
 have e:((2 ^ n:Nat):Int) = 2 ^ n:=by simp
 omega
end Mth
namespace Mth
theorem JgR {a b:Int} (h:g a b = 1):Int.gcd a b = 1:=by unfold g at h; omega
theorem JgQ {a b:Int} (h:Int.gcd a b = 1):g a b = 1:=by unfold g; rw [h]; rfl
theorem Jfi {x y:Int} (h:∀ k:Int,k ∣ x→k ∣ y→k ∣ 1):Int.gcd x y = 1:=by
 have:=h (Int.gcd x y:Nat) (Int.gcd_dvd_left ..) (Int.gcd_dvd_right ..)
 have z:=Int.natAbs_dvd_natAbs.mpr this
 simp at z
 exact z
theorem Jfj {k x y:Int} (h:Int.gcd x y = 1) (h1:k ∣ x) (h2:k ∣ y):k ∣ 1:=by
 have z:=Int.dvd_coe_gcd h1 h2
 rw [h] at z
 exact z
theorem JhN {a d:Int} (h:d ∣ a) (hd:1 ≤ d):(a.fdiv d).natAbs ≤ a.natAbs:=by
 have e:=congrArg Int.natAbs (JcI h (show d ≠ 0 by omega))
 rw [Int.natAbs_mul] at e
 calc (a.fdiv d).natAbs ≤ (a.fdiv d).natAbs * d.natAbs:=Nat.le_mul_of_pos_right _ (by omega)
  _ = a.natAbs:=e
end Mth
namespace Mth
end Mth
namespace L2
open PySem PySem.Spec PyProof.Rows
section
variable {D:Ends} {σ : St} {H:Hp} {Q:VK} {t u:TS} {ta tb te:TE} {g:TG} {tA:TA} {r:R2} {E:XK} {sp:Sp} {K:PySem.W.Frag}
theorem y81y:tSeq t u D σ H = t { D with nx:=u D } σ H:=rfl
theorem y70y:tNext D σ H = D.nx σ H:=rfl
theorem y2by:tAsg te g D σ H = te σ H fun x H1 => g x σ H1 D.nx:=rfl
theorem y6by {i:Nat} {v:V} {R:St→Hp→Prop}:gName i v σ H R = R (σ.set i (some v)) H:=rfl
theorem y7ey:tRet te D σ H = te σ H D.rt:=rfl
theorem y7fy:tRetN D σ H = D.rt .non H:=rfl
theorem y45y:tDrop te D σ H = te σ H fun _ H1 => D.nx σ H1:=rfl
theorem y2ey {v:V}:tC v σ H Q = Q v H:=rfl
theorem y77y:tOp r ta tb σ H Q = ta σ H fun x H1 => tb σ H1 fun y H2 => r x y H2 Q:=rfl
theorem y8ey {f:V→Hp→VK→Prop}:tUn f ta σ H Q = ta σ H fun x H1 => f x H1 Q:=rfl
theorem y30y {f:List V→Hp→VK→Prop}:tCB f tA σ H Q = tA σ H fun vs H1 => f vs H1 Q:=rfl
theorem y3ay {R:List V→Hp→Prop}:tCons ta tA σ H R = ta σ H fun x H1 => tA σ H1 fun xs H2 => R (x :: xs) H2:=rfl
theorem y71y {R:List V→Hp→Prop}:tNil σ H R = R [] H:=rfl
theorem y2fy {dvs:List V}:tCall sp dvs E tA σ H Q = tA σ H fun vs H1 => sp (vs ++ dvs) H1 Q E:=rfl
theorem y86y {R:Bool→Hp→Prop}:tTest te σ H R = te σ H fun x H' => ∃ k,x = .bl k∧R k H':=rfl
theorem y23y {R:Bool→Hp→Prop}:tB te σ H R = te σ H fun x H' => ∃ k,x = .bl k∧R k H':=rfl
theorem y29y {a b:TT} {R:Bool→Hp→Prop}:tAnd a b σ H R = a σ H fun c H1 => if c = true then b σ H1 R else R false H1:=rfl
theorem y78y {a b:TT} {R:Bool→Hp→Prop}:tOr a b σ H R = a σ H fun c H1 => if c = true then R true H1 else b σ H1 R:=rfl
theorem y73y {a:TT} {R:Bool→Hp→Prop}:tNot a σ H R = a σ H fun c H1 => R (!c) H1:=rfl
theorem y2ay:tAndV ta tb σ H Q = ta σ H fun x H1 => ∃ c,x = .bl c∧if c = true then tb σ H1 Q else Q (.bl false) H1:=rfl
theorem y79y:tOrV ta tb σ H Q = ta σ H fun x H1 => ∃ c,x = .bl c∧if c = true then Q (.bl true) H1 else tb σ H1 Q:=rfl
theorem y75y:tNotV ta σ H Q = ta σ H fun x H1 => ∃ c,x = .bl c∧Q (.bl (!c)) H1:=rfl
theorem y59y {c:TT}:tIfS c t u D σ H = c σ H fun b H1 => if b = true then t D σ H1 else u D σ H1:=rfl
theorem y90y {i:Nat}:tVar i σ H Q = ∃ v, σ[i]? = some (some v)∧Q v H:=rfl
theorem y26y {i j:Int}:rAddU K (.int i) (.int j) H Q = Q (.int (i + j)) H:=rfl
theorem y27y {i j:Str}:rAddU K (.str i) (.str j) H Q = (i.length + j.length ≤ sizeLine∧Q (.str (i ++ j)) H):=rfl
theorem y85y {f:Int→Int→V} {i j:Int}:rI0 f (.int i) (.int j) H Q = Q (f i j) H:=by
 unfold rI0; simp
theorem y6fy {f:Int→V} {i:Int}:rU f (.int i) H Q = Q (f i) H:=by
 unfold rU; simp
theorem y68y {i j:Int}:rMulU (.int i) (.int j) H Q = (IntMulOk i j∧Q (.int (i * j)) H):=rfl
theorem y4ay {i j:Int}:Jgp (.int i) (.int j) H Q = (DivOk j∧Q (.int (i.fdiv j)) H):=rfl
theorem y67y {i j:Int}:rModU (.int i) (.int j) H Q = (j ≠ 0∧Q (.int (i.fmod j)) H):=rfl
theorem y7cy {i j:Int}:rPowU (.int i) (.int j) H Q = (CPow i j∧Q (.int (i ^ j.toNat)) H):=rfl
theorem y33y {p:Int→Int→Bool} {i j:Int}:rCmpU p (.int i) (.int j) H Q = Q (.bl (p i j)) H:=rfl
theorem y48y {i j:Int}:rEqU K (.int i) (.int j) H Q = Q (.bl (decide (i = j))) H:=rfl
theorem y6dy {i j:Int}:rNeU K (.int i) (.int j) H Q = Q (.bl (!decide (i = j))) H:=rfl
theorem y49y {i j:Str}:rEqU K (.str i) (.str j) H Q = Q (.bl (decide (i = j))) H:=rfl
theorem y6ey {i j:Str}:rNeU K (.str i) (.str j) H Q = Q (.bl (!decide (i = j))) H:=rfl
theorem y47y {i j:Bool}:rEqU K (.bl i) (.bl j) H Q = Q (.bl (decide (i = j))) H:=rfl
theorem y6cy {i j:Bool}:rNeU K (.bl i) (.bl j) H Q = Q (.bl (!decide (i = j))) H:=rfl
theorem y89y:tTup tA σ H Q = tA σ H fun xs H1 => xs.length ≤ sizeLine∧∀ p,H1 p = none→Q (.ref p) (upd H1 p (.tup xs)):=rfl
theorem y63y:tLst tA σ H Q = tA σ H fun xs H1 => xs.length ≤ sizeLine∧∀ p,H1 p = none→Q (.ref p) (upd H1 p (.lst xs)):=rfl
theorem y5fy {x:V} {T:String}:rIsi K [x, .ty T] H Q = (T ∈ ["int", "str", "bool", "list", "tuple"]∧∃ t,tyN K H x t∧Q (.bl (isiB t T)) H):=rfl
theorem y25y {i:Int}:rAbs [.int i] H Q = Q (.int (if i < 0 then -i else i)) H:=rfl
theorem y66y {i j:Int}:rMin [.int i, .int j] H Q = Q (.int (if j < i then j else i)) H:=rfl
theorem y8by {i:Int} {s:String}:tyN K H (.int i) s = (s = "int"):=rfl
theorem y8dy {i:Str} {s:String}:tyN K H (.str i) s = (s = "str"):=rfl
theorem y8ay {i:Bool} {s:String}:tyN K H (.bl i) s = (s = "bool"):=rfl
theorem y8cy {s:String}:tyN K H .non s = (s = "NoneType"):=rfl
end
theorem JeT:bootBuiltins "abs" = some (.builtin "abs"):=by decide +kernel
theorem JbZ:bootBuiltins "len" = some (.builtin "len"):=by decide +kernel
theorem Jij:bootBuiltins "min" = some (.builtin "min"):=by decide +kernel
theorem Jaj:bootBuiltins "isinstance" = some (.builtin "isinstance"):=by decide +kernel
theorem Jih:bootBuiltins "all" = some (.builtin "all"):=by decide +kernel
theorem Jii:bootBuiltins "int" = some (.type "int"):=by decide +kernel
theorem Jik:bootBuiltins "str" = some (.type "str"):=by decide +kernel
theorem JhE:bootBuiltins "bool" = some (.type "bool"):=by decide +kernel
theorem Jdr:bootBuiltins "list" = some (.type "list"):=by decide +kernel
theorem Jds:bootBuiltins "tuple" = some (.type "tuple"):=by decide +kernel
theorem JgI:bootBuiltins "range" = some (.type "range"):=by decide +kernel
theorem Jdq:bootBuiltins "ValueError" = some (.type "ValueError"):=by decide +kernel
theorem yby:isiB "int" "int" = true:=by decide
theorem ydy:isiB "int" "str" = false:=by decide
theorem yay:isiB "int" "bool" = false:=by decide
theorem ycy:isiB "int" "list" = false:=by decide
theorem yey:isiB "int" "tuple" = false:=by decide
theorem y15y:isiB "str" "int" = false:=by decide
theorem y17y:isiB "str" "str" = true:=by decide
theorem y14y:isiB "str" "bool" = false:=by decide
theorem y16y:isiB "str" "list" = false:=by decide
theorem y18y:isiB "str" "tuple" = false:=by decide
theorem y6y:isiB "bool" "int" = true:=by decide
theorem y8y:isiB "bool" "str" = false:=by decide
theorem y5y:isiB "bool" "bool" = true:=by decide
theorem y7y:isiB "bool" "list" = false:=by decide
theorem y9y:isiB "bool" "tuple" = false:=by decide
theorem y1y:isiB "NoneType" "int" = false:=by decide
theorem y3y:isiB "NoneType" "str" = false:=by decide
theorem y0y:isiB "NoneType" "bool" = false:=by decide
theorem y2y:isiB "NoneType" "list" = false:=by decide
theorem y4y:isiB "NoneType" "tuple" = false:=by decide
theorem y10y:isiB "list" "int" = false:=by decide
theorem y12y:isiB "list" "str" = false:=by decide
theorem yfy:isiB "list" "bool" = false:=by decide
theorem y11y:isiB "list" "list" = true:=by decide
theorem y13y:isiB "list" "tuple" = false:=by decide
theorem y1ay:isiB "tuple" "int" = false:=by decide
theorem y1cy:isiB "tuple" "str" = false:=by decide
theorem y19y:isiB "tuple" "bool" = false:=by decide
theorem y1by:isiB "tuple" "list" = false:=by decide
theorem y1dy:isiB "tuple" "tuple" = true:=by decide
theorem y1fy:("int" ∈ ["int", "str", "bool", "list", "tuple"]) = True:=by simp
theorem y21y:("str" ∈ ["int", "str", "bool", "list", "tuple"]) = True:=by simp
theorem y1ey:("bool" ∈ ["int", "str", "bool", "list", "tuple"]) = True:=by simp
theorem y20y:("list" ∈ ["int", "str", "bool", "list", "tuple"]) = True:=by simp
theorem y22y:("tuple" ∈ ["int", "str", "bool", "list", "tuple"]) = True:=by simp
theorem y24y {CX:CXT} {P:Program} {w:World} {K:PySem.W.Frag} {mg:Str→Option Value} {base:Heap} {N:List Str} {qual:Str} {scope:Scope} {f:Addr} {cd:Value} {A:Around} {outer:List Env} {s:Shared} {H:Hp} {E:XK}:(cxOf CX P w K mg base N qual scope f cd A outer s H E).K = K:=rfl
def ForR (lo:Int) (n:Nat) (g:TG) (tb:TS) (D:Ends) (σ : St) (H:Hp):Prop:=∃ W:Nat→Nat→St→Hp→Prop,(∃ m,W 0 m σ H)∧∀ i m σ H,W i m σ H →
 ((Itr lo n).stop i H∧D.nx σ H) ∨ ((Itr lo n).go i H∧∃ N:St→Hp→Prop,(∀ σ' H',N σ' H'→∃ m',m' < m∧W (i + 1) m' σ' H')∧∀ x H',(Itr lo n).yld i H x H'→g x σ H' fun σ2 H2 => tb { D with nx:=N,ct:=N,bk:=D.nx } σ2 H2)
def ForA (K:PySem.W.Frag) (a:Addr) (g:TG) (tb:TS) (D:Ends) (σ : St) (H:Hp):Prop :=
 ((∃ xs,SqL K H a xs)∧∃ W:Nat→Nat→St→Hp→Prop,(∃ m,W 0 m σ H)∧∀ i m σ H,W i m σ H →
  ((Itl K a).stop i H∧D.nx σ H) ∨ ((Itl K a).go i H∧∃ N:St→Hp→Prop,(∀ σ' H',N σ' H'→∃ m',m' < m∧W (i + 1) m' σ' H')∧∀ x H',(Itl K a).yld i H x H'→g x σ H' fun σ2 H2 => tb { D with nx:=N,ct:=N,bk:=D.nx } σ2 H2)) ∨
 ((∃ xs,SqT K H a xs)∧∃ W:Nat→Nat→St→Hp→Prop,(∃ m,W 0 m σ H)∧∀ i m σ H,W i m σ H →
  ((Itt K a).stop i H∧D.nx σ H) ∨ ((Itt K a).go i H∧∃ N:St→Hp→Prop,(∀ σ' H',N σ' H'→∃ m',m' < m∧W (i + 1) m' σ' H')∧∀ x H',(Itt K a).yld i H x H'→g x σ H' fun σ2 H2 => tb { D with nx:=N,ct:=N,bk:=D.nx } σ2 H2))
theorem y4dy {ta:TA} {g:TG} {tb:TS} {D:Ends} {σ : St} {H:Hp}:tFor (iRng1 ta) g tb D σ H = ta σ H fun vs H1 => ∃ j:Int,vs = [.int j]∧-(2 ^ 62) ≤ j∧j < 2 ^ 62∧ForR 0 j.toNat g tb D σ H1:=rfl
theorem y4ey {ta:TA} {g:TG} {tb:TS} {D:Ends} {σ : St} {H:Hp}:tFor (iRng2 ta) g tb D σ H = ta σ H fun vs H1 => ∃ i j:Int,vs = [.int i, .int j]∧(-(2 ^ 62) ≤ i∧i < 2 ^ 62∧-(2 ^ 62) ≤ j∧j < 2 ^ 62)∧ForR i (j - i).toNat g tb D σ H1:=rfl
theorem y4fy {K:PySem.W.Frag} {tl:TE} {g:TG} {tb:TS} {D:Ends} {σ : St} {H:Hp}:tFor (iAny K tl) g tb D σ H = tl σ H fun x H1 => ∃ a,x = .ref a∧ForA K a g tb D σ H1:=rfl
theorem ForR.by {lo:Int} {n:Nat} {g:TG} {tb:TS} {D:Ends} {σ : St} {H:Hp} (Pv:Nat→St→Hp→Prop) (h0:Pv 0 σ H)
  (hs:∀ i σ H,i < n→Pv i σ H→g (.int (lo + i)) σ H fun σ2 H2 => tb { D with nx:=Pv (i + 1),ct:=Pv (i + 1),bk:=D.nx } σ2 H2) (hd:∀ σ H,Pv n σ H→D.nx σ H):ForR lo n g tb D σ H:=JfU Pv h0 hs hd
theorem ForA.by {K:PySem.W.Frag} {a:Addr} {xs:List V} {g:TG} {tb:TS} {D:Ends} {σ : St} {H:Hp} (hA:SqA K H a xs) (Pv:Nat→St→Hp→Prop) (h0:Pv 0 σ H) (hl:∀ i σ H',i ≤ xs.length→Pv i σ H'→Same H H')
  (hs:∀ i x σ H,xs[i]? = some x→Pv i σ H→g x σ H fun σ2 H2 => tb { D with nx:=Pv (i + 1),ct:=Pv (i + 1),bk:=D.nx } σ2 H2) (hd:∀ σ H,Pv xs.length σ H→D.nx σ H):ForA K a g tb D σ H:=JhO hA Pv h0 hl hs hd
theorem Jet {H:Hp} {o:HO} {R:V→Hp→Prop} (h:∀ p H1,Same H H1→H1 p = some o→R (.ref p) H1):∀ p,H p = none→R (.ref p) (upd H p o):=fun p hp =>
 h p _ (fun b u q => by rw [Jae (Jah q hp)]; exact q) Jak
theorem newS {H H':Hp} {p:Addr} {o:HO} (h:H p = none) (e:upd H p o = H'):Same H H':=fun b u q => by rw [← e,Jae (Jah q h)]; exact q
theorem newE {H H':Hp} {p:Addr} {o:HO} (e:upd H p o = H'):H' p = some o:=by rw [← e,Jak]
theorem Jdp {n:Nat} {i:Int} (h:Mth.Sz n i):Builtin.Int.intBits i ≤ n:=by
 unfold Builtin.Int.intBits
 split
 ·exact Nat.zero_le _
 ·rename_i z
  have : i.natAbs.log2 < n:=(Nat.log2_lt (by simpa using z)).mpr h
  omega
theorem mulOk {m n:Nat} {i j:Int} (h:Mth.Sz m i) (k:Mth.Sz n j) (hm:m ≤ 2 ^ 20:=by decide) (hn:n ≤ 2 ^ 20:=by decide):IntMulOk i j:=IntMulOk.of_bits (Nat.le_trans (Jdp h) hm) (Nat.le_trans (Jdp k) hn)
theorem Jhj {i j:Int} (h:Mth.Sz 64 j):IntMulOk i j:=IntMulOk.of_right (Jdp h)
theorem divOk {n:Nat} {j:Int} (h:j ≠ 0) (k:Mth.Sz n j) (hn:n < 9000:=by decide):DivOk j:=⟨h,Mth.JhU k hn⟩
theorem len0:([]:List V).length ≤ sizeLine:=by decide
theorem len2 {a b:V}:[a,b].length ≤ sizeLine:=by show 2 ≤ sizeLine; decide
theorem len4 {a b c d:V}:[a,b,c,d].length ≤ sizeLine:=by show 4 ≤ sizeLine; decide
theorem len5 {a b c d e:V}:[a,b,c,d,e].length ≤ sizeLine:=by show 5 ≤ sizeLine; decide
theorem Jav {j:Int} (h:decide (j ≠ 0∧j.natAbs < 2 ^ 64) = true):DivOk j:=by
 have z:=of_decide_eq_true h
 exact divOk z.1 (n:=64) z.2
theorem Jaw {i j:Int} (h:decide (j.natAbs < 2 ^ 64) = true):IntMulOk i j:=by
 have z:j.natAbs < 2 ^ 64:=of_decide_eq_true h
 exact Jhj z
theorem Jam {i j:Int} (h:decide (i.natAbs < 2 ^ 64) = true):IntMulOk i j:=by
 have z:i.natAbs < 2 ^ 64:=of_decide_eq_true h
 exact IntMulOk.of_left (Jdp (n:=64) z)
theorem Jax {i j:Int} (h:decide (0 ≤ j∧j ≤ 1000000∧i.natAbs < 2 ^ 64) = true):CPow i j:=by
 have z:0 ≤ j∧j ≤ 1000000∧i.natAbs < 2 ^ 64:=of_decide_eq_true h
 exact z
def FrV (K:PySem.W.Frag) (H:Hp) (v:V) (a b:Int):Prop:=∃ p,v = .ref p∧SqT K H p [.int a, .int b]
theorem FrV.same {K:PySem.W.Frag} {H H':Hp} {v:V} {a b:Int} (S:Same H H') (h:FrV K H v a b):FrV K H' v a b:=by
 obtain ⟨p,e,q⟩:=h
 exact ⟨p,e,q.same S⟩
theorem FrV.of {K:PySem.W.Frag} {H:Hp} {p:Addr} {a b:Int} (h:H p = some (.tup [.int a, .int b])):FrV K H (.ref p) a b:=⟨p,rfl,SqT.of h⟩
theorem ixT0 {K:PySem.W.Frag} {H:Hp} {p:Addr} {x:V} {r:List V} {Q:VK} (h:SqT K H p (x :: r)) (q:Q x H):rIxU K (.ref p) (.int 0) H Q:=⟨_,x, .inr h,Jcn (j:=0) rfl,q⟩
theorem ixT1 {K:PySem.W.Frag} {H:Hp} {p:Addr} {x y:V} {r:List V} {Q:VK} (h:SqT K H p (x :: y :: r)) (q:Q y H):rIxU K (.ref p) (.int 1) H Q:=⟨_,y, .inr h,Jcn (j:=1) rfl,q⟩
theorem ixF0 {K:PySem.W.Frag} {H:Hp} {v:V} {a b:Int} {Q:VK} (h:FrV K H v a b) (q:Q (.int a) H):rIxU K v (.int 0) H Q:=by
 obtain ⟨p,rfl,z⟩:=h
 exact ixT0 z q
theorem ixF1 {K:PySem.W.Frag} {H:Hp} {v:V} {a b:Int} {Q:VK} (h:FrV K H v a b) (q:Q (.int b) H):rIxU K v (.int 1) H Q:=by
 obtain ⟨p,rfl,z⟩:=h
 exact ixT1 z q
theorem FrV.rep {K:PySem.W.Frag} {H:Hp} {v:V} {a b:Int} (h:FrV K H v a b):Rep K H (.tup [.int a, .int b]) v:=by
 obtain ⟨p,rfl,z⟩:=h
 simp only [Rep,RepL]
 exact ⟨p,_,rfl,z,_,_,rfl,rfl,_,_,rfl,rfl,rfl⟩
theorem ixT {K:PySem.W.Frag} {H:Hp} {p:Addr} {xs:List V} {i:Nat} {v:V} {Q:VK} (h:SqT K H p xs) (e:xs[i]? = some v) (q:Q v H):rIxU K (.ref p) (.int (i:Int)) H Q:=⟨xs,v, .inr h,Jcn e,q⟩
theorem ixL {K:PySem.W.Frag} {H:Hp} {p:Addr} {xs:List V} {i:Nat} {v:V} {Q:VK} (h:SqL K H p xs) (e:xs[i]? = some v) (q:Q v H):rIxU K (.ref p) (.int (i:Int)) H Q:=⟨xs,v, .inl h,Jcn e,q⟩
end L2
namespace L2
open PySem PySem.Spec PyProof.Rows
section
open PySem.W PySem.Builtin PySem.Builtin.ObjectAttr PySem.Builtin.Getset_descriptor
variable {prog:Program} {w:World} {A:Around} {E:Value→Shared→Prop} {s:Shared} {K:Frag} {x D:Addr} {ox:Obj}
theorem JeP {M:Model} {h:Heap} (hx:h.get? x = some ox) (hc:ox.cls = .ref D):Looks M h (typeOf (.ref x)) (.ref D):=hc ▸ (Looks.ld hx).andThen .now
structure ExcC (K:PySem.W.Frag) (D:Addr):Prop where
 cl:PySem.W.hasDictIn K D = true
 ga:PySem.W.findIn K (.ref D) "__getattribute__" = some (some (.builtin "BaseException.__getattribute__"))
 gh:PySem.W.findIn K (.ref D) "__getattr__" = some none
 ca:PySem.W.findIn K (.ref D) "__class__" = some (some (.builtin "object.__class__"))
 cg:PySem.W.specialIn K (.builtin "object.__class__") "__get__" = some (some (.builtin "getset_descriptor.__get__"))
 ct:PySem.W.takesIn K (.builtin "object.__class__") = some true
 mo:PySem.W.mroIn K D (.type "object") = some true
 mb:PySem.W.mroIn K D (.type "BaseException") = some true
theorem Jie {M:Model} {h:Heap} (X:K.In h) (c:ExcC K D):Looks M h (find (.ref x) (.ref D) "__class__") (.bind (.builtin "getset_descriptor.__get__") (.builtin "object.__class__")):=by
 have L1:=looks_findIn (M:=M) X c.ca
 have L2:Looks M h (getOf (some (.builtin "object.__class__"))) (some (.builtin "getset_descriptor.__get__")):=looks_specialIn X c.cg
 have L3:=looks_takesIn (M:=M) X c.ct
 refine L1.andThen (L2.andThen ((show Looks M h (dataDescriptor? (some (.builtin "object.__class__")) (some (.builtin "getset_descriptor.__get__"))) (some (.builtin "getset_descriptor.__get__", .builtin "object.__class__")) from L3.andThen .now).andThen (Looks.tag .now)))
theorem Ji0 {tp:Value} {R:Result→Shared→Prop} (X:K.In s.heap) (hx:s.heap.get? x = some ox) (hc:ox.cls = .ref D) (c:ExcC K D) (q:R (.ok (.ret (.ref D))) s) :
  codeAny (model prog w) A (.call (.builtin "getset_descriptor.__get__") ⟨[.builtin "object.__class__", .ref x,tp],[]⟩) R s:=by
 obtain ⟨hh,gg,dw,tt,oo⟩:=s
 have T0:=JeP (M:=model prog w) hx hc
 have T1:=looks_mroIn (M:=model prog w) X c.mo
 refine codeAny_call_builtin (KF.slot_gs.plain) (KF.entry_gs) (KF.slot_gs.check _ _ _ _ _ _ _ _ (KF.type_class) (KF.args_gs _ _ _) ?_)
 (unfold Builtin.«getset_descriptor.__get__»; unfold descrGet)
 (rw [dga_obj]; refine wpAny_bind (wpAny_pure ?_))
 (unfold descrGetter; unfold descrCheckInstance; unfold descrNameAndClass; unfold isInstance)
 (simp only [KF.owner_class]; repeat lk)
 refine And.intro (Code.quiet_builtin _ (by decide +kernel)) (codeAny_builtin (KF.entry_class) ?_)
 (unfold Builtin.«object.__class__»; unfold shownTypeOf; repeat lk)
 exact q
theorem Jid {Q:Option Value→Shared→Prop} (X:K.In s.heap) (hx:s.heap.get? x = some ox) (hc:ox.cls = .ref D) (c:ExcC K D) (q:Q (some (.ref D)) { s with toks:=s.toks + 1 }) :
  wpAny (model prog w) A (getAttr? (.ref x) "__class__") Q E s:=by
 obtain ⟨hh,gg,dw,tt,oo⟩:=s
 have T0:=JeP (M:=model prog w) hx hc
 have T1:=looks_findIn (M:=model prog w) X c.ga
 have T2:=looks_findIn (M:=model prog w) X c.gh
 have T3:=Jie (M:=model prog w) (x:=x) X c
 have T4:=looks_mroIn (M:=model prog w) X c.mb
 have f3:bindSpecial (.builtin "BaseException.__getattribute__") (.ref x) = pure (.builtin "BaseException.__getattribute__",[.ref x]):=by kernel_rfl
 unfold getAttr? getAttrBy? getAttrBy
 refine wpAny_bind (wpAny_mkText (wpAny_bind (wpAny_attempt (wpAny_holding (wpAny_bind (T0.at (wpAny_bind (T1.at ?_))))))))
 have e2:(onTheHeap (Value.ref D) && Value.builtin "BaseException.__getattribute__" == Value.builtin "object.__getattribute__") = false:=Bool.and_eq_false_iff.mpr (.inr (by decide +kernel))
 show wpAny _ _ (if (onTheHeap (Value.ref D) && Value.builtin "BaseException.__getattribute__" == Value.builtin "object.__getattribute__") = true then _ else getAttrByItsOwn _ _ _ _ _ _) _ _ _
 rw [if_neg (by rw [e2]; decide)]
 unfold getAttrByItsOwn hookBefore
 refine wpAny_bind ?_
 rw [if_pos (show onTheHeap (Value.ref D) = true from rfl)]
 refine T2.at ?_
 refine wpAny_bind (wpAny_attempt (wpAny_holding ?_))
 unfold callGetattribute boundAndCalled
 rw [if_neg (by decide),f3]
 refine wpAny_bind (wpAny_pure ?_)
 refine wpAny_call (codeAny_call_builtin (by decide +kernel) F.entry_bexc_ga ?_)
 have bk:builtinKind "BaseException.__getattribute__" = some .slot:=by decide +kernel
 have bs:splitId "BaseException.__getattribute__" = some ("BaseException", "__getattribute__"):=by decide +kernel
 have ba:=F.args_bexc_ga (.ref x) (.str "__class__" tt)
 (simp only [checkBuiltinCall,bk,bs]; refine wpAny_bind ?_)
 unfold isInstance
 repeat (first | lk | wp_step)
 refine wpAny_run (Ji0 X hx hc c ?_)
 repeat (first | lk | wp_step)
 exact q
theorem JgU (c:ExcC K D):KitX K (.ref x) (.ref D) (fun h => ∃ ox,h.get? x = some ox∧ox.cls = .ref D) where
 ty:=fun _ _ _ ⟨ox,hx,hc⟩ => JeP hx hc
 it:=fun _ _ X _ => Jd4 X c.cl
 ne:=fun h tp dd its n sl X htp => by
  refine Bool.eq_false_iff.mpr fun q => ?_
  obtain rfl:D = tp:=Value.ref.inj (beq_iff_eq.mp q)
  obtain ⟨cd,hcd,_⟩:=any_some c.cl
  (unfold clsIn at hcd; split at hcd)
  next ho => have z:=X _ _ ho; rw [htp] at z; cases z
  next => cases hcd
 ca:=fun X ⟨ox,hx,hc⟩ q => Jid X hx hc c q
end
section
variable {X:Cx}
def clsV:V→Value
 | .ty T => .type T
 | .ref C => .ref C
 | _ => .none
inductive TyU (K:PySem.W.Frag) (H:Hp):V→Value→Prop where
 | of {x:V} {t:Value} (h:TyOf K H x t):TyU K H x t
 | sql {a:Addr} {xs:List V} (h:SqL K H a xs):TyU K H (.ref a) (.type "list")
 | sqt {a:Addr} {xs:List V} (h:SqT K H a xs):TyU K H (.ref a) (.type "tuple")
 | exc {a C:Addr} (e:H a = some (ExcO a C)) (c:ExcC K C):TyU K H (.ref a) (.ref C)
def rIsiC (K:PySem.W.Frag):List V→Hp→VK→Prop:=fun xs H Q => ∃ x c t b,xs = [x,c]∧((∃ T,c = .ty T) ∨ ∃ C,c = .ref C)∧TyU K H x t∧PySem.W.kitOne K t (clsV c) = some b∧Q (.bl b) H
theorem JcD:CallR X (.builtin "isinstance") (rIsiC X.K):=fun pins s σ H xs us Q I r q => by
 obtain ⟨x,c,t,b,rfl,hc,ty,e,q⟩:=q
 obtain ⟨u,cv,rfl,ru,rc⟩:=vals2 r
 have ec:cv = clsV c:=by
  rcases hc with ⟨T,rfl⟩ | ⟨C,rfl⟩
  ·exact rc
  ·exact rc
 subst ec
 have fin:∀ tk,EP X pins σ Q (.bool b) { s with toks:=tk }:=fun tk => ⟨V.bl _,H,I.tok tk,rfl,q⟩
 cases ty with
 | of h => exact Jf0 I ru h e fin
 | @sql a xs h =>
  cases (show u = Value.ref a from ru)
  obtain ⟨its,_,p,_⟩:=I.list h
  obtain ⟨o,_,h1,h2,_⟩:=p
  exact PySem.W.kia_one PySem.W.kitx_list I.kIn ⟨o,h1,h2⟩ e (fun z => nomatch z) fin
 | @sqt a xs h =>
  cases (show u = Value.ref a from ru)
  obtain ⟨its,_,p,_⟩:=I.tuple h
  obtain ⟨o,h1,h2,_⟩:=p
  exact PySem.W.kia_one PySem.W.kitx_tuple I.kIn ⟨o,h1,h2⟩ e (fun z => nomatch z) fin
 | @exc a C ea cc =>
  cases (show u = Value.ref a from ru)
  have ok:=I.hok a _ ea
  obtain ⟨⟨ob,vs,h1,h2,_⟩,_⟩:=ok
  exact PySem.W.kia_one (JgU cc) I.kIn ⟨ob,h1,h2⟩ e (fun z => nomatch z) fin
def Jib (r r' r'':R2) (ta tb tc td:TE):TE:=fun σ H Q => ta σ H fun x H1 => tb σ H1 fun y H2 => r x y H2 fun z H3 => ∃ k,z = .bl k ∧
 (if k = true then tc σ H3 fun w' H4 => r' y w' H4 fun z' H5 => ∃ k',z' = .bl k'∧(if k' = true then td σ H5 fun u' H6 => r'' w' u' H6 Q else Q (.bl false) H5) else Q (.bl false) H3)
def rFmt:V→Hp→VK→Prop:=fun x H Q => match x with
 | .int i => i.natAbs.log2 < 1920∧Q (.str (toString i)) H
 | _ => False
def TJ:=St→Hp→Str→VK→Prop
def jNil:TJ:=fun _ H acc Q => acc.length ≤ sizeLine∧Q (.str acc) H
def jCons (te:TE) (t:TJ):TJ:=fun σ H acc Q => te σ H fun x H1 => ∃ y,x = .str y∧(acc ++ y).length ≤ sizeLine∧t σ H1 (acc ++ y) Q
def tFstr (t:TJ):TE:=fun σ H Q => t σ H Str.empty Q
def rStrI:List V→Hp→VK→Prop:=fun xs H Q => match xs with
 | [.int i] => i.natAbs.log2 < 1920∧Q (.str (toString i)) H
 | _ => False
end
end L2
namespace L2
open PySem PySem.Spec PyProof.Rows
section
variable {En:Ends} {σ : St} {H:Hp} {Q:VK} {t u:TS} {ta tb te tc td:TE} {g:TG} {gs:TGs} {tA:TA} {E:XK} {sp:Sp} {K:PySem.W.Frag}
theorem y83y {r:V→Option Int→Option Int→Hp→VK→Prop} {tl th:TO}:tSl r te tl th σ H Q = te σ H fun x H1 => tl σ H1 fun l H2 => th σ H2 fun u H3 => r x l u H3 Q:=rfl
theorem y7by {R:Option Int→Hp→Prop}:tPart te σ H R = te σ H fun x H1 => ∃ i,x = .int i∧R (some i) H1:=rfl
theorem y72y {R:Option Int→Hp→Prop}:Jgy σ H R = R none H:=rfl
theorem y31y {r r':R2}:JiS r r' ta tb tc σ H Q = ta σ H fun x H1 => tb σ H1 fun y H2 => r x y H2 fun z H3 => ∃ k,z = .bl k∧(if k = true then tc σ H3 fun w' H4 => r' y w' H4 Q else Q (.bl false) H3):=rfl
theorem y32y {r r' r'':R2}:Jib r r' r'' ta tb tc td σ H Q = ta σ H fun x H1 => tb σ H1 fun y H2 => r x y H2 fun z H3 => ∃ k,z = .bl k ∧
 (if k = true then tc σ H3 fun w' H4 => r' y w' H4 fun z' H5 => ∃ k',z' = .bl k'∧(if k' = true then td σ H5 fun u' H6 => r'' w' u' H6 Q else Q (.bl false) H5) else Q (.bl false) H3):=rfl
theorem y53y {tj:TJ}:tFstr tj σ H Q = tj σ H Str.empty Q:=rfl
theorem y61y {tj:TJ} {acc:Str}:jCons te tj σ H acc Q = te σ H fun x H1 => ∃ y,x = .str y∧(acc ++ y).length ≤ sizeLine∧tj σ H1 (acc ++ y) Q:=rfl
theorem y62y {acc:Str}:jNil σ H acc Q = (acc.length ≤ sizeLine∧Q (.str acc) H):=rfl
theorem y4cy {i:Int}:rFmt (.int i) H Q = (i.natAbs.log2 < 1920∧Q (.str (toString i)) H):=rfl
theorem y84y {i:Int}:rStrI [.int i] H Q = (i.natAbs.log2 < 1920∧Q (.str (toString i)) H):=rfl
theorem y87y {D0:Addr} {i:Nat} {tx:St→Hp→VK→XK→Prop} {ts:TS}:JiV K D0 i tx ts En σ H = tx σ H (fun _ H1 => En.nx σ H1) fun cls _ H1 => ∃ C,cls = .ref C∧Jcm K C D0 ∧
 ∀ ea,H1 ea = none→ts { nx:=fun σ' H' => En.nx (σ'.set i none) H',rt:=En.rt,bk:=fun σ' H' => En.bk (σ'.set i none) H',ct:=fun σ' H' => En.ct (σ'.set i none) H' } (σ.set i (some (.ref ea))) (upd H1 ea (ExcO ea C)):=rfl
theorem y91y {dvs:List V} {Qx:VK} {Ex:XK}:xCall sp dvs tA σ H Qx Ex = tA σ H fun vs H1 => sp (vs ++ dvs) H1 Qx Ex:=rfl
theorem y7dy {C:Addr}:Jhs E C tA En σ H = tA σ H fun vs H1 => vs.length ≤ sizeLine∧E (.ref C) none H1:=rfl
theorem isiX {a C:Addr} {c:V} {b:Bool} (e:H a = some (ExcO a C)) (x:ExcC K C) (hc:(∃ T,c = .ty T) ∨ ∃ C,c = .ref C) (k:PySem.W.kitOne K (.ref C) (clsV c) = some b) (q:Q (.bl b) H):rIsiC K [.ref a,c] H Q :=
 ⟨_,_,_,b,rfl,hc, .exc e x,k,q⟩
theorem isiXr {a C c:Addr} {b:Bool} (e:H a = some (ExcO a C)) (x:ExcC K C) (k:PySem.W.kitOne K (.ref C) (.ref c) = some b) (q:Q (.bl b) H):rIsiC K [.ref a, .ref c] H Q:=isiX e x (.inr ⟨_,rfl⟩) k q
theorem isiXt {a C:Addr} {T:String} {b:Bool} (e:H a = some (ExcO a C)) (x:ExcC K C) (k:PySem.W.kitOne K (.ref C) (.type T) = some b) (q:Q (.bl b) H):rIsiC K [.ref a, .ty T] H Q:=isiX e x (.inl ⟨_,rfl⟩) k q
theorem Ja3 {X:Cx} {K:PySem.W.Frag} (hK:X.K = K) {x:Str} {p pos:Pos} {e:Expr} {es:List Expr} {t:TA} (hg:Gl X x) (hm:X.mg x = none) (hv:bootBuiltins x = some (.builtin "isinstance")) (ha:PA X (e :: es) t) (hn:x ≠ "__name__":=by decide)
  (hdb:(x == ("__debug__" : Str)) = false:=by decide) (he:starEach (e :: es) X.env = (false,eval e X.env) :: starEach es X.env:=by rfl) (hpl:(backTo pos (starEach es X.env)).any (·.1) = false:=by rfl) :
  PE X (.Call (.Name x p) (e :: es) [] pos) (tCB (rIsiC K) t):=hK ▸ JaB JcD hg hm hv ha hn hdb he hpl
end
end L2
namespace L2
open PySem PySem.Spec PyProof.Rows
def Its (x:Str):It:=⟨fun i _ => i < x.cps.size,fun i H v H' => H' = H∧∃ c,x.cps[i]? = some c∧v = .str ⟨#[c]⟩,fun i _ => i = x.cps.size⟩
theorem Jej {P:Program} {w:World} {K:PySem.W.Frag} {tg:Expr} {it:Addr} {x:Str} {n:String} {St:Nat→Heap→Prop} (hn:["enumerate", "zip", "dict_itemiterator", "dict_reverseitemiterator", "odict_iterator", "itertools.zip_longest", "itertools.pairwise"].contains n = false)
  (hst:∀ i h,St i h→∃ o vs,h.get? it = some o∧o.cls = .type n∧o.data = .fields vs) (mk:∀ A:Around,A.handled = none→Walks P w A it [it] [it] x.cps.size (SignAt x) St)
  (hself:∀ (A:Around) (i:Nat) (s:Shared) (Q:Value→Shared→Prop) (E:Value→Shared→Prop),St i s.heap→Q (.ref it) s→wpAny (model P w) A (pyIter (.ref it)) Q E s):Turn P w K tg (Its x) [it] it St where
 mem:=by simp
 obj:=fun i h st b hb => by
  obtain rfl:b = it:=by simpa using hb
  obtain ⟨o,vs,e,_,d⟩:=hst i h st
  exact ⟨o,e,fun v z => by rw [d] at z; cases z⟩
 keep:=fun i h h' st k => (mk {} rfl).frame i h h' st fun b hb o e => k b hb o e
 item:=by
  intro X hP hw hK hc i pins s σ H E I hf st hg
  subst hP hw hK
  obtain ⟨f0,f1,f2,f3,f4,f5⟩:=hf it (by simp)
  refine (mk X.A (I.ok.hd hc)).item i s _ _ hg st fun v h' tk hv st' kk => ?_
  obtain ⟨c,u,hc',rfl⟩:=hv
  have I1:Inv X pins σ H { s with heap:=h',toks:=tk }:=I.turned (fun b o hb e => kk b o (by simpa using hb) e) f0 f1 f3 f4 f5
  obtain ⟨o,vs,e1,e2,e3⟩:=hst _ _ st'
  exact ⟨_,rfl,go_of (s:={ s with heap:=h',toks:=tk }) e1 e2 e3 hn ⟨.str ⟨#[c]⟩,H,I1,⟨u,rfl⟩,⟨rfl,c,hc',rfl⟩,st',fun b hb => (hf b hb).1⟩⟩
 done:=by
  intro X hP hw hK hc i pins s σ H E I hf st hg
  subst hP hw hK
  obtain ⟨f0,f1,f2,f3,f4,f5⟩:=hf it (by simp)
  have hg':i = x.cps.size:=hg
  subst hg'
  exact (mk X.A (I.ok.hd hc)).done s _ _ st fun h' tk kk => ⟨rfl,I.turned (fun b o hb e => kk b o (by simpa using hb) e) f0 f1 f3 f4 f5⟩
 self:=hself
section
variable {X:Cx} {tg:Expr}
def iStr (tl:TE):TI:=fun σ H R => tl σ H fun x H1 => ∃ z,x = .str z∧R (Its z) H1
theorem JiK {l:Expr} {tl:TE} (hl:PE X l tl):PI X tg l (iStr tl):=fun pins s σ H R I h => by
 refine thn (hl pins s σ H _ I h) fun v s1 ⟨x,H1,I1,r1,z,ex,q⟩ => ?_
 subst ex
 obtain ⟨t,rfl⟩:=r1
 have key:∀ (n:String),(n = "str_ascii_iterator" ∨ n = "str_iterator")→PIE X pins σ tg R (.ref s1.heap.objs.size) { s1 with heap:=s1.heap.push { cls:=.type n,data:=.fields #[.str z t, .int 0 0] } }:=fun n hn => by
  have hT:Turn X.prog X.w X.K tg (Its z) [s1.heap.objs.size] s1.heap.objs.size (fun i h => h.IsStrIter s1.heap.objs.size n z t i):=by
   rcases hn with rfl | rfl
   ·exact Jej (n:="str_ascii_iterator") (by decide) (fun i h st => let ⟨o,a,b,c⟩:=st; ⟨o,_,a,b,c⟩) (fun A hA => Walks.strAscii hA _ z t) fun A i s Q E st q => wpAny_pyIter_striter_ascii st q
   ·exact Jej (n:="str_iterator") (by decide) (fun i h st => let ⟨o,a,b,c⟩:=st; ⟨o,_,a,b,c⟩) (fun A hA => Walks.strWide hA _ z t) fun A i s Q E st q => wpAny_pyIter_striter_wide st q
  refine ⟨s1.heap.objs.size,[s1.heap.objs.size],_,_,H1,rfl,I1.kept (t':=s1.toks) fun b o e => Heap.get?_push_of_some _ e,hT,⟨_,Heap.get?_push_size _ rfl,rfl,rfl⟩,fun b hb => ?_,q⟩
  obtain rfl:b = s1.heap.objs.size:=by simpa using hb
  exact I1.fpOk (Nat.le_refl _) (I1.hok.fresh (Nat.le_refl _))
 cases ha:z.cps.all (· < 128)
 ·exact wpAny_pyIter_wide ha (key _ (.inr rfl))
 ·exact wpAny_pyIter_ascii ha (key _ (.inl rfl))
end
abbrev Cx.inc (X:Cx) (N':List Str) (scope:Scope) (cl:List (Str × Addr)) (fp:List Addr) (s2:Shared) (H2:Hp) (C:Addr):Cx :=
 { X with N:=N',s₀:=s2,H₀:=H2,env:=compEnvC scope cl C X.env,outer:=X.stack,ex:=fp,fn:=fun _ => false,pn:=[],xe:=fun _ _ => False }
section
variable {X:Cx} {pins:List (Addr × Obj)} {σ : St} {H2:Hp} {s2:Shared} {N':List Str} {scope:Scope} {cl:List (Str × Addr)} {fp:List Addr} {C:Addr}
theorem Inv.incOk (I:Inv X pins σ H2 s2) (hf:∀ b ∈ fp,FpOk X pins H2 b) (hfp:∀ b ∈ fp,b < s2.heap.objs.size) (hk:scope.kind = .function) (hC:s2.heap.objs.size ≤ C) (hcl:∀ x c,cl.lookup x = some c→X.env.cells.lookup x = some c)
  (hhas:∀ y,((relabel scope X.env).names.lookup y = some .cell ∨ (relabel scope X.env).names.lookup y = some .free)→∃ c,cl.lookup y = some c):(X.inc N' scope cl fp s2 H2 C).Ok where
 mod:=I.ok.mod
 kind:=hk
 glob:=I.ok.glob
 blt:=I.ok.blt
 above:=hC
 inj:=fun x y c h1 h2 => I.ok.inj x y c (hcl x c h1) (hcl y c h2)
 has:=fun y hy => hhas y hy
 cab:=fun x c h => by cases h
 hd:=I.ok.hd
 frames:=I.ok.frames
 stk:=.inl rfl
 exf:=fun b hb => ⟨Nat.ne_of_lt (Nat.lt_of_lt_of_le (hfp b hb) hC),fun x c e => (hf b hb).2.2.2.2.1 x c (hcl x c e)⟩
 bs:=I.bs
 bsz:=Nat.le_trans I.ok.bsz I.sz
 noex:=fun b o e hb => by
  rcases (hf b hb).2.2.2.1 with z | z
  ·exact I.ok.noex b o e z
  ·exact absurd (Nat.lt_of_lt_of_le (Nat.lt_of_lt_of_le (Heap.lt_size e) I.ok.bsz) z) (Nat.lt_irrefl _)
 exfs:=fun b hb hm => by
  rcases List.mem_cons.mp (I.stkSub b hm) with z | z
  ·exact (hf b hb).2.1 z
  ·exact (hf b hb).2.2.1 z
 funs:=I.stack
 frf:=I.stkFree
def JaO (cs:List (Nat × Str)) (σ : St):St:=cs.map fun p => (σ[p.1]?).join
theorem Inv.capsLoc {s4:Shared} {m:Str→Option Value} {own:List Str} {cs:List (Nat × Str)} (I:Inv X pins σ H2 s2) (ok:(X.inc (own ++ cs.map (·.2)) scope cl fp s2 H2 C).Ok) (kept:∀ c v,(∃ x,cl.lookup x = some c)→s2.heap.IsCell c v→s4.heap.IsCell c v)
  (hcl:∀ x c,cl.lookup x = some c→X.env.cells.lookup x = some c) (hcs:∀ p ∈ cs,X.N[p.1]? = some p.2∧X.env.scope.names.lookup p.2 = some .cell∧(relabel scope X.env).names.lookup p.2 = some .cell) :
  ∀ (i:Nat) (x:Str) (v:V),(own ++ cs.map (·.2))[i]? = some x→(List.replicate own.length none ++ JaO cs σ)[i]? = some (some v)→∃ u,RelV v u∧Look (compEnvC scope cl C X.env) s4.heap m x u:=fun i x v h1 h2 => by
  by_cases hi:i < own.length
  ·rw [List.getElem?_append_left (by simpa using hi),List.getElem?_replicate,if_pos hi] at h2
   cases h2
  ·have h2':(JaO cs σ)[i - own.length]? = some (some v):=by rw [List.getElem?_append_right (by simp; omega)] at h2; simpa using h2
   have h1':(cs.map (·.2))[i - own.length]? = some x:=by
    rwa [List.getElem?_append_right (by omega)] at h1
   unfold JaO at h2'
   rw [List.getElem?_map] at h1' h2'
   cases q:cs[i - own.length]? with
   | none => rw [q] at h1'; cases h1'
   | some p =>
    rw [q] at h1' h2'
    obtain rfl:p.2 = x:=by simpa using h1'
    have e2:(σ[p.1]?).join = some v:=by simpa using h2'
    have e2' : σ[p.1]? = some (some v):=by
     cases z : σ[p.1]? with
     | none => rw [z] at e2; cases e2
     | some o => rw [z] at e2; exact congrArg some e2
    obtain ⟨c1,c2,c3⟩:=hcs p (List.mem_of_getElem? q)
    obtain ⟨m0,_,hl⟩:=I.loc
    obtain ⟨u,ru,lk⟩:=hl p.1 p.2 v c1 e2' (.inr (.inl c2))
    refine ⟨u,ru, .inr ⟨.inl c3, ?_⟩⟩
    obtain ⟨c,hc⟩:=ok.has p.2 (.inl c3)
    refine ⟨c,hc, ?_⟩
    rcases lk with ⟨k,_⟩ | ⟨_,c',e',hcell⟩
    ·have k:X.env.scope.names.lookup p.2 = some .local:=k
     rw [c2] at k; cases k
    ·rw [hcl _ _ hc] at e'
     cases e'
     exact kept _ _ ⟨_,hc⟩ hcell
theorem Inv.incStart {s4:Shared} {m:Str→Option Value} {own:List Str} {cs:List (Nat × Str)} (I:Inv X pins σ H2 s2) (ok:(X.inc (own ++ cs.map (·.2)) scope cl fp s2 H2 C).Ok) (kept:∀ b o,s2.heap.get? b = some o→s4.heap.get? b = some o) (hos:s4.os = s2.os) (hg:s4.gens = s2.gens) (hm:s4.heap.Ns C m)
  (hC:s2.heap.objs.size ≤ C) (hcl:∀ x c,cl.lookup x = some c→X.env.cells.lookup x = some c)
  (hcs:∀ p ∈ cs,X.N[p.1]? = some p.2∧X.env.scope.names.lookup p.2 = some .cell∧(relabel scope X.env).names.lookup p.2 = some .cell) :
  Inv (X.inc (own ++ cs.map (·.2)) scope cl fp s2 H2 C) [] (List.replicate own.length none ++ JaO cs σ) H2 s4 where
 ok:=ok
 os:=hos
 bare:=by rw [hg]; exact I.bare
 base:=Un.kept kept
 loc:=⟨m,hm,fun i x v h1 h2 _ => I.capsLoc (m:=m) ok (fun c v _ ⟨o,ho,hd⟩ => ⟨o,kept _ _ ho,hd⟩) hcl hcs i x v h1 h2⟩
 cell:=fun x c e => by
  obtain ⟨v,o,ho,hd⟩:=I.cell x c (hcl x c e)
  exact ⟨v,o,kept _ _ ho,hd⟩
 free:=I.hok.fresh hC
 freeC:=fun x c e => I.freeC x c (hcl x c e)
 pin:=fun p hp => by simp at hp
 hok:=I.hok.kept kept
 len:=by simp [JaO]
theorem Inv.incAgain {s':Shared} {H':Hp} {σ':St} {pl:List (Addr × Obj)} {own:List Str} {cs:List (Nat × Str)} (I:Inv X pins σ H2 s2) (J:Inv (X.inc (own ++ cs.map (·.2)) scope cl fp s2 H2 C) pl σ' H' s')
  (hf:∀ b ∈ fp,FpOk X pins H2 b) (hcl:∀ x c,cl.lookup x = some c→X.env.cells.lookup x = some c) (hcs:∀ p ∈ cs,X.N[p.1]? = some p.2∧X.env.scope.names.lookup p.2 = some .cell∧(relabel scope X.env).names.lookup p.2 = some .cell) :
  Inv (X.inc (own ++ cs.map (·.2)) scope cl fp s2 H2 C) [] (List.replicate own.length none ++ JaO cs σ) H' s' where
 ok:=J.ok
 os:=J.os
 bare:=J.bare
 base:=J.base
 loc:=by
  obtain ⟨m,hm,_⟩:=J.loc
  refine ⟨m,hm,fun i x v h1 h2 _ => I.capsLoc (m:=m) J.ok (fun c v ⟨x,hx⟩ ⟨o,ho,hd⟩ => ?_) hcl hcs i x v h1 h2⟩
  have nf:c ∉ fp:=fun z => (hf c z).2.2.2.2.1 x c (hcl x c hx) rfl
  by_cases hm:c ∈ frs X.stack
  ·obtain ⟨sl,z⟩:=J.base.slot c o ho (I.freeC x c (hcl x c hx)) hm nf
   exact ⟨_,z,hd⟩
  ·exact ⟨o,J.base.keep c o ho (I.freeC x c (hcl x c hx)) hm nf,hd⟩
 cell:=J.cell
 free:=J.free
 freeC:=J.freeC
 pin:=fun p hp => by simp at hp
 hok:=J.hok
 len:=by simp [JaO]
end
section
variable {prog:Program} {w:World} {A:Around} {E:Value→Shared→Prop} {R:Result→Shared→Prop} {s:Shared}
theorem Jfh {elt target iter:Expr} {scope:Scope} {pos:Pos} {it acc:Value} {env:Env} (J:Nat→Shared→Prop)
  (turn:∀ n s,J n s→wpAny (model prog w) A (pyNext it) (fun r s1 => match r with
   | none => R (.ok .next) s1
   | some v => wpAny (model prog w) A (letOwnedTupleGo target it v) (fun _ s2 => wpAny (model prog w) A (assign target env v) (fun _ s3 => wpAny (model prog w) A (eval elt env) (fun x s4 =>
     wpAny (model prog w) A (call (.builtin "list.append") [acc,x]) (fun _ s5 => ∃ m,m < n∧J m s5) (fun _ _ => False) s4) (fun _ _ => False) s3) (fun _ _ => False) s2) (fun _ _ => False) s1) (fun _ _ => False) s) (n:Nat) (h:J n s) :
  codeAny (model prog w) A (.compLoop (.ListComp elt [⟨target,iter,[],0⟩] scope pos) 0 it acc env) R s:=by
 refine codeAny_loop rfl J (fun n s hJ => ?_) n h
 show wpAny _ A ((compTurn (.ListComp elt [⟨target,iter,[],0⟩] scope pos) 0 it acc env).onRaise (fun y => do noteFrame y env; theTreesLotGoes y)) _ _ s
 (refine wpAny_noted ?_; rw [compTurn_list])
 refine wpAny_bind (wpAny_standAt (wpAny_bind (wpAny_mono (turn n s hJ) (fun r s1 q1 => ?_) fun _ _ z => z.elim)))
 cases r with
 | none => exact wpAny_pure q1
 | some v =>
  refine wpAny_bind (wpAny_mono q1 (fun _ s2 q2 => wpAny_bind (wpAny_mono q2 (fun _ s3 q3 => ?_) fun _ _ z => z.elim)) fun _ _ z => z.elim)
  refine wpAny_bind (wpAny_tests_nil ?_)
  exact wpAny_bind (wpAny_bind (wpAny_mono q3 (fun x s4 q4 => (wpAny_bind (wpAny_mono q4 (fun _ s5 q5 => (wpAny_pure (wpAny_pure ⟨rfl,q5⟩))) fun _ _ z => z.elim))) fun _ _ z => z.elim))
end
def tComp (k:Nat) (cs:List (Nat × Str)) (wi:TI) (g:TG) (te:TE):TE:=fun σ H Q => wi σ H fun J H1 => ∃ W:Nat→Nat→List V→Hp→Prop,(∃ m,W 0 m [] H1)∧∀ i m ys H2,W i m ys H2→ys.length ≤ sizeLine ∧
  ((J.stop i H2∧∀ p,H2 p = none→Q (.ref p) (upd H2 p (.lst ys))) ∨
   (J.go i H2∧∀ x H3,J.yld i H2 x H3→g x (List.replicate k none ++ JaO cs σ) H3 fun σ4 H4 => te σ4 H4 fun y H5 => ∃ m',m' < m∧W (i + 1) m' (ys ++ [y]) H5))
theorem lstP {us:List Value} {v:Value}:(us.toArray.push v) = (us ++ [v]).toArray:=by simp
section
variable {X:Cx} {tg:Expr}
theorem Jc2 {iter elt:Expr} {scope:Scope} {pos:Pos} {own:List Str} {cl:List (Str × Addr)} {cs:List (Nat × Str)} {wi:TI} {g:TG} {te:TE} (hc:X.calm = true) (hi:PI X tg iter wi)
  (hg:∀ fp s2 H2 C,PG (X.inc (own ++ cs.map (·.2)) scope cl fp s2 H2 C) tg g) (he:∀ fp s2 H2 C,PE (X.inc (own ++ cs.map (·.2)) scope cl fp s2 H2 C) elt te)
  (hclos:closureFor scope X.env = pure cl) (hcell:∀ y ∈ scope.names,y.2 ≠ .cell) (hkind:scope.kind = .function) (hnames:∀ y ∈ scope.names,y.2 = .local→scope.names.lookup y.1 = some .local)
  (hcl:∀ x c,cl.lookup x = some c→X.env.cells.lookup x = some c) (hhas:∀ y,((relabel scope X.env).names.lookup y = some .cell ∨ (relabel scope X.env).names.lookup y = some .free)→∃ c,cl.lookup y = some c)
  (hcs:∀ p ∈ cs,X.N[p.1]? = some p.2∧X.env.scope.names.lookup p.2 = some .cell∧(relabel scope X.env).names.lookup p.2 = some .cell)
  (hs:∀ x,foldedSetIterable iter X.env x = pure x:=by intro _; rfl):PE X (.ListComp elt [⟨tg,iter,[],0⟩] scope pos) (tComp own.length cs wi g te):=by
 intro pins s σ H Q I h
 rw [eval_ListComp]
 refine wpAny_comprehension_free (use:=none) rfl hs hclos hkind hnames (thn (hi pins s σ H _ I h) fun v s1 h1 => thn h1 fun itv s2 h2 => ?_)
 obtain ⟨it,fp,tn,J,H2,rfl,I2,T,st2,f2,W,⟨m0,w0⟩,turn⟩:=h2
 have hfp:∀ b ∈ fp,b < s2.heap.objs.size:=fun b hb => by
  obtain ⟨o,e,_⟩:=T.obj _ _ st2 b hb
  exact Heap.lt_size e
 refine wpAny_newObj_type (wpAny_newFunctionEnv hcell (by intro y hy; simp at hy) (fun h4 hns4 hsb4 => ?_) hkind)
 dsimp only at hns4 hsb4 ⊢
 generalize hH3:s2.heap.push { cls:=.type "list",dict:=none,data:=.seq ([]:List Value).toArray } = H3 at hns4 hsb4 ⊢
 have hCs:H3.objs.size = s2.heap.objs.size + 1:=by rw [← hH3,Heap.size_push]
 have hC:s2.heap.objs.size ≤ H3.objs.size:=by omega
 have hDC:s2.heap.objs.size ≠ H3.objs.size:=by omega
 have old:∀ b o,s2.heap.get? b = some o→h4.get? b = some o:=fun b o e => hsb4.extBut b o (by have:=Heap.lt_size e; exact Nat.ne_of_lt (Nat.lt_of_lt_of_le this hC)) (Heap.get?_push_of_some _ (hH3 ▸ Heap.get?_push_of_some _ e))
 have hD4:h4.get? s2.heap.objs.size = some { cls:=.type "list",data:=.seq ([]:List Value).toArray }:=hsb4.extBut _ _ hDC (Heap.get?_push_of_some _ (hH3 ▸ Heap.get?_push_size _ rfl))
 obtain ⟨D,hDe⟩:∃ D,D = s2.heap.objs.size:=⟨_,rfl⟩
 obtain ⟨C,hCe⟩:∃ C,C = H3.objs.size:=⟨_,rfl⟩
 rw [← hCe] at hCs hns4 hsb4 hC hDC ⊢
 rw [← hDe] at hfp hCs hC hDC hD4 ⊢
 have ok':=I2.incOk (N':=own ++ cs.map (·.2)) (C:=C) f2 (fun b hb => by rw [← hDe]; exact hfp b hb) hkind (by rw [← hDe]; exact hC) hcl hhas
 have I4:Inv (X.inc (own ++ cs.map (·.2)) scope cl fp s2 H2 C) [] (List.replicate own.length none ++ JaO cs σ) H2 { s2 with heap:=h4,toks:=s2.toks + ([]:List (Str × Value)).length } :=
  I2.incStart (s4:={ s2 with heap:=h4,toks:=s2.toks + ([]:List (Str × Value)).length }) ok' old rfl rfl hns4 (by rw [← hDe]; exact hC) hcl hcs
 have Dfree:H2 D = none:=I2.hok.fresh (Nat.le_of_eq hDe.symm)
 have ltD:∀ b o,s2.heap.get? b = some o→b ≠ D:=fun b o e => by
  rw [hDe]
  exact Nat.ne_of_lt (Heap.lt_size e)
 have ltC:∀ b o,s2.heap.get? b = some o→b ≠ C:=fun b o e => Nat.ne_of_lt (Nat.lt_of_lt_of_le (by rw [hDe]; exact Heap.lt_size e) hC)
 have Dfs:D ∉ frs X.stack:=fun hm => by
  obtain ⟨_,o,e,_⟩:=I2.stack.mem hm
  exact ltD _ _ e rfl
 have pinD:∀ {σ':St} {H':Hp} {s':Shared} {us:List Value} {n:Nat} {pl:List (Addr × Obj)},Inv (X.inc (own ++ cs.map (·.2)) scope cl fp s2 H2 C) pl σ' H' s'→s'.heap.get? D = some { cls:=.type "list",data:=.seq us.toArray n }→H' D = none →
   Inv (X.inc (own ++ cs.map (·.2)) scope cl fp s2 H2 C) [(D,{ cls:=.type "list",data:=.seq us.toArray n })] σ' H' s':=fun {σ' H' s' us n pl} J' e n' => J'.pins_of fun p hp => by
  rcases List.mem_singleton.mp hp with rfl
  exact ⟨e,n',hDC,Dfs,fun v z => by cases z⟩
 have fpok:∀ {H':Hp} {o:Obj},(∀ b ∈ fp,H' b = none)→∀ b ∈ fp,FpOk (X.inc (own ++ cs.map (·.2)) scope cl fp s2 H2 C) [(D,o)] H' b:=fun {H' o} hn b hb => by
  refine ⟨hn b hb,(ok'.exf b hb).1,ok'.exfs b hb, .inl hb,(ok'.exf b hb).2,fun p hp => ?_⟩
  rcases List.mem_singleton.mp hp with rfl
  exact Nat.ne_of_gt (hfp b hb)
 have loop:∀ s3:Shared,s3 = { s2 with heap:=h4,toks:=s2.toks + ([]:List (Str × Value)).length } →
   codeAny (model X.prog X.w) X.A (.compLoop (.ListComp elt [⟨tg,iter,[],0⟩] scope pos) 0 (.ref it) (.ref D) (compEnvC scope cl C X.env)) (compPost (model X.prog X.w) X.A X.xe none (EP X pins σ Q) (.ref D) C) s3:=by
  rintro s3 rfl
  refine Jfh (fun n s' => ∃ i ys us nn H',Inv (X.inc (own ++ cs.map (·.2)) scope cl fp s2 H2 C) [(D,{ cls:=.type "list",data:=.seq us.toArray nn })] (List.replicate own.length none ++ JaO cs σ) H' s'∧tn i s'.heap∧(∀ b ∈ fp,H' b = none)∧Vals ys us∧W i n ys H') ?_ m0
   ⟨0,[],[],0,H2,pinD (us:=[]) (n:=0) I4 hD4 Dfree,T.keep _ _ _ st2 fun b hb o e => old b o e,fun b hb => (f2 b hb).1, .nil,w0⟩
  rintro n s5 ⟨i,ys,us,nn,H5,I5,st5,fr5,vy,w5⟩
  obtain ⟨hz,⟨stop,qn⟩ | ⟨go,step⟩⟩:=turn i n ys H5 w5
  ·refine wpAny_mono (T.done (X.inc (own ++ cs.map (·.2)) scope cl fp s2 H2 C) rfl rfl rfl hc i _ s5 _ H5 (fun _ _ => False) I5 (fpok fr5) st5 stop) (fun r s6 z => ?_) fun _ _ z => z
   obtain ⟨rfl,I6⟩:=z
   obtain ⟨m6,hn6,_⟩:=id I6.loc
   refine ⟨m6,hn6,fun h7 hs7 => ?_⟩
   obtain ⟨pD,pN,_,_,_⟩:=I6.pin (D,{ cls:=.type "list",data:=.seq us.toArray nn }) (by simp)
   have same:∀ b,b ≠ C→h7.get? b = s6.heap.get? b:=fun b hb => hs7.2 b hb
   have lt2:=ltC
   have u7:Un (frs X.stack) fp H2 H5 s2.heap h7:=⟨fun b o e n1 n2 n3 => (same b (lt2 b o e)).trans (I6.base.keep b o e n1 n2 n3),fun b o e n1 n2 n3 => by
     obtain ⟨sl,z⟩:=I6.base.slot b o e n1 n2 n3
     exact ⟨sl,(same b (lt2 b o e)).trans z⟩,I6.base.free,fun b o e n1 => by
     obtain ⟨o',z⟩:=I6.base.there b o e n1
     exact ⟨o',(same b (lt2 b o e)).trans z⟩,I6.base.tups,I6.base.frzs,I6.base.tbls⟩
   have Cfree:H5 C = none:=I6.free
   have hok7:HOk X.prog X.w H5 h7:=fun a o e => by
    refine (I6.hok a o e).stay (fun c v hcc q => (same c ?_).trans q) (fun _ q => q) fun _ _ q => q
    rintro rfl
    rcases hcc with z | z
    ·rw [← z] at e; rw [Cfree] at e; cases e
    ·rw [Cfree] at z; cases z
   have I7:Inv X pins σ H5 { s6 with heap:=h7 }:=I2.call' (s':={ s6 with heap:=h7 }) I6.os u7 hok7 I6.bare fun b hb => ⟨(f2 b hb).2.2.2.1,(f2 b hb).2.1,(f2 b hb).2.2.2.2.1,(f2 b hb).2.2.2.2.2⟩
   have I8:=I7.track (a:=D) (o:=.lst ys) pN (Heap.get?_none_of_le (by rw [hDe]; exact I2.sz)) (by rw [hDe]; exact Nat.ne_of_gt I2.lt) (fun x c e z => by
     obtain ⟨v,o,ho,_⟩:=I2.cell x c e
     exact ltD _ _ ho z) (fun p hp z => ltD _ _ (I2.pin p hp).1 z) ⟨hz,us,nn,vy,(same D hDC).trans pD⟩
   exact ⟨.ref D,_,I8,rfl,qn D pN⟩
  ·refine wpAny_mono (T.item (X.inc (own ++ cs.map (·.2)) scope cl fp s2 H2 C) rfl rfl rfl hc i _ s5 _ H5 (fun _ _ => False) I5 (fpok fr5) st5 go) (fun r s6 z => ?_) fun _ _ z => z
   obtain ⟨u,rfl,z⟩:=z
   refine wpAny_mono z (fun _ s7 ⟨x,H7,I7,r7,y7,st7,fr7⟩ => ?_) fun _ _ z => z
   have I7':=I7.pinned (fpok fr7) (T.obj _ _ st7)
   refine wpAny_mono (hg fp s2 H2 C _ s7 _ H7 x u _ I7' r7 (step x H7 y7)) (fun _ s8 ⟨σ8,H8,I8,q8⟩ => ?_) fun _ _ z => z
   refine wpAny_mono (he fp s2 H2 C _ s8 σ8 H8 _ I8 q8) (fun uy s9 ⟨y,H9,I9,r9,m',hm',w9⟩ => ?_) fun _ _ z => z
   obtain ⟨pD,pN,_,_,_⟩:=I9.pin (D,{ cls:=.type "list",data:=.seq us.toArray nn }) (by simp)
   refine append_at (its:=us.toArray) (n:=nn) pD (fun h10 hs10 hD10 => ?_) (by rw [List.size_toArray, ← vy.length]; exact hz)
   have keepfp:∀ b ∈ fp, ∀ o,s7.heap.get? b = some o→s9.heap.get? b = some o∧H9 b = none:=fun b hb o e => by
    have z:=I9.pin (b,o) (List.mem_append_right _ (List.mem_append_right _ (Jcr hb e)))
    exact ⟨z.1,z.2.1⟩
   have I9':Inv (X.inc (own ++ cs.map (·.2)) scope cl fp s2 H2 C) [] (List.replicate own.length none ++ JaO cs σ) H9 s9:=I2.incAgain I9 f2 hcl hcs
   have I10:Inv (X.inc (own ++ cs.map (·.2)) scope cl fp s2 H2 C) [] (List.replicate own.length none ++ JaO cs σ) H9 { s9 with heap:=h10 }:=I9'.turned (it:=D) (t':=s9.toks) (fun b o hb e => (hs10.2 b hb).trans e) pN hDC (.inr (Nat.le_of_eq hDe.symm)) (fun x c e z => by
     obtain ⟨v,o,ho,_⟩:=I2.cell x c (hcl x c e)
     exact ltD _ _ ho z) fun p hp => by simp at hp
   rw [lstP] at hD10
   refine ⟨m',hm',i + 1,ys ++ [y],us ++ [uy],nn + 1,H9,pinD I10 hD10 pN,T.keep _ _ _ st7 fun b hb o e => ?_,fun b hb => ?_,vy.append (.cons r9 .nil),w9⟩
   ·exact (hs10.2 b (Nat.ne_of_lt (hfp b hb))).trans (keepfp b hb o e).1
   ·obtain ⟨o,e,_⟩:=T.obj _ _ st7 b hb
    exact (keepfp b hb o e).2
 exact codeAny_compStart_list (loop _ rfl) (T.self _ 0 _ _ _ (T.keep _ _ _ st2 fun b hb o e => old b o e) (loop _ rfl))
end
end L2
namespace L2
open PySem PySem.Spec PyProof.Rows
section
variable {X:Cx}
def rInU (K:PySem.W.Frag):R2:=fun x y H Q => match x,y with
 | .str i, .str j => Q (.bl (!(Builtin.Str.occurrences j i 0 j.length 1).isEmpty)) H
 | x,y => rIn K false x y H Q
theorem Jhm:OpR X (compareOp .In) (rInU X.K):=fun pins s σ H x y v u Q I rx ry q => by
 unfold rInU at q
 split at q
 ·exact Jgd pins s σ H _ _ v u Q I rx ry ⟨_,_,rfl,rfl,q⟩
 ·exact Jgc pins s σ H _ _ v u Q I rx ry q
theorem JiF {K:PySem.W.Frag} (hK:X.K = K):OpR X (compareOp .In) (rInU K):=hK ▸ Jhm
theorem ix_UK {K:PySem.W.Frag} (hK:X.K = K):IxR X (rIxU K):=hK ▸ ix_U
theorem y5by {K:PySem.W.Frag} {i j:Str} {H:Hp} {Q:VK}:rInU K (.str i) (.str j) H Q = Q (.bl (!(Builtin.Str.occurrences j i 0 j.length 1).isEmpty)) H:=rfl
theorem all_range:∀ bs:List Bool,(List.range bs.length).all (fun i => bs.getD i false) = bs.all id:=fun bs => by
 rw [Bool.eq_iff_iff]
 simp only [List.all_eq_true,List.mem_range,id]
 constructor
 ·intro h x hx
  obtain ⟨i,hi,rfl⟩:=List.mem_iff_getElem.mp hx
  have:=h i hi
  simpa [List.getD_eq_getElem?_getD,hi] using this
 ·intro h i hi
  have:=h bs[i] (List.getElem_mem hi)
  simpa [List.getD_eq_getElem?_getD,hi] using this
def rAll (K:PySem.W.Frag):List V→Hp→VK→Prop:=fun xs H Q => ∃ (p:Addr) (bs:List Bool),xs = [.ref p]∧SqL K H p (bs.map V.bl)∧Q (.bl (bs.all id)) H
theorem JfH (hc:X.calm = true):CallR X (.builtin "all") (rAll X.K):=fun pins s σ H xs us Q I r q => by
 obtain ⟨p,bs,rfl,hL,q⟩:=q
 obtain ⟨its,rv,pl,hz⟩:=I.list hL
 obtain ⟨u,rfl,ru⟩:=vals1 r
 cases (show u = Value.ref p from ru)
 refine call_all_walk (wpAny_pyIter_list pl.isList ?_)
 have hlt:p < s.heap.objs.size:=by
  obtain ⟨_,e,_⟩:=pl.isList
  exact Heap.lt_size e
 refine ⟨s.heap.objs.size,_,_,its.toArray.size,_,_,fun i => bs.getD i false,rfl,Walks.list (by show X.A.handled = none; exact I.ok.hd hc) s.heap.objs.size p (Nat.ne_of_lt hlt) its.toArray,⟨⟨_,Heap.get?_push_size _ rfl,rfl,rfl⟩,pl.isList.push _⟩, ?_, ?_⟩
 ·intro i v s' Q' E' hv hQ
  have hv':its[i]? = some v:=by simpa using hv
  have hi:i < bs.length:=by
   obtain ⟨hl,_⟩:=List.getElem?_eq_some_iff.mp hv'
   have l:=rv.length
   rw [List.length_map] at l
   omega
  obtain ⟨v',e1,e2⟩:=rv.get (i:=i) (x:=.bl bs[i]) (by simp [hi])
  rw [hv'] at e1
  cases e1
  cases (show v = Value.bool bs[i] from e2)
  refine wpAny_truthy_bool ?_
  simpa [List.getD_eq_getElem?_getD,hi] using hQ
 ·intro h' tk k
  have l:=rv.length
  rw [List.length_map] at l
  have ea:(List.range its.toArray.size).all (fun i => bs.getD i false) = bs.all id:=by rw [List.size_toArray, ← l]; exact all_range bs
  rw [ea]
  exact ⟨.bl _,H,I.kept (t':=tk) fun b ob e => k b ob (by have:=Heap.lt_size e; simp; exact Nat.ne_of_lt this) (Heap.get?_push_of_some _ e),rfl,q⟩
def rSlS:V→Option Int→Option Int→Hp→VK→Prop:=fun x lo hi H Q => ∃ z,x = .str z∧z.length ≤ sizeLine∧Q (.str (Txt.slice z lo hi)) H
theorem JiQ:SlR X rSlS:=fun pins s σ H x v vl vu lo hi sl Q I rx hs pl pu h => by
 obtain ⟨z,rfl,hz,q⟩:=h
 obtain ⟨t,rfl⟩:=rx
 refine ⟨"str",_,F.slot_str_getitem.lookup,typeIs_str _ _ _, ?_⟩
 have fin:∀ (t':Tok) (k:Nat),EP X pins σ Q (.str (Txt.slice z lo hi) t') { s with toks:=k }:=fun t' k => ⟨.str _,H,I.tok k,⟨_,rfl⟩,q⟩
 cases pl <;> cases pu
 ·exact wpAny_getItem_str_slice (l:=none) (u:=none) (st:=none) hs rfl (post_val_or_str ⟨Nat.le_trans (Txt.slice_le z _ _) hz,fin⟩)
 ·exact wpAny_getItem_str_slice (l:=none) (u:=some (_,_)) (st:=none) hs rfl (post_val_or_str ⟨Nat.le_trans (Txt.slice_le z _ _) hz,fin⟩)
 ·exact wpAny_getItem_str_slice (l:=some (_,_)) (u:=none) (st:=none) hs rfl (post_val_or_str ⟨Nat.le_trans (Txt.slice_le z _ _) hz,fin⟩)
 ·exact wpAny_getItem_str_slice (l:=some (_,_)) (u:=some (_,_)) (st:=none) hs rfl (post_val_or_str ⟨Nat.le_trans (Txt.slice_le z _ _) hz,fin⟩)
def rSlV (K:PySem.W.Frag):V→Option Int→Option Int→Hp→VK→Prop:=fun x lo hi H Q => rSlU K x lo hi H Q ∨ rSlS x lo hi H Q
theorem sl_V:SlR X (rSlV X.K):=SlR.or sl_U JiQ
end
theorem hcl0 {X:Cx}:∀ (x:Str) (c:Addr),([]:List (Str × Addr)).lookup x = some c→X.env.cells.lookup x = some c:=fun _ _ h => by simp at h
theorem hcs0 {X:Cx} {scope:Scope}:∀ p ∈ ([]:List (Nat × Str)),X.N[p.1]? = some p.2∧X.env.scope.names.lookup p.2 = some .cell∧(relabel scope X.env).names.lookup p.2 = some .cell:=fun _ h => by simp at h
theorem hhas0 {X:Cx} {scope:Scope} (h:scope.names.all (fun p => p.2 != .free && p.2 != .cell) = true):∀ y,((relabel scope X.env).names.lookup y = some .cell ∨ (relabel scope X.env).names.lookup y = some .free)→∃ c,([]:List (Str × Addr)).lookup y = some c:=fun y hy => by
 exfalso
 have h':=List.all_eq_true.mp h
 have go:∀ k,(relabel scope X.env).names.lookup y = some k→k ≠ .cell∧k ≠ .free:=fun k e => by
  have m:=PySem.mem_of_lookup e
  obtain ⟨⟨n,k'⟩,hm,e'⟩:=List.mem_map.mp (show (y,k) ∈ scope.names.map _ from m)
  have z:=h' _ hm
  simp only [bne_iff_ne,ne_eq,Bool.and_eq_true] at z
  have e2:(if (k' == NameKind.free && X.env.scope.kind == .function && X.env.kindOf n == some .cell) = true then (n,NameKind.cell) else (n,k')) = (y,k):=e'
  split at e2
  ·rename_i c
   rw [Bool.and_eq_true,Bool.and_eq_true] at c
   exact absurd (beq_iff_eq.mp c.1.1) z.1
  ·cases e2
   exact ⟨z.2,z.1⟩
 rcases hy with hy | hy
 ·exact (go _ hy).1 rfl
 ·exact (go _ hy).2 rfl
def tyD:D→String
 | .non => "NoneType"
 | .bl _ => "bool"
 | .int _ => "int"
 | .str _ => "str"
 | .tup _ => "tuple"
 | .lst _ => "list"
theorem Rep.tyN {K:PySem.W.Frag} {H:Hp} {d:D} {x:V} (h:Rep K H d x):L2.tyN K H x (tyD d):=by
 cases d <;> simp only [Rep] at h
 ·subst h; rfl
 ·subst h; rfl
 ·subst h; rfl
 ·subst h; rfl
 ·obtain ⟨a,xs,rfl,q,_⟩:=h; exact .inr ⟨rfl,xs,q⟩
 ·obtain ⟨a,xs,rfl,q,_⟩:=h; exact .inl ⟨rfl,xs,q⟩
mutual
def szD:D→Prop
 | .int i => Mth.Sz 4000 i
 | .str s => s.length ≤ 1000
 | .tup xs => szL xs
 | .lst xs => szL xs
 | _ => True
def szL:List D→Prop
 | [] => True
 | x :: xs => szD x∧szL xs
end
def lowB (c:Nat):Bool:=decide (97 ≤ c∧c ≤ 122)
def nameS (s:Str):Bool:=(decide (1 ≤ s.length) && decide (s.length ≤ 8)) && s.cps.toList.all lowB
def nameB:D→Bool
 | .str s => nameS s
 | _ => false
def Ja6:D→Bool
 | .int _ => true
 | _ => false
def fracB:D→Bool
 | .tup [.int a, .int b] => decide (1 ≤ b) && decide (Mth.g a b = 1)
 | _ => false
def JbN:D→Bool
 | .non => true
 | d => fracB d
def Jbe (d e:D):Bool:=nameB d && nameB e && !eqD d e
def lessD:D→D→Bool
 | .tup [.int a, .int b], .tup [.int c, .int d] => decide (a * d < c * b)
 | _,_ => false
def Jb3 (l g:D):Bool:=JbN l && JbN g && !lessD g l
def tieB:D→Bool
 | .tup [n,s,e,l,g] => nameB n && Jbe s e && Jb3 l g
 | _ => false
theorem Jfo:(Str.ofString "abcdefghijklmnopqrstuvwxyz").cps.toList = List.range' 97 26:=by decide
theorem Jfm (c:Nat):(!(Builtin.Str.occurrences (Str.ofString "abcdefghijklmnopqrstuvwxyz") ⟨#[c]⟩ 0 (Str.ofString "abcdefghijklmnopqrstuvwxyz").length 1).isEmpty) = lowB c:=by
 rw [StrLaws.found_one,Jfo]
 unfold lowB
 congr 1
 rw [List.mem_range']
 refine propext ⟨fun ⟨i,hi,e⟩ => by omega,fun h => ⟨c - 97,by omega,by omega⟩⟩
end L2
namespace L2
open PySem PySem.Spec PyProof.Rows
structure KCal (P:Program) (w:World) (K:PySem.W.Frag) (mg:Str→Option Value) (base:Heap) (k:Nat) (x:Str) (C:Addr) (ps:List Str) (sp:Sp):Prop where
 ex:∃ (f:Addr) (fd:FuncData),FnOk P w K mg base (CX1 P w) k f fd ps sp∧mg x = some (.ref C)∧Mk K C f∧Binds K fd ps []
structure MCal (P:Program) (w:World) (K:PySem.W.Frag) (mg:Str→Option Value) (base:Heap) (k:Nat) (m:Str) (Cs:Addr→Prop) (ps:List Str) (sp:Sp):Prop where
 ex:∃ (f:Addr) (fd:FuncData),FnOk P w K mg base (CX1 P w) k f fd ps sp∧(∀ C,Cs C→Cls K C∧Meth K C m f)∧PySem.W.keepIn K (.ref f) = true∧Binds K fd ps []
def Jgx (Cs:Addr→Prop) (m:Str) (sp:Sp) (E:XK) (ta:TE) (t:TA):TE:=fun σ H Q => ta σ H fun x H1 => ∃ a C dx fs,x = .ref a∧H1 a = some (.ins C dx fs)∧Cs C∧fs.lookup m = none∧t σ H1 fun vs H2 => sp (x :: vs) H2 Q E
section
variable {X:Cx} {k k':Nat} {x mn:Str} {C:Addr} {Cs:Addr→Prop} {ps:List Str} {sp:Sp} {E:XK} {p pos apos:Pos} {e o:Expr} {es:List Expr} {t:TA} {ta:TE}
theorem KCal.ev (G:KCal X.prog X.w X.K X.mg X.base k x C ps sp) (hr:Room k' X.A) (hk:k + 1 ≤ k') (hg:Gl X x) (hx:Jbo (CX1 X.prog X.w) X E) (ha:PA X (e :: es) t)
  (hdb:(x == ("__debug__" : Str)) = false:=by decide) (he:starEach (e :: es) X.env = (false,eval e X.env) :: starEach es X.env:=by rfl) (hpl:(backTo pos (starEach es X.env)).any (·.1) = false:=by rfl) :
  PE X (.Call (.Name x p) (e :: es) [] pos) (tMake C sp [] E t):=by
 obtain ⟨f,fd,F,hm,M,hb⟩:=G.ex
 exact Jh3 M F (hr.mono hk) hg hm hb .nil hx ha hdb he hpl
theorem MCal.m {pl:Sem Bool} (G:MCal X.prog X.w X.K X.mg X.base k mn Cs ps sp) (hr:Room k' X.A) (hk:k ≤ k') (hx:Jbo (CX1 X.prog X.w) X E) (ho:PE X o ta) (ha:PA X (e :: es) t)
  (hst:starEach (e :: es) X.env = (false,eval e X.env) :: starEach es X.env:=by rfl) (hpl:(backTo pos (starEach es X.env)).any (·.1) = false:=by rfl)
  (ht:eval (.Call (.Attribute o mn apos) (e :: es) [] pos) X.env = (do
   let ov ← eval o X.env
   standAt apos.atName
   let (f,first) ← holding [ov] (getMethod ov mn pl)
   callWith pos f first (backTo pos (starEach (e :: es) X.env)) (backToKw pos (keywordEach [] X.env))):=by rfl) :
  PE X (.Call (.Attribute o mn apos) (e :: es) [] pos) (Jgx Cs mn sp E ta t):=by
 obtain ⟨f,fd,F,hm,kp,hb⟩:=G.ex
 intro pins s σ H Q I h
 refine PySem.W.methodCall_KW (pl:=pl) (thn (ho pins s σ H _ I h) fun u s1 ⟨x,H1,I1,rx,a,C,dx,fs,ex,ea,hC,l,q⟩ => ?_) ht
 subst ex
 obtain rfl:u = Value.ref a:=rx
 refine Jdj I1 ea (hm C hC).1 (hm C hC).2 l ?_
 refine PySem.W.callWith_K (first:=[.ref a]) (h₀:=X.base) I.ok.mod.kin kp (thn (ha pos pins s1 σ H1 _ I1 q) fun us s2 ⟨vs,H2,I2,r,q2⟩ => ⟨I2.kIn, ?_⟩) hst hpl
 exact Je9 (us:=.ref a :: us) (vs:=.ref a :: vs) F (hr.mono hk) hb .nil hx I2 (.cons rfl r) (by simpa using q2)
theorem MCal.m0 {pl:Sem Bool} (G:MCal X.prog X.w X.K X.mg X.base k mn Cs ps sp) (hr:Room k' X.A) (hk:k ≤ k') (hx:Jbo (CX1 X.prog X.w) X E) (ho:PE X o ta)
  (ht:eval (.Call (.Attribute o mn apos) [] [] pos) X.env = (do
   let ov ← eval o X.env
   standAt apos.atName
   let (f,first) ← holding [ov] (getMethod ov mn pl)
   callWith pos f first (backTo pos (starEach [] X.env)) (backToKw pos (keywordEach [] X.env))):=by rfl) :
  PE X (.Call (.Attribute o mn apos) [] [] pos) (Jgx Cs mn sp E ta tNil):=by
 obtain ⟨f,fd,F,hm,kp,hb⟩:=G.ex
 intro pins s σ H Q I h
 refine PySem.W.methodCall_KW (pl:=pl) (thn (ho pins s σ H _ I h) fun u s1 ⟨x,H1,I1,rx,a,C,dx,fs,ex,ea,hC,l,q⟩ => ?_) ht
 subst ex
 obtain rfl:u = Value.ref a:=rx
 refine Jdj I1 ea (hm C hC).1 (hm C hC).2 l ?_
 exact PySem.W.callWith_K0 (first:=[.ref a]) I1.kIn kp (Je9 (us:=[.ref a]) (vs:=[.ref a]) F (hr.mono hk) hb .nil hx I1 (.cons rfl .nil) (show sp ([.ref a] ++ []) H1 Q E from q))
def rMulS:R2:=fun x y H Q => match x,y with
 | .str z, .int n => 0 < n∧n < 1000∧z.length ≤ 1000∧∀ z':Str,z'.cps.toList = (List.replicate n.toNat z.cps.toList).flatten→Q (.str z') H
 | x,y => rMulU x y H Q
theorem Jdt:∀ (l:List (Array Nat)) (acc:Array Nat),(l.foldl (· ++ ·) acc).toList = acc.toList ++ (l.map (·.toList)).flatten
 | [],acc => by simp
 | x :: l,acc => by
  rw [List.foldl_cons,Jdt l]
  simp
theorem Jgf:OpR X (binaryOp .Mult) rMulS:=fun pins s σ H x y v u Q I rx ry q => by
 unfold rMulS at q
 split at q
 ·rename_i z n
  obtain ⟨h0,h1,h2,q⟩:=q
  obtain ⟨t,rfl⟩:=rx
  obtain ⟨t',rfl⟩:=ry
  have hz:z.cps.size = z.length:=rfl
  have big:z.length * n.toNat ≤ 1000 * 1000:=Nat.mul_le_mul h2 (by omega)
  refine PySem.P.mul_str (by simp; omega) (fun _ _ => ?_) (fun _ _ => ?_) ?_
  ·have : (1000:Int) ≤ (2 ^ 63 - 1) / n:=by
    rw [Int.le_ediv_iff_mul_le h0]
    omega
   omega
  ·unfold Builtin.Str.tooLong
   simp
   have : (1000 * 1000:Nat) ≤ sizeLine:=by decide
   omega
  ·rw [if_neg (by omega)]
   split
   ·rename_i c
    refine ⟨.str z,H,I,⟨_,rfl⟩,q z ?_⟩
    rcases Bool.or_eq_true _ _ |>.mp c with c | c
    ·obtain rfl:n = 1:=by simpa using c
     simp
    ·have e:z.cps.toList = []:=by
      have : z.length = 0:=by simpa using c
      exact List.eq_nil_of_length_eq_zero (by rw [Array.length_toList]; exact this)
     rw [e]
     simp
   ·refine ⟨?_, .str _,H,I.tok _,⟨_,rfl⟩,q _ ?_⟩
    ·show (Array.size _) ≤ sizeLine
     rw [← Array.length_toList,Jdt]
     simp
     have : (1000 * 1000:Nat) ≤ sizeLine:=by decide
     rw [Nat.mul_comm,hz]
     omega
    ·rw [Jdt]
     simp
 ·exact JhZ pins s σ H _ _ v u Q I rx ry q
def rIsN:R2:=fun x y H Q => y = .non∧Q (.bl (decide (x = .non))) H
def rNotN:R2:=fun x y H Q => y = .non∧Q (.bl (!decide (x = .non))) H
theorem JcZ:OpR X (compareOp .Is) rIsN:=JiG
theorem JcK:OpR X (compareOp .IsNot) rNotN:=Jh0
def JiN (K:PySem.W.Frag):List V→Hp→VK→Prop:=fun xs H Q => ∃ p ys,xs = [.ref p]∧(SqL K H p ys ∨ SqT K H p ys)∧∀ l,H l = none→Q (.ref l) (upd H l (.lst ys))
theorem Jco:CallR X (.type "list") (JiN X.K):=Jd1
end
section
variable {K:PySem.W.Frag} {H:Hp} {Q:VK}
theorem y5ey {x:V}:rIsN x .non H Q = Q (.bl (decide (x = .non))) H:=by simp [rIsN]
theorem y74y {x:V}:rNotN x .non H Q = Q (.bl (!decide (x = .non))) H:=by simp [rNotN]
theorem y64y {C:Addr} {sp:Sp} {dvs:List V} {E:XK} {t:TA} {σ : St}:tMake C sp dvs E t σ H Q = t σ H fun vs H1 => ∀ x dx,H1 x = none→H1 dx = none→dx ≠ x→sp (.ref x :: (vs ++ dvs)) (upd (upd H1 dx (.own x)) x (.ins C dx [])) (fun v H2 => v = .non∧Q (.ref x) H2) E:=rfl
theorem y65y {Cs:Addr→Prop} {mn:Str} {sp:Sp} {E:XK} {ta:TE} {t:TA} {σ : St}:Jgx Cs mn sp E ta t σ H Q = ta σ H fun x H1 => ∃ a C dx fs,x = .ref a∧H1 a = some (.ins C dx fs)∧Cs C∧fs.lookup mn = none∧t σ H1 fun vs H2 => sp (x :: vs) H2 Q E:=rfl
theorem y4by {ta:TE} {f:Str} {σ : St}:tFld K ta f σ H Q = ta σ H fun x H1 => ∃ a C dx fs v,x = .ref a∧H1 a = some (.ins C dx fs)∧Cls K C∧JaS K C f∧fs.lookup f = some v∧Q v H1:=rfl
theorem y82y {ta tv:TE} {f:Str} {σ : St} {En:Ends}:sFld K ta tv f En σ H = tv σ H fun y H1 => ta σ H1 fun x H2 => ∃ a C dx fs,x = .ref a∧H2 a = some (.ins C dx fs)∧Cls K C∧JaS K C f∧fs.length < 1000∧En.nx σ (upd H2 a (.ins C dx (putF f y fs))):=rfl
theorem y2cy {T:String} {r:V→List V→Hp→VK→Prop} {to:TE} {t:TA} {σ : St}:tBM K T r to t σ H Q = to σ H fun x H1 => tyV K T x H1∧t σ H1 fun vs H2 => r x vs H2 Q:=rfl
theorem y55y {g:TG} {gs:TGs} {v:V} {r:List V} {σ : St} {R:St→Hp→Prop}:gCons g gs (v :: r) σ H R = g v σ H fun σ' H' => gs r σ' H' R:=by
 unfold gCons
 refine propext ⟨fun ⟨v',r',e,h⟩ => ?_,fun h => ⟨v,r,rfl,h⟩⟩
 cases e
 exact h
theorem y57y {σ : St} {R:St→Hp→Prop}:gNil [] σ H R = R σ H:=by unfold gNil; simp
theorem FrV.of_rep {x:V} {a b:Int} (h:Rep K H (.tup [.int a, .int b]) x):FrV K H x a b:=by
 simp only [Rep,RepL] at h
 obtain ⟨p,xs,rfl,q,v,r,rfl,rfl,v',r',rfl,rfl,rfl⟩:=h
 exact ⟨p,rfl,q⟩
theorem Jcq {d:D} (h:fracB d = true):∃ a b,d = .tup [.int a, .int b]∧1 ≤ b∧Mth.g a b = 1:=by
 unfold fracB at h
 split at h
 ·rw [Bool.and_eq_true] at h
  exact ⟨_,_,rfl,by simpa using h.1,by simpa using h.2⟩
 ·cases h
theorem Jdl {d:D} (h:nameB d = true):∃ z,d = .str z∧nameS z = true:=by
 cases d <;> first | exact ⟨_,rfl,h⟩ | (simp [nameB] at h)
theorem Rep.str {d:Str} {x:V} (h:Rep K H (.str d) x):x = .str d:=by simpa only [Rep] using h
def nonD:D→Bool
 | .non => true
 | _ => false
theorem Jf7 {d:D} (h:d ≠ .non):nonD d = false:=by cases d <;> first | rfl | exact absurd rfl h
theorem Rep.nonV {d:D} {x:V} (hx:Rep K H d x):decide (x = .non) = nonD d:=by
 cases d <;> simp only [Rep] at hx
 ·subst hx; rfl
 ·subst hx; rfl
 ·subst hx; rfl
 ·subst hx; rfl
 ·obtain ⟨a,xs,rfl,_⟩:=hx; rfl
 ·obtain ⟨a,xs,rfl,_⟩:=hx; rfl
theorem putE {H':Hp} {l:Addr} {o:HO} (e:upd H l o = H'):H' l = some o:=by rw [← e,Jak]
end
end L2
namespace L2
open PySem PySem.Spec PyProof.Rows
section
variable {En:Ends} {σ : St} {H:Hp} {Q:VK} {ta tb te tc td:TE} {K:PySem.W.Frag}
end
end L2
namespace L2
open PySem PySem.Spec PyProof.Rows
section
variable {X:Cx} {tg:Expr}
end
end L2
namespace L2
open PySem PySem.Spec PyProof.Rows
section
variable {X:Cx} {tg:Expr}
end
end L2
namespace L2
open PySem PySem.Spec PyProof.Rows
section
variable {prog:Program} {w:World} {A:Around} {E:Value→Shared→Prop} {R:Result→Shared→Prop} {s:Shared}
end
def JiT (k:Nat) (cs:List (Nat × Str)) (wi:TI) (g:TG) (tt:TT) (te:TE):TE:=fun σ H Q => wi σ H fun J H1 => ∃ W:Nat→Nat→List V→Hp→Prop,(∃ m,W 0 m [] H1)∧∀ i m ys H2,W i m ys H2→ys.length ≤ sizeLine ∧
  ((J.stop i H2∧∀ p,H2 p = none→Q (.ref p) (upd H2 p (.lst ys))) ∨
   (J.go i H2∧∀ x H3,J.yld i H2 x H3→g x (List.replicate k none ++ JaO cs σ) H3 fun σ4 H4 => tt σ4 H4 fun b H5 => if b = true then te σ4 H5 fun y H6 => ∃ m',m' < m∧W (i + 1) m' (ys ++ [y]) H6 else ∃ m',m' < m∧W (i + 1) m' ys H5))
section
variable {X:Cx} {tg:Expr}
end
end L2
namespace L2
open PySem PySem.Spec PyProof.Rows
section
variable {X:Cx} {pins:List (Addr × Obj)} {σ : St} {H:Hp} {s:Shared} {h':Heap}
end
section
variable {X:Cx} {elts:List Expr} {x1:Nat} {tp:Pos}
end
section
variable {σ : St} {H:Hp} {Q:VK} {td ty tv tx:TE} {K:PySem.W.Frag} {En:Ends}
theorem y3by:tDGet td ty σ H Q = td σ H fun x H1 => ty σ H1 fun y H2 => ∃ a v,x = .ref a∧DGet H2 a y (some v)∧Q v H2:=rfl
theorem y44y:sDPut td ty tv En σ H = tv σ H fun v H1 => td σ H1 fun x H2 => ty σ H2 fun y H3 => ∃ a H4,x = .ref a∧DPut H3 a y v H4∧En.nx σ H4:=rfl
theorem y41y:JiU σ H Q = ∀ p,H p = none→Q (.ref p) (upd H p (.dT [])):=rfl
theorem y40y:Jhr σ H Q = ∀ p,H p = none→Q (.ref p) (upd H p (.dK [])):=rfl
end
end L2
namespace L2
open PySem PySem.Spec PyProof.Rows
theorem hu1 {a b:Nat} (h:a + 64 < b):a + 1 < b:=by omega
section
variable {X:Cx}
def rMul0:R2:=fun x y H Q => match x,y with
 | .str z, .int n => 0 ≤ n∧n < 1000∧z.length ≤ 1000∧∀ z':Str,z'.cps.toList = (List.replicate n.toNat z.cps.toList).flatten→Q (.str z') H
 | x,y => rMulS x y H Q
theorem JaW:OpR X (binaryOp .Mult) rMul0:=fun pins s σ H x y v u Q I rx ry q => by
 unfold rMul0 at q
 split at q
 ·rename_i z n
  obtain ⟨h0,h1,h2,q⟩:=q
  by_cases hn:n = 0
  ·subst hn
   obtain ⟨t,rfl⟩:=rx
   obtain ⟨t',rfl⟩:=ry
   exact PySem.P.mul_str_none (by decide) (by decide) ⟨.str _,H,I.tok _,⟨_,rfl⟩,q Str.empty rfl⟩
  ·exact Jgf pins s σ H _ _ v u Q I rx ry ⟨by omega,h1,h2,q⟩
 ·exact Jgf pins s σ H _ _ v u Q I rx ry q
end
section
variable {K:PySem.W.Frag} {H:Hp} {Q:VK} {σ : St} {td ty:TE}
theorem y69y {i j:Int}:rMul0 (.int i) (.int j) H Q = (IntMulOk i j∧Q (.int (i * j)) H):=rfl
theorem y3cy:Jhp td ty σ H Q = td σ H fun x H1 => ∃ a,x = .ref a∧IsD H1 a∧ty σ H1 fun y H2 => ∃ o,DGet H2 a y o∧Q (o.getD .non) H2:=rfl
theorem JeW {xs:List V} {j:Nat} (h:j ≤ xs.length):cutV xs (some (j:Int)) none = xs.drop j:=by
 unfold cutV HT.sIx
 dsimp only
 rw [if_neg (by omega)]
 rw [List.take_of_length_le (by simp)]
 congr 1
 omega
theorem Jim {xs:List V} {j:Nat} (h:j ≤ xs.length):cutV xs none (some (j:Int)) = xs.take j:=by
 unfold cutV HT.sIx
 dsimp only
 rw [if_neg (by omega)]
 simp only [List.drop_zero,Nat.sub_zero]
 congr 1
 omega
end
end L2
namespace L2
open PySem PySem.Spec PyProof.Rows
theorem ForA.byL {K:PySem.W.Frag} {a:Addr} {xs:List V} {g:TG} {tb:TS} {D:Ends} {σ : St} {H:Hp} (hA:SqL K H a xs) (Pv:Nat→St→Hp→Prop) (h0:Pv 0 σ H) (hl:∀ i σ H',Pv i σ H'→SqL K H' a xs)
  (hs:∀ i x σ H,xs[i]? = some x→Pv i σ H→g x σ H fun σ2 H2 => tb { D with nx:=Pv (i + 1),ct:=Pv (i + 1),bk:=D.nx } σ2 H2) (hd:∀ σ H,Pv xs.length σ H→D.nx σ H):ForA K a g tb D σ H:=by
 refine .inl ⟨⟨xs,hA⟩,fun i m σ H => Pv i σ H∧i ≤ xs.length∧m = xs.length - i,⟨_,h0,Nat.zero_le _,rfl⟩, ?_⟩
 rintro i m σ H ⟨hp,hi,rfl⟩
 have hq:=hl i σ H hp
 by_cases lt:i < xs.length
 ·refine .inr ⟨⟨xs,xs[i],hq,List.getElem?_eq_getElem lt⟩,Pv (i + 1),fun σ' H' p => ⟨_,Nat.sub_lt_sub_left lt (Nat.lt_succ_self i),p,lt,rfl⟩, ?_⟩
  rintro x H' ⟨rfl,hx⟩
  exact hs i x σ _ (hx xs hq) hp
 ·have e:i = xs.length:=by omega
  subst e
  exact .inl ⟨⟨xs,hq,Nat.le_refl _⟩,hd σ H hp⟩
theorem compL {K:PySem.W.Frag} {cs:List (Nat × Str)} {k:Nat} {g:TG} {te:TE} {σ : St} {a:Addr} {xs:List V} {H1:Hp} {Q:VK} (Pv:Nat→List V→Hp→Prop) (h0:Pv 0 [] H1) (hl:∀ i ys H',i ≤ xs.length→Pv i ys H'→SqL K H' a xs∧ys.length ≤ sizeLine)
  (hs:∀ i x ys H2,xs[i]? = some x→Pv i ys H2→g x (List.replicate k none ++ JaO cs σ) H2 fun σ4 H4 => te σ4 H4 fun y H5 => Pv (i + 1) (ys ++ [y]) H5) (hd:∀ ys H2,Pv xs.length ys H2→∀ p,H2 p = none→Q (.ref p) (upd H2 p (.lst ys))) :
  ∃ W:Nat→Nat→List V→Hp→Prop,(∃ m,W 0 m [] H1)∧∀ i m ys H2,W i m ys H2→ys.length ≤ sizeLine∧(((Itl K a).stop i H2∧∀ p,H2 p = none→Q (.ref p) (upd H2 p (.lst ys))) ∨
   ((Itl K a).go i H2∧∀ x H3,(Itl K a).yld i H2 x H3→g x (List.replicate k none ++ JaO cs σ) H3 fun σ4 H4 => te σ4 H4 fun y H5 => ∃ m',m' < m∧W (i + 1) m' (ys ++ [y]) H5)):=by
 refine ⟨fun i m ys H2 => Pv i ys H2∧i ≤ xs.length∧m = xs.length - i,⟨_,h0,Nat.zero_le _,rfl⟩, ?_⟩
 rintro i m ys H2 ⟨hp,hi,rfl⟩
 obtain ⟨hq,hz⟩:=hl i ys H2 hi hp
 refine ⟨hz, ?_⟩
 by_cases lt:i < xs.length
 ·refine .inr ⟨⟨xs,xs[i],hq,List.getElem?_eq_getElem lt⟩, ?_⟩
  rintro x H3 ⟨rfl,hx⟩
  have e:(fun (σ4:St) (H4:Hp) => te σ4 H4 fun y H5 => Pv (i + 1) (ys ++ [y]) H5) = fun σ4 H4 => te σ4 H4 fun y H5 => ∃ m',m' < xs.length - i∧Pv (i + 1) (ys ++ [y]) H5∧i + 1 ≤ xs.length∧m' = xs.length - (i + 1):=by
   funext σ4 H4
   congr 1
   funext y H5
   exact propext ⟨fun q => ⟨_,Nat.sub_lt_sub_left lt (Nat.lt_succ_self i),q,lt,rfl⟩,fun ⟨_,_,q,_⟩ => q⟩
  rw [← e]
  exact hs i x ys _ (hx xs hq) hp
 ·have e:i = xs.length:=by omega
  subst e
  exact .inl ⟨⟨xs,hq,Nat.le_refl _⟩,hd ys H2 hp⟩
theorem Jil {K:PySem.W.Frag} {cs:List (Nat × Str)} {k:Nat} {g:TG} {tt:TT} {te:TE} {σ : St} {a:Addr} {xs:List V} {H1:Hp} {Q:VK} (Pv:Nat→List V→Hp→Prop) (h0:Pv 0 [] H1) (hl:∀ i ys H',i ≤ xs.length→Pv i ys H'→SqL K H' a xs∧ys.length ≤ sizeLine)
  (hs:∀ i x ys H2,xs[i]? = some x→Pv i ys H2→g x (List.replicate k none ++ JaO cs σ) H2 fun σ4 H4 => tt σ4 H4 fun b H5 => if b = true then te σ4 H5 fun y H6 => Pv (i + 1) (ys ++ [y]) H6 else Pv (i + 1) ys H5) (hd:∀ ys H2,Pv xs.length ys H2→∀ p,H2 p = none→Q (.ref p) (upd H2 p (.lst ys))) :
  ∃ W:Nat→Nat→List V→Hp→Prop,(∃ m,W 0 m [] H1)∧∀ i m ys H2,W i m ys H2→ys.length ≤ sizeLine∧(((Itl K a).stop i H2∧∀ p,H2 p = none→Q (.ref p) (upd H2 p (.lst ys))) ∨
   ((Itl K a).go i H2∧∀ x H3,(Itl K a).yld i H2 x H3→g x (List.replicate k none ++ JaO cs σ) H3 fun σ4 H4 => tt σ4 H4 fun b H5 => if b = true then te σ4 H5 fun y H6 => ∃ m',m' < m∧W (i + 1) m' (ys ++ [y]) H6 else ∃ m',m' < m∧W (i + 1) m' ys H5)):=by
 refine ⟨fun i m ys H2 => Pv i ys H2∧i ≤ xs.length∧m = xs.length - i,⟨_,h0,Nat.zero_le _,rfl⟩, ?_⟩
 rintro i m ys H2 ⟨hp,hi,rfl⟩
 obtain ⟨hq,hz⟩:=hl i ys H2 hi hp
 refine ⟨hz, ?_⟩
 by_cases lt:i < xs.length
 ·refine .inr ⟨⟨xs,xs[i],hq,List.getElem?_eq_getElem lt⟩, ?_⟩
  rintro x H3 ⟨rfl,hx⟩
  have w:∀ (zs:List V) (H5:Hp),Pv (i + 1) zs H5 = ∃ m',m' < xs.length - i∧Pv (i + 1) zs H5∧i + 1 ≤ xs.length∧m' = xs.length - (i + 1):=fun zs H5 =>
   propext ⟨fun q => ⟨_,Nat.sub_lt_sub_left lt (Nat.lt_succ_self i),q,lt,rfl⟩,fun ⟨_,_,q,_⟩ => q⟩
  have w1:(fun (y:V) (H6:Hp) => Pv (i + 1) (ys ++ [y]) H6) = fun y H6 => ∃ m',m' < xs.length - i∧Pv (i + 1) (ys ++ [y]) H6∧i + 1 ≤ xs.length∧m' = xs.length - (i + 1):=by
   funext y H6
   exact w _ _
  have e:(fun (σ4:St) (H4:Hp) => tt σ4 H4 fun b H5 => if b = true then te σ4 H5 fun y H6 => Pv (i + 1) (ys ++ [y]) H6 else Pv (i + 1) ys H5) = fun σ4 H4 => tt σ4 H4 fun b H5 => if b = true then te σ4 H5 fun y H6 => ∃ m',m' < xs.length - i∧Pv (i + 1) (ys ++ [y]) H6∧i + 1 ≤ xs.length∧m' = xs.length - (i + 1) else ∃ m',m' < xs.length - i∧Pv (i + 1) ys H5∧i + 1 ≤ xs.length∧m' = xs.length - (i + 1):=by
   funext σ4 H4
   congr 1
   funext b H5
   by_cases hb:b = true
   ·rw [if_pos hb,if_pos hb, ← w1]
   ·rw [if_neg hb,if_neg hb]
    exact w ys H5
  have:=hs i x ys _ (hx xs hq) hp
  rw [e] at this
  exact this
 ·have e:i = xs.length:=by omega
  subst e
  exact .inl ⟨⟨xs,hq,Nat.le_refl _⟩,hd ys H2 hp⟩
end L2
namespace Ch
open PySem
structure TD where
 nm:Str
 st:Str
 en:Str
 lo:Option (Int × Int)
 hi:Option (Int × Int)
structure SD where
 src:Str
 dst:Str
 c:Int × Int
 nm:Str
 fw:Bool
def fwd (t:TD):List SD:=match t.hi with
 | some h => [⟨t.st,t.en,h,t.nm,true⟩]
 | none => []
def bwd (t:TD):List SD:=match t.lo with
 | some l => [⟨t.en,t.st,(-l.1,l.2),t.nm,false⟩]
 | none => []
def steps (t:TD):List SD:=fwd t ++ bwd t
def all (ts:List TD):List SD:=ts.flatMap steps
abbrev Pr:=Str × Bool
def key (s:SD):Pr:=(s.nm,s.fw)
def find (ss:List SD) (k:Pr):Option SD:=ss.find? fun s => decide (key s = k)
def lastA (acc:Option SD) (ss:List SD) (k:Pr):Option SD:=ss.foldl (fun a s => if key s = k then some s else a) acc
def last (ss:List SD) (k:Pr):Option SD:=lastA none ss k
def addF (a c:Int × Int):Int × Int:=(Mth.top (a.1 * c.2 + c.1 * a.2) (a.2 * c.2),Mth.bot (a.1 * c.2 + c.1 * a.2) (a.2 * c.2))
structure FOk (n:Nat) (a:Int × Int):Prop where
 s1:Mth.Sz n a.1
 s2:Mth.Sz n a.2
 b1:1 ≤ a.2
 g1:Mth.g a.1 a.2 = 1
theorem FOk.mono {m n:Nat} {a:Int × Int} (h:FOk m a) (k:m ≤ n):FOk n a:=⟨h.s1.mono k,h.s2.mono k,h.b1,h.g1⟩
end Ch
namespace L2
open PySem PySem.Spec PyProof.Rows Ch
def isTF:HO→Bool
 | .tup _ => true
 | .frz _ _ => true
 | _ => false
def SameT (H H':Hp):Prop:=∀ b u,isTF u = true→H b = some u→H' b = some u
theorem SameT.refl (H:Hp):SameT H H:=fun _ _ _ h => h
theorem SameT.trans {H H1 H2:Hp} (a:SameT H H1) (b:SameT H1 H2):SameT H H2:=fun c o t h => b c o t (a c o t h)
theorem Same.t {H H':Hp} (a:Same H H'):SameT H H':=fun b u _ h => a b u h
theorem SameT.put {H H':Hp} {l:Addr} {o o':HO} (e:upd H l o = H') (hl:H l = some o') (ht:isTF o' = false):SameT H H':=fun b u t h => by
 rw [← e,Jae (ne_of h hl fun q => by rw [q,ht] at t; cases t)]
 exact h
theorem SqT.sameT {K:PySem.W.Frag} {H H':Hp} {a:Addr} {xs:List V} (e:SameT H H') (h:SqT K H a xs):SqT K H' a xs:=by
 rcases h with (h | ⟨o,h⟩) | h
 ·exact .inl (.inl (e _ _ rfl h))
 ·exact .inl (.inr ⟨o,e _ _ rfl h⟩)
 ·exact .inr h
theorem FrV.sameT {K:PySem.W.Frag} {H H':Hp} {v:V} {a b:Int} (S:SameT H H') (h:FrV K H v a b):FrV K H' v a b:=by
 obtain ⟨p,e,q⟩:=h
 exact ⟨p,e,q.sameT S⟩
def frD (a:Int × Int):D:=.tup [.int a.1, .int a.2]
def bD:Option (Int × Int)→D
 | none => .non
 | some a => frD a
def tdD (t:TD):D:=.tup [.str t.nm, .str t.st, .str t.en,bD t.lo,bD t.hi]
def pD (s:SD):D:=.tup [.str s.src, .str s.dst,frD s.c, .bl s.fw]
def BV (K:PySem.W.Frag) (H:Hp):Option (Int × Int)→V→Prop
 | none,v => v = .non
 | some a,v => FrV K H v a.1 a.2
theorem BV.rep {K:PySem.W.Frag} {H:Hp} {o:Option (Int × Int)} {v:V} (h:BV K H o v):Rep K H (bD o) v:=by
 cases o with
 | none => simp only [bD,Rep]; exact h
 | some a => exact FrV.rep h
theorem BV.sameT {K:PySem.W.Frag} {H H':Hp} {o:Option (Int × Int)} {v:V} (S:SameT H H') (h:BV K H o v):BV K H' o v:=by
 cases o with
 | none => exact h
 | some a => exact FrV.sameT S h
def TV (K:PySem.W.Frag) (H:Hp) (t:TD) (x:V):Prop:=∃ b vl vg,x = .ref b∧SqT K H b [.str t.nm, .str t.st, .str t.en,vl,vg]∧BV K H t.lo vl∧BV K H t.hi vg
def PV (K:PySem.W.Frag) (H:Hp) (s:SD) (x:V):Prop:=∃ b v,x = .ref b∧SqT K H b [.str s.src, .str s.dst,v, .bl s.fw]∧FrV K H v s.c.1 s.c.2
def CV (H:Hp) (c:Pr) (x:V):Prop:=∃ b,x = .ref b∧H b = some (.tup [.str c.1, .bl c.2])
section
variable {K:PySem.W.Frag} {H H':Hp}
theorem TV.sameT {t:TD} {x:V} (S:SameT H H'):TV K H t x→TV K H' t x:=fun ⟨b,vl,vg,e,q,h1,h2⟩ => ⟨b,vl,vg,e,q.sameT S,h1.sameT S,h2.sameT S⟩
theorem CV.sameT {c:Pr} {x:V} (S:SameT H H'):CV H c x→CV H' c x:=fun ⟨b,e,q⟩ => ⟨b,e,S _ _ rfl q⟩
theorem TV.rep {t:TD} {x:V}:TV K H t x→Rep K H (tdD t) x:=fun ⟨b,vl,vg,e,q,h1,h2⟩ => by
 simp only [tdD,Rep,RepL]
 exact ⟨b,_,e,q,_,_,rfl,rfl,_,_,rfl,rfl,_,_,rfl,rfl,_,_,rfl,h1.rep,_,_,rfl,h2.rep,rfl⟩
end
def All2 {α : Type} (P : α→V→Prop):List α→List V→Prop
 | [],xs => xs = []
 | a :: as,xs => ∃ x r,xs = x :: r∧P a x∧All2 P as r
section
variable {α : Type} {P P' : α→V→Prop}
theorem All2.mono:∀ {as:List α} {xs:List V},(∀ a x,P a x→P' a x)→All2 P as xs→All2 P' as xs
 | [],_,_,h => h
 | a :: as,xs,f,h => by
  obtain ⟨x,r,e,h1,h2⟩:=h
  exact ⟨x,r,e,f _ _ h1,All2.mono f h2⟩
theorem All2.length:∀ {as:List α} {xs:List V},All2 P as xs→xs.length = as.length
 | [],_,h => by rw [show _ = _ from h]; rfl
 | a :: as,xs,h => by
  obtain ⟨x,r,e,h1,h2⟩:=h
  rw [e,List.length_cons,List.length_cons,h2.length]
theorem All2.at_:∀ {as:List α} {xs:List V} {i:Nat} {x:V},All2 P as xs→xs[i]? = some x→∃ a,as[i]? = some a∧P a x
 | [],_,_,_,h,hx => by rw [show _ = _ from h] at hx; simp at hx
 | a :: as,xs,i,y,h,hx => by
  obtain ⟨x,r,e,h1,h2⟩:=h
  subst e
  cases i with
  | zero => simp at hx; subst hx; exact ⟨a,rfl,h1⟩
  | succ i => simpa using All2.at_ h2 (by simpa using hx)
theorem All2.append:∀ {as bs:List α} {xs ys:List V},All2 P as xs→All2 P bs ys→All2 P (as ++ bs) (xs ++ ys)
 | [],bs,xs,ys,h,g => by rw [show xs = [] from h]; exact g
 | a :: as,bs,xs,ys,h,g => by
  obtain ⟨x,r,e,h1,h2⟩:=h
  subst e
  exact ⟨x,r ++ ys,rfl,h1,All2.append h2 g⟩
theorem All2.one {a : α} {x:V} (h:P a x):All2 P [a] [x]:=⟨x,[],rfl,h,rfl⟩
theorem All2.repL {K:PySem.W.Frag} {H:Hp} {f : α→D} (g:∀ a x,P a x→Rep K H (f a) x):∀ {as:List α} {xs:List V},All2 P as xs→RepL K H (as.map f) xs
 | [],xs,h => by simp only [List.map_nil,RepL]; exact h
 | a :: as,xs,h => by
  obtain ⟨x,r,e,h1,h2⟩:=h
  simp only [List.map_cons,RepL]
  exact ⟨x,r,e,g _ _ h1,All2.repL g h2⟩
end
structure TOk (t:TD):Prop where
 n1:nameS t.nm = true
 n2:nameS t.st = true
 n3:nameS t.en = true
 ne:t.st ≠ t.en
 lo:∀ a,t.lo = some a→FOk 600 a
 hi:∀ a,t.hi = some a→FOk 600 a
 le:lessD (bD t.hi) (bD t.lo) = false
theorem len8 {z:Str} (h:nameS z = true):z.length ≤ 8:=by
 unfold nameS at h
 simp only [Bool.and_eq_true,decide_eq_true_eq] at h
 exact h.1.2
theorem bD_ok {o:Option (Int × Int)} (h:∀ a,o = some a→FOk 600 a):JbN (bD o) = true∧szD (bD o):=by
 cases o with
 | none => exact ⟨rfl,by simp only [bD,szD]⟩
 | some a =>
  have k:=h a rfl
  refine ⟨by simp [bD,frD,JbN,fracB,k.b1,k.g1], ?_⟩
  simp only [bD,frD,szD,szL]
  exact ⟨k.s1.mono (by decide),k.s2.mono (by decide),trivial⟩
theorem TOk.tie {t:TD} (h:TOk t):tieB (tdD t) = true:=by
 have e:eqD (.str t.st) (.str t.en) = false:=by simp only [eqD,beq_eq_false_iff_ne]; exact h.ne
 simp [tdD,tieB,nameB,Jbe,h.n1,h.n2,h.n3,e,Jb3,(bD_ok h.lo).1,(bD_ok h.hi).1,h.le]
theorem TOk.sz {t:TD} (h:TOk t):szD (tdD t):=by
 simp only [tdD,szD,szL]
 have:=len8 h.n1
 have:=len8 h.n2
 have:=len8 h.n3
 exact ⟨by omega,by omega,by omega,(bD_ok h.lo).2,(bD_ok h.hi).2,trivial⟩
def kP (c:Pr):List Key:=[.inr c.1, .inl c.2]
def DOk (K:PySem.W.Frag) (H:Hp) (kvs:List (List Key × V)) (ss:List SD):Prop:=∀ c:Pr,match last ss c with
 | none => valV kvs (kP c) = none
 | some s => ∃ v,valV kvs (kP c) = some v∧PV K H s v
theorem DOk.nil {K:PySem.W.Frag} {H:Hp}:DOk K H [] []:=fun c => rfl
end L2
namespace L2
open PySem PySem.Spec PyProof.Rows Ch
section
variable {K:PySem.W.Frag} {H:Hp} {kvs:List (List Key × V)} {ss:List SD}
end
def CompJ (J:It) (k:Nat) (cs:List (Nat × Str)) (g:TG) (te:TE) (σ : St) (Q:VK) (H1:Hp):Prop:=∃ W:Nat→Nat→List V→Hp→Prop,(∃ m,W 0 m [] H1)∧∀ i m ys H2,W i m ys H2→ys.length ≤ sizeLine ∧
  ((J.stop i H2∧∀ p,H2 p = none→Q (.ref p) (upd H2 p (.lst ys))) ∨
   (J.go i H2∧∀ x H3,J.yld i H2 x H3→g x (List.replicate k none ++ JaO cs σ) H3 fun σ4 H4 => te σ4 H4 fun y H5 => ∃ m',m' < m∧W (i + 1) m' (ys ++ [y]) H5))
def JeQ (J:It) (k:Nat) (cs:List (Nat × Str)) (g:TG) (tt:TT) (te:TE) (σ : St) (Q:VK) (H1:Hp):Prop:=∃ W:Nat→Nat→List V→Hp→Prop,(∃ m,W 0 m [] H1)∧∀ i m ys H2,W i m ys H2→ys.length ≤ sizeLine ∧
  ((J.stop i H2∧∀ p,H2 p = none→Q (.ref p) (upd H2 p (.lst ys))) ∨
   (J.go i H2∧∀ x H3,J.yld i H2 x H3→g x (List.replicate k none ++ JaO cs σ) H3 fun σ4 H4 => tt σ4 H4 fun b H5 => if b = true then te σ4 H5 fun y H6 => ∃ m',m' < m∧W (i + 1) m' (ys ++ [y]) H6 else ∃ m',m' < m∧W (i + 1) m' ys H5))
section
variable {K:PySem.W.Frag} {k:Nat} {cs:List (Nat × Str)} {g:TG} {tt:TT} {te tl:TE} {σ : St} {H H1:Hp} {Q:VK} {a:Addr} {xs:List V}
theorem y34y:tComp k cs (iAny K tl) g te σ H Q = tl σ H fun x H1 => ∃ a,x = .ref a∧(((∃ xs,SqL K H1 a xs)∧CompJ (Itl K a) k cs g te σ Q H1) ∨ ((∃ xs,SqT K H1 a xs)∧CompJ (Itt K a) k cs g te σ Q H1)):=rfl
theorem y36y:JiT k cs (iAny K tl) g tt te σ H Q = tl σ H fun x H1 => ∃ a,x = .ref a∧(((∃ xs,SqL K H1 a xs)∧JeQ (Itl K a) k cs g tt te σ Q H1) ∨ ((∃ xs,SqT K H1 a xs)∧JeQ (Itt K a) k cs g tt te σ Q H1)):=rfl
theorem CompJ.list (Pv:Nat→List V→Hp→Prop) (h0:Pv 0 [] H1) (hl:∀ i ys H',i ≤ xs.length→Pv i ys H'→SqL K H' a xs∧ys.length ≤ sizeLine)
  (hs:∀ i x ys H2,xs[i]? = some x→Pv i ys H2→g x (List.replicate k none ++ JaO cs σ) H2 fun σ4 H4 => te σ4 H4 fun y H5 => Pv (i + 1) (ys ++ [y]) H5) (hd:∀ ys H2,Pv xs.length ys H2→∀ p,H2 p = none→Q (.ref p) (upd H2 p (.lst ys))) :
  CompJ (Itl K a) k cs g te σ Q H1:=compL Pv h0 hl hs hd
theorem JeQ.list (Pv:Nat→List V→Hp→Prop) (h0:Pv 0 [] H1) (hl:∀ i ys H',i ≤ xs.length→Pv i ys H'→SqL K H' a xs∧ys.length ≤ sizeLine)
  (hs:∀ i x ys H2,xs[i]? = some x→Pv i ys H2→g x (List.replicate k none ++ JaO cs σ) H2 fun σ4 H4 => tt σ4 H4 fun b H5 => if b = true then te σ4 H5 fun y H6 => Pv (i + 1) (ys ++ [y]) H6 else Pv (i + 1) ys H5) (hd:∀ ys H2,Pv xs.length ys H2→∀ p,H2 p = none→Q (.ref p) (upd H2 p (.lst ys))) :
  JeQ (Itl K a) k cs g tt te σ Q H1:=Jil Pv h0 hl hs hd
end
theorem JeR (x y:Str):(x ++ y).cps.toList = x.cps.toList ++ y.cps.toList:=by
 show (x.cps ++ y.cps).toList = _
 simp
theorem JcJ (z:Str):z.length = z.cps.toList.length:=by simp [Str.length]
end L2
namespace L2
open PySem PySem.Spec PyProof.Rows Ch
section
variable {ss:List SD} {c:Pr} {cs:List Pr} {s:SD} {tot:Int × Int} {f l:Str}
end
end L2
namespace L2
open PySem PySem.Spec PyProof.Rows Ch
section
variable {K:PySem.W.Frag} {H:Hp} {Q:VK}
end
end L2
namespace L2
open PySem PySem.Spec PyProof.Rows
section
variable {prog:Program} {w:World} {A:Around} {E:Value→Shared→Prop} {s:Shared}
theorem stored {h:Heap} {a:Addr} {es es':Array (Int × Value)} {ep:Nat} {t t':SetTable} (ho:h.get? a = some { cls:=.type "set",dict:=none,data:=.set es ep t,slots:=#[] }) :
  (h.update a (Obj.putSet es' t')).get? a = some { cls:=.type "set",dict:=none,data:=.set es' (ep + 1) t',slots:=#[] }:=by
 have e:=Heap.get?_update_self (Obj.putSet es' t') ho (by rw [putSet_of es' t' rfl]; rfl)
 rw [e,putSet_of es' t' rfl]
end
end L2
namespace L2
open PySem PySem.Spec PyProof.Rows
def addS (l:List Str) (z:Str):List Str:=if z ∈ l then l else l ++ [z]
def met (val:Nat→Str) (i:Nat):List Str:=((List.range i).map val).foldl addS []
section
variable {prog:Program} {w:World} {A:Around} {E:Value→Shared→Prop} {s:Shared}
end
end L2
namespace L2
open PySem PySem.Spec PyProof.Rows
section
variable {prog:Program} {w:World} {A:Around} {E:Value→Shared→Prop} {s:Shared}
end
end L2
namespace L2
open PySem PySem.Spec PyProof.Rows
end L2
namespace L2
open PySem PySem.Spec PyProof.Rows
section
variable {M:Model} {A:Around} {E:Value→Shared→Prop} {s:Shared}
end
section
variable {prog:Program} {w:World} {A:Around} {E:Value→Shared→Prop} {s:Shared}
section
variable {I a:Addr} {es:Array (Int × Value)} {i ep:Nat} {t:SetTable} {Q:Option Value→Shared→Prop}
end
end
end L2
namespace L2
open PySem PySem.Spec PyProof.Rows
section
variable {prog:Program} {w:World} {A:Around} {E:Value→Shared→Prop} {s:Shared}
end
end L2
namespace L2
open PySem PySem.Spec PyProof.Rows
section
variable {prog:Program} {w:World} {A:Around} {E:Value→Shared→Prop} {s:Shared}
end
end L2
namespace L2
open PySem PySem.Spec PyProof.Rows
section
variable {prog:Program} {w:World} {A:Around} {E:Value→Shared→Prop} {s:Shared} {a:Addr} {its:Array Value} {n:Nat}
end
end L2
namespace L2
open PySem PySem.Spec PyProof.Rows
section
variable {prog:Program} {w:World} {A:Around} {E:Value→Shared→Prop} {s:Shared}
end
end L2
namespace L2
open PySem PySem.Spec PyProof.Rows
section
variable {X:Cx} {pins:List (Addr × Obj)} {σ : List (Option V)} {H:Hp} {s s':Shared}
end
end L2
namespace L2
open PySem PySem.Spec PyProof.Rows Ch
def JfG (ts:List TD) (out:List Str):Prop:=out.Nodup∧sortedS out = true∧∀ z,z ∈ out ↔ ∃ t ∈ ts,z = t.st ∨ z = t.en
theorem JfG.nil {l:List Str} (h:JfG [] l):l = []:=by
 cases l with
 | nil => rfl
 | cons a l =>
  have:=(h.2.2 a).mp (by simp)
  simp at this
abbrev Pl:=List (Str × (Int × Int))
def look (ps:Pl) (z:Str):Int × Int:=((ps.find? fun p => decide (p.1 = z)).map (·.2)).getD (0,1)
def negF (a:Int × Int):Int × Int:=(-a.1,a.2)
def apart (ps:Pl) (t:TD):Int × Int:=addF (look ps t.en) (negF (look ps t.st))
structure FB (A B:Nat) (a:Int × Int):Prop where
 s1:Mth.Sz A a.1
 s2:Mth.Sz B a.2
 b1:1 ≤ a.2
 g1:Mth.g a.1 a.2 = 1
theorem FB.ok {A B n:Nat} {a:Int × Int} (h:FB A B a) (h1:A ≤ n) (h2:B ≤ n):FOk n a:=⟨h.s1.mono h1,h.s2.mono h2,h.b1,h.g1⟩
theorem FB.low {A B:Nat} {t b:Int} (hb:1 ≤ b) (h1:Mth.Sz A t) (h2:Mth.Sz B b):FB A B (Mth.top t b,Mth.bot t b):=by
 have b0:b ≠ 0:=by omega
 exact ⟨Mth.Sz.top b0 h1,Mth.Sz.bot b0 h2,Mth.JhD b0,Mth.g_low b0⟩
end L2
namespace L2
open PySem PySem.Spec PyProof.Rows Ch
end L2
namespace L2
open PySem PySem.Spec PyProof.Rows Ch
end L2
namespace L2
open PySem PySem.Spec PyProof.Rows Ch
end L2
namespace L2
open PySem PySem.Spec PyProof.Rows Ch
end L2
namespace L2
open PySem PySem.Spec PyProof.Rows Ch
structure FW (A B:Nat) (a:Int × Int):Prop where
 s1:Mth.Sz A a.1
 s2:Mth.Sz B a.2
 b1:1 ≤ a.2
theorem FB.w {A B:Nat} {a:Int × Int} (h:FB A B a):FW A B a:=⟨h.s1,h.s2,h.b1⟩
end L2
namespace L2
open PySem PySem.Spec PyProof.Rows Ch
end L2
namespace L2
open PySem PySem.Spec PyProof.Rows Ch
section
variable {X:Cx} {K:PySem.W.Frag} {o e:Expr} {es:List Expr} {to:TE} {t:TA} {name:Str} {apos cpos:Pos} {T id:String} {r:V→List V→Hp→VK→Prop}
end
end L2
namespace L2
open PySem PySem.Spec PyProof.Rows
section
variable {X:Cx}
theorem Jic {kvs:List (Key × V)} {vs:List (Key × Value)} (r:KV kvs vs):Vals (kvs.map (·.2)) (vs.map (·.2)):=by
 unfold KV at r
 induction r with
 | nil => exact .nil
 | cons h _ ih => exact .cons h.2 ih
end
section
variable {prog:Program} {w:World} {A:Around} {E:Value→Shared→Prop} {s:Shared}
end
end L2
namespace L2
open PySem PySem.Spec PyProof.Rows
section
variable {X:Cx}
end
section
variable {X:Cx} {k k':Nat} {x mn:Str} {C:Addr} {Cs:Addr→Prop} {ps:List Str} {sp:Sp} {p pos apos:Pos} {e o:Expr} {es:List Expr} {t:TA} {ta:TE}
abbrev TX:=St→Hp→VK→XK→Prop
def xMake (C:Addr) (sp:Sp) (t:TA):TX:=fun σ H Q E => t σ H fun vs H1 => ∀ x dx,H1 x = none→H1 dx = none→dx ≠ x →
 sp (.ref x :: (vs ++ [])) (upd (upd H1 dx (.own x)) x (.ins C dx [])) (fun v H2 => v = .non∧Q (.ref x) H2) E
theorem KCal.tr (G:KCal X.prog X.w X.K X.mg X.base k x C ps sp) (hr:Room k' X.A) (hk:k + 1 ≤ k') (hg:Gl X x) (ha:PA X.nox (e :: es) t)
  (hdb:(x == ("__debug__" : Str)) = false:=by decide) (he:starEach (e :: es) X.env = (false,eval e X.env) :: starEach es X.env:=by rfl) (hpl:(backTo pos (starEach es X.env)).any (·.1) = false:=by rfl) :
  PEx X (.Call (.Name x p) (e :: es) [] pos) (xMake C sp t):=by
 obtain ⟨f,fd,F,hm,M,hb⟩:=G.ex
 intro pins s σ H Q E I h
 refine wpAny_Call_Name_kw (JbA I hg hm ?_ hdb)
 have z:=ha pos pins s σ H _ (I.wish _) h
 refine PySem.W.callWith_K (h₀:=X.base) I.ok.mod.kin M.kp (wpAny_mono z (fun us s1 ⟨vs,H1,I1',r,q⟩ => ⟨I1'.unwish.kIn, ?_⟩) fun _ _ y => y.elim) he hpl
 have I1:=I1'.unwish
 have hq:=q (s1.heap.objs.size + 1) s1.heap.objs.size (I1.hok.fresh (Nat.le_succ _)) (I1.hok.fresh (Nat.le_refl _)) (Nat.ne_of_lt (Nat.lt_succ_self _))
 have I2:=Inv.made (C:=C) I1
 have r2:Vals (V.ref (s1.heap.objs.size + 1) :: (vs ++ [])) (Value.ref (s1.heap.objs.size + 1) :: (us ++ [])):=.cons rfl (r.append .nil)
 have hl:(Value.ref (s1.heap.objs.size + 1) :: us ++ []).length = ps.length:=by
  have e:=r2.length
  rw [F.len _ _ _ _ hq] at e
  exact e.symm
 refine wpAny_call (Je4 (f:=f) I1.kIn M.makes M.init (beq_iff_eq.mp M.fn) (codeAny_mono (F.run _ X.stack _ _ ⟨Value.ref (s1.heap.objs.size + 1) :: us,[]⟩ (Value.ref (s1.heap.objs.size + 1) :: (us ++ [])) _ _ E ((hr.mono hk).make C us [])
  (I2.env0.make C us []) (by have:=hb _ (Value.ref (s1.heap.objs.size + 1) :: us) I2.kIn hl; rw [List.cons_append] at this; exact this) r2 hq) fun r s' hq' => ?_))
 cases r with
 | error e => exact ⟨_,_,I2,hq'⟩
 | ok fl =>
  cases fl with
  | ret u =>
   obtain ⟨v,H',I3,rv,ev,q3⟩:=I2.after hq'
   subst ev
   exact ⟨rv,⟨V.ref (s1.heap.objs.size + 1),H',I3,rfl,q3⟩⟩
  | next => exact False.elim hq'
  | brk => exact False.elim hq'
  | cont => exact False.elim hq'
end
end L2
namespace L2
open PySem PySem.Spec PyProof.Rows
section
variable {X:Cx}
end
section
variable {σ : St} {H:Hp} {Q:VK} {E:XK} {ta td ty:TE} {ts:TA} {tc:TT} {t u:TX} {C:Addr} {sp:Sp} {Cs:Addr→Prop} {m:Str}
theorem y93y:xMake C sp ts σ H Q E = ts σ H fun vs H1 => ∀ x dx,H1 x = none→H1 dx = none→dx ≠ x→sp (.ref x :: (vs ++ [])) (upd (upd H1 dx (.own x)) x (.ins C dx [])) (fun v H2 => v = .non∧Q (.ref x) H2) E:=rfl
theorem y3ey:tDIn ty td σ H Q = ty σ H fun y H1 => td σ H1 fun x H2 => ∃ a o,x = .ref a∧DGet H2 a y o∧Q (.bl o.isSome) H2:=rfl
theorem y42y:Jgw ty td σ H Q = ty σ H fun y H1 => td σ H1 fun x H2 => ∃ a o,x = .ref a∧DGet H2 a y o∧Q (.bl (!o.isSome)) H2:=rfl
end
section
variable {α κ : Type} [DecidableEq κ] {f : α→κ} {k : κ} {u y : α}
end
section
variable {α : Type} {P : α→V→Prop}
end
end L2
namespace L2
open PySem PySem.Spec PyProof.Rows Ch
abbrev nms (ts:List TD):List Str:=ts.map (·.nm)
def BD (P:TD→V→Prop) (ts:List TD) (kvs:List (Key × V)):Prop:=kvs.map (·.1) = ts.map (fun t => Sum.inr t.nm)∧All2 P ts (kvs.map (·.2))
section
variable {P P':TD→V→Prop} {ts:List TD} {kvs:List (Key × V)} {t:TD} {v:V}
theorem BD.cons:BD P (t :: ts) kvs ↔ ∃ w r,kvs = (Sum.inr t.nm,w) :: r∧P t w∧BD P ts r:=by
 constructor
 ·rintro ⟨h1,h2⟩
  match kvs,h1,h2 with
  | (k,w) :: r,h1,h2 =>
   rw [List.map_cons,List.map_cons,List.cons.injEq] at h1
   obtain ⟨y,r',e,p,h2⟩:=h2
   rw [List.map_cons,List.cons.injEq] at e
   obtain ⟨rfl,rfl⟩:=e
   obtain ⟨h0,h1⟩:=h1
   have h0:k = Sum.inr t.nm:=h0
   subst h0
   exact ⟨_,r,rfl,p,h1,h2⟩
 ·rintro ⟨w,r,rfl,p,h⟩
  exact ⟨by rw [List.map_cons,List.map_cons,h.1],w,r.map (·.2),rfl,p,h.2⟩
theorem BD.nil:BD P [] kvs ↔ kvs = []:=by
 constructor
 ·rintro ⟨h,_⟩
  simpa using h
 ·rintro rfl
  exact ⟨rfl,rfl⟩
end
end L2
namespace L2
open PySem PySem.Spec PyProof.Rows Ch
def nameL:List Str:=["a", "aa", "aaa", "b", "ab", "zzzzzzzz"]
theorem sub_len {α : Type} [DecidableEq α]:∀ (l m:List α),l.Nodup→l ⊆ m→l.length ≤ m.length
 | [],m,_,_ => by simp
 | a :: l,m,hn,hs => by
  rw [List.nodup_cons] at hn
  have ha:a ∈ m:=hs (by simp)
  have:=sub_len l (m.erase a) hn.2 fun x hx => (List.mem_erase_of_ne (show x ≠ a from fun e => hn.1 (e ▸ hx))).mpr (hs (by simp [hx]))
  rw [List.length_erase_of_mem ha] at this
  have:=List.length_pos_of_mem ha
  rw [List.length_cons]
  omega
structure Good (ts:List TD):Prop where
 nd:(nms ts).Nodup
 ok:∀ t ∈ ts,TOk t
 nm:∀ t ∈ ts,t.nm ∈ nameL
theorem Good.len {ts:List TD} (g:Good ts):ts.length ≤ 6:=by
 have:=sub_len (nms ts) nameL g.nd fun z hz => by
  obtain ⟨t,ht,rfl⟩:=List.mem_map.mp hz
  exact g.nm t ht
 rw [List.length_map] at this
 exact this
end L2
namespace L2
open PySem PySem.Spec PyProof.Rows
section
variable {X:Cx} {pins:List (Addr × Obj)} {σ : St} {H:Hp} {s:Shared} {a:Addr} {kvs:List (Key × V)} {k:Key} {u r:Value} {y:V} {A:Around} {E:Value→Shared→Prop}
theorem Jha {v:Option V} {o:Option Value} {w:Value} (h:RelO v o) (e:o = some w):∃ x,v = some x∧RelV x w:=by
 subst e
 cases v with
 | none => exact absurd h (by simp [RelO])
 | some x => exact ⟨x,rfl,h⟩
theorem Jg9 {v:Option V} {o:Option Value} (h:RelO v o) (e:o = none):v = none:=by
 subst e
 cases v with
 | none => rfl
 | some x => exact absurd h (by simp [RelO])
theorem JgN {Q:Value→Shared→Prop} (I:Inv X pins σ H s) (e:H a = some (.dK kvs)) (ry:RelV (kV k) u) (rd:RelV y r) (hl:kvs.length < sizeLine)
  (h1:∀ v w' s',valV kvs k = some v→Inv X pins σ H s'→RelV v w'→Q w' s') (h2:∀ s',valV kvs k = none→Inv X pins σ (upd H a (.dK (putK kvs k y))) s'→Q r s') :
  wpAny (model X.prog X.w) A (call (.builtin "dict.setdefault") [.ref a,u,r]) Q E s:=by
 obtain ⟨z,hd,vs,rel,dd⟩:=dk_of I.hok e
 refine call_meetsIn PySem.F.slot_dict_setdefault dd.typeIs PySem.F.entry_dict_setdefault (PySem.F.args_dict_setdefault_3 _ _ _) (PySem.kt_meets_setdefault (JaJ X.prog X.w) a (kV_is ry) hd r) ⟨vs,dd,by rw [← rel.length]; exact z,fun w hw => ?_,fun hn h' dd' hs => ?_⟩
 ·obtain ⟨x,hx,rx⟩:=Jha (rel.val k) hw
  exact h1 x w _ hx (I.tok _) rx
 ·have hv:=Jg9 (rel.val k) hn
  refine h2 _ hv ?_
  have he:∃ q,h'.get? a = some q:=let ⟨q,_,_,hq,_⟩:=dd'; ⟨q,hq⟩
  have hz:(putK kvs k y).length ≤ sizeLine:=by have:=JaC kvs k y; omega
  exact Jdv I (by rw [e]; exact True.intro) hs he (JfT hz hd (rel.put k rd) dd')
end
def tDSet (td ty tx:TE):TE:=fun σ H Q => td σ H fun x H1 => ∃ a,x = .ref a∧IsD H1 a∧ty σ H1 fun y H2 => tx σ H2 fun z H3 => ∃ kvs k,H3 a = some (.dK kvs)∧y = kV k∧kvs.length < sizeLine ∧
 (∀ v,valV kvs k = some v→Q v H3)∧(valV kvs k = none→Q z (upd H3 a (.dK (putK kvs k z))))
section
variable {X:Cx} {o e f:Expr} {apos cpos:Pos} {td ty tx:TE}
theorem Jgh (ho:PE X o td) (he:PE X e ty) (hf:PE X f tx) (m:M2 X o "setdefault" apos e f cpos):PE X (.Call (.Attribute o "setdefault" apos) [e,f] [] cpos) (tDSet td ty tx):=by
 intro pins s σ H Q I h
 refine wpAny_Call_method m.base m.few m.line PySem.F.plainAttrs_dict PySem.F.slot_dict_setdefault PySem.F.type_dict_setdefault (thn (ho pins s σ H _ I h) fun u s1 ⟨x,H1,I1,rx,a,ex,d,q1⟩ => ?_)
 subst ex
 obtain rfl:u = Value.ref a:=rx
 obtain ⟨t1,t2,_⟩:=Je1 I1 d
 refine ⟨t1,t2, ?_⟩
 rw [m.trees]
 refine Calls.callWith_builtin rfl (Calls.evalArgs_plain (Calls.spliced_cons (thn (he pins s1 σ H1 _ I1 q1) fun iv s2 ⟨y,H2,I2,ry,q2⟩ =>
  Calls.spliced_cons (thn (hf pins s2 σ H2 _ I2 q2) fun fv s3 ⟨z,H3,I3,rz,kvs,k,ea,ey,hl,q3,q4⟩ => Calls.spliced_nil ?_))))
 subst ey
 exact JgN I3 ea ry rz hl (fun v w' s4 hv I4 rw' => ⟨v,H3,I4,rw',q3 v hv⟩) fun s4 hv I4 => ⟨z,_,I4,rz,q4 hv⟩
end
section
variable {X:Cx}
end
section
variable {σ : St} {H:Hp} {Q:VK} {td ty tx:TE}
theorem y46y:tDSet td ty tx σ H Q = td σ H fun x H1 => ∃ a,x = .ref a∧IsD H1 a∧ty σ H1 fun y H2 => tx σ H2 fun z H3 => ∃ kvs k,H3 a = some (.dK kvs)∧y = kV k∧kvs.length < sizeLine∧(∀ v,valV kvs k = some v→Q v H3)∧(valV kvs k = none→Q z (upd H3 a (.dK (putK kvs k z)))):=rfl
theorem y3dy:Jhq td ty tx σ H Q = td σ H fun x H1 => ∃ a,x = .ref a∧IsD H1 a∧ty σ H1 fun y H2 => tx σ H2 fun z H3 => ∃ o,DGet H3 a y o∧Q (o.getD z) H3:=rfl
theorem y3fy {trs:List (TE × TE)}:tDisp trs σ H Q = ∀ p,H p = none→Jei trs σ (upd H p (.dK [])) fun ps H2 => H2 p = some (.dK [])∧∃ kvs:List (Key × V),ps = kvs.map (fun kv => (kV kv.1,kv.2))∧kvs.length ≤ 15∧Q (.ref p) (upd H2 p (.dK (Jdk [] kvs))):=rfl
theorem y7ay {tk tv:TE} {R:List (V × V)→Hp→Prop}:Jei [(tk,tv)] σ H R = tk σ H fun x H1 => tv σ H1 fun y H2 => R [(x,y)] H2:=rfl
theorem y2dy {K:PySem.W.Frag} {T:String} {r:V→List V→Hp→VK→Prop} {to:TE}:tBM0 K T r to σ H Q = to σ H fun x H1 => tyV K T x H1∧r x [] H1 Q:=rfl
end
end L2
namespace L2
open PySem PySem.Spec PyProof.Rows Ch
def BG {α : Type} (f : α→Str) (P : α→V→Prop) (as:List α) (kvs:List (Key × V)):Prop:=kvs.map (·.1) = as.map (fun a => Sum.inr (f a))∧All2 P as (kvs.map (·.2))
section
variable {α : Type} {f : α→Str} {P P' : α→V→Prop} {as:List α} {kvs:List (Key × V)} {a : α} {v:V}
theorem BG.mono (h:BG f P as kvs) (m:∀ a x,P a x→P' a x):BG f P' as kvs:=⟨h.1,h.2.mono m⟩
theorem BG.length (h:BG f P as kvs):kvs.length = as.length:=by simpa using congrArg List.length h.1
theorem BG.cons:BG f P (a :: as) kvs ↔ ∃ w r,kvs = (Sum.inr (f a),w) :: r∧P a w∧BG f P as r:=by
 constructor
 ·rintro ⟨h1,h2⟩
  match kvs,h1,h2 with
  | (k,w) :: r,h1,h2 =>
   rw [List.map_cons,List.map_cons,List.cons.injEq] at h1
   obtain ⟨y,r',e,p,h2⟩:=h2
   rw [List.map_cons,List.cons.injEq] at e
   obtain ⟨rfl,rfl⟩:=e
   obtain ⟨h0,h1⟩:=h1
   have h0:k = Sum.inr (f a):=h0
   subst h0
   exact ⟨_,r,rfl,p,h1,h2⟩
 ·rintro ⟨w,r,rfl,p,h⟩
  exact ⟨by rw [List.map_cons,List.map_cons,h.1],w,r.map (·.2),rfl,p,h.2⟩
theorem BG.nil:BG f P [] kvs ↔ kvs = []:=by
 constructor
 ·rintro ⟨h,_⟩
  simpa using h
 ·rintro rfl
  exact ⟨rfl,rfl⟩
theorem BG.any:∀ {as:List α} {kvs:List (Key × V)} {z:Str},BG f P as kvs→(kvs.any fun kv => decide (kv.1 = Sum.inr z)) = decide (z ∈ as.map f)
 | [],kvs,z,h => by rw [BG.nil.mp h]; simp
 | a :: as,kvs,z,h => by
  obtain ⟨w,r,rfl,_,h⟩:=BG.cons.mp h
  rw [List.any_cons,BG.any h]
  by_cases c:f a = z
  ·subst c
   simp
  ·have c1:(Sum.inr (f a):Key) ≠ Sum.inr z:=fun e => c (by injection e)
   have c2:z ≠ f a:=fun e => c e.symm
   simp [c1,c2]
theorem BG.get:∀ {as:List α} {kvs:List (Key × V)} {z:Str},BG f P as kvs→(∃ a v,a ∈ as∧f a = z∧valV kvs (Sum.inr z) = some v∧P a v) ∨ (z ∉ as.map f∧valV kvs (Sum.inr z) = none)
 | [],kvs,z,h => by
  rw [BG.nil.mp h]
  exact .inr ⟨by simp,rfl⟩
 | a :: as,kvs,z,h => by
  obtain ⟨w,r,rfl,p,h⟩:=BG.cons.mp h
  by_cases c:f a = z
  ·subst c
   exact .inl ⟨a,w,by simp,rfl,Ja0 rfl,p⟩
  ·have c1:(Sum.inr (f a):Key) ≠ Sum.inr z:=fun e => c (by injection e)
   have c2:z ≠ f a:=fun e => c e.symm
   have e:valV ((Sum.inr (f a),w) :: r) (Sum.inr z) = valV r (Sum.inr z):=by simp [valV,List.find?_cons,c1]
   rw [e]
   rcases BG.get h (z:=z) with ⟨b,v,h1,h2,h3,h4⟩ | ⟨h1,h2⟩
   ·exact .inl ⟨b,v,by simp [h1],h2,h3,h4⟩
   ·exact .inr ⟨by simp [c2]; simpa using h1,h2⟩
theorem BG.some {z:Str} (h:BG f P as kvs) (hz:z ∈ as.map f):∃ a v,a ∈ as∧f a = z∧valV kvs (Sum.inr z) = some v∧P a v:=by
 rcases h.get (z:=z) with h | ⟨h,_⟩
 ·exact h
 ·exact absurd hz h
theorem BG.none {z:Str} (h:BG f P as kvs) (hz:z ∉ as.map f):valV kvs (Sum.inr z) = none:=by
 rcases h.get (z:=z) with ⟨a,v,h1,h2,_⟩ | ⟨_,h⟩
 ·exact absurd (h2 ▸ List.mem_map_of_mem (f:=f) h1) hz
 ·exact h
theorem BG.val {z:Str} (h:BG f P as kvs):(valV kvs (Sum.inr z)).isSome = decide (z ∈ as.map f):=by
 by_cases c:z ∈ as.map f
 ·obtain ⟨a,v,_,_,e,_⟩:=h.some c
  rw [e,decide_eq_true c]
  rfl
 ·rw [h.none c,decide_eq_false c]
  rfl
theorem BG.new (h:BG f P as kvs) (hn:f a ∉ as.map f) (p:P a v):BG f P (as ++ [a]) (putK kvs (Sum.inr (f a)) v):=by
 have e:putK kvs (Sum.inr (f a)) v = kvs ++ [(Sum.inr (f a),v)]:=by
  unfold putK
  rw [h.any,if_neg (by simpa using hn)]
 rw [e]
 exact ⟨by rw [List.map_append,List.map_append,h.1]; rfl,by rw [List.map_append]; exact h.2.append (.one p)⟩
end
structure PD where
 nm:Str
 st:Str
 en:Str
 sz:Int × Int
 mo:Int × Int
 wt:Int
def JcB (p:PD) (f:Str):List (Str × Pr):=if p.st = f then [(p.en,(p.nm,true))] else if p.en = f then [(p.st,(p.nm,false))] else []
def JaA (ls:List PD) (f:Str):List (Str × Pr):=ls.flatMap fun p => JcB p f
theorem JcV (ls:List PD) (p:PD) (f:Str):JaA (ls ++ [p]) f = JaA ls f ++ JcB p f:=by simp [JaA]
theorem JbB {ls:List PD} {f g:Str} {pr:Pr}:(g,pr) ∈ JaA ls f ↔ ∃ p ∈ ls,(p.st = f∧p.en = g∧pr = (p.nm,true)) ∨ (p.st ≠ f∧p.en = f∧p.st = g∧pr = (p.nm,false)):=by
 unfold JaA
 rw [List.mem_flatMap]
 refine exists_congr fun p => and_congr_right fun _ => ?_
 unfold JcB
 by_cases c1:p.st = f
 ·rw [if_pos c1,List.mem_singleton,Prod.mk.injEq]
  exact ⟨fun h => .inl ⟨c1,h.1.symm,h.2⟩,fun h => h.elim (fun h => ⟨h.2.1.symm,h.2.2⟩) fun h => absurd c1 h.1⟩
 ·rw [if_neg c1]
  by_cases c2:p.en = f
  ·rw [if_pos c2,List.mem_singleton,Prod.mk.injEq]
   exact ⟨fun h => .inr ⟨c1,c2,h.1.symm,h.2⟩,fun h => h.elim (fun h => absurd h.1 c1) fun h => ⟨h.2.2.1.symm,h.2.2.2⟩⟩
  ·rw [if_neg c2]
   exact ⟨fun h => by simp at h,fun h => h.elim (fun h => absurd h.1 c1) fun h => absurd h.2.1 c2⟩
theorem Jf6:∀ {ls:List PD} {p q:PD},(ls.map (·.nm)).Nodup→p ∈ ls→q ∈ ls→p.nm = q.nm→p = q
 | [],_,_,_,hp,_,_ => by cases hp
 | a :: ls,p,q,hn,hp,hq,e => by
  rw [List.map_cons,List.nodup_cons] at hn
  rcases List.mem_cons.mp hp with h1 | h1 <;> rcases List.mem_cons.mp hq with h2 | h2
  ·rw [h1,h2]
  ·subst h1
   exact absurd (e ▸ List.mem_map.mpr ⟨q,h2,rfl⟩) hn.1
  ·subst h2
   exact absurd (e ▸ List.mem_map.mpr ⟨p,h1,rfl⟩) hn.1
  ·exact Jf6 hn.2 h1 h2 e
inductive Jbp (ls:List PD) (a:Str):List Pr→Str→Prop
 | nil:Jbp ls a [] a
 | snoc {w:List Pr} {f g:Str} {pr:Pr}:Jbp ls a w f→(g,pr) ∈ JaA ls f→Jbp ls a (w ++ [pr]) g
def Conn (ls:List PD) (a b:Str):Prop:=∃ w,Jbp ls a w b
theorem JhH {ls:List PD} {a b:Str} {S:List Str} (ha:a ∈ S) (hc:∀ f ∈ S, ∀ e ∈ JaA ls f,e.1 ∈ S) (h:Conn ls a b):b ∈ S:=by
 obtain ⟨w,h⟩:=h
 induction h with
 | nil => exact ha
 | snoc _ hm ih => exact hc _ ih _ hm
def fcsOf (ls:List PD):List Str:=ls.flatMap fun p => [p.st,p.en]
theorem JgW {ls:List PD} {f:Str} {e:Str × Pr} (h:e ∈ JaA ls f):e.1 ∈ fcsOf ls:=by
 obtain ⟨p,hp,he⟩:=List.mem_flatMap.mp h
 refine List.mem_flatMap.mpr ⟨p,hp, ?_⟩
 unfold JcB at he
 split at he
 ·rw [List.mem_singleton.mp he]
  simp
 ·split at he
  ·rw [List.mem_singleton.mp he]
   simp
  ·simp at he
theorem Jfe {ls:List PD} {a b:Str} {w:List Pr} (h:Jbp ls a w b):b ∈ a :: fcsOf ls:=by
 cases h with
 | nil => simp
 | snoc _ hm => exact List.mem_cons_of_mem _ (JgW hm)
theorem JhM (ls:List PD):(fcsOf ls).length = 2 * ls.length:=by
 unfold fcsOf
 induction ls with
 | nil => rfl
 | cons p ls ih =>
  rw [List.flatMap_cons,List.length_append,ih]
  simp
  omega
end L2
namespace L2
open PySem PySem.Spec PyProof.Rows
section
variable {X:Cx} {pins:List (Addr × Obj)} {σ : List (Option V)} {H H':Hp} {s s':Shared} {d:Addr} {kvs kvs':List (Key × V)} {od:Obj}
theorem Inv.freeze (I:Inv X pins σ H s) (e:H d = some (.dK kvs)) (ho:s.heap.get? d = some od):Inv X pins σ (upd H d (.frz od (.dK kvs))) s:=by
 refine I.un (h':=s.heap) (t':=s.toks) ⟨fun b o q _ _ _ => q,fun b o q _ _ _ => ⟨o.slots,q⟩,fun b o q n _ => ?_,fun b o q _ => ⟨o,q⟩,fun b xs q => ?_,fun b o u q => ?_,fun b ps q => ⟨#[], ?_⟩⟩ fun a o q => ?_
 ·rw [Jae (fun z => by rw [z,e] at n; cases n)]
  exact n
 ·rw [Jae (fun z => by rw [z,e] at q; cases q)]
  exact q
 ·rw [Jae (fun z => by rw [z,e] at q; cases q)]
  exact q
 ·rw [Jae (fun z => by rw [z,e] at q; cases q),Array.append_empty]
  exact q
 ·have ho':∀ a' b,H b = some (.own a')→upd H d (.frz od (.dK kvs)) b = some (.own a'):=fun a' b q => by
   rw [Jae (fun z => by rw [z,e] at q; cases q)]
   exact q
  have ht':∀ b xs,H b = some (.tup xs)→upd H d (.frz od (.dK kvs)) b = some (.tup xs):=fun b xs q => by
   rw [Jae (fun z => by rw [z,e] at q; cases q)]
   exact q
  by_cases c:a = d
  ·subst c
   rw [Jak] at q
   cases q
   exact ⟨ho,(I.hok a _ e).stay (fun _ _ _ z => z) (ho' a) ht'⟩
  ·rw [Jae c] at q
   exact (I.hok a o q).stay (fun _ _ _ z => z) (ho' a) ht'
theorem Inv.thaw (I:Inv X pins σ H s) (e:H d = some (.dK kvs)) (I':Inv X pins σ H' s') (e':H' d = some (.frz od (.dK kvs'))):Inv X pins σ (upd H' d (.dK kvs')) s':=by
 have ne:∀ {b:Addr} {o:HO},H' b = some o→(∀ u v,o ≠ .frz u v)→b ≠ d:=fun q h z => by rw [z,e'] at q; cases q; exact h _ _ rfl
 refine ⟨I'.ok,I'.os,I'.bare,⟨I'.base.keep,I'.base.slot,fun b o q n hx => ?_,I'.base.there,fun b xs q => ?_,fun b o u q => ?_,fun b ps q => ?_⟩,I'.loc,I'.cell, ?_,fun x c z => ?_,fun p hp => ?_,fun a o q => ?_,I'.len⟩
 ·have:=I'.base.free b o q n hx
  rw [Jae (fun z => by rw [z,e'] at this; cases this)]
  exact this
 ·have:=I'.base.tups b xs q
  rw [Jae (ne this (by intro u v z; cases z))]
  exact this
 ·have h1:=I'.base.frzs b o u q
  have h2:=I.base.frzs b o u q
  rw [Jae (fun z => by rw [z,e] at h2; cases h2)]
  exact h1
 ·obtain ⟨more,h1⟩:=I'.base.tbls b ps q
  exact ⟨more,by rw [Jae (ne h1 (by intro u v z; cases z))]; exact h1⟩
 ·have:=I'.free
  rw [Jae (fun z => by rw [z,e'] at this; cases this)]
  exact this
 ·have:=I'.freeC x c z
  rw [Jae (fun z => by rw [z,e'] at this; cases this)]
  exact this
 ·obtain ⟨h1,h2,h3⟩:=I'.pin p hp
  exact ⟨h1,by rw [Jae (fun z => by rw [z,e'] at h2; cases h2)]; exact h2,h3⟩
 ·have ho':∀ a' b,H' b = some (.own a')→upd H' d (.dK kvs') b = some (.own a'):=fun a' b q => by
   rw [Jae (ne q (by intro u v z; cases z))]
   exact q
  have ht':∀ b xs,H' b = some (.tup xs)→upd H' d (.dK kvs') b = some (.tup xs):=fun b xs q => by
   rw [Jae (ne q (by intro u v z; cases z))]
   exact q
  by_cases c:a = d
  ·subst c
   rw [Jak] at q
   cases q
   have h1:ObjOk X.prog X.w H' s'.heap a (.dK kvs'):=(I'.hok a _ e').2
   exact h1.stay (fun _ _ _ z => z) (ho' a) ht'
  ·rw [Jae c] at q
   exact (I'.hok a o q).stay (fun _ _ _ z => z) (ho' a) ht'
end
def Itv (d:Addr) (od:Obj) (kvs:List (Key × V)):It :=
 ⟨fun i H => H d = some (.frz od (.dK kvs))∧i < kvs.length,fun i H x H' => H' = H∧(kvs.map (·.2))[i]? = some x,fun i H => H d = some (.frz od (.dK kvs))∧kvs.length ≤ i⟩
theorem JgB {P:Program} {w:World} {K:PySem.W.Frag} {tg:Expr} {d it:Addr} {od:Obj} {kvs:List (Key × V)} {vs:List (Key × Value)} {ep:Nat} (rel:KV kvs vs) (hd:∀ h:Heap,h.get? d = some od→h.DictAt (JaJ P w) d vs ep) :
  Turn P w K tg (Itv d od kvs) [it] it (fun i h => h.IsValIter it d i vs.length ep) where
 mem:=by simp
 obj:=fun i h st b hb => by
  obtain rfl:b = it:=by simpa using hb
  obtain ⟨o,e,c,z⟩:=st
  exact ⟨o,e,fun v q => by rw [z] at q; cases q⟩
 keep:=fun i h h' st k => st.at fun o e => k it (by simp) o e
 item:=by
  intro X hP hw hK hc i pins s σ H E I hf st hg
  subst hP hw hK
  obtain ⟨hfz,hi⟩:=hg
  obtain ⟨f0,f1,f2,f3,f4,f5⟩:=hf it (by simp)
  have g:=(I.hok d _ hfz).1
  have lv:=rel.length
  have r2:=Jic rel
  obtain ⟨x,hx⟩:∃ x,(kvs.map (·.2))[i]? = some x:=⟨_,List.getElem?_eq_getElem (by rw [List.length_map]; exact hi)⟩
  obtain ⟨u,hu,ru⟩:=r2.get hx
  rw [List.getElem?_map] at hu
  obtain ⟨⟨k,u'⟩,hk,rfl⟩:=Option.map_eq_some_iff.mp hu
  refine wpAny_pyNext_values_item st (hd _ g) hk fun h' st' sb => ?_
  have I1:Inv X pins σ H { s with heap:=h' }:=I.turned (t':=s.toks) (fun b o hb e => (sb.2 b hb).trans e) f0 f1 f3 f4 f5
  obtain ⟨o,e,c,z⟩:=id st'
  exact ⟨_,rfl,go_of (s:={ s with heap:=h' }) e c z (by decide) ⟨x,H,I1,ru,⟨rfl,hx⟩,st',fun b hb => (hf b hb).1⟩⟩
 done:=by
  intro X hP hw hK hc i pins s σ H E I hf st hg
  subst hP hw hK
  obtain ⟨hfz,hi⟩:=hg
  obtain ⟨f0,f1,f2,f3,f4,f5⟩:=hf it (by simp)
  have g:=(I.hok d _ hfz).1
  have lv:=rel.length
  exact wpAny_pyNext_values_end (I.ok.hd hc) st (hd _ g) (List.getElem?_eq_none (by omega)) fun h' eb => ⟨rfl,I.turned (t':=s.toks) (fun b o hb e => eb b o hb e) f0 f1 f3 f4 f5⟩
 self:=fun _ _ _ _ _ st h => wpAny_pyIter_valiter st h
section
variable {X:Cx} {tg:Expr}
def iVals (td:TE):TI:=fun σ H R => td σ H fun x H1 => ∃ d kvs,x = .ref d∧H1 d = some (.dK kvs)∧∀ od,R (Itv d od kvs) (upd H1 d (.frz od (.dK kvs)))
theorem Jgk {o:Expr} {td:TE} {apos cpos:Pos} (ho:PE X o td) (hb:attributeBase o "values" X.env (eval o X.env) = eval o X.env:=by rfl) (hn:(apos.endLine == cpos.line) = true:=by rfl) :
  PI X tg (.Call (.Attribute o "values" apos) [] [] cpos) (iVals td):=by
 intro pins s σ H R I h
 refine wpAny_Call_method0_late hb hn (thn (ho pins s σ H _ I h) fun v s1 ⟨y,H1,I1,r1,d,kvs,ex,e,q1⟩ => ?_)
 subst ex
 obtain rfl:v = Value.ref d:=r1
 obtain ⟨t1,t2,hS⟩:=Je1 I1 (.inl ⟨kvs, .inl e⟩)
 obtain ⟨hz,_,vs,rel,dd⟩:=dk_of I1.hok e
 refine ⟨"dict", "dict.values",PySem.F.plainAttrs_dict,PySem.F.slot_dict_values,PySem.F.type_dict_values,t1,t2,Calls.callWith_builtin rfl (PySem.evalArgs_none ?_)⟩
 refine call_meetsIn PySem.F.slot_dict_values t1 PySem.F.entry_dict_values (PySem.F.args_dict_values_1 _) (meets_dict_values (JaJ X.prog X.w) d hS) ⟨⟨vs,dd⟩, ?_⟩
 obtain ⟨ep,da⟩:=dd.dictAt
 obtain ⟨od,es,hod,rest⟩:=id da
 refine wpAny_pyIter_values (knd:=JaJ X.prog X.w) (v:=s1.heap.objs.size) (d:=d) (kvs:=vs) (ep:=ep) ⟨_,Heap.get?_push_size _ rfl,rfl,rfl⟩ (da.push _) ?_
 have kk:∀ b o,s1.heap.get? b = some o→((s1.heap.push { cls:=.type "dict_values",data:=.fields #[.ref d] }).push { cls:=.type "dict_valueiterator",data:=.fields #[.ref d, .int 0 0, .int vs.length 0, .int ep 0] }).get? b = some o:=fun b o z => Heap.get?_push_of_some _ (Heap.get?_push_of_some _ z)
 have I2:=(I1.freeze e hod).kept (t':=s1.toks) kk
 have sz:s1.heap.objs.size ≤ (s1.heap.push { cls:=.type "dict_values",data:=.fields #[.ref d] }).objs.size:=by
  rw [Heap.size_push]
  exact Nat.le_succ _
 refine ⟨_,[_],_,_,_,rfl,I2,JgB (vs:=vs) (ep:=ep) rel (fun h q => ⟨od,es,q,rest⟩),⟨_,Heap.get?_push_size _ rfl,rfl,rfl⟩,fun b hb' => ?_,q1 od⟩
 obtain rfl:=List.mem_singleton.mp hb'
 exact I1.fpOk sz ((I1.freeze e hod).hok.fresh sz)
def tThaw (t:TE):TE:=fun σ H Q => ∃ d kvs,H d = some (.dK kvs)∧t σ H fun v H' => ∃ od kvs',H' d = some (.frz od (.dK kvs'))∧Q v (upd H' d (.dK kvs'))
theorem Jgi {e:Expr} {t:TE} (h:PE X e t):PE X e (tThaw t):=by
 intro pins s σ H Q I ⟨d,kvs,hd,q⟩
 exact thn (h pins s σ H _ I q) fun v s1 ⟨x,H1,I1,r1,od,kvs',e',q1⟩ => ⟨x,_,I.thaw hd I1 e',r1,q1⟩
end
section
variable {k:Nat} {cs:List (Nat × Str)} {g:TG} {te tl td:TE} {σ : St} {H H1:Hp} {Q:VK} {d:Addr} {od:Obj} {kvs:List (Key × V)}
theorem y38y:tThaw (tComp k cs (iVals td) g te) σ H Q = ∃ d kvs,H d = some (.dK kvs)∧td σ H fun x H1 => ∃ d1 kvs1,x = .ref d1∧H1 d1 = some (.dK kvs1)∧∀ od,CompJ (Itv d1 od kvs1) k cs g te σ (fun v H' => ∃ od kvs',H' d = some (.frz od (.dK kvs'))∧Q v (upd H' d (.dK kvs'))) (upd H1 d1 (.frz od (.dK kvs1))):=rfl
theorem CompJ.vals (Pv:Nat→List V→Hp→Prop) (h0:Pv 0 [] H1) (hl:∀ i ys H',i ≤ kvs.length→Pv i ys H'→H' d = some (.frz od (.dK kvs))∧ys.length ≤ sizeLine)
  (hs:∀ i x ys H2,(kvs.map (·.2))[i]? = some x→Pv i ys H2→g x (List.replicate k none ++ JaO cs σ) H2 fun σ4 H4 => te σ4 H4 fun y H5 => Pv (i + 1) (ys ++ [y]) H5) (hd:∀ ys H2,Pv kvs.length ys H2→∀ p,H2 p = none→Q (.ref p) (upd H2 p (.lst ys))) :
  CompJ (Itv d od kvs) k cs g te σ Q H1:=by
 refine ⟨fun i m ys H' => Pv i ys H'∧i ≤ kvs.length∧m = kvs.length - i,⟨_,h0,Nat.zero_le _,rfl⟩, ?_⟩
 rintro i m ys H2 ⟨hp,hi,rfl⟩
 obtain ⟨h1,h2⟩:=hl i ys H2 hi hp
 refine ⟨h2, ?_⟩
 by_cases c:i < kvs.length
 ·refine .inr ⟨⟨h1,c⟩, ?_⟩
  rintro x H3 ⟨rfl,hx⟩
  have e:(fun (σ4:St) (H4:Hp) => te σ4 H4 fun y H5 => Pv (i + 1) (ys ++ [y]) H5) = fun σ4 H4 => te σ4 H4 fun y H5 => ∃ m',m' < kvs.length - i∧Pv (i + 1) (ys ++ [y]) H5∧i + 1 ≤ kvs.length∧m' = kvs.length - (i + 1):=by
   funext σ4 H4
   congr 1
   funext y H5
   exact propext ⟨fun q => ⟨_,Nat.sub_lt_sub_left c (Nat.lt_succ_self i),q,c,rfl⟩,fun ⟨_,_,q,_⟩ => q⟩
  rw [← e]
  exact hs i x ys H3 hx hp
 ·have ei:i = kvs.length:=by omega
  subst ei
  exact .inl ⟨⟨h1,Nat.le_refl _⟩,hd ys H2 hp⟩
end
section
variable {X:Cx} {k k':Nat} {x:Str} {C:Addr} {ps:List Str} {sp:Sp} {E:XK} {p pos:Pos}
theorem KCal.ev0 (G:KCal X.prog X.w X.K X.mg X.base k x C ps sp) (hr:Room k' X.A) (hk:k + 1 ≤ k') (hg:Gl X x) (hx:Jbo (CX1 X.prog X.w) X E) (hdb:(x == ("__debug__" : Str)) = false:=by decide) :
  PE X (.Call (.Name x p) [] [] pos) (tMake C sp [] E tNil):=by
 obtain ⟨f,fd,F,hm,M,hb⟩:=G.ex
 exact Jg3 M F (hr.mono hk) hg hm hb .nil hx hdb
end
end L2
namespace L2
open PySem PySem.Spec PyProof.Rows Ch
def wtB:D→Bool
 | .int i => decide (1 ≤ i)
 | _ => false
def partB:D→Bool
 | .tup [n,s,e,z,m,w] => nameB n && Jbe s e && (fracB z && fracB m && Ja6 w) && (!lessD m (.tup [.int 0, .int 1]) && wtB w)
 | _ => false
def gapB:D→Bool
 | .tup [n,s,e,l,g] => tieB (.tup [n,s,e,l,g]) && !nonD l && !nonD g
 | _ => false
structure POk (p:PD):Prop where
 n1:nameS p.nm = true
 n2:nameS p.st = true
 n3:nameS p.en = true
 ne:p.st ≠ p.en
 z:FOk 200 p.sz
 m:FOk 200 p.mo
 m0:0 ≤ p.mo.1
 w:1 ≤ p.wt
 ws:Mth.Sz 200 p.wt
structure GD where
 nm:Str
 st:Str
 en:Str
 lo:Int × Int
 hi:Int × Int
def GD.td (g:GD):TD:=⟨g.nm,g.st,g.en,some g.lo,some g.hi⟩
def pdD (p:PD):D:=.tup [.str p.nm, .str p.st, .str p.en,frD p.sz,frD p.mo, .int p.wt]
theorem POk.part {p:PD} (h:POk p):partB (pdD p) = true:=by
 have e:eqD (.str p.st) (.str p.en) = false:=by simp only [eqD,beq_eq_false_iff_ne]; exact h.ne
 have l:lessD (frD p.mo) (.tup [.int 0, .int 1]) = false:=by
  simp [frD,lessD]
  exact h.m0
 simp [pdD,partB,nameB,Jbe,h.n1,h.n2,h.n3,e,l,frD,fracB,Ja6,wtB,h.z.b1,h.z.g1,h.m.b1,h.m.g1,h.w]
 simpa [frD,lessD] using h.m0
theorem POk.sz {p:PD} (h:POk p):szD (pdD p):=by
 simp only [pdD,frD,szD,szL]
 have:=len8 h.n1
 have:=len8 h.n2
 have:=len8 h.n3
 exact ⟨by omega,by omega,by omega,⟨h.z.s1.mono (by decide),h.z.s2.mono (by decide),trivial⟩,⟨h.m.s1.mono (by decide),h.m.s2.mono (by decide),trivial⟩,h.ws.mono (by decide),trivial⟩
theorem Jir {g:GD} (h:TOk g.td):gapB (tdD g.td) = true:=by
 have:=h.tie
 simp only [tdD,gapB] at this ⊢
 rw [this]
 rfl
def PDV (K:PySem.W.Frag) (H:Hp) (p:PD) (x:V):Prop:=∃ b vz vm,x = .ref b∧SqT K H b [.str p.nm, .str p.st, .str p.en,vz,vm, .int p.wt]∧FrV K H vz p.sz.1 p.sz.2∧FrV K H vm p.mo.1 p.mo.2
section
variable {K:PySem.W.Frag} {H H':Hp}
theorem PDV.sameT {p:PD} {x:V} (S:SameT H H'):PDV K H p x→PDV K H' p x:=fun ⟨b,vz,vm,e,q,h1,h2⟩ => ⟨b,vz,vm,e,q.sameT S,h1.sameT S,h2.sameT S⟩
theorem PDV.rep {p:PD} {x:V}:PDV K H p x→Rep K H (pdD p) x:=fun ⟨b,vz,vm,e,q,h1,h2⟩ => by
 simp only [pdD,Rep,RepL]
 exact ⟨b,_,e,q,_,_,rfl,rfl,_,_,rfl,rfl,_,_,rfl,rfl,_,_,rfl,FrV.rep h1,_,_,rfl,FrV.rep h2,_,_,rfl,rfl,rfl⟩
end
def LeV (H:Hp) (e:Str × Pr) (x:V):Prop:=∃ b c,x = .ref b∧H b = some (.tup [.str e.1, .ref c])∧H c = some (.tup [.str e.2.1, .bl e.2.2])
theorem LeV.sameT {H H':Hp} {e:Str × Pr} {x:V} (S:SameT H H'):LeV H e x→LeV H' e x:=fun ⟨b,c,h1,h2,h3⟩ => ⟨b,c,h1,S _ _ rfl h2,S _ _ rfl h3⟩
structure JD (H0 H:Hp) (L:Str→List (Str × Pr)) (kvs:List (Key × V)):Prop where
 at_:∀ (f:Str),(valV kvs (Sum.inr f) = none∧L f = []) ∨ ∃ l xs,valV kvs (Sum.inr f) = some (.ref l)∧H0 l = none∧H l = some (.lst xs)∧All2 (LeV H) (L f) xs
 inj:∀ (f g:Str) (l:Addr),valV kvs (Sum.inr f) = some (.ref l)→valV kvs (Sum.inr g) = some (.ref l)→f = g
theorem JD.same {H0 H H':Hp} {L:Str→List (Str × Pr)} {kvs:List (Key × V)} (S:Same H H') (h:JD H0 H L kvs):JD H0 H' L kvs where
 at_:=fun f => by
  rcases h.at_ f with h | ⟨l,xs,h1,h2,h3,h4⟩
  ·exact .inl h
  ·exact .inr ⟨l,xs,h1,h2,S _ _ h3,h4.mono fun _ _ z => z.sameT S.t⟩
 inj:=h.inj
theorem JD.sx {H0 H H':Hp} {L:Str→List (Str × Pr)} {kvs kv2:List (Key × V)} {d:Addr} (S:∀ b u,b ≠ d→H b = some u→H' b = some u) (hd:H d = some (.dK kv2)) (h:JD H0 H L kvs):JD H0 H' L kvs where
 at_:=fun f => by
  have T:SameT H H':=fun b u t q => S b u (fun z => by rw [z,hd] at q; cases q; simp [isTF] at t) q
  rcases h.at_ f with h | ⟨l,xs,h1,h2,h3,h4⟩
  ·exact .inl h
  ·exact .inr ⟨l,xs,h1,h2,S _ _ (fun z => by rw [z,hd] at h3; cases h3) h3,h4.mono fun _ _ z => z.sameT T⟩
 inj:=h.inj
theorem JD.sy {H0 H H':Hp} {L:Str→List (Str × Pr)} {kvs:List (Key × V)} {x:Addr} {o:HO} (S:∀ b u,b ≠ x→H b = some u→H' b = some u) (hx:H x = some o) (hn:∀ xs,o ≠ .lst xs) (ht:isTF o = false) (h:JD H0 H L kvs):JD H0 H' L kvs where
 at_:=fun f => by
  have T:SameT H H':=fun b u t q => S b u (fun z => by rw [z,hx] at q; cases q; rw [ht] at t; cases t) q
  rcases h.at_ f with h | ⟨l,xs,h1,h2,h3,h4⟩
  ·exact .inl h
  ·exact .inr ⟨l,xs,h1,h2,S _ _ (fun z => by rw [z,hx] at h3; exact hn _ (Option.some.inj h3)) h3,h4.mono fun _ _ z => z.sameT T⟩
 inj:=h.inj
theorem JD.nil {H0 H:Hp}:JD H0 H (fun _ => []) []:=⟨fun f => .inl ⟨rfl,rfl⟩,fun f g l h => by simp [valV] at h⟩
def addL (L:Str→List (Str × Pr)) (f:Str) (e:Str × Pr):Str→List (Str × Pr):=fun g => if g = f then L g ++ [e] else L g
theorem JD.more {H0 H H':Hp} {L:Str→List (Str × Pr)} {kvs:List (Key × V)} {f:Str} {e:Str × Pr} {l b:Addr} {xs:List V} (h:JD H0 H L kvs) (hv:valV kvs (Sum.inr f) = some (.ref l)) (hl:H l = some (.lst xs)) (hb:LeV H e (.ref b)) (e':upd H l (.lst (xs ++ [.ref b])) = H'):JD H0 H' (addL L f e) kvs where
 at_:=fun g => by
  have T:SameT H H':=SameT.put e' hl rfl
  have hl':H' l = some (.lst (xs ++ [.ref b])):=by rw [← e',Jak]
  by_cases c:g = f
  ·subst c
   rcases h.at_ g with ⟨h1,_⟩ | ⟨l2,xs2,h1,h2,h3,h4⟩
   ·rw [hv] at h1
    cases h1
   ·rw [hv] at h1
    cases h1
    rw [hl] at h3
    cases h3
    refine .inr ⟨l,_,hv,h2,hl', ?_⟩
    unfold addL
    rw [if_pos rfl]
    exact (h4.mono fun _ _ z => z.sameT T).append (.one (hb.sameT T))
  ·unfold addL
   rw [if_neg c]
   rcases h.at_ g with h1 | ⟨l2,xs2,h1,h2,h3,h4⟩
   ·exact .inl h1
   ·have ne:l2 ≠ l:=fun z => c (h.inj g f l (by rw [h1,z]) hv)
    exact .inr ⟨l2,xs2,h1,h2,by rw [← e',Jae ne]; exact h3,h4.mono fun _ _ z => z.sameT T⟩
 inj:=h.inj
theorem JD.first {H0 H H':Hp} {L:Str→List (Str × Pr)} {kvs:List (Key × V)} {f:Str} {e:Str × Pr} {l b:Addr} (h:JD H0 H L kvs) (hv:valV kvs (Sum.inr f) = none) (h0:H0 l = none) (hn:∀ g l',valV kvs (Sum.inr g) = some (.ref l')→l' ≠ l) (hl:H l = some (.lst [])) (hb:LeV H e (.ref b)) (e':upd H l (.lst [.ref b]) = H'):JD H0 H' (addL L f e) (putK kvs (Sum.inr f) (.ref l)) where
 at_:=fun g => by
  have T:SameT H H':=SameT.put e' hl rfl
  have hl':H' l = some (.lst [.ref b]):=by rw [← e',Jak]
  rw [JbY]
  by_cases c:g = f
  ·subst c
   rw [if_pos rfl]
   refine .inr ⟨l,_,rfl,h0,hl', ?_⟩
   unfold addL
   rw [if_pos rfl]
   rcases h.at_ g with ⟨_,h2⟩ | ⟨l2,xs2,h1,_⟩
   ·rw [h2]
    exact .one (hb.sameT T)
   ·rw [hv] at h1
    cases h1
  ·have c':(Sum.inr g:Key) ≠ Sum.inr f:=fun z => c (by injection z)
   rw [if_neg c']
   unfold addL
   rw [if_neg c]
   rcases h.at_ g with h1 | ⟨l2,xs2,h1,h2,h3,h4⟩
   ·exact .inl h1
   ·exact .inr ⟨l2,xs2,h1,h2,by rw [← e',Jae (hn g l2 h1)]; exact h3,h4.mono fun _ _ z => z.sameT T⟩
 inj:=fun g1 g2 l' h1 h2 => by
  rw [JbY] at h1 h2
  by_cases c1:(Sum.inr g1:Key) = Sum.inr f
  ·by_cases c2:(Sum.inr g2:Key) = Sum.inr f
   ·have:=c1.trans c2.symm
    injection this
   ·rw [if_pos c1] at h1
    rw [if_neg c2] at h2
    cases h1
    exact absurd rfl (hn g2 l h2)
  ·by_cases c2:(Sum.inr g2:Key) = Sum.inr f
   ·rw [if_neg c1] at h1
    rw [if_pos c2] at h2
    cases h2
    exact absurd rfl (hn g1 l h1)
   ·rw [if_neg c1] at h1
    rw [if_neg c2] at h2
    exact h.inj g1 g2 l' h1 h2
theorem Jce {ls:List PD} {p:PD} (h:p.st ≠ p.en):addL (addL (JaA ls) p.st (p.en,(p.nm,true))) p.en (p.st,(p.nm,false)) = JaA (ls ++ [p]):=by
 funext g
 rw [JcV]
 unfold addL JcB
 by_cases c1:g = p.en
 ·subst c1
  have h':p.en ≠ p.st:=fun z => h z.symm
  simp [h,h']
 ·have c1':p.en ≠ g:=fun z => c1 z.symm
  by_cases c2:g = p.st
  ·subst c2
   simp [c1]
  ·have c2':p.st ≠ g:=fun z => c2 z.symm
   simp [c1,c2,c1',c2']
theorem JdB (ls:List PD) (f:Str):(JaA ls f).length ≤ ls.length:=by
 unfold JaA
 induction ls with
 | nil => simp
 | cons p ls ih =>
  rw [List.flatMap_cons,List.length_append,List.length_cons]
  have : (JcB p f).length ≤ 1:=by
   unfold JcB
   split
   ·simp
   ·split <;> simp
  omega
end L2
namespace L2
open PySem PySem.Spec PyProof.Rows Ch
def PWy (H H':Hp) (wl:Addr) (a:Str × List Pr) (v:V):Prop:=∃ l xs,v = .ref l∧H l = none∧l ≠ wl∧H' l = some (.lst xs)∧All2 (CV H') a.2 xs
structure Srch (H:Hp) (ls:List PD) (one:Str) (fd wl:Addr) (H':Hp) (ws:List (Str × List Pr)) (wt:List Str):Prop where
 same:Same H H'
 dict:∃ kvs,H' fd = some (.dK kvs)∧BG (·.1) (PWy H H' wl) ws kvs
 nd:(ws.map (·.1)).Nodup
 here:one ∈ ws.map (·.1)
 walk:∀ a ∈ ws,Jbp ls one a.2 a.1
 wait:H' wl = some (.lst (wt.map V.str))
 sub:∀ f ∈ wt,f ∈ ws.map (·.1)
 lw:∀ a ∈ ws,a.2.length ≤ ws.length
 sim:∀ a ∈ ws,(a.2.map (·.1)).Nodup∧∀ p ∈ ls,p.nm ∈ a.2.map (·.1)→p.st ∈ ws.map (·.1)∧p.en ∈ ws.map (·.1)
section
variable {H H' H'':Hp} {ls:List PD} {one:Str} {fd wl:Addr} {ws:List (Str × List Pr)} {wt:List Str}
theorem Srch.len (h:Srch H ls one fd wl H' ws wt) (hl:ls.length ≤ 20):ws.length ≤ 41:=by
 have:=sub_len (ws.map (·.1)) (one :: fcsOf ls) h.nd fun z hz => by
  obtain ⟨a,ha,rfl⟩:=List.mem_map.mp hz
  exact Jfe (h.walk a ha)
 rw [List.length_map,List.length_cons,JhM] at this
 omega
theorem Srch.grow (h:Srch H ls one fd wl H' ws wt) (S:Same H' H''):Srch H ls one fd wl H'' ws wt:=by
 obtain ⟨kvs,h1,h2⟩:=h.dict
 exact ⟨h.same.trans S,⟨kvs,S _ _ h1,h2.mono fun a v ⟨l,xs,e,hn,hw,hx,ha⟩ => ⟨l,xs,e,hn,hw,S _ _ hx,ha.mono fun _ _ z => z.sameT S.t⟩⟩,h.nd,h.here,h.walk,S _ _ h.wait,h.sub,h.lw,h.sim⟩
theorem Srch.wait' {wt':List Str} (h:Srch H ls one fd wl H' ws wt) (hw:H wl = none) (e:upd H' wl (.lst (wt'.map V.str)) = H'') (hs:∀ f ∈ wt',f ∈ ws.map (·.1)):Srch H ls one fd wl H'' ws wt':=by
 obtain ⟨kvs,h1,h2⟩:=h.dict
 have T:SameT H' H'':=SameT.put e h.wait rfl
 have nfw:fd ≠ wl:=fun z => by have:=h.wait; rw [← z,h1] at this; cases this
 refine ⟨fun b u q => by rw [← e,Jae (Jah q hw)]; exact h.same _ _ q,⟨kvs,by rw [← e,Jae nfw]; exact h1,h2.mono fun a v ⟨l,xs,e1,hn,hne,hx,ha⟩ => ⟨l,xs,e1,hn,hne,by rw [← e,Jae hne]; exact hx,ha.mono fun _ _ z => z.sameT T⟩⟩,h.nd,h.here,h.walk,by rw [← e,Jak],hs,h.lw,h.sim⟩
theorem Srch.find {g:Str} {w:List Pr} {l:Addr} {xs:List V} {kvs:List (Key × V)} (h:Srch H ls one fd wl H' ws wt) (hk:H' fd = some (.dK kvs)) (hb:BG (·.1) (PWy H H' wl) ws kvs) (hf:H fd = none) (hg:g ∉ ws.map (·.1)) (hwk:Jbp ls one w g) (hlw:w.length ≤ ws.length + 1) (hsm:(w.map (·.1)).Nodup∧∀ p ∈ ls,p.nm ∈ w.map (·.1)→p.st ∈ (ws ++ [(g,w)]).map (·.1)∧p.en ∈ (ws ++ [(g,w)]).map (·.1)) (hl:H l = none) (hne:l ≠ wl) (hx:H' l = some (.lst xs)) (ha:All2 (CV H') w xs)
  (e:upd H' fd (.dK (putK kvs (Sum.inr g) (.ref l))) = H''):Srch H ls one fd wl H'' (ws ++ [(g,w)]) wt:=by
 have T:SameT H' H'':=SameT.put e hk rfl
 have nfw:wl ≠ fd:=fun z => by have:=h.wait; rw [z,hk] at this; cases this
 have nl:∀ {b:Addr} {ys:List V},H' b = some (.lst ys)→H'' b = some (.lst ys):=fun q => by rw [← e,Jae (fun z => by rw [z,hk] at q; cases q)]; exact q
 refine ⟨fun b u q => by rw [← e,Jae (Jah q hf)]; exact h.same _ _ q,⟨_,by rw [← e,Jak], ?_⟩, ?_, ?_, ?_,nl h.wait, ?_, ?_, ?_⟩
 ·have:=hb.mono (P':=PWy H H'' wl) fun a v ⟨l,xs,e1,hn,hne,hx,ha⟩ => ⟨l,xs,e1,hn,hne,nl hx,ha.mono fun _ _ z => z.sameT T⟩
  exact this.new (a:=(g,w)) hg ⟨l,xs,rfl,hl,hne,nl hx,ha.mono fun _ _ z => z.sameT T⟩
 ·rw [List.map_append,List.nodup_append]
  refine ⟨h.nd,by simp,fun a ha b hb z => hg ?_⟩
  rw [List.map_cons,List.map_nil,List.mem_singleton] at hb
  have hb:b = g:=hb
  rw [← hb, ← z]
  exact ha
 ·rw [List.map_append]
  exact List.mem_append.mpr (.inl h.here)
 ·intro a ha
  rcases List.mem_append.mp ha with ha | ha
  ·exact h.walk a ha
  ·rw [List.mem_singleton.mp ha]
   exact hwk
 ·intro f hf'
  rw [List.map_append]
  exact List.mem_append.mpr (.inl (h.sub f hf'))
 ·intro a ha
  rw [List.length_append,List.length_singleton]
  rcases List.mem_append.mp ha with ha | ha
  ·have:=h.lw a ha
   omega
  ·rw [List.mem_singleton.mp ha]
   exact hlw
 ·intro a ha
  rcases List.mem_append.mp ha with ha | ha
  ·refine ⟨(h.sim a ha).1,fun p hp hn => ?_⟩
   have:=(h.sim a ha).2 p hp hn
   rw [List.map_append]
   exact ⟨List.mem_append.mpr (.inl this.1),List.mem_append.mpr (.inl this.2)⟩
  ·rw [List.mem_singleton.mp ha]
   exact hsm
end
end L2
namespace L2
open PySem PySem.Spec PyProof.Rows Ch
inductive PR
 | ok (ls:List PD)
 | noPart
 | twice
 | ring
open Classical in
noncomputable def partsW:List PD→List (PD ⊕ D)→PR
 | acc,[] => .ok acc
 | _, .inr _ :: _ => .noPart
 | acc, .inl p :: r => if p.nm ∈ acc.map (·.nm) then .twice else if Conn acc p.st p.en then .ring else partsW (acc ++ [p]) r
inductive GR
 | ok (gs:List GD)
 | noGap
 | twice
 | apart
open Classical in
noncomputable def gapsW (ls:List PD):List GD→List (GD ⊕ D)→GR
 | acc,[] => .ok acc
 | _, .inr _ :: _ => .noGap
 | acc, .inl g :: r => if g.nm ∈ acc.map (·.nm) then .twice else if Conn ls g.st g.en then gapsW ls (acc ++ [g]) r else .apart
theorem Jcu (acc:List PD) (c:D) (r:List (PD ⊕ D)):partsW acc (.inr c :: r) = .noPart:=rfl
theorem Jcv {acc:List PD} {p:PD} {r:List (PD ⊕ D)} (h:p.nm ∈ acc.map (·.nm)):partsW acc (.inl p :: r) = .twice:=by
 rw [partsW,if_pos h]
theorem Jb5 {acc:List PD} {p:PD} {r:List (PD ⊕ D)} (h:p.nm ∉ acc.map (·.nm)) (hc:Conn acc p.st p.en):partsW acc (.inl p :: r) = .ring:=by
 rw [partsW,if_neg h,if_pos hc]
theorem Jc0 {acc:List PD} {p:PD} {r:List (PD ⊕ D)} (h:p.nm ∉ acc.map (·.nm)) (hc:¬ Conn acc p.st p.en):partsW acc (.inl p :: r) = partsW (acc ++ [p]) r:=by
 rw [partsW,if_neg h,if_neg hc]
theorem JcQ (ls:List PD) (acc:List GD) (c:D) (r:List (GD ⊕ D)):gapsW ls acc (.inr c :: r) = .noGap:=rfl
theorem JcR {ls:List PD} {acc:List GD} {g:GD} {r:List (GD ⊕ D)} (h:g.nm ∈ acc.map (·.nm)):gapsW ls acc (.inl g :: r) = .twice:=by
 rw [gapsW,if_pos h]
theorem Jb4 {ls:List PD} {acc:List GD} {g:GD} {r:List (GD ⊕ D)} (h:g.nm ∉ acc.map (·.nm)) (hc:¬ Conn ls g.st g.en):gapsW ls acc (.inl g :: r) = .apart:=by
 rw [gapsW,if_neg h,if_neg hc]
theorem Jdz {ls:List PD} {acc:List GD} {g:GD} {r:List (GD ⊕ D)} (h:g.nm ∉ acc.map (·.nm)) (hc:Conn ls g.st g.en):gapsW ls acc (.inl g :: r) = gapsW ls (acc ++ [g]) r:=by
 rw [gapsW,if_neg h,if_pos hc]
def WOV (H:Hp) (ls:List PD) (g:GD) (v:V):Prop:=∃ l xs w,v = .ref l∧H l = some (.lst xs)∧All2 (CV H) w xs∧Jbp ls g.st w g.en∧(w.map (·.1)).Nodup
theorem WOV.same {H H':Hp} {ls:List PD} {g:GD} {v:V} (S:Same H H'):WOV H ls g v→WOV H' ls g v:=fun ⟨l,xs,w,h1,h2,h3,h4⟩ => ⟨l,xs,w,h1,S _ _ h2,h3.mono fun _ _ z => z.sameT S.t,h4⟩
end L2
namespace L2
open PySem PySem.Spec PyProof.Rows Ch
end L2
namespace L2
open PySem PySem.Spec PyProof.Rows Ch
section
variable {K:PySem.W.Frag} {k:Nat} {cs:List (Nat × Str)} {g:TG} {te:TE} {ta:TA} {σ : St} {H H1:Hp} {Q:VK} {a b:Addr} {xs zs:List V}
end
end L2
namespace L2
open PySem PySem.Spec PyProof.Rows Ch
section
variable {X:Cx}
end
section
variable {K:PySem.W.Frag} {H:Hp} {Q:VK}
end
end L2
namespace L2
open PySem PySem.Spec PyProof.Rows Ch
def fc (j:Nat):Str:=⟨#[102 + j]⟩
end L2
namespace L2
open PySem PySem.Spec PyProof.Rows Ch
section
variable {prog:Program} {w:World} {A:Around} {E:Value→Shared→Prop} {s:Shared}
end
end L2
namespace L2
open PySem PySem.Spec PyProof.Rows Ch
section
variable {prog:Program} {w:World} {A:Around} {E:Value→Shared→Prop} {s:Shared}
end
section
variable {X:Cx}
end
section
variable {X:Cx} {elts:List Expr} {x1:Nat} {tp:Pos}
end
section
variable {K:PySem.W.Frag} {k:Nat} {cs:List (Nat × Str)} {g:TG} {te:TE} {ta:TA} {σ : St} {H H1:Hp} {Q:VK} {a:Addr} {xs:List V}
theorem CompJ.range {lo:Int} {n:Nat} (Pv:Nat→List V→Hp→Prop) (h0:Pv 0 [] H1) (hl:∀ i ys H',i ≤ n→Pv i ys H'→ys.length ≤ sizeLine)
  (hs:∀ i ys H2,i < n→Pv i ys H2→g (.int (lo + i)) (List.replicate k none ++ JaO cs σ) H2 fun σ4 H4 => te σ4 H4 fun y H5 => Pv (i + 1) (ys ++ [y]) H5) (hd:∀ ys H2,Pv n ys H2→∀ p,H2 p = none→Q (.ref p) (upd H2 p (.lst ys))) :
  CompJ (Itr lo n) k cs g te σ Q H1:=by
 refine ⟨fun i m ys H' => Pv i ys H'∧i ≤ n∧m = n - i,⟨_,h0,Nat.zero_le _,rfl⟩, ?_⟩
 rintro i m ys H2 ⟨hp,hi,rfl⟩
 refine ⟨hl i ys H2 hi hp, ?_⟩
 by_cases c:i < n
 ·refine .inr ⟨c, ?_⟩
  rintro v H3 ⟨rfl,rfl⟩
  have e:(fun (σ4:St) (H4:Hp) => te σ4 H4 fun y H5 => Pv (i + 1) (ys ++ [y]) H5) = fun σ4 H4 => te σ4 H4 fun y H5 => ∃ m',m' < n - i∧Pv (i + 1) (ys ++ [y]) H5∧i + 1 ≤ n∧m' = n - (i + 1):=by
   funext σ4 H4
   congr 1
   funext y H5
   exact propext ⟨fun q => ⟨_,Nat.sub_lt_sub_left c (Nat.lt_succ_self i),q,c,rfl⟩,fun ⟨_,_,q,_⟩ => q⟩
  rw [← e]
  exact hs i ys _ c hp
 ·have ei:i = n:=by omega
  subst ei
  exact .inl ⟨Nat.le_refl _,hd ys H2 hp⟩
end
end L2
namespace L2
open PySem PySem.Spec PyProof.Rows Ch
def Itq (lo c:Int) (n:Nat):It:=⟨fun i _ => i < n,fun i H x H' => H' = H∧x = .int (lo + i * c),fun i _ => n ≤ i⟩
theorem JeN {P:Program} {w:World} {K:PySem.W.Frag} {tg:Expr} (it:Addr) (lo c:Int) (n:Nat):Turn P w K tg (Itq lo c n) [it] it (fun i h => IsRangeIter h it (lo + (i:Nat) * c) ((n:Int) - (i:Nat)) c) where
 mem:=by simp
 obj:=fun i h st b hb => by
  have e:b = it:=by simpa using hb
  subst e
  exact ⟨_,st,fun v z => by
   have z':Data.fields _ = Data.cell v:=z
   cases z'⟩
 keep:=fun i h h' st k => k it (by simp) _ st
 item:=by
  intro X hP hw hK hc i pins s σ H E I hf st hg
  subst hP hw hK
  obtain ⟨f0,f1,f2,f3,f4,f5⟩:=hf it (by simp)
  have W:=Walks.range (prog:=X.prog) (w:=X.w) (I.ok.hd hc) it lo c n
  refine W.item i s _ _ hg st fun v h' tk hv st' kk => ?_
  obtain ⟨t,rfl⟩:=hv
  have I1:Inv X pins σ H { s with heap:=h',toks:=tk }:=I.turned (fun b o hb e => kk b o (by simpa using hb) e) f0 f1 f3 f4 f5
  exact ⟨_,rfl,go_of (s:={ s with heap:=h',toks:=tk }) (n:="range_iterator") st' rfl rfl (by decide) ⟨.int (lo + i * c),H,I1,⟨t,rfl⟩,⟨rfl,rfl⟩,st',fun b hb => (hf b hb).1⟩⟩
 done:=by
  intro X hP hw hK hc i pins s σ H E I hf st hg
  subst hP hw hK
  obtain ⟨f0,f1,f2,f3,f4,f5⟩:=hf it (by simp)
  exact wpAny_pyNext_range_end (I.ok.hd hc) st (by have : n ≤ i:=hg; omega) fun h' eb => ⟨rfl,I.turned (t':=s.toks) (fun b o hb e => eb b o hb e) f0 f1 f3 f4 f5⟩
 self:=fun _ _ _ _ _ st h => wpAny_pyIter_rangeiter st h
def rsz (lo hi c:Int):Nat:=(if lo < hi then (hi - lo - 1) / c + 1 else 0).toNat
theorem Jdn {lo hi c:Int} (hc:1 ≤ c):((rsz lo hi c:Nat):Int) = Builtin.Range.rangeSize lo hi c:=by
 unfold rsz Builtin.Range.rangeSize
 rw [if_pos (show c > 0 by omega)]
 split
 ·have:=Int.ediv_nonneg (a:=hi - lo - 1) (b:=c) (by omega) (by omega)
  omega
 ·rfl
theorem JeH {lo hi c:Int} (h1:0 ≤ lo) (h2:lo < 2 ^ 40) (h3:0 ≤ hi) (h4:hi < 2 ^ 40) (h5:1 ≤ c) (h6:c < 2 ^ 30):Builtin.Range.small lo hi c = true:=by
 unfold Builtin.Range.small
 have e:0 ≤ Builtin.Range.rangeSize lo hi c∧Builtin.Range.rangeSize lo hi c < 2 ^ 41:=by
  rw [← Jdn h5]
  refine ⟨by omega, ?_⟩
  unfold rsz
  split
  ·have a1:=Int.ediv_nonneg (a:=hi - lo - 1) (b:=c) (by omega) (by omega)
   have a2:=Int.ediv_le_self c (show 0 ≤ hi - lo - 1 by omega)
   omega
  ·simp
 generalize Builtin.Range.rangeSize lo hi c = z at e ⊢
 simp only [Builtin.Range.rangeFitsLong,Bool.and_eq_true,Bool.or_eq_true,decide_eq_true_eq,beq_iff_eq]
 rw [if_pos (by omega)]
 simp only [Bool.and_eq_true,decide_eq_true_eq]
 omega
section
variable {X:Cx} {tg:Expr}
theorem JiO {pins:List (Addr × Obj)} {σ : St} {H:Hp} {s:Shared} {R:It→Hp→Prop} {h:Heap} {lo c:Int} {n:Nat} {t':Nat} (I:Inv X pins σ H { s with heap:=h,toks:=t' }) (q:R (Itq lo c n) H) :
  PIE X pins σ tg R (.ref h.objs.size) { s with heap:=h.push { cls:=.type "range_iterator",data:=.fields #[rawInt lo,rawInt (n:Int),rawInt c] },toks:=t' }:=by
 refine ⟨h.objs.size,[h.objs.size],_,_,H,rfl,I.kept (t':=t') fun b o e => Heap.get?_push_of_some _ e,JeN _ lo c n, ?_,fun b hb => ?_,q⟩
 ·have e1:lo + ((0:Nat):Int) * c = lo:=by simp
  have e2:(n:Int) - ((0:Nat):Int) = n:=by simp
  show IsRangeIter _ _ (lo + ((0:Nat):Int) * c) ((n:Int) - ((0:Nat):Int)) c
  rw [e1,e2]
  exact Heap.get?_push_size _ rfl
 ·have e:b = h.objs.size:=by simpa using hb
  subst e
  exact I.fpOk (Nat.le_refl _) (I.hok.fresh (Nat.le_refl _))
def iRng3 (ta:TA):TI:=fun σ H R => ta σ H fun vs H1 => ∃ i j c:Int,vs = [.int i, .int j, .int c]∧(0 ≤ i∧i < 2 ^ 40∧0 ≤ j∧j < 2 ^ 40∧1 ≤ c∧c < 2 ^ 30)∧R (Itq i c (rsz i j c)) H1
theorem Jgj {a b d:Expr} {ta:TA} {p pos:Pos} (hg:Gl X "range") (hm:X.mg "range" = none) (ha:PA X [a,b,d] ta)
  (hs:starEach [a,b,d] X.env = [(false,eval a X.env),(false,eval b X.env),(false,eval d X.env)]:=by rfl) (hs2:starEach [b,d] X.env = [(false,eval b X.env),(false,eval d X.env)]:=by rfl):PI X tg (.Call (.Name "range" p) [a,b,d] [] pos) (iRng3 ta):=by
 intro pins s σ H R I h
 refine wpAny_Call_Name_kw (Jd6 I hg hm JgI ?_)
 refine PyProof.Rows.callWith_type1 (thn (ha pos pins s σ H _ I h) fun us s1 ⟨vs,H1,I1,r1,q1⟩ => ?_) (by rw [hs,hs2]) (by rw [hs2]; rfl)
 obtain ⟨i,j,c,e,⟨q1,q2,q3,q4,q5,q6⟩,q⟩:=q1
 subst e
 cases r1 with
 | cons r rr =>
  cases rr with
  | cons r' rr =>
   cases rr with
   | cons r'' rr =>
    cases rr
    obtain ⟨t,rfl⟩:=r
    obtain ⟨t',rfl⟩:=r'
    obtain ⟨t'',rfl⟩:=r''
    refine call_range_3 (by omega) ?_ (Or.inl (PyProof.noPylong_small (by omega)))
    refine wpAny_pyIter_range (IsRange.new ..) (JeH q1 q2 q3 q4 q5 q6) ?_
    rw [← Jdn q5]
    exact JiO (I1.kept (t':=s1.toks) fun b o e => Heap.get?_push_of_some _ e) q
end
section
variable {ta:TA} {g:TG} {tb:TS} {D:Ends} {σ : St} {H:Hp}
def ForQ (lo c:Int) (n:Nat) (g:TG) (tb:TS) (D:Ends) (σ : St) (H:Hp):Prop:=∃ W:Nat→Nat→St→Hp→Prop,(∃ m,W 0 m σ H)∧∀ i m σ H,W i m σ H →
 ((Itq lo c n).stop i H∧D.nx σ H) ∨ ((Itq lo c n).go i H∧∃ N:St→Hp→Prop,(∀ σ' H',N σ' H'→∃ m',m' < m∧W (i + 1) m' σ' H')∧∀ x H',(Itq lo c n).yld i H x H'→g x σ H' fun σ2 H2 => tb { D with nx:=N,ct:=N,bk:=D.nx } σ2 H2)
theorem y50y:tFor (iRng3 ta) g tb D σ H = ta σ H fun vs H1 => ∃ i j c:Int,vs = [.int i, .int j, .int c]∧(0 ≤ i∧i < 2 ^ 40∧0 ≤ j∧j < 2 ^ 40∧1 ≤ c∧c < 2 ^ 30)∧ForQ i c (rsz i j c) g tb D σ H1:=rfl
theorem ForQ.by {lo c:Int} {n:Nat} (Pv:Nat→St→Hp→Prop) (h0:Pv 0 σ H)
  (hs:∀ i σ H,i < n→Pv i σ H→g (.int (lo + i * c)) σ H fun σ2 H2 => tb { D with nx:=Pv (i + 1),ct:=Pv (i + 1),bk:=D.nx } σ2 H2) (hd:∀ σ H,Pv n σ H→D.nx σ H):ForQ lo c n g tb D σ H:=by
 refine ⟨fun i m σ H => m = n - i∧i ≤ n∧Pv i σ H,⟨n,by simp,Nat.zero_le _,h0⟩, ?_⟩
 rintro i m σ H ⟨rfl,hi,p⟩
 by_cases hlt:i < n
 ·refine .inr ⟨hlt,Pv (i + 1),fun σ' H' p' => ⟨n - (i + 1),by omega,rfl,hlt,p'⟩,fun x H' y => ?_⟩
  obtain ⟨e,y⟩:=y
  subst e y
  exact hs i σ _ hlt p
 ·have e:i = n:=by omega
  subst e
  exact .inl ⟨Nat.le_refl _,hd σ H p⟩
end
theorem y5ay {c:TT} {ta tb:TE} {σ : St} {H:Hp} {Q:VK}:tIf c ta tb σ H Q = c σ H fun b H1 => if b = true then ta σ H1 Q else tb σ H1 Q:=rfl
end L2
namespace L2
open PySem Ch
def vl (a:Int × Int):Rat:=(a.1:Rat) / (a.2:Rat)
end L2
namespace L2
open PySem Ch
theorem Jbp.trans {ls:List PD} {a b c:Str} {w w':List Pr} (h:Jbp ls a w b) (h':Jbp ls b w' c):Jbp ls a (w ++ w') c:=by
 induction h' with
 | nil =>
  rw [List.append_nil]
  exact h
 | snoc _ hm ih =>
  rw [← List.append_assoc]
  exact .snoc ih hm
theorem Conn.trans {ls:List PD} {a b c:Str}:Conn ls a b→Conn ls b c→Conn ls a c:=fun ⟨w,h⟩ ⟨w',h'⟩ => ⟨w ++ w',h.trans h'⟩
theorem Conn.refl {ls:List PD} {a:Str}:Conn ls a a:=⟨[], .nil⟩
theorem Conn.lead {ls:List PD} {f g:Str} {pr:Pr} (h:(g,pr) ∈ JaA ls f):Conn ls f g:=⟨[] ++ [pr], .snoc .nil h⟩
theorem Conn.symm {ls:List PD} (hn:∀ p ∈ ls,p.st ≠ p.en) {a b:Str} (h:Conn ls a b):Conn ls b a:=by
 obtain ⟨w,h⟩:=h
 induction h with
 | nil => exact .refl
 | snoc _ hm ih =>
  obtain ⟨p,hp,h | h⟩:=JbB.mp hm
  ·exact Conn.trans (.lead (JbB.mpr ⟨p,hp, .inr ⟨fun z => hn p hp (z.trans h.2.1.symm),h.2.1,h.1,rfl⟩⟩)) ih
  ·exact Conn.trans (.lead (JbB.mpr ⟨p,hp, .inl ⟨h.2.2.1,h.2.1,rfl⟩⟩)) ih
theorem Conn.mono {ls:List PD} {p:PD} {a b:Str} (h:Conn ls a b):Conn (ls ++ [p]) a b:=by
 obtain ⟨w,h⟩:=h
 refine ⟨w, ?_⟩
 induction h with
 | nil => exact .nil
 | snoc _ hm ih => exact .snoc ih (by rw [JcV]; exact List.mem_append.mpr (.inl hm))
theorem JfL {ls:List PD} {p:PD} (hp:p ∈ ls):Conn ls p.st p.en:=.lead (pr:=(p.nm,true)) (JbB.mpr ⟨p,hp, .inl ⟨rfl,rfl,rfl⟩⟩)
theorem JeV {ls:List PD} (hn:∀ p ∈ ls,p.st ≠ p.en) {a b:Str} (h:Conn ls a b) (hne:a ≠ b):a ∈ fcsOf ls∧b ∈ fcsOf ls:=by
 have one:∀ {a b:Str},Conn ls a b→a ≠ b→b ∈ fcsOf ls:=fun {a b} h hne => by
  obtain ⟨w,h⟩:=h
  rcases List.mem_cons.mp (Jfe h) with e | e
  ·exact absurd e.symm hne
  ·exact e
 exact ⟨one (h.symm hn) (Ne.symm hne),one h hne⟩
def nmK (s st k:Nat):Str:=⟨(List.replicate st s ++ ([97 + k] ++ List.replicate (3 - st) s)).toArray⟩
theorem Jf5 {s st i j:Nat} (h:nmK s st i = nmK s st j):i = j:=by
 unfold nmK at h
 injection h with h
 have h:=congrArg Array.toList h
 simp at h
 exact h
theorem JbU {s st k:Nat} (hs:97 ≤ s∧s ≤ 122) (hst:st ≤ 3) (hk:k ≤ 25):nameS (nmK s st k) = true:=by
 unfold nameS nmK
 simp [Str.length,lowB]
 exact ⟨by omega, .inr hs,by omega, .inr hs⟩
end L2
namespace L2
open PySem Ch
section
variable {A B A' B' C D C' D':Nat} {x y z w m a b:Int × Int}
end
end L2
namespace L2
open PySem Ch
section
variable {α : Type} {f : α→Str} {l:List α} {s st:Nat}
end
end L2
namespace L2
open PySem PySem.Spec PyProof.Rows Ch
section
variable {K:PySem.W.Frag} {H H':Hp} {x:V}
end
theorem Jd3 {H0 H:Hp} {b:Addr} (S:Same H0 H) (h:H b = none):H0 b = none:=by
 cases e:H0 b with
 | none => rfl
 | some o => rw [S _ _ e] at h; cases h
end L2
namespace L2
open PySem Ch
theorem JiY {t b:Int} (ht:0 ≤ t) (hb:1 ≤ b):0 ≤ Mth.top t b:=by
 have h1:=Mth.JeM (t:=t) (b:=b) (by omega)
 have h2:=Mth.g_pos (a:=t) (b:=b) (by omega)
 have e:Mth.by_ t b = Mth.g t b:=by unfold Mth.by_; rw [if_neg (by omega)]
 rw [e] at h1
 rcases Int.lt_or_le (Mth.top t b) 0 with z | z
 ·have:=Int.mul_neg_of_neg_of_pos z h2
  omega
 ·exact z
open PySem.Spec PyProof.Rows
theorem ForR.byN {lo:Int} {n:Nat} {g:TG} {tb:TS} {D:Ends} {σ : St} {H:Hp} (Pv:Nat→St→Hp→Prop) (h0:Pv 0 σ H)
  (hs:∀ i σ H,i < n→Pv i σ H→∀ N:St→Hp→Prop,(∀ σ' H',Pv (i + 1) σ' H'→N σ' H')→g (.int (lo + i)) σ H fun σ2 H2 => tb { D with nx:=N,ct:=N,bk:=D.nx } σ2 H2) (hd:∀ σ H,Pv n σ H→D.nx σ H):ForR lo n g tb D σ H :=
 ForR.by Pv h0 (fun i σ H hi hp => hs i σ H hi hp _ fun _ _ h => h) hd
theorem ForA.byLN {K:PySem.W.Frag} {a:Addr} {xs:List V} {g:TG} {tb:TS} {D:Ends} {σ : St} {H:Hp} (hA:SqL K H a xs) (Pv:Nat→St→Hp→Prop) (h0:Pv 0 σ H) (hl:∀ i σ H',Pv i σ H'→SqL K H' a xs)
  (hs:∀ i x σ H,xs[i]? = some x→Pv i σ H→∀ N:St→Hp→Prop,(∀ σ' H',Pv (i + 1) σ' H'→N σ' H')→g x σ H fun σ2 H2 => tb { D with nx:=N,ct:=N,bk:=D.nx } σ2 H2) (hd:∀ σ H,Pv xs.length σ H→D.nx σ H):ForA K a g tb D σ H :=
 ForA.byL hA Pv h0 hl (fun i x σ H hx hp => hs i x σ H hx hp _ fun _ _ h => h) hd
end L2
namespace L2
open PySem Ch
def sm (f:Str→Rat):List Str→Rat
 | [] => 0
 | n :: r => f n + sm f r
def prodI:List Int→Int
 | [] => 1
 | f :: r => f * prodI r
structure Scl (b:Int) (fs:List Int):Prop where
 b1:1 ≤ b
 f1:∀ f ∈ fs,1 ≤ f
 pr:prodI fs = b
theorem Scl.nil:Scl 1 []:=⟨by decide,by simp,rfl⟩
structure LInv (n:Int × Int) (q:Int) (t:Int × Int):Prop where
 b1:1 ≤ t.2
 g1:Mth.g t.1 t.2 = 1
 dv:t.2 ∣ n.2
 cr:t.1 * n.2 = n.1 * q * t.2
 ab:t.1.natAbs ≤ n.1.natAbs * q.natAbs
theorem LInv.nil {n:Int × Int} (h:1 ≤ n.2) (g:Mth.g n.1 n.2 = 1):LInv n 1 n:=⟨h,g,Int.dvd_refl _,by rw [Int.mul_one],by simp⟩
theorem LInv.all {n:Int × Int} {b:Int} (h:1 ≤ n.2) (hd:b.fmod n.2 = 0):LInv n b (n.1 * b.fdiv n.2,1):=by
 have dv:n.2 ∣ b:=by
  rw [Int.fmod_eq_emod_of_nonneg _ (by omega)] at hd
  exact Int.dvd_of_emod_eq_zero hd
 have e:=Mth.JcI dv (by omega)
 have le:=Mth.JhN dv h
 refine ⟨Int.le_refl _,by unfold Mth.g; simp,Int.one_dvd _, ?_, ?_⟩
 ·show n.1 * b.fdiv n.2 * n.2 = n.1 * b * 1
  rw [Int.mul_assoc,e,Int.mul_one]
 ·show (n.1 * b.fdiv n.2).natAbs ≤ _
  rw [Int.natAbs_mul]
  exact Nat.mul_le_mul_left _ le
end L2
namespace L2
open PySem PySem.Spec PyProof.Rows Ch
section
variable {X:Cx} {tg:Expr}
end
def notStar:Expr→Bool
 | .Starred _ _ => false
 | _ => true
theorem Jag {e:Expr} {es:List Expr} {env:Env} (h:notStar e = true):starEach (e :: es) env = (false,eval e env) :: starEach es env:=by
 cases e <;> first | rfl | (simp [notStar] at h)
theorem Jaa {X:Cx} {e:Expr} {es:List Expr} {te:TE} {t:TA} (ha:PE X e te) (hr:PA X es t) (hs:notStar e = true:=by rfl):PA X (e :: es) (tCons te t):=Jgg ha hr (Jag hs)
theorem JiI {X:Cx} {i:Int} {j pos} {es:List Expr} {t:TA} (hr:PA X es t):PA X (.Constant (.int i) j pos :: es) (tCons (tC (.int i)) t):=Jgg Jab hr (by rfl)
section
variable {K:PySem.W.Frag} {H H':Hp} {x:V} {a c:Addr}
def Same2 (a c:Addr) (H H':Hp):Prop:=∀ b u,b ≠ a→b ≠ c→H b = some u→H' b = some u
theorem Same2.trans {H'':Hp} (S:Same2 a c H H') (S':Same2 a c H' H''):Same2 a c H H'':=fun b u h1 h2 h => S' b u h1 h2 (S b u h1 h2 h)
end
end L2
namespace L2
open PySem PySem.Spec PyProof.Rows Ch
section
variable {X:Cx}
theorem Jfd:∀ {xs:List V} {us:List Value},xs.length = us.length→(∀ (i:Nat) x u,xs[i]? = some x→us[i]? = some u→RelV x u)→Vals xs us
 | [],[],_,_ => .nil
 | [],_ :: _,h,_ => by simp at h
 | _ :: _,[],h,_ => by simp at h
 | x :: xs,u :: us,h,k => .cons (k 0 x u rfl rfl) (Jfd (by simpa using h) fun i x u h1 h2 => k (i + 1) x u (by simpa using h1) (by simpa using h2))
def JiM (xs:List V) (H:Hp) (Q:VK):Prop:=∃ (d:Addr) (kvs:List (Key × V)) (ss:List Str),xs = [.ref d]∧H d = some (.dK kvs)∧kvs.map (·.1) = ss.map Sum.inr∧∀ l,H l = none→Q (.ref l) (upd H l (.lst (ss.map V.str)))
theorem Jfg (hc:X.calm = true):CallR X (.type "list") JiM:=by
 intro pins s σ H xs us Q I r h
 obtain ⟨d,kvs,ss,rfl,e,hk,q⟩:=h
 obtain ⟨u,rfl,rx⟩:=vals1 r
 cases rx
 obtain ⟨hz,hS,vs,rel,dd⟩:=dk_of I.hok e
 obtain ⟨ep,da⟩:=dd.dictAt
 have lk:ss.length = kvs.length:=by simpa using (congrArg List.length hk).symm
 have lv:vs.length = kvs.length:=rel.length.symm
 have keys:vs.map (·.1) = kvs.map (·.1):=by
  clear dd da hk lk lv hz q e
  induction rel with
  | nil => rfl
  | cons h1 _ ih =>
   rw [List.map_cons,List.map_cons,ih,h1.1]
 refine PySem.W.kdl_call (PySem.W.kdl_dict (knd:=JaJ X.prog X.w) (d:=d) (kvs:=vs) (ep:=ep) hS) (I.ok.hd hc) da (by omega) fun h' tk acc' c' k hD hacc => ?_
 have hv:Vals (ss.map V.str) acc'.toList:=Jfd (by have h1:=hacc.1; have h2:acc'.toList.length = acc'.size:=Array.length_toList; rw [List.length_map,h2,h1]; omega) fun i x v hx hv => by
  rw [List.getElem?_map] at hx
  obtain ⟨z,hz1,rfl⟩:=Option.map_eq_some_iff.mp hx
  obtain ⟨k1,x1,e1,e2⟩:=hacc.2 i v (by rw [← Array.getElem?_toList]; exact hv)
  have e3:(vs.map (·.1))[i]? = some k1:=by rw [List.getElem?_map,e1]; rfl
  rw [keys,hk,List.getElem?_map,hz1] at e3
  have e3:Sum.inr z = k1:=Option.some.inj e3
  subst e3
  rcases JaN (show keyIs (Sum.inr z) v = true from e2) with ⟨b,hb,_⟩ | ⟨y,t,hy,rfl⟩
  ·cases hb
  ·cases hy
   exact ⟨t,rfl⟩
 exact ⟨.ref _,_,I.laid (t':=tk) (o:=.lst (ss.map V.str)) k (Nat.le_refl _) (show ObjOk X.prog X.w _ h' _ (.lst (ss.map V.str)) from ⟨by rw [List.length_map]; omega,acc'.toList,c',hv,by rw [Array.toArray_toList]; exact hD⟩),rfl,q _ (I.hok.fresh (Nat.le_refl _))⟩
theorem JeO:∀ {bs:List Bool} {us:List Value},Vals (bs.map V.bl) us→us = bs.map Value.bool
 | [],us,h => by cases h; rfl
 | b :: bs,us,h => by
  cases h with
  | cons h1 h2 =>
   have h1:_ = Value.bool b:=h1
   subst h1
   rw [JeO h2]
   rfl
def isBl (b:Bool):Value→Bool
 | .bool c => c == b
 | _ => false
def JiL:V→List V→Hp→VK→Prop:=fun x vs H Q => ∃ (l:Addr) (bs:List Bool) (b:Bool),x = .ref l∧vs = [.bl b]∧H l = some (.lst (bs.map V.bl))∧Q (.int ((bs.count b:Nat):Int)) H
theorem JgX:MtM X "list.count" JiL:=by
 intro pins s σ H x vs v us Q I rx rv h
 obtain ⟨l,bs,b,rfl,rfl,hH,q⟩:=h
 cases rx
 obtain ⟨u,rfl,ru⟩:=rv.one
 cases (show u = Value.bool b from ru)
 obtain ⟨hz,its,n,r,hl,e⟩:=I.lstM hH
 have ei:=JeO r
 subst ei
 refine call_meets PySem.F.slot_list_count ⟨_,e,rfl⟩ PySem.F.entry_list_count (PySem.F.args_list_count_2 _ _) (SeqAt.list_countAt l (bs.map Value.bool).toArray n none #[] (.bool b) (isBl b)) ⟨e,fun y hy => ?_, ?_⟩
 ·obtain ⟨c,_,rfl⟩:=List.mem_map.mp (by simpa using hy:y ∈ bs.map Value.bool)
  exact SeqAt.EqAt.bool_bool c b
 ·have ec:(bs.map Value.bool).toArray.toList.countP (isBl b) = bs.count b:=by
   show (bs.map Value.bool).countP (isBl b) = bs.countP (· == b)
   rw [List.countP_map]
   rfl
  rw [ec]
  exact ⟨.int _,H,I.tok _,⟨_,rfl⟩,q⟩
def Jh6:V→List V→Hp→VK→Prop:=fun x vs H Q => ∃ (l:Addr) (bs:List Bool) (b:Bool) (j:Nat),x = .ref l∧vs = [.bl b]∧H l = some (.lst (bs.map V.bl))∧bs[j]? = some b∧(∀ m,m < j→bs[m]? ≠ some b)∧Q (.int (j:Int)) H
theorem Jf3:MtM X "list.index" Jh6:=by
 intro pins s σ H x vs v us Q I rx rv h
 obtain ⟨l,bs,b,j,rfl,rfl,hH,hj,hno,q⟩:=h
 cases rx
 obtain ⟨u,rfl,ru⟩:=rv.one
 cases (show u = Value.bool b from ru)
 obtain ⟨hz,its,n,r,hl,e⟩:=I.lstM hH
 have ei:=JeO r
 subst ei
 have lj:j < bs.length:=(List.getElem?_eq_some_iff.mp hj).1
 have sl:(sizeLine:Int) < 2 ^ 63 - 1:=by decide
 have hz':bs.length ≤ sizeLine:=by simpa using hz
 have at_:∀ m (hm:m < (bs.map Value.bool).toArray.size), ∃ c,bs[m]? = some c∧(bs.map Value.bool).toArray[m] = .bool c:=fun m hm => by
  have hm':m < bs.length:=by simpa using hm
  exact ⟨bs[m],List.getElem?_eq_getElem hm',by simp⟩
 refine call_meets PySem.F.slot_list_index ⟨_,e,rfl⟩ PySem.F.entry_list_index (PySem.F.args_list_index_2 _ _) (SeqAt.list_indexAt l (bs.map Value.bool).toArray n none #[] (.bool b) (isBl b) j (by simpa using lj) (by omega) ?_ fun m hm hlt => ?_) ⟨e,fun y hy => ?_, ?_⟩
 ·obtain ⟨c,h1,h2⟩:=at_ j (by simpa using lj)
  rw [hj] at h1
  cases h1
  rw [h2]
  simp [isBl]
 ·obtain ⟨c,h1,h2⟩:=at_ m hm
  rw [h2]
  have:=hno m hlt
  rw [h1] at this
  simp only [isBl,beq_eq_false_iff_ne]
  exact fun h => this (by rw [h])
 ·obtain ⟨c,_,rfl⟩:=List.mem_map.mp (by simpa using hy:y ∈ bs.map Value.bool)
  exact SeqAt.EqAt.bool_bool c b
 ·exact ⟨.int (j:Int),H,I.tok _,⟨_,rfl⟩,q⟩
def Jgz (K:PySem.W.Frag) (D:Addr) (i k:Nat) (t:TX) (ts:TS):TS:=fun Dn σ H => t σ H (fun v H1 => Dn.nx (σ.set k (some v)) H1) fun cls _ H1 => ∃ C,cls = .ref C∧Jcm K C D ∧
 ∀ ea,H1 ea = none→ts { nx:=fun σ' H' => Dn.nx (σ'.set i none) H',rt:=Dn.rt,bk:=fun σ' H' => Dn.bk (σ'.set i none) H',ct:=fun σ' H' => Dn.ct (σ'.set i none) H' } (σ.set i (some (.ref ea))) (upd H1 ea (ExcO ea C))
theorem Jgm {pos hpos np apos npos:Pos} {x n m:Str} {ce:Expr} {b0:Stmt} {suite:List Stmt} {D:Addr} {t:TX} {ts:TS} {i k:Nat} (hN:X.N.Nodup) (hi:X.N[i]? = some n) (hl:X.env.scope.names.lookup n = some .local) (hk:X.N[k]? = some m) (hmL:Loc X.env.scope m) (hcall:PEx X ce t) (hg:Gl X x) (hm:X.mg x = some (.ref D)) (hsu:∀ e,PSs (X.inx e) (b0 :: suite) ts)
  (hex:X.ex = []:=by rfl) (hst:X.stack = X.env :: X.outer:=by rfl) (hfl:X.env.frame = some X.env.locals:=by rfl) (hdb:(x == ("__debug__" : Str)) = false:=by decide)
  (hs:swapsWith ce (some (.Name m npos)) apos.line X.env = pure false:=by rfl) (hf:X.fn m = true ∨ X.env.scope.names.lookup m = some .local:=by first | exact .inl rfl | exact .inr rfl | assumption) :
  PS X (.Try [.Assign [.Name m npos] ce apos] [.ExceptHandler (some (.Name x np)) (some n) (b0 :: suite) hpos] [] [] pos) (Jgz X.K D i k t ts):=by
 intro pins s σ H Dn I h
 refine wpAny_Try_except (wpAny_execs_cons (wpAny_Assign_Name (wpAny_mono (hcall pins s σ H _ _ I h) (fun v s1 ⟨y,H1,I1,r1,q1⟩ => ?_) (fun ev s1 hx => ?_)) hs))
 ·exact JcM I1 hN hk hmL r1 (fun s2 I2 => wpAny_execs_nil (wpAny_execs_nil ⟨_,H1,I2,q1⟩)) hf
 ·obtain ⟨H1,s0,I1,ea,cls,a0,B,H',rfl,hos,hb,u,hok,F,C,rfl,hcat,hq⟩:=hx
  have hfr:X.A.frames = some (X.env :: X.outer):=by rw [← hst]; exact I.ok.frames
  have F':=F.fly
  rw [hst] at F'
  refine wpAny_looks_onW hfr hfl F' fun h4 hheld hup4 => ?_
  refine wpAny_landsW hheld fun h5 hfl5 hup5 => ?_
  have hup:=hup4.trans hup5
  have hfl5':=hfl5
  rw [← hst] at hfl5'
  have I5:=I1.landed hex u hok F hos hb hfl5' hup rfl
  obtain ⟨oe,vs,he,hc,_,_⟩:=hfl5.first
  refine wpAny_handleBy_cons (codeAny_handlers_test (JbA (X:=X.inx ea) (I5.inx ea) hg hm ?_ hdb)) (by intro z; cases z)
  refine Jd2 I5.kIn he hc hcat (codeAny_handlers_suite_as ?_)
  refine lands_againW hfl5 fun h6 hfl6 hup6 => ?_
  have hfl6':=hfl6
  rw [← hst] at hfl6'
  have I6:=I1.landed hex u hok F hos hb hfl6' (hup.trans hup6) rfl
  refine JcM (X:=X) (v:=.ref ea) I6 hN hi (.inl hl) rfl (fun s7 I7 => ?_) (.inr hl)
  refine wpAny_mono (hsu ea pins s7 _ _ _ (I7.inx ea) (hq ea F.free)) (fun f s2 z => ?_) (fun _ _ z => z.elim)
  have goes:∀ {σ':St} {H2:Hp} {R:Flow→Shared→Prop} {E2:Value→Shared→Prop},Inv (X.inx ea) pins σ' H2 s2→(∀ s3,Inv X pins (σ'.set i none) H2 s3→R f s3) →
    wpAny (model X.prog X.w) X.A (do bindName X.env n .none; unbindBehindTheSuite X.env n hpos) (fun _ s3 => R f s3) E2 s2:=fun {σ' H2 R E2} J k => by
   have J':=J.outx I.ok
   obtain ⟨m,hn,_⟩:=J'.loc
   refine wpAny_nameGoes_keeps hl hn (by rw [I.ok.kind]; rfl) fun h' v hn' hs' => k _ (J'.goes hN hi hs' hn hn' fun y hy => if_neg hy)
  cases f with
  | next => obtain ⟨σ',H2,J,q⟩:=z; exact goes J fun s3 J3 => ⟨_,_,J3,q⟩
  | brk => obtain ⟨σ',H2,J,q⟩:=z; exact goes J fun s3 J3 => ⟨_,_,J3,q⟩
  | cont => obtain ⟨σ',H2,J,q⟩:=z; exact goes J fun s3 J3 => ⟨_,_,J3,q⟩
  | ret v => obtain ⟨y, σ',H2,J,r,q⟩:=z; exact goes J fun s3 J3 => ⟨y,_,_,J3,r,q⟩
theorem y88y {K:PySem.W.Frag} {D:Addr} {i k:Nat} {t:TX} {ts:TS} {En:Ends} {σ : St} {H:Hp}:Jgz K D i k t ts En σ H = t σ H (fun v H1 => En.nx (σ.set k (some v)) H1) fun cls _ H1 => ∃ C,cls = .ref C∧Jcm K C D ∧
 ∀ ea,H1 ea = none→ts { nx:=fun σ' H' => En.nx (σ'.set i none) H',rt:=En.rt,bk:=fun σ' H' => En.bk (σ'.set i none) H',ct:=fun σ' H' => En.ct (σ'.set i none) H' } (σ.set i (some (.ref ea))) (upd H1 ea (ExcO ea C)):=rfl
end
section
variable {prog:Program} {w:World} {A:Around} {E:Value→Shared→Prop} {s:Shared}
theorem JgK {t b:Addr} {ws:List Value} {Q:Value→Shared→Prop} (ht:IsTup s.heap t ([]:List Value).toArray) (hb:IsTup s.heap b ws.toArray) (h:Q (.ref b) s):wpAny (model prog w) A (binaryOp .Add (.ref t) (.ref b)) Q E s:=by
 obtain ⟨⟨cls,dd,data,sl⟩,ho,hc,n,hd⟩:=id ht
 obtain ⟨⟨cls2,dd2,data2,sl2⟩,ho2,hc2,n2,hd2⟩:=id hb
 simp only at hc hd hc2 hd2
 subst hc hd hc2 hd2
 exact concat_meets ⟨_,ho,rfl⟩ ⟨_,ho2,rfl⟩ noFill_tuple_add seq_tuple_add PySem.F.slot_tuple_add PySem.F.entry_tuple_add (PySem.F.args_tuple_add_2 _ _)
  (tuple_addW0 t b _ ws.toArray n n2 dd dd2 sl sl2 rfl) ⟨ho,ho2,h⟩
end
section
variable {X:Cx}
def rAddV (K:PySem.W.Frag):R2:=fun x y H Q => match x,y with
 | .ref a, .ref b => rAddU K (.ref a) (.ref b) H Q ∨ ∃ ys,SqT K H a []∧SqT K H b ys∧Q (.ref b) H
 | x,y => rAddU K x y H Q
theorem JeB:OpR X (binaryOp .Add) (rAddV X.K):=fun pins s σ H x y v u Q I rx ry q => by
 unfold rAddV at q
 split at q
 ·rcases q with q | ⟨ys,ha,hb,q⟩
  ·exact JaH pins s σ H _ _ v u Q I rx ry q
  ·cases rx
   cases ry
   obtain ⟨its,r1,p1,_⟩:=I.tuple ha
   obtain ⟨its2,r2,p2,_⟩:=I.tuple hb
   cases r1
   exact JgK p1 p2 ⟨.ref _,H,I,rfl,q⟩
 ·exact JaH pins s σ H _ _ v u Q I rx ry q
theorem y28y {K:PySem.W.Frag} {i j:Int} {H:Hp} {Q:VK}:rAddV K (.int i) (.int j) H Q = Q (.int (i + j)) H:=rfl
end
end L2
namespace L2
open PySem PySem.Spec PyProof.Rows Ch
theorem JgL {a b:Str} (h:Conn [] a b):a = b:=by
 obtain ⟨w,h⟩:=h
 cases h with
 | nil => rfl
 | snoc _ hm => simp [JaA] at hm
theorem JfM {ls:List PD} {p:PD} (hp:p.st ≠ p.en) {a b:Str}:Conn (ls ++ [p]) a b ↔ Conn ls a b ∨ (Conn ls a p.st∧Conn ls p.en b) ∨ (Conn ls a p.en∧Conn ls p.st b):=by
 constructor
 ·rintro ⟨w,h⟩
  induction h with
  | nil => exact .inl .refl
  | @snoc w f g pr _ hm ih =>
   rw [JcV] at hm
   rcases List.mem_append.mp hm with hm | hm
   ·have c:=Conn.lead hm
    rcases ih with h | h | h
    ·exact .inl (h.trans c)
    ·exact .inr (.inl ⟨h.1,h.2.trans c⟩)
    ·exact .inr (.inr ⟨h.1,h.2.trans c⟩)
   ·have eq1:JaA [p] f = JcB p f:=by simp [JaA]
    rw [← eq1] at hm
    obtain ⟨q,hq,k⟩:=JbB.mp hm
    rw [List.mem_singleton] at hq
    subst hq
    rcases k with ⟨h1,h2,_⟩ | ⟨_,h1,h2,_⟩
    ·rw [← h1] at ih
     rw [← h2]
     rcases ih with h | h | h
     ·exact .inr (.inl ⟨h, .refl⟩)
     ·exact .inr (.inl ⟨h.1, .refl⟩)
     ·exact .inl h.1
    ·rw [← h1] at ih
     rw [← h2]
     rcases ih with h | h | h
     ·exact .inr (.inr ⟨h, .refl⟩)
     ·exact .inl h.1
     ·exact .inr (.inr ⟨h.1, .refl⟩)
 ·have hm:p ∈ ls ++ [p]:=by simp
  have c:=JfL hm
  have c':Conn (ls ++ [p]) p.en p.st:=.lead (pr:=(p.nm,false)) (JbB.mpr ⟨p,hm, .inr ⟨hp,rfl,rfl,rfl⟩⟩)
  rintro (h | h | h)
  ·exact h.mono
  ·exact (h.1.mono).trans (c.trans h.2.mono)
  ·exact (h.1.mono).trans (c'.trans h.2.mono)
def ext (M:Str→Option Str) (f:Str):Str:=(M f).getD f
structure Mrk (ls:List PD) (M:Str→Option Str):Prop where
 dom:∀ f,(M f).isSome = true ↔ f ∈ fcsOf ls
 eq:∀ f g,ext M f = ext M g ↔ Conn ls f g
def joinM (M:Str→Option Str) (a b:Str):Str→Option Str:=fun f => if f = a ∨ f = b then some (ext M a) else if M f = some (ext M b) then some (ext M a) else M f
theorem Mrk.nil:Mrk [] fun _ => none:=⟨fun f => by simp [fcsOf],fun f g => ⟨fun h => by
 have h:f = g:=h
 rw [h]
 exact .refl,fun h => JgL h⟩⟩
section
variable {ls:List PD} {M:Str→Option Str} {a b f g:Str} {p:PD}
theorem Jbq {x:Str} (h:M f = some x):ext M f = x:=by unfold ext; rw [h]; rfl
theorem JeY (h:Mrk ls M) (hn:∀ q ∈ ls,q.st ≠ q.en) (f:Str):ext (joinM M a b) f = if ext M f = ext M b then ext M a else ext M f:=by
 by_cases c1:f = a ∨ f = b
 ·have e:joinM M a b f = some (ext M a):=if_pos c1
  rw [Jbq e]
  rcases c1 with c1 | c1
  ·rw [c1]
   split <;> rfl
  ·rw [c1,if_pos rfl]
 ·have e:joinM M a b f = if M f = some (ext M b) then some (ext M a) else M f:=if_neg c1
  by_cases c2:M f = some (ext M b)
  ·rw [if_pos c2] at e
   rw [Jbq e,Jbq c2,if_pos rfl]
  ·rw [if_neg c2] at e
   have e':ext (joinM M a b) f = ext M f:=by unfold ext; rw [e]
   rw [e',if_neg]
   intro z
   cases q:M f with
   | some x =>
    rw [Jbq q] at z
    exact c2 (by rw [q,z])
   | none =>
    have cn:=(h.eq f b).mp z
    have:=(JeV hn cn (fun y => c1 (.inr y))).1
    have:=(h.dom f).mpr this
    rw [q] at this
    cases this
theorem Mrk.step (h:Mrk ls M) (hn:∀ q ∈ ls,q.st ≠ q.en) (hp:p.st ≠ p.en):Mrk (ls ++ [p]) (joinM M p.st p.en):=by
 refine ⟨fun f => ?_,fun f g => ?_⟩
 ·have e:fcsOf (ls ++ [p]) = fcsOf ls ++ [p.st,p.en]:=by simp [fcsOf]
  rw [e,List.mem_append, ← h.dom f]
  unfold joinM
  by_cases c1:f = p.st ∨ f = p.en
  ·rw [if_pos c1]
   refine ⟨fun _ => .inr ?_,fun _ => rfl⟩
   simpa using c1
  ·rw [if_neg c1]
   have n2:¬ f ∈ [p.st,p.en]:=by simpa using c1
   by_cases c2:M f = some (ext M p.en)
   ·rw [if_pos c2,c2]
    exact ⟨fun _ => .inl rfl,fun _ => rfl⟩
   ·rw [if_neg c2]
    exact ⟨.inl,fun z => z.elim id fun z => absurd z n2⟩
 ·rw [JeY h hn,JeY h hn,JfM hp, ← h.eq f g, ← h.eq f p.st, ← h.eq p.en g, ← h.eq f p.en, ← h.eq p.st g]
  generalize ext M f = F
  generalize ext M g = G
  generalize ext M p.st = A
  generalize ext M p.en = B
  by_cases c1:F = B <;> by_cases c2:G = B <;> grind
theorem Mrk.ring (h:Mrk ls M) (hn:∀ q ∈ ls,q.st ≠ q.en) (hab:a ≠ b):Conn ls a b ↔ ∃ x,M a = some x∧M b = some x:=by
 constructor
 ·intro c
  have fc:=JeV hn c hab
  obtain ⟨x,hx⟩:=Option.isSome_iff_exists.mp ((h.dom a).mpr fc.1)
  obtain ⟨y,hy⟩:=Option.isSome_iff_exists.mp ((h.dom b).mpr fc.2)
  have:=(h.eq a b).mpr c
  rw [Jbq hx,Jbq hy] at this
  exact ⟨x,hx,by rw [hy,this]⟩
 ·rintro ⟨x,h1,h2⟩
  refine (h.eq a b).mp ?_
  rw [Jbq h1,Jbq h2]
end
def MKs (H:Hp) (d:Addr) (n:Nat) (M:Str→Option Str):Prop:=∃ (kvs:List (Key × V)) (ks:List Str),H d = some (.dK kvs)∧kvs.map (·.1) = ks.map Sum.inr∧kvs.length ≤ n∧∀ f,valV kvs (Sum.inr f) = (M f).map V.str
theorem Jf2 (kvs:List (Key × V)) (k:Key) (v:V):(putK kvs k v).map (·.1) = if (valV kvs k).isSome = true then kvs.map (·.1) else kvs.map (·.1) ++ [k]:=by
 unfold putK
 rw [JbX]
 split
 ·rw [List.map_map]
  refine List.map_congr_left fun kv _ => ?_
  show (if kv.1 = k then (kv.1,v) else kv).1 = kv.1
  split <;> rfl
 ·rw [List.map_append]
  rfl
theorem JhT {kvs:List (Key × V)} {k:Key}:(valV kvs k).isSome = true ↔ k ∈ kvs.map (·.1):=by
 rw [← JbX,List.any_eq_true]
 constructor
 ·rintro ⟨kv,h1,h2⟩
  exact List.mem_map.mpr ⟨kv,h1,by simpa using h2⟩
 ·intro h
  obtain ⟨kv,h1,h2⟩:=List.mem_map.mp h
  exact ⟨kv,h1,by simpa using h2⟩
theorem Je3 {kvs:List (Key × V)} {ks:List Str} {z:Str} {v:V} (h:kvs.map (·.1) = ks.map Sum.inr):∃ ks':List Str,(putK kvs (Sum.inr z) v).map (·.1) = ks'.map Sum.inr:=by
 rw [Jf2,h]
 split
 ·exact ⟨ks,rfl⟩
 ·exact ⟨ks ++ [z],by rw [List.map_append]; rfl⟩
theorem Jed:∀ {es:List (PD ⊕ D)} {acc ls:List PD},partsW acc es = .ok ls→∃ l,es = l.map Sum.inl∧ls = acc ++ l
 | [],acc,ls,h => by
  rw [partsW] at h
  injection h with h
  exact ⟨[],rfl,by simp [h]⟩
 | .inr c :: r,acc,ls,h => by rw [Jcu] at h; cases h
 | .inl p :: r,acc,ls,h => by
  by_cases c1:p.nm ∈ acc.map (·.nm)
  ·rw [Jcv c1] at h; cases h
  ·by_cases c2:Conn acc p.st p.en
   ·rw [Jb5 c1 c2] at h; cases h
   ·rw [Jc0 c1 c2] at h
    obtain ⟨l,h1,h2⟩:=Jed h
    exact ⟨p :: l,by rw [h1]; rfl,by rw [h2]; simp⟩
theorem Je0 {ls:List PD}:∀ {fs:List (GD ⊕ D)} {acc gs:List GD},gapsW ls acc fs = .ok gs→∃ l,fs = l.map Sum.inl∧gs = acc ++ l
 | [],acc,gs,h => by
  rw [gapsW] at h
  injection h with h
  exact ⟨[],rfl,by simp [h]⟩
 | .inr c :: r,acc,gs,h => by rw [JcQ] at h; cases h
 | .inl g :: r,acc,gs,h => by
  by_cases c1:g.nm ∈ acc.map (·.nm)
  ·rw [JcR c1] at h; cases h
  ·by_cases c2:Conn ls g.st g.en
   ·rw [Jdz c1 c2] at h
    obtain ⟨l,h1,h2⟩:=Je0 h
    exact ⟨g :: l,by rw [h1]; rfl,by rw [h2]; simp⟩
   ·rw [Jb4 c1 c2] at h; cases h
noncomputable def dueW (es:List (PD ⊕ D)) (fs:List (GD ⊕ D)):Nat:=match partsW [] es with
 | .noPart => 0
 | .twice => 1
 | .ring => 2
 | .ok ls => match gapsW ls [] fs with
  | .noGap => 3
  | .twice => 1
  | .apart => 4
  | .ok _ => 5
def JgE:Nat→Str
 | 0 => Str.ofString "part"
 | 1 => Str.ofString "twice"
 | 2 => Str.ofString "ring"
 | 3 => Str.ofString "gap"
 | 4 => Str.ofString "apart"
 | _ => Str.ofString "made"
section
variable {K:PySem.W.Frag} {H H':Hp}
theorem RepL.set:∀ {ds:List D} {vs:List V} {i:Nat} {d:D} {v:V},RepL K H ds vs→Rep K H d v→RepL K H (ds.set i d) (vs.set i v)
 | [],vs,i,d,v,h,_ => by
  simp only [RepL] at h
  subst h
  simp [RepL]
 | x :: ds,vs,i,d,v,h,k => by
  simp only [RepL] at h
  obtain ⟨u,r,rfl,h1,h2⟩:=h
  cases i with
  | zero => simp only [List.set_cons_zero,RepL]; exact ⟨v,r,rfl,k,h2⟩
  | succ i => simp only [List.set_cons_succ,RepL]; exact ⟨u,_,rfl,h1,RepL.set h2 k⟩
theorem RepL.take:∀ {ds:List D} {vs:List V} (j:Nat),RepL K H ds vs→RepL K H (ds.take j) (vs.take j)
 | [],vs,j,h => by
  simp only [RepL] at h
  subst h
  simp [RepL]
 | x :: ds,vs,0,h => by simp [RepL]
 | x :: ds,vs,j + 1,h => by
  simp only [RepL] at h
  obtain ⟨u,r,rfl,h1,h2⟩:=h
  simp only [List.take_succ_cons,RepL]
  exact ⟨u,_,rfl,h1,RepL.take j h2⟩
theorem RepL.app:∀ {ds es:List D} {vs us:List V},RepL K H ds vs→RepL K H es us→RepL K H (ds ++ es) (vs ++ us)
 | [],es,vs,us,h,k => by
  simp only [RepL] at h
  subst h
  exact k
 | x :: ds,es,vs,us,h,k => by
  simp only [RepL] at h
  obtain ⟨u,r,rfl,h1,h2⟩:=h
  simp only [List.cons_append,RepL]
  exact ⟨u,_,rfl,h1,RepL.app h2 k⟩
theorem Jcc:∀ {ds:List D} {i:Nat} {d:D},szL ds→szD d→szL (ds.set i d)
 | [],i,d,h,_ => by simpa using h
 | x :: ds,0,d,h,k => by simp only [szL,List.set_cons_zero] at h ⊢; exact ⟨k,h.2⟩
 | x :: ds,i + 1,d,h,k => by simp only [szL,List.set_cons_succ] at h ⊢; exact ⟨h.1,Jcc h.2 k⟩
theorem Jfb:∀ {ds:List D} (j:Nat),szL ds→szL (ds.take j)
 | [],j,h => by simpa using h
 | x :: ds,0,h => by simp [szL]
 | x :: ds,j + 1,h => by simp only [szL,List.take_succ_cons] at h ⊢; exact ⟨h.1,Jfb j h.2⟩
theorem Jgv:∀ {ds es:List D},szL ds→szL es→szL (ds ++ es)
 | [],es,_,k => by simpa using k
 | x :: ds,es,h,k => by simp only [szL,List.cons_append] at h ⊢; exact ⟨h.1,Jgv h.2 k⟩
theorem Jbu:∀ {ds:List D} {n:Nat},(∀ d ∈ ds,depD d ≤ n)→depL ds ≤ n
 | [],n,_ => by simp [depL]
 | x :: ds,n,h => by
  simp only [depL]
  exact Nat.max_le.mpr ⟨h x (by simp),Jbu fun d hd => h d (by simp [hd])⟩
theorem Jdx {ds:List D} {n:Nat} (h:depL ds ≤ n):∀ d ∈ ds,depD d ≤ n:=fun d hd => Nat.le_trans (Jdw hd) h
theorem Jcp {ds:List D} {i n:Nat} {d:D} (h:depL ds ≤ n) (k:depD d ≤ n):depL (ds.set i d) ≤ n:=Jbu fun x hx => by
 rcases List.mem_or_eq_of_mem_set hx with hx | hx
 ·exact Jdx h x hx
 ·rw [hx]; exact k
theorem JgO {ds:List D} {j n:Nat} (h:depL ds ≤ n):depL (ds.take j) ≤ n:=Jbu fun x hx => Jdx h x (List.mem_of_mem_take hx)
theorem JhJ {ds es:List D} {n:Nat} (h:depL ds ≤ n) (k:depL es ≤ n):depL (ds ++ es) ≤ n:=Jbu fun x hx => by
 rcases List.mem_append.mp hx with hx | hx
 ·exact Jdx h x hx
 ·exact Jdx k x hx
def cut (p:Addr) (H:Hp):Hp:=fun b => if b = p then none else H b
theorem Jdh {p b:Addr} (h:b ≠ p):cut p H b = H b:=if_neg h
theorem JcH {p:Addr}:Same (cut p H) H:=fun b u h => by
 unfold cut at h
 split at h
 ·cases h
 ·exact h
theorem Same.cut {p:Addr} (S:Same H H'):Same (cut p H) (cut p H'):=fun b u h => by
 have e:b ≠ p:=fun z => by rw [z] at h; unfold L2.cut at h; rw [if_pos rfl] at h; cases h
 rw [Jdh e] at h ⊢
 exact S _ _ h
theorem Jdu {p:Addr} {o:HO}:cut p (upd H p o) = cut p H:=by
 funext b
 by_cases c:b = p
 ·rw [c]; unfold cut; rw [if_pos rfl,if_pos rfl]
 ·rw [Jdh c,Jdh c,Jae c]
theorem SqT.cut {p a:Addr} {ys xs:List V} (hp:H p = some (.lst ys)) (h:SqT K H a xs):SqT K (cut p H) a xs:=by
 rcases h with (h | ⟨o,h⟩) | h
 ·exact .inl (.inl (by rw [Jdh (fun z => by rw [z,hp] at h; cases h)]; exact h))
 ·exact .inl (.inr ⟨o,by rw [Jdh (fun z => by rw [z,hp] at h; cases h)]; exact h⟩)
 ·exact .inr h
theorem FrV.cut {p:Addr} {ys:List V} {v:V} {a b:Int} (hp:H p = some (.lst ys)) (h:FrV K H v a b):FrV K (cut p H) v a b:=by
 obtain ⟨q,e,h⟩:=h
 exact ⟨q,e,h.cut hp⟩
theorem PDV.cut {p:Addr} {ys:List V} {t:PD} {v:V} (hp:H p = some (.lst ys)):PDV K H t v→PDV K (cut p H) t v:=fun ⟨b,vz,vm,e,q,h1,h2⟩ => ⟨b,vz,vm,e,q.cut hp,h1.cut hp,h2.cut hp⟩
theorem TV.cut {p:Addr} {ys:List V} {t:TD} {v:V} (hp:H p = some (.lst ys)):TV K H t v→TV K (cut p H) t v:=fun ⟨b,vl,vg,e,q,h1,h2⟩ => ⟨b,vl,vg,e,q.cut hp,by
 cases h:t.lo with
 | none => rw [h] at h1; exact h1
 | some a => rw [h] at h1; exact FrV.cut hp h1,by
 cases h:t.hi with
 | none => rw [h] at h2; exact h2
 | some a => rw [h] at h2; exact FrV.cut hp h2⟩
end
def dsOf:PD ⊕ GD→List D
 | .inl p => [.str p.nm, .str p.st, .str p.en,frD p.sz,frD p.mo, .int p.wt]
 | .inr g => [.str g.nm, .str g.st, .str g.en,frD g.lo,frD g.hi]
def okE:PD ⊕ GD→Prop
 | .inl p => POk p
 | .inr g => TOk g.td
def badE (e:PD ⊕ GD) (c:D):Prop:=match e with
 | .inl _ => partB c = false
 | .inr _ => gapB c = false
def EV (K:PySem.W.Frag) (H:Hp) (e:PD ⊕ GD) (x:V):Prop:=match e with
 | .inl p => PDV K H p x
 | .inr g => TV K H g.td x
theorem EV.sq {K:PySem.W.Frag} {H:Hp} {e:PD ⊕ GD} {x:V} (h:EV K H e x):∃ a xs,x = .ref a∧SqT K H a xs∧RepL K H (dsOf e) xs:=by
 cases e with
 | inl p =>
  have r:=PDV.rep h
  simp only [pdD,Rep] at r
  exact r
 | inr g =>
  have r:=TV.rep h
  simp only [tdD,Rep] at r
  exact r
theorem EV.cut {K:PySem.W.Frag} {H:Hp} {p:Addr} {ys:List V} {e:PD ⊕ GD} {x:V} (hp:H p = some (.lst ys)) (h:EV K H e x):EV K (cut p H) e x:=by
 cases e with
 | inl p => exact PDV.cut hp h
 | inr g => exact TV.cut hp h
theorem ok_sz {e:PD ⊕ GD} (h:okE e):szL (dsOf e):=by
 cases e with
 | inl p =>
  have:=POk.sz h
  simp only [pdD,szD] at this
  exact this
 | inr g =>
  have:=TOk.sz h
  simp only [tdD,szD] at this
  exact this
theorem Jip (e:PD ⊕ GD):depL (dsOf e) ≤ 2:=by
 cases e with
 | inl p => simp [dsOf,frD,depL,depD]
 | inr g => simp [dsOf,frD,depL,depD]
theorem Jeo {e:PD ⊕ GD} {ds:List D} (h:ds.length ≠ (dsOf e).length):badE e (.tup ds):=by
 cases e with
 | inl p =>
  show partB (.tup ds) = false
  unfold partB
  split
  ·rename_i q; cases q; simp [dsOf] at h
  ·rfl
 | inr g =>
  show gapB (.tup ds) = false
  unfold gapB
  split
  ·rename_i q; cases q; simp [dsOf] at h
  ·rfl
theorem JhA {e:PD ⊕ GD} {ds:List D}:badE e (.lst ds):=by cases e <;> rfl
theorem JhB {e:PD ⊕ GD}:badE e .non:=by cases e <;> rfl
theorem Jhy {e:PD ⊕ GD} {i:Int}:badE e (.int i):=by cases e <;> rfl
theorem JhC {e:PD ⊕ GD} {z:Str}:badE e (.str z):=by cases e <;> rfl
theorem JcP (d:D):Jbe d d = false:=by unfold Jbe; rw [Jbg]; simp
theorem Jdf {c:D} (h:fracB c = false):JbN c = false ∨ nonD c = true:=by
 cases c <;> first | exact .inr rfl | exact .inl h
theorem JeS {e:PD ⊕ GD} {i:Nat} {c:D} (hi:i < 3) (h:nameB c = false):badE e (.tup ((dsOf e).set i c)):=by
 cases e with
 | inl p =>
  show partB _ = false
  match i,hi with
  | 0,_ => simp [dsOf,partB,h]
  | 1,_ => simp [dsOf,partB,Jbe,h]
  | 2,_ => simp [dsOf,partB,Jbe,h]
 | inr g =>
  show gapB _ = false
  match i,hi with
  | 0,_ => simp [dsOf,gapB,tieB,h]
  | 1,_ => simp [dsOf,gapB,tieB,Jbe,h]
  | 2,_ => simp [dsOf,gapB,tieB,Jbe,h]
theorem JgG {e:PD ⊕ GD} {i:Nat} {c:D} (hi:i < (dsOf e).length) (h:nameB c = false) (hf:fracB c = false) (hw:Ja6 c = false):badE e (.tup ((dsOf e).set i c)):=by
 by_cases h3:i < 3
 ·exact JeS h3 h
 ·cases e with
  | inl p =>
   show partB _ = false
   match i,hi,h3 with
   | 0,_,h3 | 1,_,h3 | 2,_,h3 => omega
   | 3,_,_ => simp [dsOf,partB,hf]
   | 4,_,_ => simp [dsOf,partB,hf]
   | 5,_,_ => simp [dsOf,partB,hw]
   | n + 6,hi,_ => simp [dsOf] at hi; omega
  | inr g =>
   show gapB _ = false
   match i,hi,h3 with
   | 0,_,h3 | 1,_,h3 | 2,_,h3 => omega
   | 3,_,_ =>
    rcases Jdf hf with q | q
    ·simp [dsOf,gapB,tieB,Jb3,q]
    ·simp [dsOf,gapB,q]
   | 4,_,_ =>
    rcases Jdf hf with q | q
    ·simp [dsOf,gapB,tieB,Jb3,q]
    ·simp [dsOf,gapB,q]
   | n + 5,hi,_ => simp [dsOf] at hi; omega
theorem JgF {e:PD ⊕ GD} {z:Str} (h:(dsOf e)[1]? = some (.str z)):badE e (.tup ((dsOf e).set 2 (.str z))):=by
 cases e with
 | inl p =>
  simp [dsOf] at h
  subst h
  show partB _ = false
  simp [dsOf,partB,JcP]
 | inr g =>
  simp [dsOf] at h
  subst h
  show gapB _ = false
  simp [dsOf,gapB,tieB,JcP]
theorem JgH {p:PD} {q:Int} (h:0 ≤ q):badE (.inl p) (.tup ((dsOf (.inl p)).set 4 (.tup [.int (-1 - q), .int 7]))):=by
 have : lessD (.tup [.int (-1 - q), .int 7]) (.tup [.int 0, .int 1]) = true:=by
  simp only [lessD,decide_eq_true_iff]
  omega
 show partB _ = false
 simp [dsOf,partB,this]
theorem Jig {p:PD} {c:D} (h:(Ja6 c && wtB c) = false):badE (.inl p) (.tup ((dsOf (.inl p)).set 5 c)):=by
 show partB _ = false
 simp only [dsOf,List.set_cons_succ,List.set_cons_zero,partB]
 cases h1:Ja6 c with
 | false => simp
 | true =>
  rw [h1] at h
  have : wtB c = false:=by simpa using h
  rw [this]
  simp
theorem Jhz {g:GD} (h:TOk g.td):badE (.inr g) (.tup ((dsOf (.inr g)).set 3 (.tup [.int (g.hi.1 + g.hi.2), .int g.hi.2]))):=by
 have hb:1 ≤ g.hi.2:=(h.hi g.hi rfl).b1
 have : lessD (frD g.hi) (.tup [.int (g.hi.1 + g.hi.2), .int g.hi.2]) = true:=by
  simp only [frD,lessD,decide_eq_true_iff]
  have : (0:Int) < g.hi.2 * g.hi.2:=Int.mul_pos (by omega) (by omega)
  rw [Int.add_mul]
  omega
 show gapB _ = false
 simp [dsOf,gapB,tieB,Jb3,this]
theorem Jis {a b k:Int} (h:FOk 200 (a,b)) (h0:0 ≤ k) (h1:k ≤ 2):FOk 600 (a + b * k,b):=by
 refine ⟨?_,h.s2.mono (by decide),h.b1, ?_⟩
 ·have z:Mth.Sz 4 k:=.lit (by omega) (by omega)
  exact (Mth.Sz.add (n:=204) (h.s1.mono (by decide)) (h.s2.mul z)).mono (by decide)
 ·refine Mth.JgQ (Mth.Jfi fun d h2 h3 => Mth.Jfj (Mth.JgR h.g1) ?_ h3)
  have : d ∣ b * k:=Int.dvd_trans h3 (Int.dvd_mul_right b k)
  have h2:d ∣ a + b * k:=h2
  have:=Int.dvd_sub h2 this
  rwa [Int.add_sub_cancel] at this
theorem JhQ {a b k:Int} (hb:1 ≤ b) (h0:0 ≤ k):lessD (bD (some (a + b * k,b))) (bD (some (a,b))) = false:=by
 simp only [bD,frD,lessD,decide_eq_false_iff_not]
 have : 0 ≤ b * k:=Int.mul_nonneg (by omega) h0
 have : 0 ≤ b * k * b:=Int.mul_nonneg this (by omega)
 rw [Int.add_mul]
 omega
theorem JdM {xs:List V} {m:Int} (h0:0 ≤ m) (h1:m < (xs.length:Int)):∃ x ∈ xs,atI xs m = some x:=by
 obtain ⟨n,rfl⟩:=Int.eq_ofNat_of_zero_le h0
 have hn:n < xs.length:=by omega
 exact ⟨xs[n],List.getElem_mem hn,Jcn (List.getElem?_eq_getElem hn)⟩
theorem five {j:Nat} (h:j < 5):∃ bs:List Bool,bs = [decide (j = 0),decide (j = 1),decide (j = 2),decide (j = 3),decide (j = 4)]∧bs.count true = 1∧bs[j]? = some true∧∀ m,m < j→bs[m]? ≠ some true:=by
 refine ⟨_,rfl, ?_⟩
 match j,h with
 | 0,_ => exact ⟨by decide,rfl,by intro m hm; omega⟩
 | 1,_ => exact ⟨by decide,rfl,by decide⟩
 | 2,_ => exact ⟨by decide,rfl,by decide⟩
 | 3,_ => exact ⟨by decide,rfl,by decide⟩
 | 4,_ => exact ⟨by decide,rfl,by decide⟩
def Jba (H H':Hp):Prop:=∀ b u,(∀ xs,u ≠ .lst xs)→H b = some u→H' b = some u
theorem Same.nl {H H':Hp} (S:Same H H'):Jba H H':=fun b u _ h => S b u h
theorem Jba.trans {H H1 H2:Hp} (a:Jba H H1) (b:Jba H1 H2):Jba H H2:=fun c u n h => b c u n (a c u n h)
theorem Jba.put {H H':Hp} {l:Addr} {xs:List V} {o:HO} (e:upd H l o = H') (hl:H l = some (.lst xs)):Jba H H':=fun b u n h => by
 rw [← e,Jae (fun z => by rw [z,hl] at h; exact n _ (Option.some.inj h).symm)]
 exact h
theorem Jba.t {H H':Hp} (S:Jba H H'):SameT H H':=fun b u t h => S b u (fun xs z => by rw [z] at t; cases t) h
end L2
namespace L2
open PySem PySem.Spec PyProof.Rows Ch
theorem mod7 {x j:Int} (h0:0 ≤ j) (h1:j < 6):x.fmod 7 ≠ (x + 1 + j).fmod 7:=by
 rw [Int.fmod_eq_emod_of_nonneg _ (by decide),Int.fmod_eq_emod_of_nonneg _ (by decide)]
 omega
theorem JdT {xs:List V} {i:Nat} {x:V} (h:i < xs.length):xs.set i x = xs.take i ++ [x] ++ xs.drop (i + 1):=by
 rw [List.set_eq_take_append_cons_drop,if_pos h]
 simp
end L2
namespace L2
open PySem PySem.Spec PyProof.Rows Ch
theorem JgM {xs:List V} (h:1 ≤ xs.length):cutV xs none (some (-1)) = xs.take (xs.length - 1):=by
 unfold cutV HT.sIx
 dsimp only
 rw [if_pos (by decide)]
 simp only [List.drop_zero,Nat.sub_zero]
 congr 1
 omega
theorem JfN {p q:Addr} {o u:HO} {H Hn H':Hp} (hp:H p = some o) (S:Same H Hn) (hn:Hn q = none) (h:H' q = some u):cut p H' q = some u:=by
 rw [Jdh]
 ·exact h
 ·intro z
  rw [z,S _ _ hp] at hn
  cases hn
end L2
namespace L2
open PySem PySem.Spec PyProof.Rows Ch
theorem All2.unmap {α β : Type} {P : β→V→Prop} {f : α→β}:∀ {as:List α} {xs:List V},All2 P (as.map f) xs→All2 (fun a x => P (f a) x) as xs
 | [],xs,h => h
 | a :: as,xs,h => by
  obtain ⟨x,r,e,h1,h2⟩:=h
  exact ⟨x,r,e,h1,All2.unmap h2⟩
end L2
open PySem L2
local macro_rules | `(tactic| infer_instance) => `(tactic| simp only [y81y,y4dy,y4ey,y4fy,y70y,y2by,y6by,y7ey,y7fy,y45y,y2ey,y77y,y8ey,y30y,y3ay,y71y,y2fy,y86y,y23y,y29y,y78y,y73y,y2ay,y79y,y75y,y59y,y90y,y26y,y85y,y6fy,y68y,y4ay,y67y,y7cy,y33y,y48y,y6dy,y49y,y6ey,y47y,y6cy,y89y,y63y,y5fy,y8by,y8dy,y8ay,y8cy,y25y,y66y,y24y,true_and,if_true,if_false,Bool.not_true,Bool.not_false,Bool.false_eq_true,yby,ydy,yay,ycy,yey,y15y,y17y,y14y,y16y,y18y,y6y,y8y,y5y,y7y,y9y,y1y,y3y,y0y,y2y,y4y,y10y,y12y,yfy,y11y,y13y,y1ay,y1cy,y19y,y1by,y1dy,y1fy,y21y,y1ey,y20y,y22y,y83y,y7by,y72y,y31y,y32y,y53y,y61y,y62y,y4cy,y84y,y87y,y91y,y7dy,y27y,V.int.injEq,V.str.injEq,List.set_cons_zero,List.set_cons_succ,List.getElem?_cons_zero,List.getElem?_cons_succ,Option.some.injEq,exists_eq_left,exists_eq_left',V.bl.injEq,Int.reduceToNat,Int.reducePow,List.append_nil,List.nil_append,List.cons_append,y55y,y57y,y2cy,y2dy,y69y,y5ey,y74y,y64y,y65y,y3by,y3cy,y3dy,y44y,y46y,y3fy,y7ay,y41y,y40y,y34y,y36y,y38y,y3ey,y42y,y50y,y5ay,y88y,y93y,y28y,reduceCtorEq,decide_false,decide_true])
local macro_rules | `(tactic| contradiction) => `(tactic| simp only [y81y,y4dy,y4ey,y4fy,y70y,y2by,y6by,y7ey,y7fy,y45y,y2ey,y77y,y8ey,y30y,y3ay,y71y,y2fy,y86y,y23y,y29y,y78y,y73y,y2ay,y79y,y75y,y59y,y90y,y26y,y85y,y6fy,y68y,y4ay,y67y,y7cy,y33y,y48y,y6dy,y49y,y6ey,y47y,y6cy,y89y,y63y,y5fy,y8by,y8dy,y8ay,y8cy,y25y,y66y,y24y,true_and,if_true,if_false,Bool.not_true,Bool.not_false,Bool.false_eq_true,yby,ydy,yay,ycy,yey,y15y,y17y,y14y,y16y,y18y,y6y,y8y,y5y,y7y,y9y,y1y,y3y,y0y,y2y,y4y,y10y,y12y,yfy,y11y,y13y,y1ay,y1cy,y19y,y1by,y1dy,y1fy,y21y,y1ey,y20y,y22y,y83y,y7by,y72y,y31y,y32y,y53y,y61y,y62y,y4cy,y84y,y87y,y91y,y7dy,y27y,V.int.injEq,V.str.injEq,List.set_cons_zero,List.set_cons_succ,List.getElem?_cons_zero,List.getElem?_cons_succ,Option.some.injEq,exists_eq_left,exists_eq_left',V.bl.injEq,Int.reduceToNat,Int.reducePow,List.append_nil,List.nil_append,List.cons_append,y55y,y57y,y2cy,y2dy,y69y,y5ey,y74y,y64y,y65y,y3by,y3cy,y3dy,y44y,y46y,y3fy,y7ay,y41y,y40y,y34y,y36y,y38y,y3ey,y42y,y50y,y5ay,y88y,y93y,y28y,reduceCtorEq,decide_false,decide_true,y4by])
local macro_rules | `(tactic| ac_rfl) => `(tactic| simp only [y81y,y4dy,y4ey,y4fy,y70y,y2by,y6by,y7ey,y7fy,y45y,y2ey,y77y,y8ey,y30y,y3ay,y71y,y2fy,y86y,y23y,y29y,y78y,y73y,y2ay,y79y,y75y,y59y,y90y,y26y,y85y,y6fy,y68y,y4ay,y67y,y7cy,y33y,y48y,y6dy,y49y,y6ey,y47y,y6cy,y89y,y63y,y5fy,y8by,y8dy,y8ay,y8cy,y25y,y66y,y24y,true_and,if_true,if_false,Bool.not_true,Bool.not_false,Bool.false_eq_true,yby,ydy,yay,ycy,yey,y15y,y17y,y14y,y16y,y18y,y6y,y8y,y5y,y7y,y9y,y1y,y3y,y0y,y2y,y4y,y10y,y12y,yfy,y11y,y13y,y1ay,y1cy,y19y,y1by,y1dy,y1fy,y21y,y1ey,y20y,y22y,y83y,y7by,y72y,y31y,y32y,y53y,y61y,y62y,y4cy,y84y,y87y,y91y,y7dy,y27y,V.int.injEq,V.str.injEq,List.set_cons_zero,List.set_cons_succ,List.getElem?_cons_zero,List.getElem?_cons_succ,Option.some.injEq,exists_eq_left,exists_eq_left',V.bl.injEq,Int.reduceToNat,Int.reducePow,List.append_nil,List.nil_append,List.cons_append,y55y,y57y,y2cy,y2dy,y69y,y5ey,y74y,y64y,y65y,y3by,y3cy,y3dy,y44y,y46y,y3fy,y7ay,y41y,y40y,y34y,y36y,y38y,y3ey,y42y,y50y,y5ay,y88y,y93y,y28y,reduceCtorEq,decide_false,decide_true,y82y])
local macro_rules | `(tactic| symm_saturate) => `(tactic| ((try simp only [y4dy,y4ey,y4fy,y70y,y2by,y6by,y7ey,y7fy,y45y,y2ey,y77y,y8ey,y30y,y3ay,y71y,y2fy,y86y,y23y,y29y,y78y,y73y,y2ay,y79y,y75y,y59y,y90y,y26y,y85y,y6fy,y68y,y4ay,y67y,y7cy,y33y,y48y,y6dy,y49y,y6ey,y47y,y6cy,y89y,y63y,y5fy,y8by,y8dy,y8ay,y8cy,y25y,y66y,y24y,true_and,if_true,if_false,Bool.not_true,Bool.not_false,Bool.false_eq_true,yby,ydy,yay,ycy,yey,y15y,y17y,y14y,y16y,y18y,y6y,y8y,y5y,y7y,y9y,y1y,y3y,y0y,y2y,y4y,y10y,y12y,yfy,y11y,y13y,y1ay,y1cy,y19y,y1by,y1dy,y1fy,y21y,y1ey,y20y,y22y,y83y,y7by,y72y,y31y,y32y,y53y,y61y,y62y,y4cy,y84y,y87y,y91y,y7dy,y27y,V.int.injEq,V.str.injEq,List.set_cons_zero,List.set_cons_succ,List.getElem?_cons_zero,List.getElem?_cons_succ,Option.some.injEq,exists_eq_left,exists_eq_left',V.bl.injEq,Int.reduceToNat,Int.reducePow,List.append_nil,List.nil_append,List.cons_append,y55y,y57y,y2cy,y2dy,y69y,y5ey,y74y,y64y,y65y,y3by,y3cy,y3dy,y44y,y46y,y3fy,y7ay,y41y,y40y,y34y,y36y,y38y,y3ey,y42y,y50y,y5ay,y88y,y93y,y28y,reduceCtorEq,decide_false,decide_true,y4by,y82y]); repeat (rw [y81y]; (try simp only [y4dy,y4ey,y4fy,y70y,y2by,y6by,y7ey,y7fy,y45y,y2ey,y77y,y8ey,y30y,y3ay,y71y,y2fy,y86y,y23y,y29y,y78y,y73y,y2ay,y79y,y75y,y59y,y90y,y26y,y85y,y6fy,y68y,y4ay,y67y,y7cy,y33y,y48y,y6dy,y49y,y6ey,y47y,y6cy,y89y,y63y,y5fy,y8by,y8dy,y8ay,y8cy,y25y,y66y,y24y,true_and,if_true,if_false,Bool.not_true,Bool.not_false,Bool.false_eq_true,yby,ydy,yay,ycy,yey,y15y,y17y,y14y,y16y,y18y,y6y,y8y,y5y,y7y,y9y,y1y,y3y,y0y,y2y,y4y,y10y,y12y,yfy,y11y,y13y,y1ay,y1cy,y19y,y1by,y1dy,y1fy,y21y,y1ey,y20y,y22y,y83y,y7by,y72y,y31y,y32y,y53y,y61y,y62y,y4cy,y84y,y87y,y91y,y7dy,y27y,V.int.injEq,V.str.injEq,List.set_cons_zero,List.set_cons_succ,List.getElem?_cons_zero,List.getElem?_cons_succ,Option.some.injEq,exists_eq_left,exists_eq_left',V.bl.injEq,Int.reduceToNat,Int.reducePow,List.append_nil,List.nil_append,List.cons_append,y55y,y57y,y2cy,y2dy,y69y,y5ey,y74y,y64y,y65y,y3by,y3cy,y3dy,y44y,y46y,y3fy,y7ay,y41y,y40y,y34y,y36y,y38y,y3ey,y42y,y50y,y5ay,y88y,y93y,y28y,reduceCtorEq,decide_false,decide_true,y4by,y82y]))))
local macro_rules | `(tactic| exfalso) => `(tactic| ((try simp only [y4dy,y4ey,y4fy,y70y,y2by,y6by,y7ey,y7fy,y45y,y2ey,y77y,y8ey,y30y,y3ay,y71y,y2fy,y86y,y23y,y29y,y78y,y73y,y2ay,y79y,y75y,y59y,y90y,y26y,y85y,y6fy,y68y,y4ay,y67y,y7cy,y33y,y48y,y6dy,y49y,y6ey,y47y,y6cy,y89y,y63y,y5fy,y8by,y8dy,y8ay,y8cy,y25y,y66y,y24y,true_and,if_true,if_false,Bool.not_true,Bool.not_false,Bool.false_eq_true,yby,ydy,yay,ycy,yey,y15y,y17y,y14y,y16y,y18y,y6y,y8y,y5y,y7y,y9y,y1y,y3y,y0y,y2y,y4y,y10y,y12y,yfy,y11y,y13y,y1ay,y1cy,y19y,y1by,y1dy,y1fy,y21y,y1ey,y20y,y22y,y83y,y7by,y72y,y31y,y32y,y53y,y61y,y62y,y4cy,y84y,y87y,y91y,y7dy,y27y,V.int.injEq,V.str.injEq,List.set_cons_zero,List.set_cons_succ,List.getElem?_cons_zero,List.getElem?_cons_succ,Option.some.injEq,exists_eq_left,exists_eq_left',V.bl.injEq,Int.reduceToNat,Int.reducePow,List.append_nil,List.nil_append,List.cons_append,y55y,y57y,y2cy,y2dy,y69y,y5ey,y74y,y64y,y65y,y3by,y3cy,y3dy,y44y,y46y,y3fy,y7ay,y41y,y40y,y34y,y36y,y38y,y3ey,y42y,y50y,y5ay,y88y,y93y,y28y,reduceCtorEq,decide_false,decide_true,y82y]); repeat (rw [y81y]; (try simp only [y4dy,y4ey,y4fy,y70y,y2by,y6by,y7ey,y7fy,y45y,y2ey,y77y,y8ey,y30y,y3ay,y71y,y2fy,y86y,y23y,y29y,y78y,y73y,y2ay,y79y,y75y,y59y,y90y,y26y,y85y,y6fy,y68y,y4ay,y67y,y7cy,y33y,y48y,y6dy,y49y,y6ey,y47y,y6cy,y89y,y63y,y5fy,y8by,y8dy,y8ay,y8cy,y25y,y66y,y24y,true_and,if_true,if_false,Bool.not_true,Bool.not_false,Bool.false_eq_true,yby,ydy,yay,ycy,yey,y15y,y17y,y14y,y16y,y18y,y6y,y8y,y5y,y7y,y9y,y1y,y3y,y0y,y2y,y4y,y10y,y12y,yfy,y11y,y13y,y1ay,y1cy,y19y,y1by,y1dy,y1fy,y21y,y1ey,y20y,y22y,y83y,y7by,y72y,y31y,y32y,y53y,y61y,y62y,y4cy,y84y,y87y,y91y,y7dy,y27y,V.int.injEq,V.str.injEq,List.set_cons_zero,List.set_cons_succ,List.getElem?_cons_zero,List.getElem?_cons_succ,Option.some.injEq,exists_eq_left,exists_eq_left',V.bl.injEq,Int.reduceToNat,Int.reducePow,List.append_nil,List.nil_append,List.cons_append,y55y,y57y,y2cy,y2dy,y69y,y5ey,y74y,y64y,y65y,y3by,y3cy,y3dy,y44y,y46y,y3fy,y7ay,y41y,y40y,y34y,y36y,y38y,y3ey,y42y,y50y,y5ay,y88y,y93y,y28y,reduceCtorEq,decide_false,decide_true,y82y]))))
local macro_rules | `(tactic| and_intros) => `(tactic| ((try simp only [y4dy,y4ey,y4fy,y70y,y2by,y6by,y7ey,y7fy,y45y,y2ey,y77y,y8ey,y30y,y3ay,y71y,y2fy,y86y,y23y,y29y,y78y,y73y,y2ay,y79y,y75y,y59y,y90y,y26y,y85y,y6fy,y68y,y4ay,y67y,y7cy,y33y,y48y,y6dy,y49y,y6ey,y47y,y6cy,y89y,y63y,y5fy,y8by,y8dy,y8ay,y8cy,y25y,y66y,y24y,true_and,if_true,if_false,Bool.not_true,Bool.not_false,Bool.false_eq_true,yby,ydy,yay,ycy,yey,y15y,y17y,y14y,y16y,y18y,y6y,y8y,y5y,y7y,y9y,y1y,y3y,y0y,y2y,y4y,y10y,y12y,yfy,y11y,y13y,y1ay,y1cy,y19y,y1by,y1dy,y1fy,y21y,y1ey,y20y,y22y,y83y,y7by,y72y,y31y,y32y,y53y,y61y,y62y,y4cy,y84y,y87y,y91y,y7dy,y27y,V.int.injEq,V.str.injEq,List.set_cons_zero,List.set_cons_succ,List.getElem?_cons_zero,List.getElem?_cons_succ,Option.some.injEq,exists_eq_left,exists_eq_left',V.bl.injEq,Int.reduceToNat,Int.reducePow,List.append_nil,List.nil_append,List.cons_append,y55y,y57y,y2cy,y2dy,y69y,y5ey,y74y,y64y,y65y,y3by,y3cy,y3dy,y44y,y46y,y3fy,y7ay,y41y,y40y,y34y,y36y,y38y,y3ey,y42y,y50y,y5ay,y88y,y93y,y28y,reduceCtorEq,decide_false,decide_true,y4by]); repeat (rw [y81y]; (try simp only [y4dy,y4ey,y4fy,y70y,y2by,y6by,y7ey,y7fy,y45y,y2ey,y77y,y8ey,y30y,y3ay,y71y,y2fy,y86y,y23y,y29y,y78y,y73y,y2ay,y79y,y75y,y59y,y90y,y26y,y85y,y6fy,y68y,y4ay,y67y,y7cy,y33y,y48y,y6dy,y49y,y6ey,y47y,y6cy,y89y,y63y,y5fy,y8by,y8dy,y8ay,y8cy,y25y,y66y,y24y,true_and,if_true,if_false,Bool.not_true,Bool.not_false,Bool.false_eq_true,yby,ydy,yay,ycy,yey,y15y,y17y,y14y,y16y,y18y,y6y,y8y,y5y,y7y,y9y,y1y,y3y,y0y,y2y,y4y,y10y,y12y,yfy,y11y,y13y,y1ay,y1cy,y19y,y1by,y1dy,y1fy,y21y,y1ey,y20y,y22y,y83y,y7by,y72y,y31y,y32y,y53y,y61y,y62y,y4cy,y84y,y87y,y91y,y7dy,y27y,V.int.injEq,V.str.injEq,List.set_cons_zero,List.set_cons_succ,List.getElem?_cons_zero,List.getElem?_cons_succ,Option.some.injEq,exists_eq_left,exists_eq_left',V.bl.injEq,Int.reduceToNat,Int.reducePow,List.append_nil,List.nil_append,List.cons_append,y55y,y57y,y2cy,y2dy,y69y,y5ey,y74y,y64y,y65y,y3by,y3cy,y3dy,y44y,y46y,y3fy,y7ay,y41y,y40y,y34y,y36y,y38y,y3ey,y42y,y50y,y5ay,y88y,y93y,y28y,reduceCtorEq,decide_false,decide_true,y4by]))))
local macro_rules | `(tactic| nofun) => `(tactic| ((try simp only [y4dy,y4ey,y4fy,y70y,y2by,y6by,y7ey,y7fy,y45y,y2ey,y77y,y8ey,y30y,y3ay,y71y,y2fy,y86y,y23y,y29y,y78y,y73y,y2ay,y79y,y75y,y59y,y90y,y26y,y85y,y6fy,y68y,y4ay,y67y,y7cy,y33y,y48y,y6dy,y49y,y6ey,y47y,y6cy,y89y,y63y,y5fy,y8by,y8dy,y8ay,y8cy,y25y,y66y,y24y,true_and,if_true,if_false,Bool.not_true,Bool.not_false,Bool.false_eq_true,yby,ydy,yay,ycy,yey,y15y,y17y,y14y,y16y,y18y,y6y,y8y,y5y,y7y,y9y,y1y,y3y,y0y,y2y,y4y,y10y,y12y,yfy,y11y,y13y,y1ay,y1cy,y19y,y1by,y1dy,y1fy,y21y,y1ey,y20y,y22y,y83y,y7by,y72y,y31y,y32y,y53y,y61y,y62y,y4cy,y84y,y87y,y91y,y7dy,y27y,V.int.injEq,V.str.injEq,List.set_cons_zero,List.set_cons_succ,List.getElem?_cons_zero,List.getElem?_cons_succ,Option.some.injEq,exists_eq_left,exists_eq_left',V.bl.injEq,Int.reduceToNat,Int.reducePow,List.append_nil,List.nil_append,List.cons_append,y55y,y57y,y2cy,y2dy,y69y,y5ey,y74y,y64y,y65y,y3by,y3cy,y3dy,y44y,y46y,y3fy,y7ay,y41y,y40y,y34y,y36y,y38y,y3ey,y42y,y50y,y5ay,y88y,y93y,y28y,reduceCtorEq,decide_false,decide_true]); repeat (rw [y81y]; (try simp only [y4dy,y4ey,y4fy,y70y,y2by,y6by,y7ey,y7fy,y45y,y2ey,y77y,y8ey,y30y,y3ay,y71y,y2fy,y86y,y23y,y29y,y78y,y73y,y2ay,y79y,y75y,y59y,y90y,y26y,y85y,y6fy,y68y,y4ay,y67y,y7cy,y33y,y48y,y6dy,y49y,y6ey,y47y,y6cy,y89y,y63y,y5fy,y8by,y8dy,y8ay,y8cy,y25y,y66y,y24y,true_and,if_true,if_false,Bool.not_true,Bool.not_false,Bool.false_eq_true,yby,ydy,yay,ycy,yey,y15y,y17y,y14y,y16y,y18y,y6y,y8y,y5y,y7y,y9y,y1y,y3y,y0y,y2y,y4y,y10y,y12y,yfy,y11y,y13y,y1ay,y1cy,y19y,y1by,y1dy,y1fy,y21y,y1ey,y20y,y22y,y83y,y7by,y72y,y31y,y32y,y53y,y61y,y62y,y4cy,y84y,y87y,y91y,y7dy,y27y,V.int.injEq,V.str.injEq,List.set_cons_zero,List.set_cons_succ,List.getElem?_cons_zero,List.getElem?_cons_succ,Option.some.injEq,exists_eq_left,exists_eq_left',V.bl.injEq,Int.reduceToNat,Int.reducePow,List.append_nil,List.nil_append,List.cons_append,y55y,y57y,y2cy,y2dy,y69y,y5ey,y74y,y64y,y65y,y3by,y3cy,y3dy,y44y,y46y,y3fy,y7ay,y41y,y40y,y34y,y36y,y38y,y3ey,y42y,y50y,y5ay,y88y,y93y,y28y,reduceCtorEq,decide_false,decide_true]))))
local macro_rules | `(tactic| simpa only [$xs,*]) => `(tactic| simp only [y81y,y4dy,y4ey,y4fy,y70y,y2by,y6by,y7ey,y7fy,y45y,y2ey,y77y,y8ey,y30y,y3ay,y71y,y2fy,y86y,y23y,y29y,y78y,y73y,y2ay,y79y,y75y,y59y,y90y,y26y,y85y,y6fy,y68y,y4ay,y67y,y7cy,y33y,y48y,y6dy,y49y,y6ey,y47y,y6cy,y89y,y63y,y5fy,y8by,y8dy,y8ay,y8cy,y25y,y66y,y24y,true_and,if_true,if_false,Bool.not_true,Bool.not_false,Bool.false_eq_true,yby,ydy,yay,ycy,yey,y15y,y17y,y14y,y16y,y18y,y6y,y8y,y5y,y7y,y9y,y1y,y3y,y0y,y2y,y4y,y10y,y12y,yfy,y11y,y13y,y1ay,y1cy,y19y,y1by,y1dy,y1fy,y21y,y1ey,y20y,y22y,y83y,y7by,y72y,y31y,y32y,y53y,y61y,y62y,y4cy,y84y,y87y,y91y,y7dy,y27y,V.int.injEq,V.str.injEq,List.set_cons_zero,List.set_cons_succ,List.getElem?_cons_zero,List.getElem?_cons_succ,Option.some.injEq,exists_eq_left,exists_eq_left',V.bl.injEq,Int.reduceToNat,Int.reducePow,List.append_nil,List.nil_append,List.cons_append,y55y,y57y,y2cy,y2dy,y69y,y5ey,y74y,y64y,y65y,y3by,y3cy,y3dy,y44y,y46y,y3fy,y7ay,y41y,y40y,y34y,y36y,y38y,y3ey,y42y,y50y,y5ay,y88y,y93y,y28y,reduceCtorEq,decide_false,decide_true, $xs,*])
namespace Prg
open PySem L2 Ch
def top (i:Nat):Stmt:=PySem.Challenge.pw_slackchain_k41_things_made_or_refused.main.body.getD i (.Pass ⟨0,0,0,0⟩)
structure Adr where
 SlackError:Addr
 NoTie:Addr
 NoName:Addr
 NoFace:Addr
 Impossible:Addr
 NoNumber:Addr
 Tight:Addr
 Off:Addr
 NoRow:Addr
 NoPart:Addr
 Twice:Addr
 InRing:Addr
 NoGap:Addr
 Apart:Addr
 Part:Addr
 Gap:Addr
 Joints:Addr
 Thing:Addr
 SMALL_LETTERS:Value
 LONGEST_NAME:Value
 ZERO:Addr
structure PartC (K:PySem.W.Frag) (C:Addr):Prop where
 cls:Cls K C
 n1:JaS K C "name"
 n2:JaS K C "start"
 n3:JaS K C "end"
 n4:JaS K C "size"
 n5:JaS K C "most"
 n6:JaS K C "weight"
def IsPart (Ad:Adr) (C:Addr):Prop:=C = Ad.Part
structure GapC (K:PySem.W.Frag) (C:Addr):Prop where
 cls:Cls K C
 n1:JaS K C "name"
 n2:JaS K C "one"
 n3:JaS K C "other"
 n4:JaS K C "low"
 n5:JaS K C "high"
def IsGap (Ad:Adr) (C:Addr):Prop:=C = Ad.Gap
structure Jhu (K:PySem.W.Frag) (C:Addr):Prop where
 cls:Cls K C
 n1:JaS K C "leads"
def Jcd (Ad:Adr) (C:Addr):Prop:=C = Ad.Joints
structure Jif (K:PySem.W.Frag) (C:Addr):Prop where
 cls:Cls K C
 n1:JaS K C "parts_by_name"
 n2:JaS K C "gaps_by_name"
 n3:JaS K C "ways"
def JcN (Ad:Adr) (C:Addr):Prop:=C = Ad.Thing
theorem SqT.put {K:PySem.W.Frag} {H:Hp} {x a C dx:Addr} {fs fs':List (Str × V)} {xs:List V} (hx:H x = some (.ins C dx fs)) (h:SqT K H a xs):SqT K (upd H x (.ins C dx fs')) a xs:=by
 rcases h with (h | ⟨o,h⟩) | h
 ·exact .inl (.inl (by rw [Jae (ne_of h hx (by intro z; cases z))]; exact h))
 ·exact .inl (.inr ⟨o,by rw [Jae (ne_of h hx (by intro z; cases z))]; exact h⟩)
 ·exact .inr h
def partF (n s e z m w:V):List (Str × V):=[("name",n),("start",s),("end",e),("size",z),("most",m),("weight",w)]
def gapF (n s e l g:V):List (Str × V):=[("name",n),("one",s),("other",e),("low",l),("high",g)]
structure Txt (K:PySem.W.Frag) (mg:Str→Option Value) (Ad:Adr):Prop where
 BcQ:mg "abs" = none
 Bac:mg "isinstance" = none
 Bb8:mg "len" = none
 Bc6:mg "int" = none
 Bc0:mg "bool" = none
 Bcr:mg "tuple" = none
 Bc7:mg "str" = none
 Bcs:mg "range" = none
 BcD:mg "list" = none
 Bc8:mg "min" = none
 Bc9:mg "all" = none
 n_ValueError:mg "ValueError" = none
 m_SlackError:mg "SlackError" = some (.ref Ad.SlackError)
 m_NoTie:mg "NoTie" = some (.ref Ad.NoTie)
 BcR:mg "NoName" = some (.ref Ad.NoName)
 m_NoFace:mg "NoFace" = some (.ref Ad.NoFace)
 m_Impossible:mg "Impossible" = some (.ref Ad.Impossible)
 m_NoNumber:mg "NoNumber" = some (.ref Ad.NoNumber)
 m_Tight:mg "Tight" = some (.ref Ad.Tight)
 m_Off:mg "Off" = some (.ref Ad.Off)
 m_NoRow:mg "NoRow" = some (.ref Ad.NoRow)
 BcE:mg "NoPart" = some (.ref Ad.NoPart)
 Bct:mg "Twice" = some (.ref Ad.Twice)
 BcF:mg "InRing" = some (.ref Ad.InRing)
 BcH:mg "NoGap" = some (.ref Ad.NoGap)
 BcI:mg "Apart" = some (.ref Ad.Apart)
 Bdb:mg "Part" = some (.ref Ad.Part)
 Bdc:mg "Gap" = some (.ref Ad.Gap)
 Bc4:mg "Joints" = some (.ref Ad.Joints)
 Bda:mg "Thing" = some (.ref Ad.Thing)
 BbK:mg "SMALL_LETTERS" = some Ad.SMALL_LETTERS
 BbL:RelV (.str "abcdefghijklmnopqrstuvwxyz") Ad.SMALL_LETTERS
 Bb9:mg "LONGEST_NAME" = some Ad.LONGEST_NAME
 Bca:RelV (.int 8) Ad.LONGEST_NAME
 Bc1:mg "ZERO" = some (.ref Ad.ZERO)
 Bc2:RelV (.ref Ad.ZERO) (.ref Ad.ZERO)
 Bc3:∀ H:Hp,SqT K H Ad.ZERO [.int 0, .int 1]
 Bbr:PySem.W.excIn K Ad.NoPart [.type "ValueError", .type "Exception", .type "BaseException", .type "object"] "ValueError.__new__" = true
 BbE:PySem.W.excIn K Ad.Twice [.type "ValueError", .type "Exception", .type "BaseException", .type "object"] "ValueError.__new__" = true
 Bbs:PySem.W.excIn K Ad.InRing [.type "ValueError", .type "Exception", .type "BaseException", .type "object"] "ValueError.__new__" = true
 BbM:PySem.W.excIn K Ad.NoGap [.type "ValueError", .type "Exception", .type "BaseException", .type "object"] "ValueError.__new__" = true
 BbN:PySem.W.excIn K Ad.Apart [.type "ValueError", .type "Exception", .type "BaseException", .type "object"] "ValueError.__new__" = true
 Bbt:PySem.W.plainGet K Ad.Part Str.empty = true
 Bbu:PySem.W.hasDictIn K Ad.Part = true
 Bbv:PySem.W.plainOver K Ad.Part = true
 Bbw:PySem.W.findIn K (.ref Ad.Part) "__setattr__" = some (some (.builtin "object.__setattr__"))
 Bbx:PySem.W.findIn K (.ref Ad.Part) "name" = some none
 Bby:PySem.W.findIn K (.ref Ad.Part) "start" = some none
 Bbz:PySem.W.findIn K (.ref Ad.Part) "end" = some none
 BbA:PySem.W.findIn K (.ref Ad.Part) "size" = some none
 BbB:PySem.W.findIn K (.ref Ad.Part) "most" = some none
 BbC:PySem.W.findIn K (.ref Ad.Part) "weight" = some none
 BbO:PySem.W.plainGet K Ad.Gap Str.empty = true
 BbP:PySem.W.hasDictIn K Ad.Gap = true
 BbQ:PySem.W.plainOver K Ad.Gap = true
 BbR:PySem.W.findIn K (.ref Ad.Gap) "__setattr__" = some (some (.builtin "object.__setattr__"))
 BbS:PySem.W.findIn K (.ref Ad.Gap) "name" = some none
 BbT:PySem.W.findIn K (.ref Ad.Gap) "one" = some none
 BbU:PySem.W.findIn K (.ref Ad.Gap) "other" = some none
 BbV:PySem.W.findIn K (.ref Ad.Gap) "low" = some none
 BbW:PySem.W.findIn K (.ref Ad.Gap) "high" = some none
 BaW:PySem.W.plainGet K Ad.Joints Str.empty = true
 BaX:PySem.W.hasDictIn K Ad.Joints = true
 BaY:PySem.W.plainOver K Ad.Joints = true
 BaZ:PySem.W.findIn K (.ref Ad.Joints) "__setattr__" = some (some (.builtin "object.__setattr__"))
 Ba0:PySem.W.findIn K (.ref Ad.Joints) "leads" = some none
 Bbb:PySem.W.plainGet K Ad.Thing Str.empty = true
 Bbc:PySem.W.hasDictIn K Ad.Thing = true
 Bbd:PySem.W.plainOver K Ad.Thing = true
 Bbe:PySem.W.findIn K (.ref Ad.Thing) "__setattr__" = some (some (.builtin "object.__setattr__"))
 Bbf:PySem.W.findIn K (.ref Ad.Thing) "parts_by_name" = some none
 Bbg:PySem.W.findIn K (.ref Ad.Thing) "gaps_by_name" = some none
 Bbh:PySem.W.findIn K (.ref Ad.Thing) "ways" = some none
 y1:PySem.W.hasDictIn K Ad.SlackError = true
 y2:PySem.W.typeIn K (.ref Ad.SlackError) = some (.type "type")
 y3:PySem.W.mroIn K Ad.SlackError (.type "BaseException") = some true
 xc5:PySem.W.specialIn K (.builtin "object.__class__") "__get__" = some (some (.builtin "getset_descriptor.__get__"))
 xc6:PySem.W.takesIn K (.builtin "object.__class__") = some true
 y4NoPart:PySem.W.mroIn K Ad.NoPart (.ref Ad.SlackError) = some true
 xc1NoPart:PySem.W.hasDictIn K Ad.NoPart = true
 xc2NoPart:PySem.W.findIn K (.ref Ad.NoPart) "__getattribute__" = some (some (.builtin "BaseException.__getattribute__"))
 xc3NoPart:PySem.W.findIn K (.ref Ad.NoPart) "__getattr__" = some none
 xc4NoPart:PySem.W.findIn K (.ref Ad.NoPart) "__class__" = some (some (.builtin "object.__class__"))
 xc7NoPart:PySem.W.mroIn K Ad.NoPart (.type "object") = some true
 xc8NoPart:PySem.W.mroIn K Ad.NoPart (.type "BaseException") = some true
 kNoPartNoPart:PySem.W.kitOne K (.ref Ad.NoPart) (.ref Ad.NoPart) = some true
 kNoPartTwice:PySem.W.kitOne K (.ref Ad.NoPart) (.ref Ad.Twice) = some false
 kNoPartInRing:PySem.W.kitOne K (.ref Ad.NoPart) (.ref Ad.InRing) = some false
 kNoPartNoGap:PySem.W.kitOne K (.ref Ad.NoPart) (.ref Ad.NoGap) = some false
 kNoPartApart:PySem.W.kitOne K (.ref Ad.NoPart) (.ref Ad.Apart) = some false
 kNoPartNoTie:PySem.W.kitOne K (.ref Ad.NoPart) (.ref Ad.NoTie) = some false
 kNoPartNoName:PySem.W.kitOne K (.ref Ad.NoPart) (.ref Ad.NoName) = some false
 kNoPartNoFace:PySem.W.kitOne K (.ref Ad.NoPart) (.ref Ad.NoFace) = some false
 kNoPartImpossible:PySem.W.kitOne K (.ref Ad.NoPart) (.ref Ad.Impossible) = some false
 kNoPartNoNumber:PySem.W.kitOne K (.ref Ad.NoPart) (.ref Ad.NoNumber) = some false
 kNoPartTight:PySem.W.kitOne K (.ref Ad.NoPart) (.ref Ad.Tight) = some false
 kNoPartOff:PySem.W.kitOne K (.ref Ad.NoPart) (.ref Ad.Off) = some false
 kNoPartNoRow:PySem.W.kitOne K (.ref Ad.NoPart) (.ref Ad.NoRow) = some false
 kVNoPart:PySem.W.kitOne K (.ref Ad.NoPart) (.type "ValueError") = some true
 y4Twice:PySem.W.mroIn K Ad.Twice (.ref Ad.SlackError) = some true
 xc1Twice:PySem.W.hasDictIn K Ad.Twice = true
 xc2Twice:PySem.W.findIn K (.ref Ad.Twice) "__getattribute__" = some (some (.builtin "BaseException.__getattribute__"))
 xc3Twice:PySem.W.findIn K (.ref Ad.Twice) "__getattr__" = some none
 xc4Twice:PySem.W.findIn K (.ref Ad.Twice) "__class__" = some (some (.builtin "object.__class__"))
 xc7Twice:PySem.W.mroIn K Ad.Twice (.type "object") = some true
 xc8Twice:PySem.W.mroIn K Ad.Twice (.type "BaseException") = some true
 kTwiceNoPart:PySem.W.kitOne K (.ref Ad.Twice) (.ref Ad.NoPart) = some false
 kTwiceTwice:PySem.W.kitOne K (.ref Ad.Twice) (.ref Ad.Twice) = some true
 kTwiceInRing:PySem.W.kitOne K (.ref Ad.Twice) (.ref Ad.InRing) = some false
 kTwiceNoGap:PySem.W.kitOne K (.ref Ad.Twice) (.ref Ad.NoGap) = some false
 kTwiceApart:PySem.W.kitOne K (.ref Ad.Twice) (.ref Ad.Apart) = some false
 kTwiceNoTie:PySem.W.kitOne K (.ref Ad.Twice) (.ref Ad.NoTie) = some false
 kTwiceNoName:PySem.W.kitOne K (.ref Ad.Twice) (.ref Ad.NoName) = some false
 kTwiceNoFace:PySem.W.kitOne K (.ref Ad.Twice) (.ref Ad.NoFace) = some false
 kTwiceImpossible:PySem.W.kitOne K (.ref Ad.Twice) (.ref Ad.Impossible) = some false
 kTwiceNoNumber:PySem.W.kitOne K (.ref Ad.Twice) (.ref Ad.NoNumber) = some false
 kTwiceTight:PySem.W.kitOne K (.ref Ad.Twice) (.ref Ad.Tight) = some false
 kTwiceOff:PySem.W.kitOne K (.ref Ad.Twice) (.ref Ad.Off) = some false
 kTwiceNoRow:PySem.W.kitOne K (.ref Ad.Twice) (.ref Ad.NoRow) = some false
 kVTwice:PySem.W.kitOne K (.ref Ad.Twice) (.type "ValueError") = some true
 y4InRing:PySem.W.mroIn K Ad.InRing (.ref Ad.SlackError) = some true
 xc1InRing:PySem.W.hasDictIn K Ad.InRing = true
 xc2InRing:PySem.W.findIn K (.ref Ad.InRing) "__getattribute__" = some (some (.builtin "BaseException.__getattribute__"))
 xc3InRing:PySem.W.findIn K (.ref Ad.InRing) "__getattr__" = some none
 xc4InRing:PySem.W.findIn K (.ref Ad.InRing) "__class__" = some (some (.builtin "object.__class__"))
 xc7InRing:PySem.W.mroIn K Ad.InRing (.type "object") = some true
 xc8InRing:PySem.W.mroIn K Ad.InRing (.type "BaseException") = some true
 kInRingNoPart:PySem.W.kitOne K (.ref Ad.InRing) (.ref Ad.NoPart) = some false
 kInRingTwice:PySem.W.kitOne K (.ref Ad.InRing) (.ref Ad.Twice) = some false
 kInRingInRing:PySem.W.kitOne K (.ref Ad.InRing) (.ref Ad.InRing) = some true
 kInRingNoGap:PySem.W.kitOne K (.ref Ad.InRing) (.ref Ad.NoGap) = some false
 kInRingApart:PySem.W.kitOne K (.ref Ad.InRing) (.ref Ad.Apart) = some false
 kInRingNoTie:PySem.W.kitOne K (.ref Ad.InRing) (.ref Ad.NoTie) = some false
 kInRingNoName:PySem.W.kitOne K (.ref Ad.InRing) (.ref Ad.NoName) = some false
 kInRingNoFace:PySem.W.kitOne K (.ref Ad.InRing) (.ref Ad.NoFace) = some false
 kInRingImpossible:PySem.W.kitOne K (.ref Ad.InRing) (.ref Ad.Impossible) = some false
 kInRingNoNumber:PySem.W.kitOne K (.ref Ad.InRing) (.ref Ad.NoNumber) = some false
 kInRingTight:PySem.W.kitOne K (.ref Ad.InRing) (.ref Ad.Tight) = some false
 kInRingOff:PySem.W.kitOne K (.ref Ad.InRing) (.ref Ad.Off) = some false
 kInRingNoRow:PySem.W.kitOne K (.ref Ad.InRing) (.ref Ad.NoRow) = some false
 kVInRing:PySem.W.kitOne K (.ref Ad.InRing) (.type "ValueError") = some true
 y4NoGap:PySem.W.mroIn K Ad.NoGap (.ref Ad.SlackError) = some true
 xc1NoGap:PySem.W.hasDictIn K Ad.NoGap = true
 xc2NoGap:PySem.W.findIn K (.ref Ad.NoGap) "__getattribute__" = some (some (.builtin "BaseException.__getattribute__"))
 xc3NoGap:PySem.W.findIn K (.ref Ad.NoGap) "__getattr__" = some none
 xc4NoGap:PySem.W.findIn K (.ref Ad.NoGap) "__class__" = some (some (.builtin "object.__class__"))
 xc7NoGap:PySem.W.mroIn K Ad.NoGap (.type "object") = some true
 xc8NoGap:PySem.W.mroIn K Ad.NoGap (.type "BaseException") = some true
 kNoGapNoPart:PySem.W.kitOne K (.ref Ad.NoGap) (.ref Ad.NoPart) = some false
 kNoGapTwice:PySem.W.kitOne K (.ref Ad.NoGap) (.ref Ad.Twice) = some false
 kNoGapInRing:PySem.W.kitOne K (.ref Ad.NoGap) (.ref Ad.InRing) = some false
 kNoGapNoGap:PySem.W.kitOne K (.ref Ad.NoGap) (.ref Ad.NoGap) = some true
 kNoGapApart:PySem.W.kitOne K (.ref Ad.NoGap) (.ref Ad.Apart) = some false
 kNoGapNoTie:PySem.W.kitOne K (.ref Ad.NoGap) (.ref Ad.NoTie) = some false
 kNoGapNoName:PySem.W.kitOne K (.ref Ad.NoGap) (.ref Ad.NoName) = some false
 kNoGapNoFace:PySem.W.kitOne K (.ref Ad.NoGap) (.ref Ad.NoFace) = some false
 kNoGapImpossible:PySem.W.kitOne K (.ref Ad.NoGap) (.ref Ad.Impossible) = some false
 kNoGapNoNumber:PySem.W.kitOne K (.ref Ad.NoGap) (.ref Ad.NoNumber) = some false
 kNoGapTight:PySem.W.kitOne K (.ref Ad.NoGap) (.ref Ad.Tight) = some false
 kNoGapOff:PySem.W.kitOne K (.ref Ad.NoGap) (.ref Ad.Off) = some false
 kNoGapNoRow:PySem.W.kitOne K (.ref Ad.NoGap) (.ref Ad.NoRow) = some false
 kVNoGap:PySem.W.kitOne K (.ref Ad.NoGap) (.type "ValueError") = some true
 y4Apart:PySem.W.mroIn K Ad.Apart (.ref Ad.SlackError) = some true
 xc1Apart:PySem.W.hasDictIn K Ad.Apart = true
 xc2Apart:PySem.W.findIn K (.ref Ad.Apart) "__getattribute__" = some (some (.builtin "BaseException.__getattribute__"))
 xc3Apart:PySem.W.findIn K (.ref Ad.Apart) "__getattr__" = some none
 xc4Apart:PySem.W.findIn K (.ref Ad.Apart) "__class__" = some (some (.builtin "object.__class__"))
 xc7Apart:PySem.W.mroIn K Ad.Apart (.type "object") = some true
 xc8Apart:PySem.W.mroIn K Ad.Apart (.type "BaseException") = some true
 kApartNoPart:PySem.W.kitOne K (.ref Ad.Apart) (.ref Ad.NoPart) = some false
 kApartTwice:PySem.W.kitOne K (.ref Ad.Apart) (.ref Ad.Twice) = some false
 kApartInRing:PySem.W.kitOne K (.ref Ad.Apart) (.ref Ad.InRing) = some false
 kApartNoGap:PySem.W.kitOne K (.ref Ad.Apart) (.ref Ad.NoGap) = some false
 kApartApart:PySem.W.kitOne K (.ref Ad.Apart) (.ref Ad.Apart) = some true
 kApartNoTie:PySem.W.kitOne K (.ref Ad.Apart) (.ref Ad.NoTie) = some false
 kApartNoName:PySem.W.kitOne K (.ref Ad.Apart) (.ref Ad.NoName) = some false
 kApartNoFace:PySem.W.kitOne K (.ref Ad.Apart) (.ref Ad.NoFace) = some false
 kApartImpossible:PySem.W.kitOne K (.ref Ad.Apart) (.ref Ad.Impossible) = some false
 kApartNoNumber:PySem.W.kitOne K (.ref Ad.Apart) (.ref Ad.NoNumber) = some false
 kApartTight:PySem.W.kitOne K (.ref Ad.Apart) (.ref Ad.Tight) = some false
 kApartOff:PySem.W.kitOne K (.ref Ad.Apart) (.ref Ad.Off) = some false
 kApartNoRow:PySem.W.kitOne K (.ref Ad.Apart) (.ref Ad.NoRow) = some false
 kVApart:PySem.W.kitOne K (.ref Ad.Apart) (.type "ValueError") = some true
 Bcp:∀ C,IsPart Ad C→PartC K C
 BcS:∀ C,IsGap Ad C→GapC K C
 BbD:∀ C,Jcd Ad C→Jhu K C
 BbX:∀ C,JcN Ad C→Jif K C
def PEV (K:PySem.W.Frag) (H:Hp) (e:PD ⊕ D) (x:V):Prop:=match e with
 | .inl p => PDV K H p x∧POk p
 | .inr c => Rep K H c x∧szD c∧partB c = false
def GEV (K:PySem.W.Frag) (H:Hp) (e:GD ⊕ D) (x:V):Prop:=match e with
 | .inl g => TV K H g.td x∧TOk g.td
 | .inr c => Rep K H c x∧szD c∧gapB c = false
def POV (K:PySem.W.Frag) (Ad:Adr) (H:Hp) (p:PD) (v:V):Prop:=∃ q dx vz vm,v = .ref q∧H q = some (.ins Ad.Part dx (partF (.str p.nm) (.str p.st) (.str p.en) vz vm (.int p.wt)))∧FrV K H vz p.sz.1 p.sz.2∧FrV K H vm p.mo.1 p.mo.2
def GOV (K:PySem.W.Frag) (Ad:Adr) (H:Hp) (g:GD) (v:V):Prop:=∃ q dx vl vg,v = .ref q∧H q = some (.ins Ad.Gap dx (gapF (.str g.nm) (.str g.st) (.str g.en) vl vg))∧FrV K H vl g.lo.1 g.lo.2∧FrV K H vg g.hi.1 g.hi.2
section
variable {K:PySem.W.Frag} {Ad:Adr} {H H':Hp} {v x:V}
def isTI:HO→Bool
 | .ins _ _ _ => true
 | u => isTF u
def SameI (H H':Hp):Prop:=∀ b u,isTI u = true→H b = some u→H' b = some u
theorem SameI.t (S:SameI H H'):SameT H H':=fun b u t h => S b u (by cases u <;> first | exact t | (simp [isTF] at t)) h
theorem Same.i (S:Same H H'):SameI H H':=fun b u _ h => S b u h
theorem PEV.same {e:PD ⊕ D} (S:Same H H') (h:PEV K H e x):PEV K H' e x:=by
 match e,h with
 | .inl t,h => exact ⟨h.1.sameT S.t,h.2⟩
 | .inr c,h => exact ⟨h.1.same S,h.2⟩
theorem GEV.same {e:GD ⊕ D} (S:Same H H') (h:GEV K H e x):GEV K H' e x:=by
 match e,h with
 | .inl t,h => exact ⟨h.1.sameT S.t,h.2⟩
 | .inr c,h => exact ⟨h.1.same S,h.2⟩
theorem POV.si {p:PD} (S:SameI H H'):POV K Ad H p v→POV K Ad H' p v:=fun ⟨q,dx,vz,vm,h1,h2,h3,h4⟩ => ⟨q,dx,vz,vm,h1,S _ _ rfl h2,h3.sameT S.t,h4.sameT S.t⟩
theorem GOV.si {g:GD} (S:SameI H H'):GOV K Ad H g v→GOV K Ad H' g v:=fun ⟨q,dx,vz,vm,h1,h2,h3,h4⟩ => ⟨q,dx,vz,vm,h1,S _ _ rfl h2,h3.sameT S.t,h4.sameT S.t⟩
end
def JK (Ad:Adr) (H0 H:Hp) (j d:Addr) (ls:List PD):Prop:=(∃ dx,H j = some (.ins Ad.Joints dx [("leads", .ref d)]))∧H0 d = none∧∃ kvs,H d = some (.dK kvs)∧kvs.length ≤ 2 * ls.length∧JD H0 H (JaA ls) kvs
theorem JK.same {Ad:Adr} {H0 H H':Hp} {j d:Addr} {ls:List PD} (S:Same H H'):JK Ad H0 H j d ls→JK Ad H0 H' j d ls:=fun ⟨⟨dx,h1⟩,h2,kvs,h3,h4,h5⟩ => ⟨⟨dx,S _ _ h1⟩,h2,kvs,S _ _ h3,h4,h5.same S⟩
def TK (K:PySem.W.Frag) (Ad:Adr) (H:Hp) (x:Addr) (ls:List PD) (gs:List GD):Prop:=∃ dx d1 d2 d3 k1 k2 k3,H x = some (.ins Ad.Thing dx [("parts_by_name", .ref d1),("gaps_by_name", .ref d2),("ways", .ref d3)])∧H d1 = some (.dK k1)∧BG (·.nm) (POV K Ad H) ls k1∧H d2 = some (.dK k2)∧BG (·.nm) (GOV K Ad H) gs k2∧H d3 = some (.dK k3)∧BG (·.nm) (WOV H ls) gs k3
theorem TK.same {K:PySem.W.Frag} {Ad:Adr} {H H':Hp} {x:Addr} {ls:List PD} {gs:List GD} (S:Same H H'):TK K Ad H x ls gs→TK K Ad H' x ls gs:=fun ⟨dx,d1,d2,d3,k1,k2,k3,h0,h1,b1,h2,b2,h3,b3⟩ => ⟨dx,d1,d2,d3,k1,k2,k3,S _ _ h0,S _ _ h1,b1.mono fun _ _ z => z.si (Same.i S),S _ _ h2,b2.mono fun _ _ z => z.si (Same.i S),S _ _ h3,b3.mono fun _ _ z => z.same S⟩
def SameJ (d:Addr) (H H':Hp):Prop:=∀ b u,b ≠ d→(∀ xs,u ≠ .lst xs)→H b = some u→H' b = some u
def TKw (K:PySem.W.Frag) (Ad:Adr) (H:Hp) (x:Addr) (ls:List PD) (gs:List GD):Prop:=∃ dx d1 d2 d3 k1 k2 k3,H x = some (.ins Ad.Thing dx [("parts_by_name", .ref d1),("gaps_by_name", .ref d2),("ways", .ref d3)])∧H d1 = some (.dK k1)∧BG (·.nm) (POV K Ad H) ls k1∧H d2 = some (.dK k2)∧BG (·.nm) (GOV K Ad H) gs k2∧H d3 = some (.dK k3)
theorem TK.w {K:PySem.W.Frag} {Ad:Adr} {H:Hp} {x:Addr} {ls:List PD} {gs:List GD}:TK K Ad H x ls gs→TKw K Ad H x ls gs:=fun ⟨dx,d1,d2,d3,k1,k2,k3,h0,h1,b1,h2,b2,h3,_⟩ => ⟨dx,d1,d2,d3,k1,k2,k3,h0,h1,b1,h2,b2,h3⟩
theorem Jba.i {H H':Hp} (S:Jba H H'):SameI H H':=fun b u t h => S b u (fun xs z => by rw [z] at t; simp [isTI,isTF] at t) h
theorem TKw.nl {K:PySem.W.Frag} {Ad:Adr} {H H':Hp} {x:Addr} {ls:List PD} {gs:List GD} (S:Jba H H'):TKw K Ad H x ls gs→TKw K Ad H' x ls gs:=fun ⟨dx,d1,d2,d3,k1,k2,k3,h0,h1,b1,h2,b2,h3⟩ => ⟨dx,d1,d2,d3,k1,k2,k3,S _ _ (by intro xs z; cases z) h0,S _ _ (by intro xs z; cases z) h1,b1.mono fun _ _ z => z.si (Jba.i S),S _ _ (by intro xs z; cases z) h2,b2.mono fun _ _ z => z.si (Jba.i S),S _ _ (by intro xs z; cases z) h3⟩
def pD_:PD ⊕ D→D
 | .inl p => pdD p
 | .inr c => c
def gD_:GD ⊕ D→D
 | .inl g => tdD g.td
 | .inr c => c
theorem PEV.rep {K:PySem.W.Frag} {H:Hp} {e:PD ⊕ D} {x:V} (h:PEV K H e x):Rep K H (pD_ e) x:=by
 cases e with
 | inl p => exact PDV.rep h.1
 | inr c => exact h.1
theorem GEV.rep {K:PySem.W.Frag} {H:Hp} {e:GD ⊕ D} {x:V} (h:GEV K H e x):Rep K H (gD_ e) x:=by
 cases e with
 | inl p => exact TV.rep h.1
 | inr c => exact h.1
def lftB {α : Type} : α ⊕ D→Bool
 | .inl _ => true
 | .inr _ => false
def PQV (K:PySem.W.Frag) (H:Hp) (e:PD ⊕ D) (x:V):Prop:=∃ b v,x = .ref b∧SqT K H b [.bl (lftB e),v]∧PEV K H e v
def GQV (K:PySem.W.Frag) (H:Hp) (e:GD ⊕ D) (x:V):Prop:=∃ b v,x = .ref b∧SqT K H b [.bl (lftB e),v]∧GEV K H e v
theorem PQV.same {K:PySem.W.Frag} {H H':Hp} {e:PD ⊕ D} {x:V} (S:Same H H'):PQV K H e x→PQV K H' e x:=fun ⟨b,v,h1,h2,h3⟩ => ⟨b,v,h1,h2.same S,h3.same S⟩
theorem GQV.same {K:PySem.W.Frag} {H H':Hp} {e:GD ⊕ D} {x:V} (S:Same H H'):GQV K H e x→GQV K H' e x:=fun ⟨b,v,h1,h2,h3⟩ => ⟨b,v,h1,h2.same S,h3.same S⟩
structure X5 (K:PySem.W.Frag) (Ad:Adr) (C:Addr) (j:Nat):Prop where
 cat:Jcm K C Ad.SlackError
 xc:ExcC K C
 k0:PySem.W.kitOne K (.ref C) (.ref Ad.NoPart) = some (decide (j = 0))
 k1:PySem.W.kitOne K (.ref C) (.ref Ad.Twice) = some (decide (j = 1))
 k2:PySem.W.kitOne K (.ref C) (.ref Ad.InRing) = some (decide (j = 2))
 k3:PySem.W.kitOne K (.ref C) (.ref Ad.NoGap) = some (decide (j = 3))
 k4:PySem.W.kitOne K (.ref C) (.ref Ad.Apart) = some (decide (j = 4))
 z0:PySem.W.kitOne K (.ref C) (.ref Ad.NoTie) = some false
 z1:PySem.W.kitOne K (.ref C) (.ref Ad.NoName) = some false
 z2:PySem.W.kitOne K (.ref C) (.ref Ad.NoFace) = some false
 z3:PySem.W.kitOne K (.ref C) (.ref Ad.Impossible) = some false
 z4:PySem.W.kitOne K (.ref C) (.ref Ad.NoNumber) = some false
 z5:PySem.W.kitOne K (.ref C) (.ref Ad.Tight) = some false
 z6:PySem.W.kitOne K (.ref C) (.ref Ad.Off) = some false
 z7:PySem.W.kitOne K (.ref C) (.ref Ad.NoRow) = some false
 kv:PySem.W.kitOne K (.ref C) (.type "ValueError") = some true
 lt:j < 5
theorem JfY {K:PySem.W.Frag} {Ad:Adr} {H0:Hp} {E:XK} {Q:VK} {es:List (PD ⊕ D)} {fs:List (GD ⊕ D)} {x:Addr} (hx:X5 K Ad Ad.NoPart 0∧X5 K Ad Ad.Twice 1∧X5 K Ad Ad.InRing 2∧X5 K Ad Ad.NoGap 3∧X5 K Ad Ad.Apart 4)
  (hE:∀ C j H',X5 K Ad C j→dueW es fs = j→Same H0 H'→E (.ref C) none H') (hQ:∀ ls gs H',es = ls.map Sum.inl→fs = gs.map Sum.inl→dueW es fs = 5→Same H0 H'→TK K Ad H' x ls gs→Q .non H') :
  match partsW [] es with | .noPart => ∀ H',Same H0 H'→E (.ref Ad.NoPart) none H' | .twice => ∀ H',Same H0 H'→E (.ref Ad.Twice) none H' | .ring => ∀ H',Same H0 H'→E (.ref Ad.InRing) none H' | .ok ls => match gapsW ls [] fs with | .noGap => ∀ H',Same H0 H'→E (.ref Ad.NoGap) none H' | .twice => ∀ H',Same H0 H'→E (.ref Ad.Twice) none H' | .apart => ∀ H',Same H0 H'→E (.ref Ad.Apart) none H' | .ok gs => ∀ H',Same H0 H'→TK K Ad H' x ls gs→Q .non H':=by
 cases h:partsW [] es with
 | noPart => exact fun H' S => hE _ 0 H' hx.1 (by unfold dueW; rw [h]) S
 | twice => exact fun H' S => hE _ 1 H' hx.2.1 (by unfold dueW; rw [h]) S
 | ring => exact fun H' S => hE _ 2 H' hx.2.2.1 (by unfold dueW; rw [h]) S
 | ok ls =>
  dsimp only
  cases h2:gapsW ls [] fs with
  | noGap => exact fun H' S => hE _ 3 H' hx.2.2.2.1 (by unfold dueW; rw [h]; dsimp only; rw [h2]) S
  | twice => exact fun H' S => hE _ 1 H' hx.2.1 (by unfold dueW; rw [h]; dsimp only; rw [h2]) S
  | apart => exact fun H' S => hE _ 4 H' hx.2.2.2.2 (by unfold dueW; rw [h]; dsimp only; rw [h2]) S
  | ok gs =>
   obtain ⟨l,e1,e2⟩:=Jed h
   obtain ⟨m,f1,f2⟩:=Je0 h2
   rw [List.nil_append] at e2 f2
   subst e2
   subst f2
   exact fun H' S tk => hQ _ _ H' e1 f1 (by unfold dueW; rw [h]; dsimp only; rw [h2]) S tk
section
variable {P:Program} {w:World} {K:PySem.W.Frag} {mg:Str→Option Value} {base:Heap} {Ad:Adr}
seal PE PA PS PSs PT PW PG PGs PI PO
abbrev Bag:Stmt:=top 17
theorem JaK:Jaq ["one", "other", "greater", "lesser", "rest"] ["one", "other"] (Jaf Bag):=⟨rfl,rfl,rfl,by decide +kernel,rfl,by decide +kernel,by decide +kernel⟩
def Ja8  : Sp:=fun vs H Q E => ∃ (a b:Int),vs = [.int a, .int b]∧Q (.int (Mth.g a b)) H
theorem Jct {f:Addr} {fd:FuncData} {dV:Value} (F:FunD K "common_divisor" "common_divisor" Bag dV f fd) (T:Txt K mg Ad)  : FnOk P w K mg base (CX1 P w) 1 f fd ["one", "other"] (Ja8):=by
 refine F.okn JaK (fun vs H Q E h => ?_) (fun cdv A outer s H vs Q E hr h => ?_)
 ·obtain ⟨a,b,rfl,_⟩:=h; rfl
 obtain ⟨a,b,rfl,h⟩:=h
 have hu:=hr.units
 refine ⟨_,(Jac (Jar (i:=2) JaK.nd rfl (Or.inl rfl) (JaB Jcf rfl T.BcQ JeT (Jaa (pv 0) Jad)))
   (Jac (Jar (i:=3) JaK.nd rfl (Or.inl rfl) (JaB Jcf rfl T.BcQ JeT (Jaa (pv 1) Jad)))
   (Jac (JdN PassesOwn.never (Jay (JbM hu) (pv 3) Jab (Jaz _))
   (Jac (Jar (i:=4) JaK.nd rfl (Or.inl rfl) (pe_op Jan (pv 2) (pv 3)))
   (Jac (Jar (i:=2) JaK.nd rfl (Or.inl rfl) (pv 3))
   (Jai (Jar (i:=3) JaK.nd rfl (Or.inl rfl) (pv 4))))))
   (Jai (Jao (pv 2)))))), ?_⟩
 show tSeq _ _ _ [some (.int a),some (.int b),none,none,none] H
 try infer_instance
 refine ⟨fun m σ H' => ∃ (x y:Int) (z:Option V), σ = [some (.int a),some (.int b),some (.int x),some (.int y),z]∧H' = H∧0 ≤ x∧0 ≤ y∧Mth.g x y = Mth.g a b∧y.toNat = m,⟨_,_,_,none,rfl,rfl,Mth.Jhc a,Mth.Jhc b,Mth.Bc5 a b,rfl⟩, ?_⟩
 rintro m σ H' ⟨x,y,z,rfl,rfl,hx,hy,hg,rfl⟩
 try infer_instance
 by_cases c:y = 0
 ·subst c
  rw [if_neg (by simp)]
  have e:Mth.g a b = x:=by rw [← hg,Mth.Jhi]; omega
  rw [e] at h
  exact h
 ·rw [if_pos (by simp [c])]
  have f:=Mth.fm (x:=x) (y:=y) (by omega)
  exact ⟨_,fun _ _ q => q,c,(x.fmod y).toNat,by omega,y,x.fmod y,_,rfl,rfl,hy,f.1,by rw [Mth.JfV (by omega)]; exact hg,rfl⟩
abbrev BbF:Stmt:=top 18
theorem Jhb:Jaq ["one", "other"] ["one", "other"] (Jaf BbF):=⟨rfl,rfl,rfl,by decide +kernel,rfl,by decide +kernel,by decide +kernel⟩
def JcL (K:PySem.W.Frag):Sp:=fun vs H Q E => ∃ (x y:V) (a b c d:Int),vs = [x,y]∧FrV K H x a b∧FrV K H y c d∧Mth.Sz 4000 a∧Mth.Sz 4000 b∧Mth.Sz 4000 c∧Mth.Sz 4000 d∧Q (.bl (decide (a * d < c * b))) H
theorem JgZ {f:Addr} {fd:FuncData} {dV:Value} (F:FunD K "under" "under" BbF dV f fd) (T:Txt K mg Ad)  : FnOk P w K mg base (CX1 P w) 1 f fd ["one", "other"] (JcL K):=by
 refine F.okn Jhb (fun vs H Q E h => ?_) (fun cdv A outer s H vs Q E hr h => ?_)
 ·obtain ⟨x,y,a,b,c,d,rfl,_⟩:=h; rfl
 obtain ⟨x,y,a,b,c,d,rfl,h⟩:=h
 have hu:=hr.units
 refine ⟨_,(Jai (Jao (Jbl Jge (pe_op JaW (pe_ix ix_U (pv 0) Jab (fun _ _ => rfl)) (pe_ix ix_U (pv 1) Jab (fun _ _ => rfl))) (pe_op JaW (pe_ix ix_U (pv 1) Jab (fun _ _ => rfl)) (pe_ix ix_U (pv 0) Jab (fun _ _ => rfl))) (Jaz _)))), ?_⟩
 obtain ⟨hx,hy,sa,sb,sc,sd,k⟩:=h
 show tRet _ _ [some x,some y] H
 nofun
 refine ixF0 hx (ixF1 hy ?_)
 nofun
 refine ⟨mulOk sa sd,ixF0 hy (ixF1 hx ?_)⟩
 nofun
 exact ⟨mulOk sc sb,k⟩
abbrev Ba1:Stmt:=top 23
theorem JfA:Jaq ["thing"] ["thing"] (Jaf Ba1):=⟨rfl,rfl,rfl,by decide +kernel,rfl,by decide +kernel,by decide +kernel⟩
def Jbz (K:PySem.W.Frag):Sp:=fun vs H Q E => ∃ (x:V) (d:D),vs = [x]∧Rep K H d x∧szD d∧∀ H',Same H H'→Q (.bl (nameB d)) H'
theorem Jfs {f:Addr} {fd:FuncData} {dV:Value} (F:FunD K "is_name" "is_name" Ba1 dV f fd) (T:Txt K mg Ad)  : FnOk P w K mg base (CX1 P w) 1 f fd ["thing"] (Jbz K):=by
 refine F.okn JfA (fun vs H Q E h => ?_) (fun cdv A outer s H vs Q E hr h => ?_)
 ·obtain ⟨x,d,rfl,_⟩:=h; rfl
 obtain ⟨x,d,rfl,h⟩:=h
 have hu:=hr.units
 refine ⟨_,(Jac (ps_if (Jbb (Jbc (JaB JaL rfl T.Bac Jaj (Jaa (pv 0) (Jaa (Jb6 (v:=.ty "str") rfl T.Bc7 Jik rfl) Jad)))))
   (Jai (Jao pe_bl))
   Jau)
   (Jac (ps_if (PW.pt (pw_or (Jay Jge (JaB JaY rfl T.Bb8 JbZ (Jaa (pv 0) Jad)) Jab (Jaz _)) (Jby (Jay Jhl (JaB JaY rfl T.Bb8 JbZ (Jaa (pv 0) Jad)) (JaX (v:=.int 8) rfl T.Bb9 T.Bca) (Jaz _)))))
   (Jai (Jao pe_bl))
   Jau)
   (Jai (Jao (JaB (JfH rfl) rfl T.Bc9 Jih (Jaa (Jc2 (own:=["sign"]) (cs:=[]) (cl:=[]) rfl (JiK (pv 0)) (fun _ _ _ _ => (JaR (i:=0) (show [("sign" : Str)].Nodup by decide) rfl (Or.inl rfl))) (fun _ _ _ _ => (Jbl (JiF (K:=K) rfl) (pv 0) (JaX (v:=.str "abcdefghijklmnopqrstuvwxyz") rfl T.BbK T.BbL) (by with_unfolding_all rfl))) rfl (by decide) rfl (by decide) hcl0 (hhas0 (by decide)) hcs0) Jad)))))), ?_⟩
 obtain ⟨hx,sz,k⟩:=h
 show tSeq _ _ _ [some x] H
 nofun
 refine ⟨_,hx.tyN, ?_⟩
 by_cases hs:∃ z,d = .str z
 ·obtain ⟨z,rfl⟩:=hs
  simp only [Rep] at hx
  subst hx
  simp only [szD] at sz
  simpa only [tyD]
  have hz:z.length ≤ sizeLine:=Nat.le_trans sz (by decide)
  simp only [nameB,nameS] at k
  refine ⟨hz, ?_⟩
  nofun
  by_cases c1:z.length < 1
  ·rw [if_pos (by simp; omega)]
   nofun
   have e:decide (1 ≤ z.length) = false:=by simp; omega
   rw [e] at k
   exact k H (.refl H)
  ·rw [if_neg (by simp; omega)]
   nofun
   have e:decide (1 ≤ z.length) = true:=by simp; omega
   rw [e] at k
   refine ⟨hz, ?_⟩
   nofun
   by_cases c2:8 < z.length
   ·rw [if_pos (by simp; omega)]
    nofun
    have e:decide (z.length ≤ 8) = false:=by simp; omega
    rw [e] at k
    exact k H (.refl H)
   ·rw [if_neg (by simp; omega)]
    nofun
    have e:decide (z.length ≤ 8) = true:=by simp; omega
    rw [e] at k
    nofun
    simpa only [tComp,iStr]
    refine ⟨fun i m ys H2 => H2 = H∧i ≤ z.cps.size∧m = z.cps.size - i∧ys = (z.cps.toList.take i).map fun c => V.bl (lowB c),⟨_,rfl,Nat.zero_le _,rfl,by simp⟩, ?_⟩
    rintro i m ys H2 ⟨rfl,hi,rfl,rfl⟩
    have lz:z.cps.size = z.length:=rfl
    refine ⟨by simp; omega, ?_⟩
    by_cases lt:i < z.cps.size
    ·refine .inr ⟨lt, ?_⟩
     rintro x H3 ⟨rfl,c,hc,rfl⟩
     simpa only [List.length_singleton,List.replicate,JaO,List.map_nil,y5by,Jfm]
     refine ⟨_,Nat.sub_lt_sub_left lt (Nat.lt_succ_self i),lt,rfl, ?_⟩
     have hc':z.cps.toList[i]? = some c:=by simpa using hc
     rw [List.take_succ,hc']
     simp
    ·have ei:i = z.cps.size:=by omega
     refine .inl ⟨ei, ?_⟩
     subst ei
     rw [List.take_of_length_le (by simp)]
     intro p hp
     generalize qp:upd H2 p _ = H3
     have S:=newS hp qp
     have e3:=newE qp
     refine ⟨p,z.cps.toList.map lowB,rfl,SqL.of (by rw [e3,List.map_map]; rfl), ?_⟩
     have:=k H3 S
     simpa [List.all_map] using this
 ·have ef:nameB d = false:=by cases d <;> first | rfl | exact absurd ⟨_,rfl⟩ hs
  rw [ef] at k
  have et:isiB (tyD d) "str" = false:=by cases d <;> first | rfl | exact absurd ⟨_,rfl⟩ hs
  simpa only [et]
  exact k H (.refl H)
abbrev BaI:Stmt:=top 24
theorem JeJ:Jaq ["thing"] ["thing"] (Jaf BaI):=⟨rfl,rfl,rfl,by decide +kernel,rfl,by decide +kernel,by decide +kernel⟩
def JbI (K:PySem.W.Frag):Sp:=fun vs H Q E => ∃ (x:V) (d:D),vs = [x]∧Rep K H d x∧Q (.bl (Ja6 d)) H
theorem Jev {f:Addr} {fd:FuncData} {dV:Value} (F:FunD K "is_whole" "is_whole" BaI dV f fd) (T:Txt K mg Ad)  : FnOk P w K mg base (CX1 P w) 1 f fd ["thing"] (JbI K):=by
 refine F.okn JeJ (fun vs H Q E h => ?_) (fun cdv A outer s H vs Q E hr h => ?_)
 ·obtain ⟨x,d,rfl,_⟩:=h; rfl
 obtain ⟨x,d,rfl,h⟩:=h
 have hu:=hr.units
 refine ⟨_,(Jai (Jao (Jb0 (JaB JaL rfl T.Bac Jaj (Jaa (pv 0) (Jaa (Jb6 (v:=.ty "int") rfl T.Bc6 Jii rfl) Jad))) (JcC (Je6 (JaB JaL rfl T.Bac Jaj (Jaa (pv 0) (Jaa (Jb6 (v:=.ty "bool") rfl T.Bc0 JhE rfl) Jad)))))))), ?_⟩
 obtain ⟨hx,k⟩:=h
 show tRet _ _ [some x] H
 nofun
 refine ⟨_,hx.tyN, ?_⟩
 have hty:=hx.tyN
 cases d <;> simp only [tyD,Ja6,y81y,y4dy,y4ey,y4fy,y70y,y2by,y6by,y7ey,y7fy,y45y,y2ey,y77y,y8ey,y30y,y3ay,y71y,y2fy,y86y,y23y,y29y,y78y,y73y,y2ay,y79y,y75y,y59y,y90y,y26y,y85y,y6fy,y68y,y4ay,y67y,y7cy,y33y,y48y,y6dy,y49y,y6ey,y47y,y6cy,y89y,y63y,y5fy,y8by,y8dy,y8ay,y8cy,y25y,y66y,y24y,true_and,if_true,if_false,Bool.not_true,Bool.not_false,Bool.false_eq_true,yby,ydy,yay,ycy,yey,y15y,y17y,y14y,y16y,y18y,y6y,y8y,y5y,y7y,y9y,y1y,y3y,y0y,y2y,y4y,y10y,y12y,yfy,y11y,y13y,y1ay,y1cy,y19y,y1by,y1dy,y1fy,y21y,y1ey,y20y,y22y,y83y,y7by,y72y,y31y,y32y,y53y,y61y,y62y,y4cy,y84y,y87y,y91y,y7dy,y27y,V.int.injEq,V.str.injEq,List.set_cons_zero,List.set_cons_succ,List.getElem?_cons_zero,List.getElem?_cons_succ,Option.some.injEq,exists_eq_left,exists_eq_left',V.bl.injEq,Int.reduceToNat,Int.reducePow,List.append_nil,List.nil_append,List.cons_append,y55y,y57y,y2cy,y2dy,y69y,y5ey,y74y,y64y,y65y,y3by,y3cy,y3dy,y44y,y46y,y3fy,y7ay,y41y,y40y,y34y,y36y,y38y,y3ey,y42y,y50y,y5ay,y88y,y93y,y28y,reduceCtorEq,decide_false,decide_true] at k hty ⊢ <;> first | exact k | exact ⟨_,hty,by simpa only [y81y,y4dy,y4ey,y4fy,y70y,y2by,y6by,y7ey,y7fy,y45y,y2ey,y77y,y8ey,y30y,y3ay,y71y,y2fy,y86y,y23y,y29y,y78y,y73y,y2ay,y79y,y75y,y59y,y90y,y26y,y85y,y6fy,y68y,y4ay,y67y,y7cy,y33y,y48y,y6dy,y49y,y6ey,y47y,y6cy,y89y,y63y,y5fy,y8by,y8dy,y8ay,y8cy,y25y,y66y,y24y,true_and,if_true,if_false,Bool.not_true,Bool.not_false,Bool.false_eq_true,yby,ydy,yay,ycy,yey,y15y,y17y,y14y,y16y,y18y,y6y,y8y,y5y,y7y,y9y,y1y,y3y,y0y,y2y,y4y,y10y,y12y,yfy,y11y,y13y,y1ay,y1cy,y19y,y1by,y1dy,y1fy,y21y,y1ey,y20y,y22y,y83y,y7by,y72y,y31y,y32y,y53y,y61y,y62y,y4cy,y84y,y87y,y91y,y7dy,y27y,V.int.injEq,V.str.injEq,List.set_cons_zero,List.set_cons_succ,List.getElem?_cons_zero,List.getElem?_cons_succ,Option.some.injEq,exists_eq_left,exists_eq_left',V.bl.injEq,Int.reduceToNat,Int.reducePow,List.append_nil,List.nil_append,List.cons_append,y55y,y57y,y2cy,y2dy,y69y,y5ey,y74y,y64y,y65y,y3by,y3cy,y3dy,y44y,y46y,y3fy,y7ay,y41y,y40y,y34y,y36y,y38y,y3ey,y42y,y50y,y5ay,y88y,y93y,y28y,reduceCtorEq,decide_false,decide_true] using k⟩
abbrev Bao:Stmt:=top 25
theorem Jde:Jaq ["thing"] ["thing"] (Jaf Bao):=⟨rfl,rfl,rfl,by decide +kernel,rfl,by decide +kernel,by decide +kernel⟩
def Ja9 (K:PySem.W.Frag):Sp:=fun vs H Q E => ∃ (x:V) (d:D),vs = [x]∧Rep K H d x∧Q (.bl (fracB d)) H
theorem Jda {f:Addr} {fd:FuncData} {dV:Value} (F:FunD K "is_fraction" "is_fraction" Bao dV f fd) (T:Txt K mg Ad) (BaA:Cal P w K mg base 1 "is_whole" ["thing"] [] (JbI K)) (BaF:Cal P w K mg base 1 "common_divisor" ["one", "other"] [] (Ja8)):FnOk P w K mg base (CX1 P w) 2 f fd ["thing"] (Ja9 K):=by
 refine F.okn Jde (fun vs H Q E h => ?_) (fun cdv A outer s H vs Q E hr h => ?_)
 ·obtain ⟨x,d,rfl,_⟩:=h; rfl
 obtain ⟨x,d,rfl,h⟩:=h
 have hu:=hr.units
 refine ⟨_,(Jac (ps_if (PW.pt (pw_or (Jbb (Jbc (JaB JaL rfl T.Bac Jaj (Jaa (pv 0) (Jaa (Jb6 (v:=.ty "tuple") rfl T.Bcr Jds rfl) Jad))))) (Jby (Jay (JbM hu) (JaB JaY rfl T.Bb8 JbZ (Jaa (pv 0) Jad)) Jab (Jaz _)))))
   (Jai (Jao pe_bl))
   Jau)
   (Jac (ps_if (PW.pt (pw_or (Jbb (Jbc (BaA.ev hr (by decide) rfl passF (Jaa (pe_ix ix_U (pv 0) Jab (fun _ _ => rfl)) Jad) (he:=by exact Jag rfl)))) (Jby (Jbb (Jbc (BaA.ev hr (by decide) rfl passF (Jaa (pe_ix ix_U (pv 0) Jab (fun _ _ => rfl)) Jad) (he:=by exact Jag rfl)))))))
   (Jai (Jao pe_bl))
   Jau)
   (Jai (Jao (Jb0 (Jbl Jhk (pe_ix ix_U (pv 0) Jab (fun _ _ => rfl)) Jab (Jaz _)) (JcC (Jbl (Jbr hu) (BaF.ev hr (by decide) rfl passF (Jaa (pe_ix ix_U (pv 0) Jab (fun _ _ => rfl)) (Jaa (pe_ix ix_U (pv 0) Jab (fun _ _ => rfl)) Jad)) (he:=by exact Jag rfl)) Jab (Jaz _)))))))), ?_⟩
 obtain ⟨hx,k⟩:=h
 show tSeq _ _ _ [some x] H
 nofun
 refine ⟨_,hx.tyN, ?_⟩
 by_cases ht:∃ ds,d = .tup ds
 ·obtain ⟨ds,rfl⟩:=ht
  simpa only [tyD]
  simp only [Rep] at hx
  obtain ⟨a,xs,rfl,hq,hr⟩:=hx
  have hl:=hr.length
  refine ⟨xs, .inr hq, ?_⟩
  nofun
  by_cases h2:ds.length = 2
  ·match ds,h2 with
   | [d0,d1],_ =>
    simp only [RepL] at hr
    obtain ⟨v0,r0,rfl,h0,v1,r1,rfl,h1,rfl⟩:=hr
    simpa only [List.length_cons,List.length_nil]
    rw [if_neg (by simp)]
    nofun
    nofun
    refine ixT0 hq ?_
    refine ⟨v0,d0,rfl,h0, ?_⟩
    nofun
    by_cases w0:Ja6 d0 = true
    ·rw [if_neg (by simp [w0])]
     nofun
     refine ixT1 hq ?_
     refine ⟨v1,d1,rfl,h1, ?_⟩
     nofun
     by_cases w1:Ja6 d1 = true
     ·rw [if_neg (by simp [w1])]
      nofun
      obtain ⟨i,rfl⟩:∃ i,d0 = .int i:=by cases d0 <;> simp [Ja6] at w0; exact ⟨_,rfl⟩
      obtain ⟨j,rfl⟩:∃ j,d1 = .int j:=by cases d1 <;> simp [Ja6] at w1; exact ⟨_,rfl⟩
      simp only [Rep] at h0 h1
      subst h0 h1
      simp only [fracB] at k
      nofun
      refine ixT1 hq ?_
      nofun
      by_cases c:1 ≤ j
      ·rw [if_pos (by simpa using c)]
       nofun
       refine ixT0 hq (ixT1 hq ?_)
       refine ⟨_,_,rfl, ?_⟩
       nofun
       simpa [c] using k
      ·rw [if_neg (by simpa using c)]
       nofun
       simpa [c] using k
     ·rw [if_pos (by simp [w1])]
      nofun
      nofun
      have ef:fracB (.tup [d0,d1]) = false:=by cases d0 <;> cases d1 <;> simp_all [fracB,Ja6]
      rw [ef] at k
      exact k
    ·rw [if_pos (by simp [w0])]
     nofun
     nofun
     have ef:fracB (.tup [d0,d1]) = false:=by cases d0 <;> cases d1 <;> simp_all [fracB,Ja6]
     rw [ef] at k
     exact k
  ·rw [if_pos (by simp; omega)]
   nofun
   have ef:fracB (.tup ds) = false:=by
    unfold fracB
    split
    ·rename_i e; cases e; simp at h2
    ·rfl
   rw [ef] at k
   nofun
   exact k
 ·have ef:fracB d = false:=by cases d <;> first | rfl | exact absurd ⟨_,rfl⟩ ht
  rw [ef] at k
  have et:isiB (tyD d) "tuple" = false:=by cases d <;> first | rfl | exact absurd ⟨_,rfl⟩ ht
  simpa only [et]
  exact k
abbrev BaJ:Stmt:=top 26
theorem JeI:Jaq ["thing"] ["thing"] (Jaf BaJ):=⟨rfl,rfl,rfl,by decide +kernel,rfl,by decide +kernel,by decide +kernel⟩
def Jb8 (K:PySem.W.Frag):Sp:=fun vs H Q E => ∃ (x:V) (d:D),vs = [x]∧Rep K H d x∧Q (.bl (JbN d)) H
theorem Jeu {f:Addr} {fd:FuncData} {dV:Value} (F:FunD K "is_bound" "is_bound" BaJ dV f fd) (T:Txt K mg Ad) (Baj:Cal P w K mg base 2 "is_fraction" ["thing"] [] (Ja9 K)):FnOk P w K mg base (CX1 P w) 3 f fd ["thing"] (Jb8 K):=by
 refine F.okn JeI (fun vs H Q E h => ?_) (fun cdv A outer s H vs Q E hr h => ?_)
 ·obtain ⟨x,d,rfl,_⟩:=h; rfl
 obtain ⟨x,d,rfl,h⟩:=h
 have hu:=hr.units
 refine ⟨_,(Jai (Jao (pe_or (Jbl JcZ (pv 0) Jbf (Jaz _)) (JcC (Baj.ev hr (by decide) rfl passF (Jaa (pv 0) Jad) (he:=by exact Jag rfl)))))), ?_⟩
 obtain ⟨hx,k⟩:=h
 show tRet _ _ [some x] H
 nofun
 by_cases hn:d = .non
 ·subst hn
  simp only [Rep] at hx
  subst hx
  simpa only [decide_true]
  exact k
 ·have xn:x ≠ .non:=by
   rintro rfl
   cases d <;> simp [Rep] at hx
   exact hn rfl
  rw [if_neg (by simpa using xn)]
  nofun
  have ef:JbN d = fracB d:=by cases d <;> first | rfl | exact absurd rfl hn
  rw [ef] at k
  exact ⟨x,d,rfl,hx,k⟩
abbrev BaB:Stmt:=top 27
theorem Jeg:Jaq ["one", "other"] ["one", "other"] (Jaf BaB):=⟨rfl,rfl,rfl,by decide +kernel,rfl,by decide +kernel,by decide +kernel⟩
def Jbt (K:PySem.W.Frag):Sp:=fun vs H Q E => ∃ (x y:V) (d e:D),vs = [x,y]∧Rep K H d x∧Rep K H e y∧szD d∧szD e∧∀ H',Same H H'→Q (.bl (Jbe d e)) H'
theorem Jeb {f:Addr} {fd:FuncData} {dV:Value} (F:FunD K "are_faces" "are_faces" BaB dV f fd) (T:Txt K mg Ad) (Bas:Cal P w K mg base 1 "is_name" ["thing"] [] (Jbz K)):FnOk P w K mg base (CX1 P w) 2 f fd ["one", "other"] (Jbt K):=by
 refine F.okn Jeg (fun vs H Q E h => ?_) (fun cdv A outer s H vs Q E hr h => ?_)
 ·obtain ⟨x,y,d,e,rfl,_⟩:=h; rfl
 obtain ⟨x,y,d,e,rfl,h⟩:=h
 have hu:=hr.units
 refine ⟨_,(Jai (Jao (Jb0 (Bas.ev hr (by decide) rfl passF (Jaa (pv 0) Jad) (he:=by exact Jag rfl)) (Jb0 (Bas.ev hr (by decide) rfl passF (Jaa (pv 1) Jad) (he:=by exact Jag rfl)) (JcC (Jbl (JbM hu) (pv 0) (pv 1) (Jaz _))))))), ?_⟩
 obtain ⟨hx,hy,sx,sy,k⟩:=h
 show tRet _ _ [some x,some y] H
 nofun
 refine ⟨x,d,rfl,hx,sx,fun H1 S1 => ?_⟩
 nofun
 unfold Jbe at k
 by_cases c1:nameB d = true
 ·rw [if_pos c1]
  nofun
  refine ⟨y,e,rfl,hy.same S1,sy,fun H2 S2 => ?_⟩
  nofun
  by_cases c2:nameB e = true
  ·rw [if_pos c2]
   nofun
   obtain ⟨z,rfl,_⟩:=Jdl c1
   obtain ⟨z',rfl,_⟩:=Jdl c2
   have e1:=hx.str
   have e2:=hy.str
   subst e1 e2
   nofun
   have:=k H2 (S1.trans S2)
   rw [c1,c2] at this
   simpa [eqD,BEq.beq] using this
  ·rw [if_neg c2]
   nofun
   have:=k H2 (S1.trans S2)
   have e2:nameB e = false:=by simpa using c2
   rw [c1,e2] at this
   exact this
 ·rw [if_neg c1]
  nofun
  have:=k H1 S1
  have e1:nameB d = false:=by simpa using c1
  rw [e1] at this
  exact this
abbrev Bat:Stmt:=top 28
theorem JdR:Jaq ["least", "greatest"] ["least", "greatest"] (Jaf Bat):=⟨rfl,rfl,rfl,by decide +kernel,rfl,by decide +kernel,by decide +kernel⟩
def JbH (K:PySem.W.Frag):Sp:=fun vs H Q E => ∃ (x y:V) (d e:D),vs = [x,y]∧Rep K H d x∧Rep K H e y∧szD d∧szD e∧Q (.bl (Jb3 d e)) H
theorem JdG {f:Addr} {fd:FuncData} {dV:Value} (F:FunD K "are_bounds" "are_bounds" Bat dV f fd) (T:Txt K mg Ad) (Bbm:Cal P w K mg base 3 "is_bound" ["thing"] [] (Jb8 K)) (BbG:Cal P w K mg base 1 "under" ["one", "other"] [] (JcL K)):FnOk P w K mg base (CX1 P w) 4 f fd ["least", "greatest"] (JbH K):=by
 refine F.okn JdR (fun vs H Q E h => ?_) (fun cdv A outer s H vs Q E hr h => ?_)
 ·obtain ⟨x,y,d,e,rfl,_⟩:=h; rfl
 obtain ⟨x,y,d,e,rfl,h⟩:=h
 have hu:=hr.units
 refine ⟨_,(Jac (ps_if (PW.pt (pw_or (Jbb (Jbc (Bbm.ev hr (by decide) rfl passF (Jaa (pv 0) Jad) (he:=by exact Jag rfl)))) (Jby (Jbb (Jbc (Bbm.ev hr (by decide) rfl passF (Jaa (pv 1) Jad) (he:=by exact Jag rfl)))))))
   (Jai (Jao pe_bl))
   Jau)
   (Jac (ps_if (PW.pt (pw_or (Jay JcZ (pv 0) Jbf (Jaz _)) (Jby (Jay JcZ (pv 1) Jbf (Jaz _)))))
   (Jai (Jao pe_bl))
   Jau)
   (Jai (Jao (Je6 (BbG.ev hr (by decide) rfl passF (Jaa (pv 1) (Jaa (pv 0) Jad)) (he:=by exact Jag rfl))))))), ?_⟩
 obtain ⟨hx,hy,sx,sy,k⟩:=h
 show tSeq _ _ _ [some x,some y] H
 nofun
 unfold Jb3 at k
 refine ⟨x,d,rfl,hx, ?_⟩
 nofun
 by_cases c1:JbN d = true
 ·rw [if_neg (by simp [c1])]
  nofun
  refine ⟨y,e,rfl,hy, ?_⟩
  nofun
  by_cases c2:JbN e = true
  ·rw [if_neg (by simp [c2])]
   nofun
   simpa only [hx.nonV,hy.nonV]
   rw [c1,c2] at k
   by_cases n1:d = .non
   ·rw [if_pos (by simp [n1,nonD])]
    nofun
    nofun
    have : lessD e d = false:=by subst n1; unfold lessD; split <;> first | rfl | simp_all
    rw [this] at k
    exact k
   ·rw [if_neg (by simp [Jf7 n1])]
    nofun
    by_cases n2:e = .non
    ·rw [if_pos (by simp [n2,nonD])]
     nofun
     nofun
     have : lessD e d = false:=by subst n2; rfl
     rw [this] at k
     exact k
    ·rw [if_neg (by simp [Jf7 n2])]
     nofun
     nofun
     have f1:fracB d = true:=by cases d <;> first | exact c1 | exact absurd rfl n1
     have f2:fracB e = true:=by cases e <;> first | exact c2 | exact absurd rfl n2
     obtain ⟨a,b,rfl,_,_⟩:=Jcq f1
     obtain ⟨a',b',rfl,_,_⟩:=Jcq f2
     simp only [szD,szL] at sx sy
     refine ⟨y,x,a',b',a,b,rfl,FrV.of_rep hy,FrV.of_rep hx,sy.1,sy.2.1,sx.1,sx.2.1, ?_⟩
     nofun
     simpa [lessD] using k
  ·rw [if_pos (by simp [c2])]
   nofun
   nofun
   have e2:JbN e = false:=by simpa using c2
   rw [c1,e2] at k
   exact k
 ·rw [if_pos (by simp [c1])]
  nofun
  nofun
  have e1:JbN d = false:=by simpa using c1
  rw [e1] at k
  exact k
abbrev Bbn:Stmt:=top 29
theorem Jgs:Jaq ["thing"] ["thing"] (Jaf Bbn):=⟨rfl,rfl,rfl,by decide +kernel,rfl,by decide +kernel,by decide +kernel⟩
def Jc6 (K:PySem.W.Frag):Sp:=fun vs H Q E => ∃ (x:V) (d:D),vs = [x]∧Rep K H d x∧szD d∧∀ H',Same H H'→Q (.bl (tieB d)) H'
theorem Jgb {f:Addr} {fd:FuncData} {dV:Value} (F:FunD K "is_tie" "is_tie" Bbn dV f fd) (T:Txt K mg Ad) (Bas:Cal P w K mg base 1 "is_name" ["thing"] [] (Jbz K)) (BaC:Cal P w K mg base 2 "are_faces" ["one", "other"] [] (Jbt K)) (Bbi:Cal P w K mg base 4 "are_bounds" ["least", "greatest"] [] (JbH K)):FnOk P w K mg base (CX1 P w) 5 f fd ["thing"] (Jc6 K):=by
 refine F.okn Jgs (fun vs H Q E h => ?_) (fun cdv A outer s H vs Q E hr h => ?_)
 ·obtain ⟨x,d,rfl,_⟩:=h; rfl
 obtain ⟨x,d,rfl,h⟩:=h
 have hu:=hr.units
 refine ⟨_,(Jac (ps_if (PW.pt (pw_or (Jbb (Jbc (JaB JaL rfl T.Bac Jaj (Jaa (pv 0) (Jaa (Jb6 (v:=.ty "tuple") rfl T.Bcr Jds rfl) Jad))))) (Jby (Jay (JbM hu) (JaB JaY rfl T.Bb8 JbZ (Jaa (pv 0) Jad)) Jab (Jaz _)))))
   (Jai (Jao pe_bl))
   Jau)
   (Jai (Jao (Jb0 (Bas.ev hr (by decide) rfl passF (Jaa (pe_ix ix_U (pv 0) Jab (fun _ _ => rfl)) Jad) (he:=by exact Jag rfl)) (Jb0 (BaC.ev hr (by decide) rfl passF (Jaa (pe_ix ix_U (pv 0) Jab (fun _ _ => rfl)) (Jaa (pe_ix ix_U (pv 0) Jab (fun _ _ => rfl)) Jad)) (he:=by exact Jag rfl)) (JcC (Bbi.ev hr (by decide) rfl passF (Jaa (pe_ix ix_U (pv 0) Jab (fun _ _ => rfl)) (Jaa (pe_ix ix_U (pv 0) Jab (fun _ _ => rfl)) Jad)) (he:=by exact Jag rfl)))))))), ?_⟩
 obtain ⟨hx,sz,k⟩:=h
 show tSeq _ _ _ [some x] H
 nofun
 refine ⟨_,hx.tyN, ?_⟩
 by_cases ht:∃ ds,d = .tup ds
 ·obtain ⟨ds,rfl⟩:=ht
  simpa only [tyD]
  simp only [Rep] at hx
  obtain ⟨a,xs,rfl,hq,hr⟩:=hx
  have hl:=hr.length
  refine ⟨xs, .inr hq, ?_⟩
  nofun
  by_cases h5:ds.length = 5
  ·match ds,h5 with
   | [d0,d1,d2,d3,d4],_ =>
    simp only [RepL] at hr
    obtain ⟨v0,r0,rfl,h0,v1,r1,rfl,h1,v2,r2,rfl,h2,v3,r3,rfl,h3,v4,r4,rfl,h4,rfl⟩:=hr
    simp only [szD,szL] at sz
    obtain ⟨s0,s1,s2,s3,s4,_⟩:=sz
    simp only [tieB] at k
    simpa only [List.length_cons,List.length_nil]
    rw [if_neg (by simp)]
    nofun
    nofun
    refine ixT (i:=0) hq rfl ?_
    refine ⟨v0,d0,rfl,h0,s0,fun H1 S1 => ?_⟩
    nofun
    by_cases c0:nameB d0 = true
    ·rw [if_pos c0]
     nofun
     rw [c0] at k
     refine ixT (i:=1) (hq.same S1) rfl ?_
     refine ixT (i:=2) (hq.same S1) rfl ?_
     refine ⟨v1,v2,d1,d2,rfl,h1.same S1,h2.same S1,s1,s2,fun H2 S2 => ?_⟩
     nofun
     have S12:=S1.trans S2
     by_cases c1:Jbe d1 d2 = true
     ·rw [if_pos c1]
      nofun
      rw [c1] at k
      refine ixT (i:=3) (hq.same S12) rfl ?_
      refine ixT (i:=4) (hq.same S12) rfl ?_
      exact ⟨v3,v4,d3,d4,rfl,h3.same S12,h4.same S12,s3,s4,k H2 S12⟩
     ·rw [if_neg c1]
      nofun
      have e1:Jbe d1 d2 = false:=by simpa using c1
      rw [e1] at k
      exact k H2 S12
    ·rw [if_neg c0]
     nofun
     have e0:nameB d0 = false:=by simpa using c0
     rw [e0] at k
     exact k H1 S1
  ·rw [if_pos (by simp; omega)]
   nofun
   have ef:tieB (.tup ds) = false:=by
    unfold tieB
    split
    ·rename_i e; cases e; simp at h5
    ·rfl
   rw [ef] at k
   nofun
   exact k H (.refl H)
 ·have ef:tieB d = false:=by cases d <;> first | rfl | exact absurd ⟨_,rfl⟩ ht
  rw [ef] at k
  have et:isiB (tyD d) "tuple" = false:=by cases d <;> first | rfl | exact absurd ⟨_,rfl⟩ ht
  simpa only [et]
  exact k H (.refl H)
abbrev Bai:Stmt:=inClass (top 33) 0
theorem JcF:Jaq ["self", "row"] ["self", "row"] (Jaf Bai):=⟨rfl,rfl,rfl,by decide +kernel,rfl,by decide +kernel,by decide +kernel⟩
def Jbd (K:PySem.W.Frag):Sp:=fun vs H Q E => ∃ (x C dx a:Addr) (n st en z m wt:V),vs = [.ref x, .ref a]∧H x = some (.ins C dx [])∧PartC K C∧SqT K H a [n,st,en,z,m,wt]∧∀ H',H' x = some (.ins C dx (partF n st en z m wt))→(∀ b,b ≠ x→H' b = H b)→Q .non H'
theorem JcE {f:Addr} {fd:FuncData} {dV:Value} (F:FunD K "__init__" "Part.__init__" Bai dV f fd) (T:Txt K mg Ad)  : FnOk P w K mg base (CX1 P w) 1 f fd ["self", "row"] (Jbd K):=by
 refine F.okn JcF (fun vs H Q E h => ?_) (fun cdv A outer s H vs Q E hr h => ?_)
 ·obtain ⟨x,C,dx,a,n,st,en,z,m,wt,rfl,_⟩:=h; rfl
 obtain ⟨x,C,dx,a,n,st,en,z,m,wt,rfl,h⟩:=h
 have hu:=hr.units
 refine ⟨_,(Jac (Jbm (pv 0) (pe_ix ix_U (pv 1) Jab (fun _ _ => rfl)) rfl)
   (Jac (Jbm (pv 0) (pe_ix ix_U (pv 1) Jab (fun _ _ => rfl)) rfl)
   (Jac (Jbm (pv 0) (pe_ix ix_U (pv 1) Jab (fun _ _ => rfl)) rfl)
   (Jac (Jbm (pv 0) (pe_ix ix_U (pv 1) Jab (fun _ _ => rfl)) rfl)
   (Jac (Jbm (pv 0) (pe_ix ix_U (pv 1) Jab (fun _ _ => rfl)) rfl)
   (Jai (Jbm (pv 0) (pe_ix ix_U (pv 1) Jab (fun _ _ => rfl)) rfl))))))), ?_⟩
 obtain ⟨e0,tc,hq0,k⟩:=h
 show tSeq _ _ _ [some (.ref x),some (.ref a)] H
 exfalso
 refine ixT (i:=0) hq0 rfl ?_
 exfalso
 refine ⟨x,C,dx,_,rfl,e0,tc.cls,tc.n1,by simp, ?_⟩
 have hq1:=SqT.put (fs':=putF "name" n []) e0 hq0
 generalize u0:upd H x _ = H1 at hq1 ⊢
 exfalso
 have e1:H1 x = some (.ins C dx [("name",n)]):=by rw [← u0]; exact Jak.trans rfl
 have o1:∀ b,b ≠ x→H1 b = H b:=fun b hb => by rw [← u0,Jae hb]
 exfalso
 refine ixT (i:=1) hq1 rfl ?_
 exfalso
 refine ⟨x,C,dx,_,rfl,e1,tc.cls,tc.n2,by simp, ?_⟩
 have hq2:=SqT.put (fs':=putF "start" st [("name",n)]) e1 hq1
 generalize u1:upd H1 x _ = H2 at hq2 ⊢
 exfalso
 have e2:H2 x = some (.ins C dx [("name",n),("start",st)]):=by rw [← u1]; exact Jak.trans rfl
 have o2:∀ b,b ≠ x→H2 b = H1 b:=fun b hb => by rw [← u1,Jae hb]
 exfalso
 refine ixT (i:=2) hq2 rfl ?_
 exfalso
 refine ⟨x,C,dx,_,rfl,e2,tc.cls,tc.n3,by simp, ?_⟩
 have hq3:=SqT.put (fs':=putF "end" en [("name",n),("start",st)]) e2 hq2
 generalize u2:upd H2 x _ = H3 at hq3 ⊢
 exfalso
 have e3:H3 x = some (.ins C dx [("name",n),("start",st),("end",en)]):=by rw [← u2]; exact Jak.trans rfl
 have o3:∀ b,b ≠ x→H3 b = H2 b:=fun b hb => by rw [← u2,Jae hb]
 exfalso
 refine ixT (i:=3) hq3 rfl ?_
 exfalso
 refine ⟨x,C,dx,_,rfl,e3,tc.cls,tc.n4,by simp, ?_⟩
 have hq4:=SqT.put (fs':=putF "size" z [("name",n),("start",st),("end",en)]) e3 hq3
 generalize u3:upd H3 x _ = H4 at hq4 ⊢
 exfalso
 have e4:H4 x = some (.ins C dx [("name",n),("start",st),("end",en),("size",z)]):=by rw [← u3]; exact Jak.trans rfl
 have o4:∀ b,b ≠ x→H4 b = H3 b:=fun b hb => by rw [← u3,Jae hb]
 exfalso
 refine ixT (i:=4) hq4 rfl ?_
 exfalso
 refine ⟨x,C,dx,_,rfl,e4,tc.cls,tc.n5,by simp, ?_⟩
 have hq5:=SqT.put (fs':=putF "most" m [("name",n),("start",st),("end",en),("size",z)]) e4 hq4
 generalize u4:upd H4 x _ = H5 at hq5 ⊢
 exfalso
 have e5:H5 x = some (.ins C dx [("name",n),("start",st),("end",en),("size",z),("most",m)]):=by rw [← u4]; exact Jak.trans rfl
 have o5:∀ b,b ≠ x→H5 b = H4 b:=fun b hb => by rw [← u4,Jae hb]
 exfalso
 refine ixT (i:=5) hq5 rfl ?_
 exfalso
 refine ⟨x,C,dx,_,rfl,e5,tc.cls,tc.n6,by simp, ?_⟩
 have hq6:=SqT.put (fs':=putF "weight" wt [("name",n),("start",st),("end",en),("size",z),("most",m)]) e5 hq5
 generalize u5:upd H5 x _ = H6 at hq6 ⊢
 exfalso
 have e6:H6 x = some (.ins C dx [("name",n),("start",st),("end",en),("size",z),("most",m),("weight",wt)]):=by rw [← u5]; exact Jak.trans rfl
 have o6:∀ b,b ≠ x→H6 b = H5 b:=fun b hb => by rw [← u5,Jae hb]
 exfalso
 exact k H6 e6 fun b hb => by rw [o6 b hb,o5 b hb,o4 b hb,o3 b hb,o2 b hb,o1 b hb]
abbrev Bau:Stmt:=inClass (top 33) 1
theorem JdP:Jaq ["self"] ["self"] (Jaf Bau):=⟨rfl,rfl,rfl,by decide +kernel,rfl,by decide +kernel,by decide +kernel⟩
def JbF (K:PySem.W.Frag) (Ad:Adr):Sp:=fun vs H Q E => ∃ (p dx:Addr) (n st en z m wt:V),vs = [.ref p]∧H p = some (.ins Ad.Part dx (partF n st en z m wt))∧∀ q H',Same H H'→H' q = some (.tup [n,st,en,z,m,wt])→Q (.ref q) H'
theorem JdE {f:Addr} {fd:FuncData} {dV:Value} (F:FunD K "plain" "Part.plain" Bau dV f fd) (T:Txt K mg Ad)  : FnOk P w K mg base (CX1 P w) 1 f fd ["self"] (JbF K Ad):=by
 refine F.okn JdP (fun vs H Q E h => ?_) (fun cdv A outer s H vs Q E hr h => ?_)
 ·obtain ⟨p,dx,n,st,en,z,m,wt,rfl,_⟩:=h; rfl
 obtain ⟨p,dx,n,st,en,z,m,wt,rfl,h⟩:=h
 have hu:=hr.units
 refine ⟨_,(Jai (Jao (JaQ (Jaa (JaE (pv 0) rfl) (Jaa (JaE (pv 0) rfl) (Jaa (JaE (pv 0) rfl) (Jaa (JaE (pv 0) rfl) (Jaa (JaE (pv 0) rfl) (Jaa (JaE (pv 0) rfl) Jad))))))))), ?_⟩
 obtain ⟨hp,k⟩:=h
 have tc:=T.Bcp Ad.Part rfl
 show tRet _ _ [some (.ref p)] H
 and_intros
 refine ⟨p,_,dx,_,n,rfl,hp,tc.cls,tc.n1,rfl, ?_⟩
 refine ⟨p,_,dx,_,st,rfl,hp,tc.cls,tc.n2,rfl, ?_⟩
 refine ⟨p,_,dx,_,en,rfl,hp,tc.cls,tc.n3,rfl, ?_⟩
 refine ⟨p,_,dx,_,z,rfl,hp,tc.cls,tc.n4,rfl, ?_⟩
 refine ⟨p,_,dx,_,m,rfl,hp,tc.cls,tc.n5,rfl, ?_⟩
 refine ⟨p,_,dx,_,wt,rfl,hp,tc.cls,tc.n6,rfl, ?_⟩
 and_intros
 refine ⟨by show 6 ≤ sizeLine; decide, ?_⟩
 exact Jet fun q H1 S e => k q H1 S e
abbrev Bak:Stmt:=inClass (top 34) 0
theorem Jc3:Jaq ["self", "row"] ["self", "row"] (Jaf Bak):=⟨rfl,rfl,rfl,by decide +kernel,rfl,by decide +kernel,by decide +kernel⟩
def Jbn (K:PySem.W.Frag):Sp:=fun vs H Q E => ∃ (x C dx a:Addr) (n st en l g:V),vs = [.ref x, .ref a]∧H x = some (.ins C dx [])∧GapC K C∧SqT K H a [n,st,en,l,g]∧∀ H',H' x = some (.ins C dx (gapF n st en l g))→(∀ b,b ≠ x→H' b = H b)→Q .non H'
theorem JcY {f:Addr} {fd:FuncData} {dV:Value} (F:FunD K "__init__" "Gap.__init__" Bak dV f fd) (T:Txt K mg Ad)  : FnOk P w K mg base (CX1 P w) 1 f fd ["self", "row"] (Jbn K):=by
 refine F.okn Jc3 (fun vs H Q E h => ?_) (fun cdv A outer s H vs Q E hr h => ?_)
 ·obtain ⟨x,C,dx,a,n,st,en,l,g,rfl,_⟩:=h; rfl
 obtain ⟨x,C,dx,a,n,st,en,l,g,rfl,h⟩:=h
 have hu:=hr.units
 refine ⟨_,(Jac (Jbm (pv 0) (pe_ix ix_U (pv 1) Jab (fun _ _ => rfl)) rfl)
   (Jac (Jbm (pv 0) (pe_ix ix_U (pv 1) Jab (fun _ _ => rfl)) rfl)
   (Jac (Jbm (pv 0) (pe_ix ix_U (pv 1) Jab (fun _ _ => rfl)) rfl)
   (Jac (Jbm (pv 0) (pe_ix ix_U (pv 1) Jab (fun _ _ => rfl)) rfl)
   (Jai (Jbm (pv 0) (pe_ix ix_U (pv 1) Jab (fun _ _ => rfl)) rfl)))))), ?_⟩
 obtain ⟨e0,tc,hq0,k⟩:=h
 show tSeq _ _ _ [some (.ref x),some (.ref a)] H
 exfalso
 refine ixT (i:=0) hq0 rfl ?_
 exfalso
 refine ⟨x,C,dx,_,rfl,e0,tc.cls,tc.n1,by simp, ?_⟩
 have hq1:=SqT.put (fs':=putF "name" n []) e0 hq0
 generalize u0:upd H x _ = H1 at hq1 ⊢
 exfalso
 have e1:H1 x = some (.ins C dx [("name",n)]):=by rw [← u0]; exact Jak.trans rfl
 have o1:∀ b,b ≠ x→H1 b = H b:=fun b hb => by rw [← u0,Jae hb]
 exfalso
 refine ixT (i:=1) hq1 rfl ?_
 exfalso
 refine ⟨x,C,dx,_,rfl,e1,tc.cls,tc.n2,by simp, ?_⟩
 have hq2:=SqT.put (fs':=putF "one" st [("name",n)]) e1 hq1
 generalize u1:upd H1 x _ = H2 at hq2 ⊢
 exfalso
 have e2:H2 x = some (.ins C dx [("name",n),("one",st)]):=by rw [← u1]; exact Jak.trans rfl
 have o2:∀ b,b ≠ x→H2 b = H1 b:=fun b hb => by rw [← u1,Jae hb]
 exfalso
 refine ixT (i:=2) hq2 rfl ?_
 exfalso
 refine ⟨x,C,dx,_,rfl,e2,tc.cls,tc.n3,by simp, ?_⟩
 have hq3:=SqT.put (fs':=putF "other" en [("name",n),("one",st)]) e2 hq2
 generalize u2:upd H2 x _ = H3 at hq3 ⊢
 exfalso
 have e3:H3 x = some (.ins C dx [("name",n),("one",st),("other",en)]):=by rw [← u2]; exact Jak.trans rfl
 have o3:∀ b,b ≠ x→H3 b = H2 b:=fun b hb => by rw [← u2,Jae hb]
 exfalso
 refine ixT (i:=3) hq3 rfl ?_
 exfalso
 refine ⟨x,C,dx,_,rfl,e3,tc.cls,tc.n4,by simp, ?_⟩
 have hq4:=SqT.put (fs':=putF "low" l [("name",n),("one",st),("other",en)]) e3 hq3
 generalize u3:upd H3 x _ = H4 at hq4 ⊢
 exfalso
 have e4:H4 x = some (.ins C dx [("name",n),("one",st),("other",en),("low",l)]):=by rw [← u3]; exact Jak.trans rfl
 have o4:∀ b,b ≠ x→H4 b = H3 b:=fun b hb => by rw [← u3,Jae hb]
 exfalso
 refine ixT (i:=4) hq4 rfl ?_
 exfalso
 refine ⟨x,C,dx,_,rfl,e4,tc.cls,tc.n5,by simp, ?_⟩
 have hq5:=SqT.put (fs':=putF "high" g [("name",n),("one",st),("other",en),("low",l)]) e4 hq4
 generalize u4:upd H4 x _ = H5 at hq5 ⊢
 exfalso
 have e5:H5 x = some (.ins C dx [("name",n),("one",st),("other",en),("low",l),("high",g)]):=by rw [← u4]; exact Jak.trans rfl
 have o5:∀ b,b ≠ x→H5 b = H4 b:=fun b hb => by rw [← u4,Jae hb]
 exfalso
 exact k H5 e5 fun b hb => by rw [o5 b hb,o4 b hb,o3 b hb,o2 b hb,o1 b hb]
abbrev BaD:Stmt:=inClass (top 34) 1
theorem Jef:Jaq ["self"] ["self"] (Jaf BaD):=⟨rfl,rfl,rfl,by decide +kernel,rfl,by decide +kernel,by decide +kernel⟩
def JbP (K:PySem.W.Frag) (Ad:Adr):Sp:=fun vs H Q E => ∃ (p dx:Addr) (n st en l g:V),vs = [.ref p]∧H p = some (.ins Ad.Gap dx (gapF n st en l g))∧∀ q H',Same H H'→H' q = some (.tup [n,st,en,l,g])→Q (.ref q) H'
theorem Jea {f:Addr} {fd:FuncData} {dV:Value} (F:FunD K "plain" "Gap.plain" BaD dV f fd) (T:Txt K mg Ad)  : FnOk P w K mg base (CX1 P w) 1 f fd ["self"] (JbP K Ad):=by
 refine F.okn Jef (fun vs H Q E h => ?_) (fun cdv A outer s H vs Q E hr h => ?_)
 ·obtain ⟨p,dx,n,st,en,l,g,rfl,_⟩:=h; rfl
 obtain ⟨p,dx,n,st,en,l,g,rfl,h⟩:=h
 have hu:=hr.units
 refine ⟨_,(Jai (Jao (JaQ (Jaa (JaE (pv 0) rfl) (Jaa (JaE (pv 0) rfl) (Jaa (JaE (pv 0) rfl) (Jaa (JaE (pv 0) rfl) (Jaa (JaE (pv 0) rfl) Jad)))))))), ?_⟩
 obtain ⟨hp,k⟩:=h
 have tc:=T.BcS Ad.Gap rfl
 show tRet _ _ [some (.ref p)] H
 and_intros
 refine ⟨p,_,dx,_,n,rfl,hp,tc.cls,tc.n1,rfl, ?_⟩
 refine ⟨p,_,dx,_,st,rfl,hp,tc.cls,tc.n2,rfl, ?_⟩
 refine ⟨p,_,dx,_,en,rfl,hp,tc.cls,tc.n3,rfl, ?_⟩
 refine ⟨p,_,dx,_,l,rfl,hp,tc.cls,tc.n4,rfl, ?_⟩
 refine ⟨p,_,dx,_,g,rfl,hp,tc.cls,tc.n5,rfl, ?_⟩
 and_intros
 refine ⟨by show 5 ≤ sizeLine; decide, ?_⟩
 exact Jet fun q H1 S e => k q H1 S e
abbrev Ba2:Stmt:=top 31
theorem JfB:Jaq ["thing"] ["thing"] (Jaf Ba2):=⟨rfl,rfl,rfl,by decide +kernel,rfl,by decide +kernel,by decide +kernel⟩
def Jcx (K:PySem.W.Frag):Sp:=fun vs H Q E => ∃ (x:V) (d:D),vs = [x]∧Rep K H d x∧szD d∧∀ H',Same H H'→Q (.bl (partB d)) H'
theorem Jft {f:Addr} {fd:FuncData} {dV:Value} (F:FunD K "is_part" "is_part" Ba2 dV f fd) (T:Txt K mg Ad) (Bas:Cal P w K mg base 1 "is_name" ["thing"] [] (Jbz K)) (BaC:Cal P w K mg base 2 "are_faces" ["one", "other"] [] (Jbt K)) (Baj:Cal P w K mg base 2 "is_fraction" ["thing"] [] (Ja9 K)) (BaA:Cal P w K mg base 1 "is_whole" ["thing"] [] (JbI K)) (BbG:Cal P w K mg base 1 "under" ["one", "other"] [] (JcL K)):FnOk P w K mg base (CX1 P w) 5 f fd ["thing"] (Jcx K):=by
 refine F.okn JfB (fun vs H Q E h => ?_) (fun cdv A outer s H vs Q E hr h => ?_)
 ·obtain ⟨x,d,rfl,_⟩:=h; rfl
 obtain ⟨x,d,rfl,h⟩:=h
 have hu:=hr.units
 refine ⟨_,(Jac (ps_if (PW.pt (pw_or (Jbb (Jbc (JaB JaL rfl T.Bac Jaj (Jaa (pv 0) (Jaa (Jb6 (v:=.ty "tuple") rfl T.Bcr Jds rfl) Jad))))) (Jby (Jay (JbM hu) (JaB JaY rfl T.Bb8 JbZ (Jaa (pv 0) Jad)) Jab (Jaz _)))))
   (Jai (Jao pe_bl))
   Jau)
   (Jac (ps_if (PW.pt (pw_or (Jbb (Jbc (Bas.ev hr (by decide) rfl passF (Jaa (pe_ix ix_U (pv 0) Jab (fun _ _ => rfl)) Jad) (he:=by exact Jag rfl)))) (Jby (Jbb (Jbc (BaC.ev hr (by decide) rfl passF (Jaa (pe_ix ix_U (pv 0) Jab (fun _ _ => rfl)) (Jaa (pe_ix ix_U (pv 0) Jab (fun _ _ => rfl)) Jad)) (he:=by exact Jag rfl)))))))
   (Jai (Jao pe_bl))
   Jau)
   (Jac (ps_if (PW.pt (pw_or (Jbb (Jbc (Baj.ev hr (by decide) rfl passF (Jaa (pe_ix ix_U (pv 0) Jab (fun _ _ => rfl)) Jad) (he:=by exact Jag rfl)))) (pw_or (Jbb (Jbc (Baj.ev hr (by decide) rfl passF (Jaa (pe_ix ix_U (pv 0) Jab (fun _ _ => rfl)) Jad) (he:=by exact Jag rfl)))) (Jby (Jbb (Jbc (BaA.ev hr (by decide) rfl passF (Jaa (pe_ix ix_U (pv 0) Jab (fun _ _ => rfl)) Jad) (he:=by exact Jag rfl))))))))
   (Jai (Jao pe_bl))
   Jau)
   (Jai (Jao (Jb0 (Je6 (BbG.ev hr (by decide) rfl passF (Jaa (pe_ix ix_U (pv 0) Jab (fun _ _ => rfl)) (Jaa (JaX (v:=.ref _) rfl T.Bc1 T.Bc2) Jad)) (he:=by exact Jag rfl))) (JcC (Jbl Jhk (pe_ix ix_U (pv 0) Jab (fun _ _ => rfl)) Jab (Jaz _))))))))), ?_⟩
 obtain ⟨hx,sz,k⟩:=h
 show tSeq _ _ _ [some x] H
 nofun
 refine ⟨_,hx.tyN, ?_⟩
 by_cases ht:∃ ds,d = .tup ds
 ·obtain ⟨ds,rfl⟩:=ht
  simpa only [tyD]
  simp only [Rep] at hx
  obtain ⟨a,xs,rfl,hq,hr⟩:=hx
  have hl:=hr.length
  refine ⟨xs, .inr hq, ?_⟩
  nofun
  by_cases h6:ds.length = 6
  ·match ds,h6 with
   | [d0,d1,d2,d3,d4,d5],_ =>
    simp only [RepL] at hr
    obtain ⟨v0,r0,rfl,h0,v1,r1,rfl,h1,v2,r2,rfl,h2,v3,r3,rfl,h3,v4,r4,rfl,h4,v5,r5,rfl,h5,rfl⟩:=hr
    simp only [szD,szL] at sz
    obtain ⟨s0,s1,s2,s3,s4,s5,_⟩:=sz
    simp only [partB] at k
    simpa only [List.length_cons,List.length_nil]
    rw [if_neg (by simp)]
    nofun
    nofun
    refine ixT (i:=0) hq rfl ?_
    refine ⟨v0,d0,rfl,h0,s0,fun H1 S1 => ?_⟩
    nofun
    by_cases c0:nameB d0 = true
    ·rw [c0] at k ⊢
     nofun
     refine ixT (i:=1) (hq.same S1) rfl ?_
     refine ixT (i:=2) (hq.same S1) rfl ?_
     refine ⟨v1,v2,d1,d2,rfl,h1.same S1,h2.same S1,s1,s2,fun H2 S2 => ?_⟩
     nofun
     have S02:=S1.trans S2
     by_cases c1:Jbe d1 d2 = true
     ·rw [c1] at k ⊢
      nofun
      refine ixT (i:=3) (hq.same S02) rfl ?_
      refine ⟨v3,d3,rfl,h3.same S02, ?_⟩
      nofun
      by_cases c3:fracB d3 = true
      ·rw [c3] at k ⊢
       nofun
       refine ixT (i:=4) (hq.same S02) rfl ?_
       refine ⟨v4,d4,rfl,h4.same S02, ?_⟩
       nofun
       by_cases c4:fracB d4 = true
       ·rw [c4] at k ⊢
        nofun
        refine ixT (i:=5) (hq.same S02) rfl ?_
        refine ⟨v5,d5,rfl,h5.same S02, ?_⟩
        nofun
        by_cases c5:Ja6 d5 = true
        ·rw [c5] at k ⊢
         nofun
         obtain ⟨p4,q4,rfl,_,_⟩:=Jcq c4
         obtain ⟨w,rfl⟩:∃ w,d5 = .int w:=by cases d5 <;> first | exact ⟨_,rfl⟩ | simp [Ja6] at c5
         simp only [szD,szL] at s4
         have h5':v5 = .int w:=by simpa only [Rep] using h5
         subst h5'
         refine ixT (i:=4) (hq.same S02) rfl ?_
         refine ⟨v4, .ref Ad.ZERO,p4,q4,0,1,rfl,FrV.of_rep (h4.same S02),⟨Ad.ZERO,rfl,T.Bc3 _⟩,s4.1,s4.2.1, .lit (by decide) (by decide), .lit (by decide) (by decide), ?_⟩
         nofun
         by_cases c6:p4 * 1 < 0 * q4
         ·have e6:lessD (.tup [.int p4, .int q4]) (.tup [.int 0, .int 1]) = true:=by simpa [lessD] using c6
          rw [e6] at k
          rw [if_neg (by simpa using c6)]
          nofun
          exact k H2 S02
         ·have e6:lessD (.tup [.int p4, .int q4]) (.tup [.int 0, .int 1]) = false:=by simpa [lessD] using c6
          rw [e6] at k
          rw [if_pos (by simpa using c6)]
          nofun
          refine ixT (i:=5) (hq.same S02) rfl ?_
          nofun
          exact k H2 S02
        ·have e5:Ja6 d5 = false:=by simpa using c5
         rw [e5] at k ⊢
         nofun
         exact k H2 S02
       ·have e4:fracB d4 = false:=by simpa using c4
        rw [e4] at k ⊢
        nofun
        exact k H2 S02
      ·have e3:fracB d3 = false:=by simpa using c3
       rw [e3] at k ⊢
       nofun
       exact k H2 S02
     ·have e1:Jbe d1 d2 = false:=by simpa using c1
      rw [e1] at k ⊢
      nofun
      exact k H2 S02
    ·have e0:nameB d0 = false:=by simpa using c0
     rw [e0] at k ⊢
     nofun
     exact k H1 S1
  ·rw [if_pos (by simp; omega)]
   nofun
   have ef:partB (.tup ds) = false:=by
    unfold partB
    split
    ·rename_i e; cases e; simp at h6
    ·rfl
   rw [ef] at k
   nofun
   exact k H (.refl H)
 ·have ef:partB d = false:=by cases d <;> first | rfl | exact absurd ⟨_,rfl⟩ ht
  rw [ef] at k
  have et:isiB (tyD d) "tuple" = false:=by cases d <;> first | rfl | exact absurd ⟨_,rfl⟩ ht
  simpa only [et]
  exact k H (.refl H)
abbrev Bbo:Stmt:=top 32
theorem Jgr:Jaq ["thing"] ["thing"] (Jaf Bbo):=⟨rfl,rfl,rfl,by decide +kernel,rfl,by decide +kernel,by decide +kernel⟩
def Jc5 (K:PySem.W.Frag):Sp:=fun vs H Q E => ∃ (x:V) (d:D),vs = [x]∧Rep K H d x∧szD d∧∀ H',Same H H'→Q (.bl (gapB d)) H'
theorem Jga {f:Addr} {fd:FuncData} {dV:Value} (F:FunD K "is_gap" "is_gap" Bbo dV f fd) (T:Txt K mg Ad) (Bcb:Cal P w K mg base 5 "is_tie" ["thing"] [] (Jc6 K)):FnOk P w K mg base (CX1 P w) 6 f fd ["thing"] (Jc5 K):=by
 refine F.okn Jgr (fun vs H Q E h => ?_) (fun cdv A outer s H vs Q E hr h => ?_)
 ·obtain ⟨x,d,rfl,_⟩:=h; rfl
 obtain ⟨x,d,rfl,h⟩:=h
 have hu:=hr.units
 refine ⟨_,(Jai (Jao (Jb0 (Bcb.ev hr (by decide) rfl passF (Jaa (pv 0) Jad) (he:=by exact Jag rfl)) (Jb0 (Jbl JcK (pe_ix ix_U (pv 0) Jab (fun _ _ => rfl)) Jbf (Jaz _)) (JcC (Jbl JcK (pe_ix ix_U (pv 0) Jab (fun _ _ => rfl)) Jbf (Jaz _))))))), ?_⟩
 obtain ⟨hx,sz,k⟩:=h
 show tRet _ _ [some x] H
 nofun
 refine ⟨x,d,rfl,hx,sz,fun H1 S1 => ?_⟩
 nofun
 by_cases c:tieB d = true
 ·rw [if_pos c]
  nofun
  obtain ⟨n,s,e,l,g,rfl⟩:∃ n s e l g,d = .tup [n,s,e,l,g]:=by
   unfold tieB at c
   split at c
   ·exact ⟨_,_,_,_,_,rfl⟩
   ·cases c
  simp only [Rep,RepL] at hx
  obtain ⟨a,xs,rfl,hq,v0,r0,rfl,h0,v1,r1,rfl,h1,v2,r2,rfl,h2,v3,r3,rfl,h3,v4,r4,rfl,h4,rfl⟩:=hx
  simp only [gapB] at k
  rw [c] at k
  refine ixT (i:=3) (hq.same S1) rfl ?_
  simpa only [h3.nonV]
  by_cases n1:nonD l = true
  ·rw [n1] at k
   try rw [n1]
   nofun
   exact k H1 S1
  ·have n1':nonD l = false:=by simpa using n1
   rw [n1'] at k
   try rw [n1']
   nofun
   refine ixT (i:=4) (hq.same S1) rfl ?_
   simpa only [h4.nonV]
   exact k H1 S1
 ·rw [if_neg c]
  nofun
  have e0:gapB d = false:=by
   have c':tieB d = false:=by simpa using c
   unfold gapB
   split
   ·rw [c']; rfl
   ·rfl
  rw [e0] at k
  exact k H1 S1
abbrev Ba3:Stmt:=top 35
theorem JfC:Jaq ["thing"] ["thing"] (Jaf Ba3):=⟨rfl,rfl,rfl,by decide +kernel,rfl,by decide +kernel,by decide +kernel⟩
def JcA (K:PySem.W.Frag) (Ad:Adr):Sp:=fun vs H Q E => ∃ (x:V) (e:PD ⊕ D),vs = [x]∧PEV K H e x∧(match e with | .inr _ => ∀ H',Same H H'→E (.ref Ad.NoPart) none H' | .inl p => ∀ v H',Same H H'→POV K Ad H' p v→Q v H')
theorem Jfx {f:Addr} {fd:FuncData} {dV:Value} (F:FunD K "part_of" "part_of" Ba3 dV f fd) (T:Txt K mg Ad) (BbY:Cal P w K mg base 5 "is_part" ["thing"] [] (Jcx K)) (BcJ:KCal P w K mg base 1 "Part" Ad.Part ["self", "row"] (Jbd K)):FnOk P w K mg base (CX1 P w) 6 f fd ["thing"] (JcA K Ad):=by
 refine F.okx JfC (fun vs H Q E h => ?_) (fun cdv A outer s H vs Q E hr h => ?_)
 ·obtain ⟨x,e,rfl,_⟩:=h; rfl
 obtain ⟨x,e,rfl,h⟩:=h
 have hu:=hr.units
 refine ⟨_,(Jac (ps_if (Jbb (Jbc (BbY.ev hr (by decide) rfl pass1 (Jaa (pv 0) Jad) (he:=by exact Jag rfl))))
   (Jai (JbV PySem.F.excBase_ValueError T.Bbr rfl T.BcE (Jaa JaG Jad)))
   Jau)
   (Jai (Jao (BcJ.ev hr (by decide) rfl pass1 (Jaa (pv 0) Jad))))), ?_⟩
 obtain ⟨he,k⟩:=h
 show tSeq _ _ _ [some x] H
 nofun
 match e,he,k with
 | .inr c,he,k =>
  refine ⟨x,c,rfl,he.1,he.2.1,fun H1 S1 => ?_⟩
  rw [he.2.2]
  nofun
  exact ⟨by show 1 ≤ sizeLine; decide,k H1 S1⟩
 | .inl p,he,k =>
  refine ⟨x,pdD p,rfl,he.1.rep,he.2.sz,fun H1 S1 => ?_⟩
  rw [he.2.part]
  nofun
  obtain ⟨b,vz,vm,rfl,hq,hz,hm⟩:=he.1
  intro y dx hy hdx ne
  have S2:Same H1 (upd (upd H1 dx (.own y)) y (.ins Ad.Part dx [])):=fun b u q => by rw [Jae (Jah q hy),Jae (Jah q hdx)]; exact q
  refine ⟨y,_,dx,b,_,_,_,vz,vm,_,rfl,Jak,T.Bcp _ rfl,(hq.same S1).same S2,fun H' e o => ⟨rfl,k _ H' ?_ ⟨y,dx,vz,vm,rfl,e, ?_, ?_⟩⟩⟩
  ·exact S1.trans fun b u q => by rw [o b (Jah q hy)]; exact S2 _ _ q
  ·exact hz.same (S1.trans fun b u q => by rw [o b (Jah q hy)]; exact S2 _ _ q)
  ·exact hm.same (S1.trans fun b u q => by rw [o b (Jah q hy)]; exact S2 _ _ q)
abbrev Bbp:Stmt:=top 36
theorem Jgq:Jaq ["thing"] ["thing"] (Jaf Bbp):=⟨rfl,rfl,rfl,by decide +kernel,rfl,by decide +kernel,by decide +kernel⟩
def Jc4 (K:PySem.W.Frag) (Ad:Adr):Sp:=fun vs H Q E => ∃ (x:V) (e:GD ⊕ D),vs = [x]∧GEV K H e x∧(match e with | .inr _ => ∀ H',Same H H'→E (.ref Ad.NoGap) none H' | .inl g => ∀ v H',Same H H'→GOV K Ad H' g v→Q v H')
theorem Jf9 {f:Addr} {fd:FuncData} {dV:Value} (F:FunD K "gap_of" "gap_of" Bbp dV f fd) (T:Txt K mg Ad) (Bcc:Cal P w K mg base 6 "is_gap" ["thing"] [] (Jc5 K)) (BcW:KCal P w K mg base 1 "Gap" Ad.Gap ["self", "row"] (Jbn K)):FnOk P w K mg base (CX1 P w) 7 f fd ["thing"] (Jc4 K Ad):=by
 refine F.okx Jgq (fun vs H Q E h => ?_) (fun cdv A outer s H vs Q E hr h => ?_)
 ·obtain ⟨x,e,rfl,_⟩:=h; rfl
 obtain ⟨x,e,rfl,h⟩:=h
 have hu:=hr.units
 refine ⟨_,(Jac (ps_if (Jbb (Jbc (Bcc.ev hr (by decide) rfl pass1 (Jaa (pv 0) Jad) (he:=by exact Jag rfl))))
   (Jai (JbV PySem.F.excBase_ValueError T.BbM rfl T.BcH (Jaa JaG Jad)))
   Jau)
   (Jai (Jao (BcW.ev hr (by decide) rfl pass1 (Jaa (pv 0) Jad))))), ?_⟩
 obtain ⟨he,k⟩:=h
 show tSeq _ _ _ [some x] H
 nofun
 match e,he,k with
 | .inr c,he,k =>
  refine ⟨x,c,rfl,he.1,he.2.1,fun H1 S1 => ?_⟩
  rw [he.2.2]
  nofun
  exact ⟨by show 1 ≤ sizeLine; decide,k H1 S1⟩
 | .inl g,he,k =>
  refine ⟨x,tdD g.td,rfl,he.1.rep,he.2.sz,fun H1 S1 => ?_⟩
  rw [Jir he.2]
  nofun
  obtain ⟨b,vz,vm,rfl,hq,hz,hm⟩:=he.1
  replace hz:FrV K H vz g.lo.1 g.lo.2:=hz
  replace hm:FrV K H vm g.hi.1 g.hi.2:=hm
  intro y dx hy hdx ne
  have S2:Same H1 (upd (upd H1 dx (.own y)) y (.ins Ad.Gap dx [])):=fun b u q => by rw [Jae (Jah q hy),Jae (Jah q hdx)]; exact q
  refine ⟨y,_,dx,b,_,_,_,vz,vm,rfl,Jak,T.BcS _ rfl,(hq.same S1).same S2,fun H' e o => ⟨rfl,k _ H' ?_ ⟨y,dx,vz,vm,rfl,e, ?_, ?_⟩⟩⟩
  ·exact S1.trans fun b u q => by rw [o b (Jah q hy)]; exact S2 _ _ q
  ·exact hz.same (S1.trans fun b u q => by rw [o b (Jah q hy)]; exact S2 _ _ q)
  ·exact hm.same (S1.trans fun b u q => by rw [o b (Jah q hy)]; exact S2 _ _ q)
abbrev Bae:Stmt:=inClass (top 37) 0
theorem Jcl:Jaq ["self"] ["self"] (Jaf Bae):=⟨rfl,rfl,rfl,by decide +kernel,rfl,by decide +kernel,by decide +kernel⟩
def Ja4 (K:PySem.W.Frag) (Ad:Adr):Sp:=fun vs H Q E => ∃ (x dx:Addr),vs = [.ref x]∧H x = some (.ins Ad.Joints dx [])∧∀ d H',H d = none→d ≠ x→H' x = some (.ins Ad.Joints dx [("leads", .ref d)])→H' d = some (.dK [])→(∀ b u,b ≠ x→H b = some u→H' b = some u)→Q .non H'
theorem Jch {f:Addr} {fd:FuncData} {dV:Value} (F:FunD K "__init__" "Joints.__init__" Bae dV f fd) (T:Txt K mg Ad)  : FnOk P w K mg base (CX1 P w) 1 f fd ["self"] (Ja4 K Ad):=by
 refine F.okn Jcl (fun vs H Q E h => ?_) (fun cdv A outer s H vs Q E hr h => ?_)
 ·obtain ⟨x,dx,rfl,_⟩:=h; rfl
 obtain ⟨x,dx,rfl,h⟩:=h
 have hu:=hr.units
 refine ⟨_,(Jai (Jbm (pv 0) JbC rfl)), ?_⟩
 obtain ⟨hx,k⟩:=h
 have tc:=T.BbD _ rfl
 show sFld _ _ _ _ _ [some (.ref x)] H
 exfalso
 intro d h_d
 generalize q_d:upd H d _ = H1
 have S1:=newS h_d q_d
 have e1:=newE q_d
 exfalso
 refine ⟨x,_,dx,_,rfl,S1 _ _ hx,tc.cls,tc.n1,by simp, ?_⟩
 have ne:d ≠ x:=fun z => by rw [z,hx] at h_d; cases h_d
 exact k d _ h_d ne (Jak.trans rfl) (by rw [Jae ne]; exact e1) fun b u hb h => by rw [Jae hb]; exact S1 _ _ h
abbrev Bap:Stmt:=inClass (top 37) 1
theorem Jdc:Jaq ["self", "part"] ["self", "part"] (Jaf Bap):=⟨rfl,rfl,rfl,by decide +kernel,rfl,by decide +kernel,by decide +kernel⟩
def Jbv (K:PySem.W.Frag) (Ad:Adr):Sp:=fun vs H Q E => ∃ (j d:Addr) (v:V) (ls:List PD) (p:PD) (H0:Hp),vs = [.ref j,v]∧JK Ad H0 H j d ls∧Same H0 H∧POV K Ad H p v∧p.st ≠ p.en∧ls.length ≤ 20∧∀ H',Same H0 H'→SameJ d H H'→JK Ad H0 H' j d (ls ++ [p])→Q .non H'
theorem Jc8 {f:Addr} {fd:FuncData} {dV:Value} (F:FunD K "link" "Joints.link" Bap dV f fd) (T:Txt K mg Ad)  : FnOk P w K mg base (CX1 P w) 1 f fd ["self", "part"] (Jbv K Ad):=by
 refine F.okn Jdc (fun vs H Q E h => ?_) (fun cdv A outer s H vs Q E hr h => ?_)
 ·obtain ⟨j,d,v,ls,p,H0,rfl,_⟩:=h; rfl
 obtain ⟨j,d,v,ls,p,H0,rfl,h⟩:=h
 have hu:=hr.units
 refine ⟨_,(Jac (Ja7 (pe_bm PySem.F.plainAttrs_list PySem.F.slot_list_append PySem.F.type_list_append JaZ (Jgh (JaE (pv 0) rfl) (JaE (pv 1) rfl) (JaP Jad) ⟨rfl,rfl,rfl,rfl⟩) (Jaa (JaQ (Jaa (JaE (pv 1) rfl) (Jaa (JaQ (Jaa (JaE (pv 1) rfl) (Jaa pe_bl Jad))) Jad))) Jad) (hs:=by exact Jag rfl)))
   (Jai (Ja7 (pe_bm PySem.F.plainAttrs_list PySem.F.slot_list_append PySem.F.type_list_append JaZ (Jgh (JaE (pv 0) rfl) (JaE (pv 1) rfl) (JaP Jad) ⟨rfl,rfl,rfl,rfl⟩) (Jaa (JaQ (Jaa (JaE (pv 1) rfl) (Jaa (JaQ (Jaa (JaE (pv 1) rfl) (Jaa pe_bl Jad))) Jad))) Jad) (hs:=by exact Jag rfl))))), ?_⟩
 obtain ⟨⟨⟨dx,hj1⟩,hd0,kvs,hd1,hk,hJ1⟩,S01,hv,hne,hl,k⟩:=h
 obtain ⟨q,dq,vz,vm,rfl,hq1,hz,hm⟩:=hv
 have sl:(1000:Nat) ≤ sizeLine:=by decide
 have jc:=T.BbD _ rfl
 have pc:=T.Bcp _ rfl
 have nj:j ≠ d:=fun z => by rw [z,hd1] at hj1; cases hj1
 have nq:q ≠ d:=fun z => by rw [z,hd1] at hq1; cases hq1
 have hLn1:∀ f,(JaA ls f).length ≤ 20:=fun f => by have:=JdB ls f; omega
 show tSeq _ _ _ [some (.ref j),some (.ref q)] H
 and_intros
 obtain ⟨H1,hH⟩:∃ H',H' = H:=⟨_,rfl⟩
 subst hH
 refine ⟨j,_,dx,_, .ref d,rfl,hj1,jc.cls,jc.n1,rfl, ?_⟩
 and_intros
 refine ⟨d,rfl, .inl ⟨kvs, .inl hd1⟩, ?_⟩
 refine ⟨q,_,dq,_, .str p.st,rfl,hq1,pc.cls,pc.n2,rfl, ?_⟩
 and_intros
 refine ⟨len0, ?_⟩
 intro l1 h_l1
 generalize q_l1:upd H1 l1 _ = Hb1
 have Sb1:=newS h_l1 q_l1
 have eb1:=newE q_l1
 and_intros
 refine ⟨kvs,Sum.inr p.st,Sb1 _ _ hd1,rfl,by omega,fun v hv => ?_,fun hv => ?_⟩
 ·obtain ⟨l,xs,hlx,hl0,hlh,hla⟩:∃ l xs,v = .ref l∧H0 l = none∧H1 l = some (.lst xs)∧All2 (LeV H1) ((JaA ls) p.st) xs:=by
   rcases hJ1.at_ p.st with ⟨h1,_⟩ | ⟨l,xs,h1,h2,h3,h4⟩
   ·rw [hv] at h1; cases h1
   ·rw [hv] at h1; cases h1; exact ⟨l,xs,rfl,h2,h3,h4⟩
  subst hlx
  have lxs:xs.length ≤ 20:=by rw [hla.length]; exact hLn1 _
  refine ⟨.inl ⟨rfl,_,SqL.of (Sb1 _ _ hlh)⟩, ?_⟩
  and_intros
  have hq_c:=Sb1 _ _ hq1
  obtain ⟨Hc1,hHc⟩:∃ H',H' = Hb1:=⟨_,rfl⟩
  rw [← hHc] at hq_c ⊢
  refine ⟨q,_,dq,_, .str p.en,rfl,hq_c,pc.cls,pc.n3,rfl, ?_⟩
  and_intros
  refine ⟨q,_,dq,_, .str p.nm,rfl,hq_c,pc.cls,pc.n1,rfl, ?_⟩
  and_intros
  refine ⟨len2, ?_⟩
  intro tc1 h_tc1
  generalize q_tc1:upd Hc1 tc1 _ = Hd1
  have Sd1:=newS h_tc1 q_tc1
  have ed1:=newE q_tc1
  and_intros
  refine ⟨len2, ?_⟩
  intro tb1 h_tb1
  generalize q_tb1:upd Hd1 tb1 _ = He1
  have Se1:=newS h_tb1 q_tb1
  have ee1:=newE q_tb1
  and_intros
  have lev1:LeV He1 (p.en,(p.nm,true)) (.ref tb1):=⟨tb1,tc1,rfl,ee1,Se1 _ _ ed1⟩
  have Sce1:=Sd1.trans Se1
  have hle:=Sce1 _ _ (by rw [hHc]; exact Sb1 _ _ hlh:Hc1 l = some (.lst xs))
  refine ⟨l,xs,_,rfl,rfl,hle,by omega, ?_⟩
  generalize u2:upd He1 l _ = H2
  and_intros
  have Sbe:Same H1 He1:=fun b u h => Sce1 _ _ (by rw [hHc]; exact Sb1 _ _ h)
  have hJ2:=(hJ1.same Sbe).more hv hle lev1 u2
  have sj2:SameJ d H1 H2:=fun b u _ hu h => by rw [← u2,Jae (fun z => by have:=Sbe _ _ h; rw [z,hle] at this; cases this; exact hu _ rfl)]; exact Sbe _ _ h
  have hd2:H2 d = some (.dK kvs):=by rw [← u2,Jae (fun z => by have:=Sbe _ _ hd1; rw [z,hle] at this; cases this)]; exact Sbe _ _ hd1
  have S02:Same H0 H2:=fun b u h => by rw [← u2,Jae (Jah h hl0)]; exact Sbe _ _ (S01 _ _ h)
  have hj2:=sj2 _ _ nj (by intro xs z; cases z) hj1
  have hq2:=sj2 _ _ nq (by intro xs z; cases z) hq1
  have hLn2:∀ f,(addL (JaA ls) p.st (p.en,(p.nm,true)) f).length ≤ 21:=fun f => by
   have:=JdB ls f
   unfold addL
   split
   ·rw [List.length_append,List.length_singleton]; omega
   ·omega
  and_intros
  refine ⟨j,_,dx,_, .ref d,rfl,hj2,jc.cls,jc.n1,rfl, ?_⟩
  and_intros
  refine ⟨d,rfl, .inl ⟨kvs, .inl hd2⟩, ?_⟩
  refine ⟨q,_,dq,_, .str p.en,rfl,hq2,pc.cls,pc.n3,rfl, ?_⟩
  and_intros
  refine ⟨len0, ?_⟩
  intro l2 h_l2
  generalize q_l2:upd H2 l2 _ = Hb2
  have Sb2:=newS h_l2 q_l2
  have eb2:=newE q_l2
  and_intros
  refine ⟨kvs,Sum.inr p.en,Sb2 _ _ hd2,rfl,by omega,fun v hv => ?_,fun hv => ?_⟩
  ·obtain ⟨l,xs,hlx,hl0,hlh,hla⟩:∃ l xs,v = .ref l∧H0 l = none∧H2 l = some (.lst xs)∧All2 (LeV H2) ((addL (JaA ls) p.st (p.en,(p.nm,true))) p.en) xs:=by
    rcases hJ2.at_ p.en with ⟨h1,_⟩ | ⟨l,xs,h1,h2,h3,h4⟩
    ·rw [hv] at h1; cases h1
    ·rw [hv] at h1; cases h1; exact ⟨l,xs,rfl,h2,h3,h4⟩
   subst hlx
   have lxs:xs.length ≤ 21:=by rw [hla.length]; exact hLn2 _
   refine ⟨.inl ⟨rfl,_,SqL.of (Sb2 _ _ hlh)⟩, ?_⟩
   and_intros
   have hq_c:=Sb2 _ _ hq2
   obtain ⟨Hc2,hHc⟩:∃ H',H' = Hb2:=⟨_,rfl⟩
   rw [← hHc] at hq_c ⊢
   refine ⟨q,_,dq,_, .str p.st,rfl,hq_c,pc.cls,pc.n2,rfl, ?_⟩
   and_intros
   refine ⟨q,_,dq,_, .str p.nm,rfl,hq_c,pc.cls,pc.n1,rfl, ?_⟩
   and_intros
   refine ⟨len2, ?_⟩
   intro tc2 h_tc2
   generalize q_tc2:upd Hc2 tc2 _ = Hd2
   have Sd2:=newS h_tc2 q_tc2
   have ed2:=newE q_tc2
   and_intros
   refine ⟨len2, ?_⟩
   intro tb2 h_tb2
   generalize q_tb2:upd Hd2 tb2 _ = He2
   have Se2:=newS h_tb2 q_tb2
   have ee2:=newE q_tb2
   and_intros
   have lev2:LeV He2 (p.st,(p.nm,false)) (.ref tb2):=⟨tb2,tc2,rfl,ee2,Se2 _ _ ed2⟩
   have Sce2:=Sd2.trans Se2
   have hle:=Sce2 _ _ (by rw [hHc]; exact Sb2 _ _ hlh:Hc2 l = some (.lst xs))
   refine ⟨l,xs,_,rfl,rfl,hle,by omega, ?_⟩
   generalize u3:upd He2 l _ = H3
   and_intros
   have Sbe:Same H2 He2:=fun b u h => Sce2 _ _ (by rw [hHc]; exact Sb2 _ _ h)
   have hJ3:=(hJ2.same Sbe).more hv hle lev2 u3
   have sj3:SameJ d H2 H3:=fun b u _ hu h => by rw [← u3,Jae (fun z => by have:=Sbe _ _ h; rw [z,hle] at this; cases this; exact hu _ rfl)]; exact Sbe _ _ h
   have hd3:H3 d = some (.dK kvs):=by rw [← u3,Jae (fun z => by have:=Sbe _ _ hd2; rw [z,hle] at this; cases this)]; exact Sbe _ _ hd2
   have S03:Same H0 H3:=fun b u h => by rw [← u3,Jae (Jah h hl0)]; exact Sbe _ _ (S02 _ _ h)
   rw [Jce hne] at hJ3
   refine k H3 S03 (fun b u hb hu h => sj3 b u hb hu (sj2 b u hb hu h)) ⟨⟨dx,sj3 _ _ nj (by intro xs z; cases z) hj2⟩,hd0,_,hd3, ?_,hJ3⟩
   rw [List.length_append,List.length_singleton]
   omega
  ·have hn0:H0 l2 = none:=by
    cases e:H0 l2 with
    | none => rfl
    | some o => rw [S02 _ _ e] at h_l2; cases h_l2
   generalize uc:upd Hb2 d _ = Hc2
   and_intros
   have nd:l2 ≠ d:=fun z => by rw [z,hd2] at h_l2; cases h_l2
   have elc:Hc2 l2 = some (.lst []):=by rw [← uc,Jae nd]; exact eb2
   have scx:∀ b u,b ≠ d→H2 b = some u→Hc2 b = some u:=fun b u hb h => by rw [← uc,Jae hb]; exact Sb2 _ _ h
   have hdc:Hc2 d = some (.dK (putK kvs (Sum.inr p.en) (.ref l2))):=by rw [← uc,Jak]
   refine ⟨.inl ⟨rfl,_,SqL.of elc⟩, ?_⟩
   and_intros
   have hq_c:=scx _ _ (fun z => by rw [z,hd2] at hq2; cases hq2) hq2
   refine ⟨q,_,dq,_, .str p.st,rfl,hq_c,pc.cls,pc.n2,rfl, ?_⟩
   and_intros
   refine ⟨q,_,dq,_, .str p.nm,rfl,hq_c,pc.cls,pc.n1,rfl, ?_⟩
   and_intros
   refine ⟨len2, ?_⟩
   intro tc2 h_tc2
   generalize q_tc2:upd Hc2 tc2 _ = Hd2
   have Sd2:=newS h_tc2 q_tc2
   have ed2:=newE q_tc2
   and_intros
   refine ⟨len2, ?_⟩
   intro tb2 h_tb2
   generalize q_tb2:upd Hd2 tb2 _ = He2
   have Se2:=newS h_tb2 q_tb2
   have ee2:=newE q_tb2
   and_intros
   have lev2:LeV He2 (p.st,(p.nm,false)) (.ref tb2):=⟨tb2,tc2,rfl,ee2,Se2 _ _ ed2⟩
   have Sce2:=Sd2.trans Se2
   have hle:=Sce2 _ _ elc
   refine ⟨l2,[],_,rfl,rfl,hle,by show 0 < sizeLine; omega, ?_⟩
   generalize u3:upd He2 l2 _ = H3
   and_intros
   have hJ3:=((hJ2.sx scx hd2).same Sce2).first hv hn0 (fun g l' hl' z => by
    rcases hJ2.at_ g with ⟨h1,_⟩ | ⟨l2,xs2,h1,_,h3,_⟩
    ·rw [hl'] at h1; cases h1
    ·rw [hl'] at h1; cases h1; rw [z,h_l2] at h3; cases h3) hle lev2 u3
   have sj3:SameJ d H2 H3:=fun b u hb hu h => by rw [← u3,Jae (fun z => by rw [z,h_l2] at h; cases h)]; exact Sce2 _ _ (scx _ _ hb h)
   have hd3:=Sce2 _ _ hdc
   rw [show He2 d = H3 d by rw [← u3,Jae (Ne.symm nd)]] at hd3
   have S03:Same H0 H3:=fun b u h => by rw [← u3,Jae (Jah h hn0)]; exact Sce2 _ _ (scx _ _ (Jah h hd0) (S02 _ _ h))
   have lp:=JaC kvs (Sum.inr p.en) (V.ref l2)
   rw [Jce hne] at hJ3
   refine k H3 S03 (fun b u hb hu h => sj3 b u hb hu (sj2 b u hb hu h)) ⟨⟨dx,sj3 _ _ nj (by intro xs z; cases z) hj2⟩,hd0,_,hd3, ?_,hJ3⟩
   rw [List.length_append,List.length_singleton]
   omega
 ·have hn0:H0 l1 = none:=by
   cases e:H0 l1 with
   | none => rfl
   | some o => rw [S01 _ _ e] at h_l1; cases h_l1
  generalize uc:upd Hb1 d _ = Hc1
  and_intros
  have nd:l1 ≠ d:=fun z => by rw [z,hd1] at h_l1; cases h_l1
  have elc:Hc1 l1 = some (.lst []):=by rw [← uc,Jae nd]; exact eb1
  have scx:∀ b u,b ≠ d→H1 b = some u→Hc1 b = some u:=fun b u hb h => by rw [← uc,Jae hb]; exact Sb1 _ _ h
  have hdc:Hc1 d = some (.dK (putK kvs (Sum.inr p.st) (.ref l1))):=by rw [← uc,Jak]
  refine ⟨.inl ⟨rfl,_,SqL.of elc⟩, ?_⟩
  and_intros
  have hq_c:=scx _ _ (fun z => by rw [z,hd1] at hq1; cases hq1) hq1
  refine ⟨q,_,dq,_, .str p.en,rfl,hq_c,pc.cls,pc.n3,rfl, ?_⟩
  and_intros
  refine ⟨q,_,dq,_, .str p.nm,rfl,hq_c,pc.cls,pc.n1,rfl, ?_⟩
  and_intros
  refine ⟨len2, ?_⟩
  intro tc1 h_tc1
  generalize q_tc1:upd Hc1 tc1 _ = Hd1
  have Sd1:=newS h_tc1 q_tc1
  have ed1:=newE q_tc1
  and_intros
  refine ⟨len2, ?_⟩
  intro tb1 h_tb1
  generalize q_tb1:upd Hd1 tb1 _ = He1
  have Se1:=newS h_tb1 q_tb1
  have ee1:=newE q_tb1
  and_intros
  have lev1:LeV He1 (p.en,(p.nm,true)) (.ref tb1):=⟨tb1,tc1,rfl,ee1,Se1 _ _ ed1⟩
  have Sce1:=Sd1.trans Se1
  have hle:=Sce1 _ _ elc
  refine ⟨l1,[],_,rfl,rfl,hle,by show 0 < sizeLine; omega, ?_⟩
  generalize u2:upd He1 l1 _ = H2
  and_intros
  have hJ2:=((hJ1.sx scx hd1).same Sce1).first hv hn0 (fun g l' hl' z => by
   rcases hJ1.at_ g with ⟨h1,_⟩ | ⟨l2,xs2,h1,_,h3,_⟩
   ·rw [hl'] at h1; cases h1
   ·rw [hl'] at h1; cases h1; rw [z,h_l1] at h3; cases h3) hle lev1 u2
  have sj2:SameJ d H1 H2:=fun b u hb hu h => by rw [← u2,Jae (fun z => by rw [z,h_l1] at h; cases h)]; exact Sce1 _ _ (scx _ _ hb h)
  have hd2:=Sce1 _ _ hdc
  rw [show He1 d = H2 d by rw [← u2,Jae (Ne.symm nd)]] at hd2
  have S02:Same H0 H2:=fun b u h => by rw [← u2,Jae (Jah h hn0)]; exact Sce1 _ _ (scx _ _ (Jah h hd0) (S01 _ _ h))
  have lp:=JaC kvs (Sum.inr p.st) (V.ref l1)
  have hj2:=sj2 _ _ nj (by intro xs z; cases z) hj1
  have hq2:=sj2 _ _ nq (by intro xs z; cases z) hq1
  have hLn2:∀ f,(addL (JaA ls) p.st (p.en,(p.nm,true)) f).length ≤ 21:=fun f => by
   have:=JdB ls f
   unfold addL
   split
   ·rw [List.length_append,List.length_singleton]; omega
   ·omega
  and_intros
  refine ⟨j,_,dx,_, .ref d,rfl,hj2,jc.cls,jc.n1,rfl, ?_⟩
  and_intros
  refine ⟨d,rfl, .inl ⟨(putK kvs (Sum.inr p.st) (V.ref l1)), .inl hd2⟩, ?_⟩
  refine ⟨q,_,dq,_, .str p.en,rfl,hq2,pc.cls,pc.n3,rfl, ?_⟩
  and_intros
  refine ⟨len0, ?_⟩
  intro l2 h_l2
  generalize q_l2:upd H2 l2 _ = Hb2
  have Sb2:=newS h_l2 q_l2
  have eb2:=newE q_l2
  and_intros
  refine ⟨(putK kvs (Sum.inr p.st) (V.ref l1)),Sum.inr p.en,Sb2 _ _ hd2,rfl,by omega,fun v hv => ?_,fun hv => ?_⟩
  ·obtain ⟨l,xs,hlx,hl0,hlh,hla⟩:∃ l xs,v = .ref l∧H0 l = none∧H2 l = some (.lst xs)∧All2 (LeV H2) ((addL (JaA ls) p.st (p.en,(p.nm,true))) p.en) xs:=by
    rcases hJ2.at_ p.en with ⟨h1,_⟩ | ⟨l,xs,h1,h2,h3,h4⟩
    ·rw [hv] at h1; cases h1
    ·rw [hv] at h1; cases h1; exact ⟨l,xs,rfl,h2,h3,h4⟩
   subst hlx
   have lxs:xs.length ≤ 21:=by rw [hla.length]; exact hLn2 _
   refine ⟨.inl ⟨rfl,_,SqL.of (Sb2 _ _ hlh)⟩, ?_⟩
   and_intros
   have hq_c:=Sb2 _ _ hq2
   obtain ⟨Hc2,hHc⟩:∃ H',H' = Hb2:=⟨_,rfl⟩
   rw [← hHc] at hq_c ⊢
   refine ⟨q,_,dq,_, .str p.st,rfl,hq_c,pc.cls,pc.n2,rfl, ?_⟩
   and_intros
   refine ⟨q,_,dq,_, .str p.nm,rfl,hq_c,pc.cls,pc.n1,rfl, ?_⟩
   and_intros
   refine ⟨len2, ?_⟩
   intro tc2 h_tc2
   generalize q_tc2:upd Hc2 tc2 _ = Hd2
   have Sd2:=newS h_tc2 q_tc2
   have ed2:=newE q_tc2
   and_intros
   refine ⟨len2, ?_⟩
   intro tb2 h_tb2
   generalize q_tb2:upd Hd2 tb2 _ = He2
   have Se2:=newS h_tb2 q_tb2
   have ee2:=newE q_tb2
   and_intros
   have lev2:LeV He2 (p.st,(p.nm,false)) (.ref tb2):=⟨tb2,tc2,rfl,ee2,Se2 _ _ ed2⟩
   have Sce2:=Sd2.trans Se2
   have hle:=Sce2 _ _ (by rw [hHc]; exact Sb2 _ _ hlh:Hc2 l = some (.lst xs))
   refine ⟨l,xs,_,rfl,rfl,hle,by omega, ?_⟩
   generalize u3:upd He2 l _ = H3
   and_intros
   have Sbe:Same H2 He2:=fun b u h => Sce2 _ _ (by rw [hHc]; exact Sb2 _ _ h)
   have hJ3:=(hJ2.same Sbe).more hv hle lev2 u3
   have sj3:SameJ d H2 H3:=fun b u _ hu h => by rw [← u3,Jae (fun z => by have:=Sbe _ _ h; rw [z,hle] at this; cases this; exact hu _ rfl)]; exact Sbe _ _ h
   have hd3:H3 d = some (.dK (putK kvs (Sum.inr p.st) (V.ref l1))):=by rw [← u3,Jae (fun z => by have:=Sbe _ _ hd2; rw [z,hle] at this; cases this)]; exact Sbe _ _ hd2
   have S03:Same H0 H3:=fun b u h => by rw [← u3,Jae (Jah h hl0)]; exact Sbe _ _ (S02 _ _ h)
   rw [Jce hne] at hJ3
   refine k H3 S03 (fun b u hb hu h => sj3 b u hb hu (sj2 b u hb hu h)) ⟨⟨dx,sj3 _ _ nj (by intro xs z; cases z) hj2⟩,hd0,_,hd3, ?_,hJ3⟩
   rw [List.length_append,List.length_singleton]
   omega
  ·have hn0:H0 l2 = none:=by
    cases e:H0 l2 with
    | none => rfl
    | some o => rw [S02 _ _ e] at h_l2; cases h_l2
   generalize uc:upd Hb2 d _ = Hc2
   and_intros
   have nd:l2 ≠ d:=fun z => by rw [z,hd2] at h_l2; cases h_l2
   have elc:Hc2 l2 = some (.lst []):=by rw [← uc,Jae nd]; exact eb2
   have scx:∀ b u,b ≠ d→H2 b = some u→Hc2 b = some u:=fun b u hb h => by rw [← uc,Jae hb]; exact Sb2 _ _ h
   have hdc:Hc2 d = some (.dK (putK (putK kvs (Sum.inr p.st) (V.ref l1)) (Sum.inr p.en) (.ref l2))):=by rw [← uc,Jak]
   refine ⟨.inl ⟨rfl,_,SqL.of elc⟩, ?_⟩
   and_intros
   have hq_c:=scx _ _ (fun z => by rw [z,hd2] at hq2; cases hq2) hq2
   refine ⟨q,_,dq,_, .str p.st,rfl,hq_c,pc.cls,pc.n2,rfl, ?_⟩
   and_intros
   refine ⟨q,_,dq,_, .str p.nm,rfl,hq_c,pc.cls,pc.n1,rfl, ?_⟩
   and_intros
   refine ⟨len2, ?_⟩
   intro tc2 h_tc2
   generalize q_tc2:upd Hc2 tc2 _ = Hd2
   have Sd2:=newS h_tc2 q_tc2
   have ed2:=newE q_tc2
   and_intros
   refine ⟨len2, ?_⟩
   intro tb2 h_tb2
   generalize q_tb2:upd Hd2 tb2 _ = He2
   have Se2:=newS h_tb2 q_tb2
   have ee2:=newE q_tb2
   and_intros
   have lev2:LeV He2 (p.st,(p.nm,false)) (.ref tb2):=⟨tb2,tc2,rfl,ee2,Se2 _ _ ed2⟩
   have Sce2:=Sd2.trans Se2
   have hle:=Sce2 _ _ elc
   refine ⟨l2,[],_,rfl,rfl,hle,by show 0 < sizeLine; omega, ?_⟩
   generalize u3:upd He2 l2 _ = H3
   and_intros
   have hJ3:=((hJ2.sx scx hd2).same Sce2).first hv hn0 (fun g l' hl' z => by
    rcases hJ2.at_ g with ⟨h1,_⟩ | ⟨l2,xs2,h1,_,h3,_⟩
    ·rw [hl'] at h1; cases h1
    ·rw [hl'] at h1; cases h1; rw [z,h_l2] at h3; cases h3) hle lev2 u3
   have sj3:SameJ d H2 H3:=fun b u hb hu h => by rw [← u3,Jae (fun z => by rw [z,h_l2] at h; cases h)]; exact Sce2 _ _ (scx _ _ hb h)
   have hd3:=Sce2 _ _ hdc
   rw [show He2 d = H3 d by rw [← u3,Jae (Ne.symm nd)]] at hd3
   have S03:Same H0 H3:=fun b u h => by rw [← u3,Jae (Jah h hn0)]; exact Sce2 _ _ (scx _ _ (Jah h hd0) (S02 _ _ h))
   have lp:=JaC (putK kvs (Sum.inr p.st) (V.ref l1)) (Sum.inr p.en) (V.ref l2)
   rw [Jce hne] at hJ3
   refine k H3 S03 (fun b u hb hu h => sj3 b u hb hu (sj2 b u hb hu h)) ⟨⟨dx,sj3 _ _ nj (by intro xs z; cases z) hj2⟩,hd0,_,hd3, ?_,hJ3⟩
   rw [List.length_append,List.length_singleton]
   omega
abbrev Bad:Stmt:=inClass (top 37) 2
theorem JaF:Jaq ["self", "one", "other", "found", "waiting", "face", "lead"] ["self", "one", "other"] (Jaf Bad):=⟨rfl,rfl,rfl,by decide +kernel,rfl,by decide +kernel,by decide +kernel⟩
def JaU (K:PySem.W.Frag) (Ad:Adr):Sp:=fun vs H Q E => ∃ (j d:Addr) (one other:Str) (ls:List PD) (H0:Hp),vs = [.ref j, .str one, .str other]∧JK Ad H0 H j d ls∧ls.length ≤ 20∧(ls.map (·.nm)).Nodup∧(¬ Conn ls one other→∀ H',Same H H'→Q .non H')∧(∀ w l xs H',Same H H'→H l = none→H' l = some (.lst xs)→All2 (CV H') w xs→Jbp ls one w other→(w.map (·.1)).Nodup→Q (.ref l) H')
theorem JbO {f:Addr} {fd:FuncData} {dV:Value} (F:FunD K "way_between" "Joints.way_between" Bad dV f fd) (T:Txt K mg Ad)  : FnOk P w K mg base (CX1 P w) 1 f fd ["self", "one", "other"] (JaU K Ad):=by
 refine F.okn JaF (fun vs H Q E h => ?_) (fun cdv A outer s H vs Q E hr h => ?_)
 ·obtain ⟨j,d,one,other,ls,H0,rfl,_⟩:=h; rfl
 obtain ⟨j,d,one,other,ls,H0,rfl,h⟩:=h
 have hu:=hr.units
 refine ⟨_,(Jac (Jar (i:=3) JaF.nd rfl (Or.inl rfl) (Jh2 (Jg6 (pv 1) (JaP Jad) Jh4) rfl rfl (by simp) (by decide)))
   (Jac (Jar (i:=4) JaF.nd rfl (Or.inl rfl) (JaP (Jaa (pv 1) Jad)))
   (Jac (JdN PassesOwn.never (Jay Jhl (JaB JaY rfl T.Bb8 JbZ (Jaa (pv 4) Jad)) Jab (Jaz _))
   (Jac (Jar (i:=5) JaF.nd rfl (Or.inl rfl) (Jhn PySem.F.plainAttrs_list PySem.F.slot_list_pop PySem.F.type_list_pop JiB (pv 4)))
   (Jai (Jcj PassesOwn.never rfl (pi_U (JdJ (hu1 hu) (JaE (pv 0) rfl) (pv 5) (JaP Jad) ⟨rfl,rfl,rfl,rfl⟩)) (JaR (i:=6) JaF.nd rfl (Or.inl rfl))
   (Jai (ps_if (Jck (Jc1 (hu1 hu) (pe_ix ix_U (pv 6) Jab (fun _ _ => rfl)) (pv 3)) (by with_unfolding_all rfl))
   (Jac (JbD (hu1 hu) (pv 3) (pe_ix ix_U (pv 6) Jab (fun _ _ => rfl)) (pe_op JaH (Jcw (hu1 hu) (pv 3) (pv 5) (fun _ _ => rfl)) (JaP (Jaa (pe_ix ix_U (pv 6) Jab (fun _ _ => rfl)) Jad))) rfl)
   (Jai (Ja7 (pe_bm PySem.F.plainAttrs_list PySem.F.slot_list_append PySem.F.type_list_append JaZ (pv 4) (Jaa (pe_ix ix_U (pv 6) Jab (fun _ _ => rfl)) Jad) (hs:=by exact Jag rfl)))))
   Jau))))))
   (Jai (Jao (Jg2 (hu1 hu) (pv 3) (pv 2) ⟨rfl,rfl,rfl,rfl⟩)))))), ?_⟩
 obtain ⟨⟨⟨dx,hj⟩,hd0,kvs,hd,hk,hJ⟩,hl,hnd,k1,k2⟩:=h
 have sl:(1000:Nat) ≤ sizeLine:=by decide
 have jc:=T.BbD _ rfl
 show tSeq _ _ _ [some (.ref j),some (.str one),some (.str other),none,none,none,none] H
 and_intros
 intro fd h_fd
 generalize q_fd:upd H fd _ = H1
 have S1:=newS h_fd q_fd
 have e1:=newE q_fd
 and_intros
 refine ⟨len0, ?_⟩
 intro l0 h_l0
 generalize q_l0:upd H1 l0 _ = H2
 have S2:=newS h_l0 q_l0
 have e2:=newE q_l0
 and_intros
 refine ⟨S2 _ _ e1,[(Sum.inr one, .ref l0)],rfl,by show 1 ≤ 15; omega, ?_⟩
 generalize u3:upd H2 fd _ = H3
 and_intros
 have e3:H3 fd = some (.dK [(Sum.inr one, .ref l0)]):=by rw [← u3]; exact Jak.trans rfl
 have nl0:l0 ≠ fd:=fun z => by rw [z,e1] at h_l0; cases h_l0
 have e3l:H3 l0 = some (.lst []):=by rw [← u3,Jae nl0]; exact e2
 have S03:Same H H3:=fun b u h => by rw [← u3,Jae (Jah h h_fd)]; exact S2 _ _ (S1 _ _ h)
 have h0l:H l0 = none:=by
  cases e:H l0 with
  | none => rfl
  | some o => rw [S1 _ _ e] at h_l0; cases h_l0
 refine ⟨by show 1 ≤ sizeLine; omega, ?_⟩
 intro wl h_wl
 generalize q_wl:upd H3 wl _ = H4
 have S4:=newS h_wl q_wl
 have e4:=newE q_wl
 and_intros
 have h0w:H wl = none:=by
  cases e:H wl with
  | none => rfl
  | some o => rw [S03 _ _ e] at h_wl; cases h_wl
 have nwl:l0 ≠ wl:=fun z => by rw [← z,e3l] at h_wl; cases h_wl
 have nfw:fd ≠ wl:=fun z => by rw [← z,e3] at h_wl; cases h_wl
 have sr0:Srch H ls one fd wl H4 [(one,[])] [one]:=⟨S03.trans S4,⟨_,S4 _ _ e3,rfl, .ref l0,[],rfl,⟨l0,[],rfl,h0l,nwl,S4 _ _ e3l,rfl⟩,rfl⟩,by simp,by simp,fun a ha => by rw [List.mem_singleton.mp ha]; exact .nil,e4,by simp,by simp,fun a ha => by rw [List.mem_singleton.mp ha]; simp⟩
 refine ⟨fun m σ H' => ∃ (v5 v6:Option V) (ws:List (Str × List Pr)) (wt:List Str), σ = [some (.ref j),some (.str one),some (.str other),some (.ref fd),some (.ref wl),v5,v6]∧Srch H ls one fd wl H' ws wt∧(∀ a ∈ ws,a.1 ∉ wt→∀ e ∈ JaA ls a.1,e.1 ∈ ws.map (·.1))∧m = 2 * (41 - ws.length) + wt.length∧m ≤ 81,⟨_,none,none,[(one,[])],[one],rfl,sr0,fun a ha hn => absurd (by rw [List.mem_singleton.mp ha]; simp) hn,rfl,by simp⟩, ?_⟩
 rintro m σ H5 ⟨v5,v6,ws,wt,rfl,sr,cl,rfl,m81⟩
 and_intros
 refine ⟨_, .inl (SqL.of sr.wait), ?_⟩
 and_intros
 rcases List.eq_nil_or_concat wt with rfl | ⟨wt',face,rfl⟩
 ·rw [if_neg (by simp)]
  and_intros
  obtain ⟨kv5,hf5,hb5⟩:=sr.dict
  and_intros
  refine ⟨fd,rfl, .inl ⟨kv5, .inl hf5⟩,_,DGet.k (k:=Sum.inr other) hf5, ?_⟩
  rcases hb5.get (z:=other) with ⟨a,v,h1,h2,h3,l,xs,rfl,h4,_,h5,h6⟩ | ⟨h1,h2⟩
  ·rw [h3]
   exact k2 a.2 l xs H5 sr.same h4 h5 h6 (by rw [← h2]; exact sr.walk a h1) (sr.sim a h1).1
  ·rw [h2]
   refine k1 (fun hc => h1 (JhH sr.here (fun f hf e he => ?_) hc)) H5 sr.same
   obtain ⟨a,ha,rfl⟩:=List.mem_map.mp hf
   exact cl a ha (by simp) e he
 ·rw [if_pos (by simp)]
  and_intros
  rw [List.concat_eq_append] at sr cl m81 ⊢
  refine ⟨_,fun _ _ q => q, ?_⟩
  and_intros
  refine ⟨.inl ⟨rfl,_,SqL.of sr.wait⟩, ?_⟩
  refine ⟨wl,_, .str face,rfl,rfl,sr.wait,by simp, ?_⟩
  generalize u6:upd H5 wl _ = H6
  and_intros
  have ed:((wt' ++ [face]).map V.str).dropLast = wt'.map V.str:=by simp
  rw [ed] at u6
  have sr6:Srch H ls one fd wl H6 ws wt':=sr.wait' h0w u6 fun f hf => sr.sub f (by simp [hf])
  have hface:=sr.sub face (by simp)
  and_intros
  refine ⟨j,_,dx,_, .ref d,rfl,sr6.same _ _ hj,jc.cls,jc.n1,rfl, ?_⟩
  and_intros
  refine ⟨d,rfl, .inl ⟨kvs, .inl (sr6.same _ _ hd)⟩,len0, ?_⟩
  intro le h_le
  generalize q_le:upd H6 le _ = H7
  have S7:=newS h_le q_le
  have e7:=newE q_le
  and_intros
  have sr7:=sr6.grow S7
  have nle:le ≠ wl:=fun z => by have:=sr6.wait; rw [← z,h_le] at this; cases this
  refine ⟨_,DGet.k (k:=Sum.inr face) (sr7.same _ _ hd), ?_⟩
  obtain ⟨la,xs,hla,hxs,hlx,nla⟩:∃ la xs,(valV kvs (Sum.inr face)).getD (.ref le) = .ref la∧H7 la = some (.lst xs)∧All2 (LeV H7) (JaA ls face) xs∧la ≠ wl:=by
   rcases hJ.at_ face with ⟨h1,h2⟩ | ⟨l,xs,h1,h2,h3,h4⟩
   ·exact ⟨le,[],by rw [h1]; rfl,e7,by rw [h2]; rfl,nle⟩
   ·exact ⟨l,xs,by rw [h1]; rfl,sr7.same _ _ h3,h4.mono fun _ _ z => z.sameT sr7.same.t,Jah h3 h0w⟩
  have lx:=hlx.length
  have l41:=sr7.len hl
  refine ⟨la,hla,ForA.byLN (xs:=xs) (SqL.of hxs) (fun i σ H' => i ≤ xs.length∧∃ (v6:Option V) (ws2:List (Str × List Pr)) (wt2:List Str), σ = [some (.ref j),some (.str one),some (.str other),some (.ref fd),some (.ref wl),some (.str face),v6]∧Srch H ls one fd wl H' ws2 wt2∧H' la = some (.lst xs)∧SameT H7 H'∧(∀ a ∈ ws2,a.1 ∉ wt2→a.1 ≠ face→∀ e ∈ JaA ls a.1,e.1 ∈ ws2.map (·.1))∧(∀ e ∈ (JaA ls face).take i,e.1 ∈ ws2.map (·.1))∧face ∈ ws2.map (·.1)∧2 * (41 - ws2.length) + wt2.length ≤ 2 * (41 - ws.length) + wt'.length) ⟨Nat.zero_le _,v6,ws,wt',rfl,sr7,hxs,SameT.refl _,fun a ha h1 h2 => cl a ha (by simp [h1,h2]),by simp,hface,Nat.le_refl _⟩ (fun i σ H' z => by obtain ⟨_,_,_,_,_,_,z,_⟩:=z; exact SqL.of z) ?_ ?_⟩
  ·rintro i y σ H8 hy ⟨hi,v6,ws2,wt2,rfl,sr8,hl8,T78,cl8,pt8,fc8,ms8⟩ N0 hN0
   have li:i < xs.length:=(List.getElem?_eq_some_iff.mp hy).1
   obtain ⟨e,he,b,c,rfl,hb7,hc7⟩:=hlx.at_ hy
   have hb8:=T78 _ _ rfl hb7
   have hc8:=T78 _ _ rfl hc7
   have etk:(JaA ls face).take (i + 1) = (JaA ls face).take i ++ [e]:=by rw [List.take_succ,he]; rfl
   have hem:e ∈ JaA ls face:=List.mem_of_getElem? he
   obtain ⟨kv8,hf8,bg8⟩:=sr8.dict
   and_intros
   refine ixT (i:=0) (SqT.of hb8) rfl ?_
   refine ⟨fd,_,rfl,DGet.k (k:=Sum.inr e.1) hf8, ?_⟩
   rw [bg8.val]
   by_cases cin:e.1 ∈ ws2.map (·.1)
   ·rw [decide_eq_true cin]
    and_intros
    refine hN0 _ _ ⟨li,_,ws2,wt2,rfl,sr8,hl8,T78,cl8,fun e' he' => ?_,fc8,ms8⟩
    rw [etk] at he'
    rcases List.mem_append.mp he' with h' | h'
    ·exact pt8 e' h'
    ·rw [List.mem_singleton.mp h']
     exact cin
   ·rw [decide_eq_false cin]
    and_intros
    obtain ⟨a,v,ha,haf,hv,l,xw,rfl,hl0,hlw,hlx8,hxa⟩:=bg8.some fc8
    have wl8:=sr8.lw a ha
    have w41:=sr8.len hl
    have lxw:=hxa.length
    refine ⟨fd, .ref l,rfl,by rw [← hv]; exact DGet.k (k:=Sum.inr face) hf8, ?_⟩
    refine ixT (i:=1) (SqT.of hb8) rfl ?_
    refine ⟨by show 1 ≤ sizeLine; omega, ?_⟩
    intro ln h_ln
    generalize q_ln:upd H8 ln _ = H9
    have S9:=newS h_ln q_ln
    have e9:=newE q_ln
    and_intros
    refine .inl ⟨l,ln,xw,_,rfl,rfl,S9 _ _ hlx8,e9,by simp; omega, ?_⟩
    intro lr h_lr
    generalize q_lr:upd H9 lr _ = H10
    have S10:=newS h_lr q_lr
    have e10:=newE q_lr
    and_intros
    and_intros
    have S810:=S9.trans S10
    have sr10:=sr8.grow S810
    refine ixT (i:=0) (SqT.of (S810 _ _ hb8)) rfl ?_
    have lk:=bg8.length
    refine ⟨fd,_,rfl,DPut.k (k:=Sum.inr e.1) (S810 _ _ hf8) (by omega), ?_⟩
    generalize u11:upd H10 fd _ = H11
    and_intros
    have n0:H lr = none:=by
     cases e:H lr with
     | none => rfl
     | some o => rw [S9 _ _ (sr8.same _ _ e)] at h_lr; cases h_lr
    have nlr:lr ≠ wl:=fun z => by have:=(sr8.grow S9).wait; rw [← z,h_lr] at this; cases this
    have hwk:Jbp ls one (a.2 ++ [e.2]) e.1:=.snoc (by rw [← haf]; exact sr8.walk a ha) hem
    have hf10:=S810 _ _ hf8
    have bg10:=bg8.mono (P':=PWy H H10 wl) fun a v ⟨l,xs,e1,hn,hne,hx,ha⟩ => ⟨l,xs,e1,hn,hne,S810 _ _ hx,ha.mono fun _ _ z => z.sameT S810.t⟩
    have cv:CV H10 e.2 (.ref c):=⟨c,rfl,S810 _ _ hc8⟩
    obtain ⟨pp,hpp,hpe⟩:=(JbB (g:=e.1) (pr:=e.2)).mp hem
    have hpn:e.2.1 = pp.nm:=by rcases hpe with h | h; rw [h.2.2]; rw [h.2.2.2]
    have hps:(pp.st = face∧pp.en = e.1) ∨ (pp.en = face∧pp.st = e.1):=by rcases hpe with h | h; exact .inl ⟨h.1,h.2.1⟩; exact .inr ⟨h.2.1,h.2.2.1⟩
    have hsm:((a.2 ++ [e.2]).map (·.1)).Nodup∧∀ p ∈ ls,p.nm ∈ (a.2 ++ [e.2]).map (·.1)→p.st ∈ (ws2 ++ [(e.1,a.2 ++ [e.2])]).map (·.1)∧p.en ∈ (ws2 ++ [(e.1,a.2 ++ [e.2])]).map (·.1):=by
     have sm:=sr8.sim a ha
     have nin:e.2.1 ∉ a.2.map (·.1):=fun z => by
      have:=sm.2 pp hpp (hpn ▸ z)
      rcases hps with h | h
      ·exact cin (h.2 ▸ this.2)
      ·exact cin (h.2 ▸ this.1)
     rw [List.map_append,List.map_append,List.map_cons,List.map_nil,List.map_cons,List.map_nil]
     refine ⟨List.nodup_append.mpr ⟨sm.1,by simp,fun x hx y hy z => nin (by rw [List.mem_singleton] at hy; rw [← hy, ← z]; exact hx)⟩,fun p hp hn => ?_⟩
     rcases List.mem_append.mp hn with hn | hn
     ·have:=sm.2 p hp hn
      exact ⟨List.mem_append.mpr (.inl this.1),List.mem_append.mpr (.inl this.2)⟩
     ·have ep:=Jf6 hnd hp hpp ((List.mem_singleton.mp hn).trans hpn)
      subst ep
      have m1:e.1 ∈ ws2.map (·.1) ++ [e.1]:=List.mem_append.mpr (.inr (by simp))
      have m2:face ∈ ws2.map (·.1) ++ [e.1]:=List.mem_append.mpr (.inl fc8)
      rcases hps with h | h
      ·rw [h.1,h.2]
       exact ⟨m2,m1⟩
      ·rw [h.1,h.2]
       exact ⟨m1,m2⟩
    have sr11:=sr10.find hf10 bg10 h_fd cin hwk (by simp; omega) hsm n0 nlr e10 ((hxa.mono (P':=CV H10) fun _ _ z => z.sameT S810.t).append (.one cv)) u11
    have T11:SameT H10 H11:=SameT.put u11 hf10 rfl
    have nlf:la ≠ fd:=fun z => by rw [z,hf8] at hl8; cases hl8
    have hl11:H11 la = some (.lst xs):=by rw [← u11,Jae nlf]; exact S810 _ _ hl8
    have l11:=sr11.len hl
    rw [List.length_append,List.length_singleton] at l11
    have lw':(wt2.map V.str).length ≤ 81:=by
     rw [List.length_map]
     rw [List.length_append,List.length_singleton] at m81
     omega
    refine ⟨.inl ⟨rfl,_,SqL.of sr11.wait⟩, ?_⟩
    refine ixT (i:=0) (SqT.of (T11 _ _ rfl (S810 _ _ hb8))) rfl ?_
    refine ⟨wl,_,_,rfl,rfl,sr11.wait,by omega, ?_⟩
    generalize u12:upd H11 wl _ = H12
    and_intros
    have ea:wt2.map V.str ++ [V.str e.1] = (wt2 ++ [e.1]).map V.str:=by simp
    rw [ea] at u12
    have sr12:=sr11.wait' h0w u12 (fun f hf => by
     rcases List.mem_append.mp hf with h' | h'
     ·exact sr11.sub f h'
     ·rw [List.mem_singleton.mp h',List.map_append]
      simp)
    have T12:SameT H11 H12:=SameT.put u12 sr11.wait rfl
    refine hN0 _ _ ⟨li,_,ws2 ++ [(e.1,a.2 ++ [e.2])],wt2 ++ [e.1],rfl,sr12,by rw [← u12,Jae nla]; exact hl11,T78.trans (S810.t.trans (T11.trans T12)),fun a' ha' h1 h2 e' he' => ?_,fun e' he' => ?_, ?_, ?_⟩
    ·rw [List.map_append]
     rcases List.mem_append.mp ha' with h' | h'
     ·exact List.mem_append.mpr (.inl (cl8 a' h' (fun z => h1 (by simp [z])) h2 e' he'))
     ·refine absurd ?_ h1
      rw [List.mem_singleton.mp h']
      simp
    ·rw [List.map_append]
     rw [etk] at he'
     rcases List.mem_append.mp he' with h' | h'
     ·exact List.mem_append.mpr (.inl (pt8 e' h'))
     ·rw [List.mem_singleton.mp h']
      simp
    ·rw [List.map_append]
     exact List.mem_append.mpr (.inl fc8)
    ·rw [List.length_append,List.length_append,List.length_singleton,List.length_singleton]
     omega
  ·rintro σ H8 ⟨hi,v6,ws2,wt2,rfl,sr8,hl8,T78,cl8,pt8,fc8,ms8⟩
   rw [List.length_append,List.length_singleton] at m81
   refine ⟨_,by rw [List.length_append,List.length_singleton]; omega,some (.str face),v6,ws2,wt2,rfl,sr8,fun a ha hn e he => ?_,rfl,by omega⟩
   by_cases c:a.1 = face
   ·rw [List.take_of_length_le (by omega)] at pt8
    rw [c] at he
    exact pt8 e he
   ·exact cl8 a ha hn c e he
abbrev Bah:Stmt:=inClass (top 38) 0
theorem JaD:Jaq ["self", "parts", "gaps", "joints", "row", "part", "gap", "found"] ["self", "parts", "gaps"] (Jaf Bah):=⟨rfl,rfl,rfl,by decide +kernel,rfl,by decide +kernel,by decide +kernel⟩
def JaV (K:PySem.W.Frag) (Ad:Adr):Sp:=fun vs H Q E => ∃ (x dx a c:Addr) (xs zs:List V) (es:List (PD ⊕ D)) (fs:List (GD ⊕ D)) (H0:Hp),vs = [.ref x, .ref a, .ref c]∧H x = some (.ins Ad.Thing dx [])∧H0 x = none∧Same H0 H∧SqL K H0 a xs∧All2 (PEV K H0) es xs∧SqL K H0 c zs∧All2 (GEV K H0) fs zs∧es.length ≤ 20∧fs.length ≤ 20∧(match partsW [] es with | .noPart => ∀ H',Same H0 H'→E (.ref Ad.NoPart) none H' | .twice => ∀ H',Same H0 H'→E (.ref Ad.Twice) none H' | .ring => ∀ H',Same H0 H'→E (.ref Ad.InRing) none H' | .ok ls => match gapsW ls [] fs with | .noGap => ∀ H',Same H0 H'→E (.ref Ad.NoGap) none H' | .twice => ∀ H',Same H0 H'→E (.ref Ad.Twice) none H' | .apart => ∀ H',Same H0 H'→E (.ref Ad.Apart) none H' | .ok gs => ∀ H',Same H0 H'→TK K Ad H' x ls gs→Q .non H')
theorem Jcs {f:Addr} {fd:FuncData} {dV:Value} (F:FunD K "__init__" "Thing.__init__" Bah dV f fd) (T:Txt K mg Ad) (Bcd:KCal P w K mg base 1 "Joints" Ad.Joints ["self"] (Ja4 K Ad)) (BbZ:Cal P w K mg base 6 "part_of" ["thing"] [] (JcA K Ad)) (Bce:Cal P w K mg base 7 "gap_of" ["thing"] [] (Jc4 K Ad)) (BaG:MCal P w K mg base 1 "way_between" (Jcd Ad) ["self", "one", "other"] (JaU K Ad)) (BcK:MCal P w K mg base 1 "link" (Jcd Ad) ["self", "part"] (Jbv K Ad)):FnOk P w K mg base (CX1 P w) 9 f fd ["self", "parts", "gaps"] (JaV K Ad):=by
 refine F.okx JaD (fun vs H Q E h => ?_) (fun cdv A outer s H vs Q E hr h => ?_)
 ·obtain ⟨x,dx,a,c,xs,zs,es,fs,H0,rfl,_⟩:=h; rfl
 obtain ⟨x,dx,a,c,xs,zs,es,fs,H0,rfl,h⟩:=h
 have hu:=hr.units
 refine ⟨_,(Jac (Jar (i:=3) JaD.nd rfl (Or.inl rfl) (Bcd.ev0 hr (by decide) rfl pass1))
   (Jac (Jbm (pv 0) JbC rfl)
   (Jac (Jcj PassesOwn.leaving rfl (pi_U (pv 1)) (JaR (i:=4) JaD.nd rfl (Or.inl rfl))
   (Jac (Jar (i:=5) JaD.nd rfl (Or.inl rfl) (BbZ.ev hr (by decide) rfl pass1 (Jaa (pv 4) Jad) (he:=by exact Jag rfl)))
   (Jac (ps_if (Jck (Jdm (hu1 hu) (JaE (pv 5) rfl) (JaE (pv 0) rfl)) (by with_unfolding_all rfl))
   (Jai (JbV PySem.F.excBase_ValueError T.BbE rfl T.Bct (Jaa JaG Jad)))
   Jau)
   (Jac (ps_if (Jay JcK (BaG.m hr (by decide) pass1 (pv 3) (Jaa (JaE (pv 5) rfl) (Jaa (JaE (pv 5) rfl) Jad))) Jbf (Jaz _))
   (Jai (JbV PySem.F.excBase_ValueError T.Bbs rfl T.BcF (Jaa JaG Jad)))
   Jau)
   (Jac (Ja7 (BcK.m hr (by decide) pass1 (pv 3) (Jaa (pv 5) Jad)))
   (Jai (JbD (hu1 hu) (JaE (pv 0) rfl) (JaE (pv 5) rfl) (pv 5) rfl)))))))
   (Jac (Jbm (pv 0) JbC rfl)
   (Jac (Jbm (pv 0) JbC rfl)
   (Jai (Jcj PassesOwn.leaving rfl (pi_U (pv 2)) (JaR (i:=4) JaD.nd rfl (Or.inl rfl))
   (Jac (Jar (i:=6) JaD.nd rfl (Or.inl rfl) (Bce.ev hr (by decide) rfl pass1 (Jaa (pv 4) Jad) (he:=by exact Jag rfl)))
   (Jac (ps_if (Jck (Jdm (hu1 hu) (JaE (pv 6) rfl) (JaE (pv 0) rfl)) (by with_unfolding_all rfl))
   (Jai (JbV PySem.F.excBase_ValueError T.BbE rfl T.Bct (Jaa JaG Jad)))
   Jau)
   (Jac (Jar (i:=7) JaD.nd rfl (Or.inl rfl) (BaG.m hr (by decide) pass1 (pv 3) (Jaa (JaE (pv 6) rfl) (Jaa (JaE (pv 6) rfl) Jad))))
   (Jac (ps_if (Jay JcZ (pv 7) Jbf (Jaz _))
   (Jai (JbV PySem.F.excBase_ValueError T.BbN rfl T.BcI (Jaa JaG Jad)))
   Jau)
   (Jac (JbD (hu1 hu) (JaE (pv 0) rfl) (JaE (pv 6) rfl) (pv 6) rfl)
   (Jai (JbD (hu1 hu) (JaE (pv 0) rfl) (JaE (pv 6) rfl) (pv 7) rfl)))))))))))))), ?_⟩
 obtain ⟨hx,hx0,S0,hS,hE,hC,hG,hl,hg,k⟩:=h
 have tc:=T.BbX _ rfl
 have pc:=T.Bcp _ rfl
 have gc:=T.BcS _ rfl
 have sl:(1000:Nat) ≤ sizeLine:=by decide
 have le:=hE.length
 have lg:=hG.length
 show tSeq _ _ _ [some (.ref x),some (.ref a),some (.ref c),none,none,none,none,none] H
 symm_saturate
 intro j dj hj hdj nj
 have Sm:Same H (upd (upd H dj (.own j)) j (.ins Ad.Joints dj [])):=fun b u q => by rw [Jae (Jah q hj),Jae (Jah q hdj)]; exact q
 generalize um:upd (upd H dj (.own j)) j (.ins Ad.Joints dj []) = Hm at Sm ⊢
 symm_saturate
 have em:Hm j = some (.ins Ad.Joints dj []):=by rw [← um,Jak]
 refine ⟨j,dj,rfl,em,fun d H1 hd1 ndj e1j e1d fr1 => ⟨rfl, ?_⟩⟩
 have fresh:∀ {H:Hp} {b:Addr},Same H0 H→H b = none→H0 b = none:=fun {H b} S h => by
  cases e:H0 b with
  | none => rfl
  | some o => rw [S _ _ e] at h; cases h
 have sdI:∀ {H H':Hp} {d:Addr} {kv:List (Key × V)},(∀ b u,b ≠ d→H b = some u→H' b = some u)→H d = some (.dK kv)→SameI H H':=fun {H H' d kv} S hd b u t h => S b u (fun z => by rw [z,hd] at h; cases h; simp [isTI,isTF] at t) h
 have sdL:∀ {H H':Hp} {d b:Addr} {kv:List (Key × V)} {ys:List V},(∀ b u,b ≠ d→H b = some u→H' b = some u)→H d = some (.dK kv)→H b = some (.lst ys)→H' b = some (.lst ys):=fun {H H' d b kv ys} S hd h => S _ _ (fun z => by rw [z,hd] at h; cases h) h
 have sdJ:∀ {H H':Hp} {e:Addr} {kv:List (Key × V)} {ls:List PD},(∀ b u,b ≠ e→H b = some u→H' b = some u)→H e = some (.dK kv)→e ≠ d→JK Ad H0 H j d ls→JK Ad H0 H' j d ls:=fun {H H' e kv ls} S he ne ⟨⟨dj,h1⟩,h2,kvs,h3,h4,h5⟩ => ⟨⟨dj,S _ _ (fun z => by rw [z,he] at h1; cases h1) h1⟩,h2,kvs,S _ _ (Ne.symm ne) h3,h4,h5.sx S he⟩
 have j0:=fresh S0 hj
 have S01:Same H0 H1:=fun b u h => fr1 b u (Jah h j0) (Sm _ _ (S0 _ _ h))
 have nxj:x ≠ j:=Jah hx hj
 have hx1:H1 x = some (.ins Ad.Thing dx []):=fr1 x _ nxj (Sm _ _ hx)
 have d0:H0 d = none:=fresh (S0.trans Sm) hd1
 intro d1 h_d1
 generalize q_d1:upd H1 d1 _ = H2
 have S2:=newS h_d1 q_d1
 have e2:=newE q_d1
 symm_saturate
 symm_saturate
 refine ⟨x,_,dx,_,rfl,S2 _ _ hx1,tc.cls,tc.n1,by simp, ?_⟩
 generalize u3:upd H2 x _ = H3
 symm_saturate
 have e3:H3 x = some (.ins Ad.Thing dx [("parts_by_name", .ref d1)]):=by rw [← u3]; exact Jak.trans rfl
 have fr3:∀ b u,b ≠ x→H2 b = some u→H3 b = some u:=fun b u hb h => by rw [← u3,Jae hb]; exact h
 have S03:Same H0 H3:=fun b u h => fr3 _ _ (Jah h hx0) (S2 _ _ (S01 _ _ h))
 have ndx:d ≠ x:=fun z => by rw [z,hx1] at e1d; cases e1d
 have nd1x:d1 ≠ x:=fun z => by rw [z,hx1] at h_d1; cases h_d1
 have nd1d:d1 ≠ d:=fun z => by rw [z,e1d] at h_d1; cases h_d1
 have e3d1:H3 d1 = some (.dK []):=fr3 _ _ nd1x e2
 have d10:=fresh S01 h_d1
 have jk3:JK Ad H0 H3 j d []:=⟨⟨dj,fr3 _ _ (Ne.symm nxj) (S2 _ _ e1j)⟩,d0,[],fr3 _ _ ndx (S2 _ _ e1d),by simp,JD.nil⟩
 refine ⟨a,rfl,ForA.byLN (xs:=xs) (hS.same S03) (fun i σ H' => i ≤ xs.length∧∃ (v4 v5:Option V) (k1:List (Key × V)) (ls:List PD), σ = [some (.ref x),some (.ref a),some (.ref c),some (.ref j),v4,v5,none,none]∧Same H0 H'∧H' x = some (.ins Ad.Thing dx [("parts_by_name", .ref d1)])∧JK Ad H0 H' j d ls∧H' d1 = some (.dK k1)∧BG (·.nm) (POV K Ad H') ls k1∧ls.length = i∧(ls.map (·.nm)).Nodup∧partsW ls (es.drop i) = partsW [] es) ⟨Nat.zero_le _,none,none,[],[],rfl,S03,e3,jk3,e3d1,⟨rfl,rfl⟩,rfl, .nil,rfl⟩ (fun i σ H' z => by obtain ⟨_,_,_,_,_,_,z,_⟩:=z; exact hS.same z) ?_ ?_⟩
 ·rintro i y σ H4 hy ⟨hi,v4,v5,k1,ls,rfl,S4,hx4,jk4,hd4,bg4,hli,hnd,hw⟩ N0 hN0
  have li:i < xs.length:=(List.getElem?_eq_some_iff.mp hy).1
  obtain ⟨e,he,ev0⟩:=hE.at_ hy
  have lie:i < es.length:=by omega
  have edr:es.drop i = e :: es.drop (i + 1):=by
   rw [List.drop_eq_getElem_cons lie]
   rw [List.getElem?_eq_getElem lie] at he
   rw [Option.some.inj he]
  rw [edr] at hw
  have lk:=bg4.length
  symm_saturate
  match e,ev0.same S4,hw with
  | .inr cc,ev,hw =>
   rw [Jcu] at hw
   rw [← hw] at k
   exact ⟨y, .inr cc,rfl,ev,fun H5 S5 => k H5 (S4.trans S5)⟩
  | .inl p,ev,hw =>
   refine ⟨y, .inl p,rfl,ev,fun v H5 S5 pv => ?_⟩
   obtain ⟨q,dq,vz,vm,rfl,hq5,hz,hm⟩:=id pv
   have ok:=ev.2
   have hx5:=S5 _ _ hx4
   have hd5:=S5 _ _ hd4
   have jk5:=jk4.same S5
   have bg5:=bg4.mono (P':=POV K Ad H5) fun _ _ z => z.si (Same.i S5)
   obtain ⟨⟨dj5,hj5⟩,_⟩:=id jk5
   symm_saturate
   refine ⟨q,_,dq,_, .str p.nm,rfl,hq5,pc.cls,pc.n1,rfl, ?_⟩
   refine ⟨x,_,dx,_, .ref d1,rfl,hx5,tc.cls,tc.n1,rfl, ?_⟩
   refine ⟨d1,_,rfl,DGet.k (k:=Sum.inr p.nm) hd5, ?_⟩
   rw [bg5.val]
   by_cases cn:p.nm ∈ ls.map (·.nm)
   ·rw [Jcv cn] at hw
    rw [← hw] at k
    rw [decide_eq_true cn]
    symm_saturate
    exact ⟨by show 1 ≤ sizeLine; omega,k H5 (S4.trans S5)⟩
   ·rw [decide_eq_false cn]
    symm_saturate
    refine ⟨j,_,dj5,_,rfl,hj5,rfl,rfl, ?_⟩
    symm_saturate
    refine ⟨q,_,dq,_, .str p.st,rfl,hq5,pc.cls,pc.n2,rfl, ?_⟩
    refine ⟨q,_,dq,_, .str p.en,rfl,hq5,pc.cls,pc.n3,rfl, ?_⟩
    refine ⟨j,d,p.st,p.en,ls,H0,rfl,jk5,by omega,hnd,fun hc H6 S6 => ?_,fun w l yy H6 S6 hl6 e6 hcv hwk _ => ?_⟩
    ·rw [Jc0 cn hc] at hw
     symm_saturate
     have jk6:=jk5.same S6
     have S06:=S4.trans (S5.trans S6)
     refine ⟨j,_,dj5,_,rfl,S6 _ _ hj5,rfl,rfl, ?_⟩
     symm_saturate
     refine ⟨j,d, .ref q,ls,p,H0,rfl,jk6,S06,pv.si (Same.i S6),ok.ne,by omega,fun H7 S07 sj jk7 => ?_⟩
     have nd:∀ {b:Addr} {C dd:Addr} {ff:List (Str × V)},H6 b = some (.ins C dd ff)→H7 b = some (.ins C dd ff):=fun {b C dd ff} h => by
      obtain ⟨_,_,_,hdd,_⟩:=jk6
      exact sj _ _ (fun z => by rw [z,hdd] at h; cases h) (by intro xs z; cases z) h
     have SI:SameI H6 H7:=fun b u t h => by
      obtain ⟨_,_,_,hdd,_⟩:=jk6
      exact sj b u (fun z => by rw [z,hdd] at h; cases h; simp [isTI,isTF] at t) (fun xs z => by rw [z] at t; simp [isTI,isTF] at t) h
     have hd7:H7 d1 = some (.dK k1):=sj _ _ nd1d (by intro xs z; cases z) (S6 _ _ hd5)
     have bg7:=bg5.mono (P':=POV K Ad H7) fun _ _ z => (z.si (Same.i S6)).si SI
     have pv7:=(pv.si (Same.i S6)).si SI
     symm_saturate
     refine ⟨x,_,dx,_, .ref d1,rfl,nd (S6 _ _ hx5),tc.cls,tc.n1,rfl, ?_⟩
     refine ⟨q,_,dq,_, .str p.nm,rfl,nd (S6 _ _ hq5),pc.cls,pc.n1,rfl, ?_⟩
     refine ⟨d1,_,rfl,DPut.k (k:=Sum.inr p.nm) hd7 (by omega), ?_⟩
     generalize u8:upd H7 d1 _ = H8
     symm_saturate
     have e8:=putE u8
     have sd8:∀ b u,b ≠ d1→H7 b = some u→H8 b = some u:=fun b u hb h => by rw [← u8,Jae hb]; exact h
     have SI8:=sdI sd8 hd7
     refine hN0 _ _ ⟨li,_,_,_,ls ++ [p],rfl,fun b u h => sd8 _ _ (Jah h d10) (S07 _ _ h),sd8 _ _ (Ne.symm nd1x) (nd (S6 _ _ hx5)),sdJ sd8 hd7 nd1d jk7,e8, ?_,by simp [hli],by rw [List.map_append]; exact List.nodup_append.mpr ⟨hnd,by simp,fun u hu v hv z => cn (by have e:v = p.nm:=List.mem_singleton.mp hv; rw [← e, ← z]; exact hu)⟩,hw⟩
     exact (bg7.new (a:=p) cn pv7).mono fun _ _ z => z.si SI8
    ·by_cases hc:Conn ls p.st p.en
     ·rw [Jb5 cn hc] at hw
      rw [← hw] at k
      symm_saturate
      exact ⟨by show 1 ≤ sizeLine; omega,k H6 (S4.trans (S5.trans S6))⟩
     ·exact absurd ⟨w,hwk⟩ hc
 ·rintro σ H4 ⟨hi,v4,v5,k1,ls,rfl,S4,hx4,jk4,hd4,bg4,hli,hnd,hw⟩
  rw [List.drop_eq_nil_of_le (by omega),partsW] at hw
  rw [← hw] at k
  dsimp only at k
  symm_saturate
  obtain ⟨⟨dj4,hj4⟩,_,kd4,hdd4,hkd4,hJ4⟩:=id jk4
  intro d2 h_d2
  generalize q_d2:upd H4 d2 _ = H5
  have S5:=newS h_d2 q_d2
  have e5:=newE q_d2
  symm_saturate
  refine ⟨x,_,dx,_,rfl,S5 _ _ hx4,tc.cls,tc.n2,by simp, ?_⟩
  generalize u6:upd H5 x _ = H6
  symm_saturate
  have e6:H6 x = some (.ins Ad.Thing dx [("parts_by_name", .ref d1),("gaps_by_name", .ref d2)]):=by rw [← u6]; exact Jak.trans rfl
  have fr6:∀ b u,b ≠ x→H5 b = some u→H6 b = some u:=fun b u hb h => by rw [← u6,Jae hb]; exact h
  symm_saturate
  intro d3 h_d3
  generalize q_d3:upd H6 d3 _ = H7
  have S7:=newS h_d3 q_d3
  have e7:=newE q_d3
  symm_saturate
  refine ⟨x,_,dx,_,rfl,S7 _ _ e6,tc.cls,tc.n3,by simp, ?_⟩
  generalize u8:upd H7 x _ = H8
  symm_saturate
  have e8:H8 x = some (.ins Ad.Thing dx [("parts_by_name", .ref d1),("gaps_by_name", .ref d2),("ways", .ref d3)]):=by rw [← u8]; exact Jak.trans rfl
  have fr8:∀ b u,b ≠ x→H7 b = some u→H8 b = some u:=fun b u hb h => by rw [← u8,Jae hb]; exact h
  have st8:∀ b u,b ≠ x→H4 b = some u→H8 b = some u:=fun b u hb h => fr8 _ _ hb (S7 _ _ (fr6 _ _ hb (S5 _ _ h)))
  have nd2x:d2 ≠ x:=fun z => by rw [z,hx4] at h_d2; cases h_d2
  have nd2d1:d2 ≠ d1:=fun z => by rw [z,hd4] at h_d2; cases h_d2
  have nd2d:d2 ≠ d:=fun z => by rw [z,hdd4] at h_d2; cases h_d2
  have nd3x:d3 ≠ x:=fun z => by rw [z,e6] at h_d3; cases h_d3
  have e6d1:=fr6 _ _ nd1x (S5 _ _ hd4)
  have e6d:=fr6 _ _ ndx (S5 _ _ hdd4)
  have e6d2:=fr6 _ _ nd2x e5
  have nd3d1:d3 ≠ d1:=fun z => by rw [z,e6d1] at h_d3; cases h_d3
  have nd3d:d3 ≠ d:=fun z => by rw [z,e6d] at h_d3; cases h_d3
  have nd3d2:d3 ≠ d2:=fun z => by rw [z,e6d2] at h_d3; cases h_d3
  have d20:=fresh S4 h_d2
  have S06:Same H0 H6:=fun b u h => fr6 _ _ (Jah h hx0) (S5 _ _ (S4 _ _ h))
  have d30:=fresh S06 h_d3
  have S08:Same H0 H8:=fun b u h => st8 _ _ (Jah h hx0) (S4 _ _ h)
  have T48:SameT H4 H8:=fun b u t h => st8 _ _ (fun z => by rw [z,hx4] at h; cases h; simp [isTF] at t) h
  have jk8:JK Ad H0 H8 j d ls:=⟨⟨dj4,st8 _ _ (Ne.symm nxj) hj4⟩,d0,kd4,st8 _ _ ndx hdd4,hkd4,hJ4.sy st8 hx4 (by intro xs z; cases z) rfl⟩
  have bg8:BG (·.nm) (POV K Ad H8) ls k1:=bg4.mono fun p v ⟨q,dq,vz,vm,h1,h2,h3,h4⟩ => ⟨q,dq,vz,vm,h1,st8 _ _ (ne_of h2 hx4 (by
   intro z
   injection z with _ _ z3
   have:=congrArg List.length z3
   simp [partF] at this)) h2,h3.sameT T48,h4.sameT T48⟩
  refine ⟨c,rfl,ForA.byLN (xs:=zs) (hC.same S08) (fun i σ H' => i ≤ zs.length∧∃ (v4 v6 v7:Option V) (k2 k3:List (Key × V)) (gs:List GD), σ = [some (.ref x),some (.ref a),some (.ref c),some (.ref j),v4,v5,v6,v7]∧Same H0 H'∧H' x = some (.ins Ad.Thing dx [("parts_by_name", .ref d1),("gaps_by_name", .ref d2),("ways", .ref d3)])∧JK Ad H0 H' j d ls∧H' d1 = some (.dK k1)∧BG (·.nm) (POV K Ad H') ls k1∧H' d2 = some (.dK k2)∧BG (·.nm) (GOV K Ad H') gs k2∧H' d3 = some (.dK k3)∧BG (·.nm) (WOV H' ls) gs k3∧gs.length = i∧gapsW ls gs (fs.drop i) = gapsW ls [] fs) ⟨Nat.zero_le _,v4,none,none,[],[],[],rfl,S08,e8,jk8,st8 _ _ nd1x hd4,bg8,fr8 _ _ nd2x (S7 _ _ e6d2),⟨rfl,rfl⟩,fr8 _ _ nd3x e7,⟨rfl,rfl⟩,rfl,rfl⟩ (fun i σ H' z => by obtain ⟨_,_,_,_,_,_,_,_,z,_⟩:=z; exact hC.same z) ?_ ?_⟩
  ·rintro i y σ H9 hy ⟨hi,v4,v6,v7,k2,k3,gs,rfl,S9,hx9,jk9,hd19,bg9,hd29,bh9,hd39,bw9,hgi,hw2⟩ N0 hN0
   have li:i < zs.length:=(List.getElem?_eq_some_iff.mp hy).1
   obtain ⟨e,he,ev0⟩:=hG.at_ hy
   have lie:i < fs.length:=by omega
   have edr:fs.drop i = e :: fs.drop (i + 1):=by
    rw [List.drop_eq_getElem_cons lie]
    rw [List.getElem?_eq_getElem lie] at he
    rw [Option.some.inj he]
   rw [edr] at hw2
   have lk:=bh9.length
   have lk3:=bw9.length
   symm_saturate
   match e,ev0.same S9,hw2 with
   | .inr cc,ev,hw2 =>
    rw [JcQ] at hw2
    rw [← hw2] at k
    exact ⟨y, .inr cc,rfl,ev,fun H10 S10 => k H10 (S9.trans S10)⟩
   | .inl g,ev,hw2 =>
    refine ⟨y, .inl g,rfl,ev,fun v H10 S10 gv => ?_⟩
    obtain ⟨q,dq,vl,vg,rfl,hq10,hz,hm⟩:=id gv
    have hx10:=S10 _ _ hx9
    have hd10:=S10 _ _ hd29
    have jk10:=jk9.same S10
    obtain ⟨⟨dj10,hj10⟩,_⟩:=id jk10
    symm_saturate
    refine ⟨q,_,dq,_, .str g.nm,rfl,hq10,gc.cls,gc.n1,rfl, ?_⟩
    refine ⟨x,_,dx,_, .ref d2,rfl,hx10,tc.cls,tc.n2,rfl, ?_⟩
    refine ⟨d2,_,rfl,DGet.k (k:=Sum.inr g.nm) hd10, ?_⟩
    rw [bh9.val]
    by_cases cn:g.nm ∈ gs.map (·.nm)
    ·rw [JcR cn] at hw2
     rw [← hw2] at k
     rw [decide_eq_true cn]
     symm_saturate
     exact ⟨by show 1 ≤ sizeLine; omega,k H10 (S9.trans S10)⟩
    ·rw [decide_eq_false cn]
     symm_saturate
     refine ⟨j,_,dj10,_,rfl,hj10,rfl,rfl, ?_⟩
     symm_saturate
     refine ⟨q,_,dq,_, .str g.st,rfl,hq10,gc.cls,gc.n2,rfl, ?_⟩
     refine ⟨q,_,dq,_, .str g.en,rfl,hq10,gc.cls,gc.n3,rfl, ?_⟩
     refine ⟨j,d,g.st,g.en,ls,H0,rfl,jk10,by omega,hnd,fun hc H11 S11 => ?_,fun w l yy H11 S11 hl11 e11 hcv hwk hwn => ?_⟩
     ·rw [Jb4 cn hc] at hw2
      rw [← hw2] at k
      symm_saturate
      exact ⟨by show 1 ≤ sizeLine; omega,k H11 (S9.trans (S10.trans S11))⟩
     ·rw [Jdz cn ⟨w,hwk⟩] at hw2
      symm_saturate
      have S911:=S10.trans S11
      have hd11:=S911 _ _ hd29
      refine ⟨x,_,dx,_, .ref d2,rfl,S911 _ _ hx9,tc.cls,tc.n2,rfl, ?_⟩
      refine ⟨q,_,dq,_, .str g.nm,rfl,S11 _ _ hq10,gc.cls,gc.n1,rfl, ?_⟩
      refine ⟨d2,_,rfl,DPut.k (k:=Sum.inr g.nm) hd11 (by omega), ?_⟩
      generalize u12:upd H11 d2 _ = H12
      symm_saturate
      have e12:=putE u12
      have sd12:∀ b u,b ≠ d2→H11 b = some u→H12 b = some u:=fun b u hb h => by rw [← u12,Jae hb]; exact h
      have SI12:=sdI sd12 hd11
      have hx12:=sd12 _ _ (Ne.symm nd2x) (S911 _ _ hx9)
      have hq12:=sd12 _ _ (fun z => by have:=S11 _ _ hq10; rw [z,hd11] at this; cases this) (S11 _ _ hq10)
      have hd312:=sd12 _ _ nd3d2 (S911 _ _ hd39)
      symm_saturate
      refine ⟨x,_,dx,_, .ref d3,rfl,hx12,tc.cls,tc.n3,rfl, ?_⟩
      refine ⟨q,_,dq,_, .str g.nm,rfl,hq12,gc.cls,gc.n1,rfl, ?_⟩
      refine ⟨d3,_,rfl,DPut.k (k:=Sum.inr g.nm) hd312 (by omega), ?_⟩
      generalize u13:upd H12 d3 _ = H13
      symm_saturate
      have e13:=putE u13
      have sd13:∀ b u,b ≠ d3→H12 b = some u→H13 b = some u:=fun b u hb h => by rw [← u13,Jae hb]; exact h
      have SI13:=sdI sd13 hd312
      have SI:SameI H11 H13:=fun b u t h => SI13 b u t (SI12 b u t h)
      have wv:∀ {g:GD} {v:V},WOV H11 ls g v→WOV H13 ls g v:=fun {g v} ⟨l,xs,w,h1,h2,h3,h4⟩ => ⟨l,xs,w,h1,sdL sd13 hd312 (sdL sd12 hd11 h2),h3.mono fun _ _ z => z.sameT SI.t,h4⟩
      refine hN0 _ _ ⟨li,_,_,_,_,_,gs ++ [g],rfl,fun b u h => sd13 _ _ (Jah h d30) (sd12 _ _ (Jah h d20) (S911 _ _ (S9 _ _ h))),sd13 _ _ (Ne.symm nd3x) hx12,sdJ sd13 hd312 nd3d (sdJ sd12 hd11 nd2d (jk10.same S11)),sd13 _ _ (Ne.symm nd3d1) (sd12 _ _ (Ne.symm nd2d1) (S911 _ _ hd19)),bg9.mono fun _ _ z => (z.si (Same.i S911)).si SI,sd13 _ _ (Ne.symm nd3d2) e12, ?_,e13, ?_,by simp [hgi],hw2⟩
      ·exact ((bh9.mono (P':=GOV K Ad H11) fun _ _ z => z.si (Same.i S911)).new (a:=g) cn (gv.si (Same.i S11))).mono fun _ _ z => z.si SI
      ·exact ((bw9.mono (P':=WOV H11 ls) fun _ _ z => z.same S911).new (a:=g) cn ⟨l,yy,w,rfl,e11,hcv,hwk,hwn⟩).mono fun _ _ z => wv z
  ·rintro σ H9 ⟨hi,v4,v6,v7,k2,k3,gs,rfl,S9,hx9,jk9,hd19,bg9,hd29,bh9,hd39,bw9,hgi,hw2⟩
   rw [List.drop_eq_nil_of_le (by omega),gapsW] at hw2
   symm_saturate
   have k':=k
   simp only [← hw2] at k'
   exact k' H9 S9 ⟨dx,d1,d2,d3,k1,k2,k3,hx9,hd19,bg9,hd29,bh9,hd39,bw9⟩
abbrev Baq:Stmt:=inClass (top 38) 1
theorem Jdd:Jaq ["self"] ["self"] (Jaf Baq):=⟨rfl,rfl,rfl,by decide +kernel,rfl,by decide +kernel,by decide +kernel⟩
def Jbw (K:PySem.W.Frag) (Ad:Adr):Sp:=fun vs H Q E => ∃ (x:Addr) (ls:List PD) (gs:List GD),vs = [.ref x]∧TKw K Ad H x ls gs∧ls.length ≤ 20∧∀ l ys H',Same H H'→H l = none→H' l = some (.lst ys)→All2 (PDV K H') ls ys→Q (.ref l) H'
theorem Jc9 {f:Addr} {fd:FuncData} {dV:Value} (F:FunD K "parts" "Thing.parts" Baq dV f fd) (T:Txt K mg Ad) (Bcu:MCal P w K mg base 1 "plain" (IsPart Ad) ["self"] (JbF K Ad)):FnOk P w K mg base (CX1 P w) 2 f fd ["self"] (Jbw K Ad):=by
 refine F.okn Jdd (fun vs H Q E h => ?_) (fun cdv A outer s H vs Q E hr h => ?_)
 ·obtain ⟨x,ls,gs,rfl,_⟩:=h; rfl
 obtain ⟨x,ls,gs,rfl,h⟩:=h
 have hu:=hr.units
 refine ⟨_,(Jai (Jao (Jgi (Jc2 (own:=["part"]) (cs:=[]) (cl:=[]) rfl (Jgk (JaE (pv 0) rfl)) (fun _ _ _ _ => (JaR (i:=0) (show [("part" : Str)].Nodup by decide) rfl (Or.inl rfl))) (fun _ _ _ _ => (Bcu.m0 hr (by decide) passF (pv 0))) rfl (by decide) rfl (by decide) hcl0 (hhas0 (by decide)) hcs0)))), ?_⟩
 obtain ⟨⟨dx,d1,d2,d3,k1,k2,k3,hx,hd1,b1,_⟩,hl,k⟩:=h
 have tc:=T.BbX _ rfl
 have sl:(1000:Nat) ≤ sizeLine:=by decide
 have lk:=b1.length
 show tRet _ _ [some (.ref x)] H
 and_intros
 refine ⟨d1,k1,hd1,x,_,dx,_, .ref d1,rfl,hx,tc.cls,tc.n1,rfl,d1,k1,rfl,hd1,fun od => ?_⟩
 generalize uf:upd H d1 (.frz od (.dK k1)) = H1
 and_intros
 have f1:H1 d1 = some (.frz od (.dK k1)):=by rw [← uf,Jak]
 have o1:∀ b u,b ≠ d1→H b = some u→H1 b = some u:=fun b u hb h => by rw [← uf,Jae hb]; exact h
 refine CompJ.vals (fun i ys H' => H' d1 = some (.frz od (.dK k1))∧(∀ b u,b ≠ d1→H b = some u→H' b = some u)∧(∀ b u,b ≠ d1→H' b = some u→H b = none→True)∧All2 (PDV K H') (ls.take i) ys) ⟨f1,o1,fun _ _ _ _ _ => trivial,rfl⟩ (fun i ys H' hi z => ⟨z.1,by have:=z.2.2.2.length; rw [List.length_take] at this; omega⟩) ?_ ?_
 ·rintro i v ys H2 hv ⟨f2,o2,_,hA⟩
  simpa only [List.length_singleton,List.replicate,JaO,List.map_cons,List.map_nil,Option.join_some]
  obtain ⟨p,hp,q,dq,vz,vm,rfl,hq,hz,hm⟩:=b1.2.at_ hv
  have nd:∀ {b:Addr} {u:HO},H b = some u→isTI u = true→H2 b = some u:=fun {b u} h t => o2 _ _ (fun z => by rw [z,hd1] at h; cases h; simp [isTI,isTF] at t) h
  have T2:SameT H H2:=fun b u t h => nd h (by cases u <;> first | exact t | (simp [isTF] at t))
  refine ⟨q,_,dq,_,rfl,nd hq rfl,rfl,rfl,q,dq,_,_,_,vz,vm,_,rfl,nd hq rfl,fun r H3 S3 e3 => ?_⟩
  refine ⟨S3 _ _ f2,fun b u hb h => S3 _ _ (o2 _ _ hb h),fun _ _ _ _ _ => trivial, ?_⟩
  rw [List.take_succ,hp]
  exact (hA.mono (P':=PDV K H3) fun _ _ z => z.sameT S3.t).append (.one ⟨r,vz,vm,rfl,SqT.of e3,(hz.sameT T2).sameT S3.t,(hm.sameT T2).sameT S3.t⟩)
 ·rintro ys H2 ⟨f2,o2,_,hA⟩
  rw [List.take_of_length_le (by omega)] at hA
  intro r h_r
  generalize q_r:upd H2 r _ = H3
  have S3:=newS h_r q_r
  have e3:=newE q_r
  and_intros
  refine ⟨od,k1,S3 _ _ f2, ?_⟩
  generalize u4:upd H3 d1 (.dK k1) = H4
  and_intros
  have nr:r ≠ d1:=fun z => by rw [z,f2] at h_r; cases h_r
  have e4:H4 r = some (.lst ys):=by rw [← u4,Jae nr]; exact e3
  have S04:Same H H4:=fun b u h => by
   by_cases c:b = d1
   ·subst c
    rw [hd1] at h
    cases h
    rw [← u4,Jak]
   ·rw [← u4,Jae c]
    exact S3 _ _ (o2 _ _ c h)
  have f3:=S3 _ _ f2
  have sq:∀ {b:Addr} {xs:List V},SqT K H3 b xs→SqT K H4 b xs:=fun {b xs} h => by
   rcases h with (h | ⟨o,h⟩) | h
   ·exact .inl (.inl (by rw [← u4,Jae (fun z => by rw [z,f3] at h; cases h)]; exact h))
   ·exact .inl (.inr ⟨o,by rw [← u4,Jae (fun z => by rw [z,f3] at h; cases h)]; exact h⟩)
   ·exact .inr h
  have hn:H r = none:=by
   cases e:H r with
   | none => rfl
   | some o => rw [o2 _ _ nr e] at h_r; cases h_r
  exact k r ys H4 S04 hn e4 ((hA.mono (P':=PDV K H3) fun _ _ z => z.sameT S3.t).mono fun p v ⟨b,vz,vm,h1,h2,⟨pz,h3,h4⟩,⟨pm,h5,h6⟩⟩ => ⟨b,vz,vm,h1,sq h2,⟨pz,h3,sq h4⟩,⟨pm,h5,sq h6⟩⟩)
abbrev Bav:Stmt:=inClass (top 38) 2
theorem JdQ:Jaq ["self"] ["self"] (Jaf Bav):=⟨rfl,rfl,rfl,by decide +kernel,rfl,by decide +kernel,by decide +kernel⟩
def JbG (K:PySem.W.Frag) (Ad:Adr):Sp:=fun vs H Q E => ∃ (x:Addr) (ls:List PD) (gs:List GD),vs = [.ref x]∧TKw K Ad H x ls gs∧gs.length ≤ 20∧∀ l ys H',Same H H'→H l = none→H' l = some (.lst ys)→All2 (fun (g:GD) v => TV K H' g.td v) gs ys→Q (.ref l) H'
theorem JdF {f:Addr} {fd:FuncData} {dV:Value} (F:FunD K "gaps" "Thing.gaps" Bav dV f fd) (T:Txt K mg Ad) (Bb0:MCal P w K mg base 1 "plain" (IsGap Ad) ["self"] (JbP K Ad)):FnOk P w K mg base (CX1 P w) 2 f fd ["self"] (JbG K Ad):=by
 refine F.okn JdQ (fun vs H Q E h => ?_) (fun cdv A outer s H vs Q E hr h => ?_)
 ·obtain ⟨x,ls,gs,rfl,_⟩:=h; rfl
 obtain ⟨x,ls,gs,rfl,h⟩:=h
 have hu:=hr.units
 refine ⟨_,(Jai (Jao (Jgi (Jc2 (own:=["gap"]) (cs:=[]) (cl:=[]) rfl (Jgk (JaE (pv 0) rfl)) (fun _ _ _ _ => (JaR (i:=0) (show [("gap" : Str)].Nodup by decide) rfl (Or.inl rfl))) (fun _ _ _ _ => (Bb0.m0 hr (by decide) passF (pv 0))) rfl (by decide) rfl (by decide) hcl0 (hhas0 (by decide)) hcs0)))), ?_⟩
 obtain ⟨⟨dx,d1,d2,d3,k1,k2,k3,hx,_,_,hd2,b2,_⟩,hl,k⟩:=h
 have tc:=T.BbX _ rfl
 have sl:(1000:Nat) ≤ sizeLine:=by decide
 have lk:=b2.length
 show tRet _ _ [some (.ref x)] H
 and_intros
 refine ⟨d2,k2,hd2,x,_,dx,_, .ref d2,rfl,hx,tc.cls,tc.n2,rfl,d2,k2,rfl,hd2,fun od => ?_⟩
 generalize uf:upd H d2 (.frz od (.dK k2)) = H1
 and_intros
 have f1:H1 d2 = some (.frz od (.dK k2)):=by rw [← uf,Jak]
 have o1:∀ b u,b ≠ d2→H b = some u→H1 b = some u:=fun b u hb h => by rw [← uf,Jae hb]; exact h
 refine CompJ.vals (fun i ys H' => H' d2 = some (.frz od (.dK k2))∧(∀ b u,b ≠ d2→H b = some u→H' b = some u)∧All2 (fun (g:GD) v => TV K H' g.td v) (gs.take i) ys) ⟨f1,o1,rfl⟩ (fun i ys H' hi z => ⟨z.1,by have:=z.2.2.length; rw [List.length_take] at this; omega⟩) ?_ ?_
 ·rintro i v ys H2 hv ⟨f2,o2,hA⟩
  simpa only [List.length_singleton,List.replicate,JaO,List.map_cons,List.map_nil,Option.join_some]
  obtain ⟨p,hp,q,dq,vz,vm,rfl,hq,hz,hm⟩:=b2.2.at_ hv
  have nd:∀ {b:Addr} {u:HO},H b = some u→isTI u = true→H2 b = some u:=fun {b u} h t => o2 _ _ (fun z => by rw [z,hd2] at h; cases h; simp [isTI,isTF] at t) h
  have T2:SameT H H2:=fun b u t h => nd h (by cases u <;> first | exact t | (simp [isTF] at t))
  refine ⟨q,_,dq,_,rfl,nd hq rfl,rfl,rfl,q,dq,_,_,_,vz,vm,rfl,nd hq rfl,fun r H3 S3 e3 => ?_⟩
  refine ⟨S3 _ _ f2,fun b u hb h => S3 _ _ (o2 _ _ hb h), ?_⟩
  rw [List.take_succ,hp]
  exact (hA.mono (P':=fun (g:GD) v => TV K H3 g.td v) fun _ _ z => z.sameT S3.t).append (.one ⟨r,vz,vm,rfl,SqT.of e3,(hz.sameT T2).sameT S3.t,(hm.sameT T2).sameT S3.t⟩)
 ·rintro ys H2 ⟨f2,o2,hA⟩
  rw [List.take_of_length_le (by omega)] at hA
  intro r h_r
  generalize q_r:upd H2 r _ = H3
  have S3:=newS h_r q_r
  have e3:=newE q_r
  and_intros
  refine ⟨od,k2,S3 _ _ f2, ?_⟩
  generalize u4:upd H3 d2 (.dK k2) = H4
  and_intros
  have nr:r ≠ d2:=fun z => by rw [z,f2] at h_r; cases h_r
  have e4:H4 r = some (.lst ys):=by rw [← u4,Jae nr]; exact e3
  have S04:Same H H4:=fun b u h => by
   by_cases c:b = d2
   ·subst c
    rw [hd2] at h
    cases h
    rw [← u4,Jak]
   ·rw [← u4,Jae c]
    exact S3 _ _ (o2 _ _ c h)
  have f3:=S3 _ _ f2
  have sq:∀ {b:Addr} {xs:List V},SqT K H3 b xs→SqT K H4 b xs:=fun {b xs} h => by
   rcases h with (h | ⟨o,h⟩) | h
   ·exact .inl (.inl (by rw [← u4,Jae (fun z => by rw [z,f3] at h; cases h)]; exact h))
   ·exact .inl (.inr ⟨o,by rw [← u4,Jae (fun z => by rw [z,f3] at h; cases h)]; exact h⟩)
   ·exact .inr h
  have hn:H r = none:=by
   cases e:H r with
   | none => rfl
   | some o => rw [o2 _ _ nr e] at h_r; cases h_r
  exact k r ys H4 S04 hn e4 ((hA.mono (P':=fun (g:GD) v => TV K H3 g.td v) fun _ _ z => z.sameT S3.t).mono fun p v ⟨b,vz,vm,h1,h2,⟨pz,h3,h4⟩,⟨pm,h5,h6⟩⟩ => ⟨b,vz,vm,h1,sq h2,⟨pz,h3,sq h4⟩,⟨pm,h5,sq h6⟩⟩)
abbrev BaK:Stmt:=top 40
theorem JbE:Jaq ["_law_script", "_law_k", "_law_total", "_law_j"] ["_law_script", "_law_k"] (Jaf BaK):=⟨rfl,rfl,rfl,by decide +kernel,rfl,by decide +kernel,by decide +kernel⟩
def JbJ (K:PySem.W.Frag):Sp:=fun vs H Q E => ∃ (a:Addr) (ns:List Int) (k:Int),vs = [.ref a, .int k]∧SqL K H a (ns.map V.int)∧ns.length ≤ 63∧0 ≤ k∧k ≤ 1000∧∀ v:Int,Q (.int v) H
theorem Jew {f:Addr} {fd:FuncData} {dV:Value} (F:FunD K "_law_cell" "_law_cell" BaK dV f fd) (T:Txt K mg Ad)  : FnOk P w K mg base (CX1 P w) 1 f fd ["_law_script", "_law_k"] (JbJ K):=by
 refine F.okn JbE (fun vs H Q E h => ?_) (fun cdv A outer s H vs Q E hr h => ?_)
 ·obtain ⟨a,ns,k,rfl,_⟩:=h; rfl
 obtain ⟨a,ns,k,rfl,h⟩:=h
 have hu:=hr.units
 refine ⟨_,(Jac (Jar (i:=2) JbE.nd rfl (Or.inl rfl) Jab)
   (Jac (Jcj PassesOwn.never rfl (Jgj rfl T.Bcs (Jaa (pv 1) (Jaa (JaB (JfJ rfl) rfl T.Bc8 Jij (Jaa (JaB JaY rfl T.Bb8 JbZ (Jaa (pv 0) Jad)) (Jaa Jab Jad))) (Jaa Jab Jad)))) (JaR (i:=3) JbE.nd rfl (Or.inl rfl))
   (Jai (Jar (i:=2) JbE.nd rfl (Or.inl rfl) (pe_op JaH (pv 2) (pe_op JaW (pe_ix ix_U (pv 0) (pv 3) (fun _ _ => rfl)) (pe_op JaH Jab (pv 3)))))))
   (Jai (Jao (pv 2))))), ?_⟩
 obtain ⟨hS,hl,h0,h1,q⟩:=h
 obtain ⟨k,rfl⟩:=Int.eq_ofNat_of_zero_le h0
 show tSeq _ _ _ [some (.ref a),some (.int (k:Int)),none,none] H
 nofun
 refine ⟨_, .inl hS, ?_⟩
 simpa only [List.length_map]
 refine ⟨_,_,_,rfl,⟨by omega,by omega,by split <;> omega,by split <;> omega,by decide,by decide⟩, ?_⟩
 refine ForQ.by (fun i σ H' => ∃ (t:Int) (v:Option V), σ = [some (.ref a),some (.int (k:Int)),some (.int t),v]∧H' = H) ⟨0,none,rfl,rfl⟩ ?_ ?_
 ·rintro i σ H' hi ⟨t,v,rfl,rfl⟩
  have hj:k + i * 30 < ns.length:=by
   unfold rsz at hi
   split at hi <;> split at hi <;> omega
  have ej:(k:Int) + (i:Int) * 30 = ((k + i * 30:Nat):Int):=by omega
  rw [ej]
  nofun
  refine ixL hS (by rw [List.getElem?_map,List.getElem?_eq_getElem hj]; rfl) ?_
  nofun
  exact ⟨Jhj (.lit (by omega) (by omega)),_,_,rfl,trivial⟩
 ·rintro σ H' ⟨t,v,rfl,rfl⟩
  nofun
  exact q t
abbrev Baw:Stmt:=top 41
theorem JdS:Jaq ["_law_cell_here", "_law_most"] ["_law_cell_here", "_law_most"] (Jaf Baw):=⟨rfl,rfl,rfl,by decide +kernel,rfl,by decide +kernel,by decide +kernel⟩
def Jbi  : Sp:=fun vs H Q E => ∃ (c m:Int),vs = [.int c, .int m]∧1 ≤ m∧∀ v:Int, -m < v→v < m→Q (.int v) H
theorem JdI {f:Addr} {fd:FuncData} {dV:Value} (F:FunD K "_law_signed" "_law_signed" Baw dV f fd) (T:Txt K mg Ad)  : FnOk P w K mg base (CX1 P w) 1 f fd ["_law_cell_here", "_law_most"] (Jbi):=by
 refine F.okn JdS (fun vs H Q E h => ?_) (fun cdv A outer s H vs Q E hr h => ?_)
 ·obtain ⟨c,m,rfl,_⟩:=h; rfl
 obtain ⟨c,m,rfl,h⟩:=h
 have hu:=hr.units
 refine ⟨_,(Jac (ps_if (Jay Jge (pv 0) Jab (Jaz _))
   (Jai (Jao (pe_op Je5 Jab (pe_op Jan (pe_op Je5 Jab (pv 0)) (pv 1)))))
   Jau)
   (Jai (Jao (pe_op Jan (pv 0) (pv 1))))), ?_⟩
 obtain ⟨hm,k⟩:=h
 show tSeq _ _ _ [some (.int c),some (.int m)] H
 nofun
 by_cases z:c < 0
 ·rw [if_pos (by simpa using z)]
  nofun
  nofun
  have f:=Mth.fm (x:=0 - c) (y:=m) (by omega)
  exact ⟨by omega,k _ (by omega) (by omega)⟩
 ·rw [if_neg (by simpa using z)]
  nofun
  nofun
  have f:=Mth.fm (x:=c) (y:=m) (by omega)
  exact ⟨by omega,k _ (by omega) (by omega)⟩
abbrev Ba4:Stmt:=top 42
theorem Jbk:Jaq ["_law_top", "_law_bottom", "_law_one", "_law_other", "_law_rest"] ["_law_top", "_law_bottom"] (Jaf Ba4):=⟨rfl,rfl,rfl,by decide +kernel,rfl,by decide +kernel,by decide +kernel⟩
def JbW  : Sp:=fun vs H Q E => ∃ (t b:Int),vs = [.int t, .int b]∧1 ≤ b∧Mth.Sz 8000 b∧∀ p H',Same H H'→H' p = some (.tup [.int (Mth.top t b), .int (Mth.bot t b)])→Q (.ref p) H'
theorem Jfw {f:Addr} {fd:FuncData} {dV:Value} (F:FunD K "_law_low" "_law_low" Ba4 dV f fd) (T:Txt K mg Ad)  : FnOk P w K mg base (CX1 P w) 1 f fd ["_law_top", "_law_bottom"] (JbW):=by
 refine F.okn Jbk (fun vs H Q E h => ?_) (fun cdv A outer s H vs Q E hr h => ?_)
 ·obtain ⟨t,b,rfl,_⟩:=h; rfl
 obtain ⟨t,b,rfl,h⟩:=h
 have hu:=hr.units
 refine ⟨_,(Jac (Jar (i:=2) Jbk.nd rfl (Or.inl rfl) (pv 0))
   (Jac (Jar (i:=3) Jbk.nd rfl (Or.inl rfl) (pv 1))
   (Jac (JdN PassesOwn.never (Jay (JbM hu) (pv 3) Jab (Jaz _))
   (Jac (Jar (i:=4) Jbk.nd rfl (Or.inl rfl) (pe_op Jan (pv 2) (pv 3)))
   (Jac (Jar (i:=2) Jbk.nd rfl (Or.inl rfl) (pv 3))
   (Jai (Jar (i:=3) Jbk.nd rfl (Or.inl rfl) (pv 4))))))
   (Jai (Jao (JaQ (Jaa (pe_op Jas (pv 0) (JaB Jcf rfl T.BcQ JeT (Jaa (pv 2) Jad))) (Jaa (pe_op Jas (pv 1) (JaB Jcf rfl T.BcQ JeT (Jaa (pv 2) Jad))) Jad)))))))), ?_⟩
 obtain ⟨hb,hs,k⟩:=h
 show tSeq _ _ _ [some (.int t),some (.int b),none,none,none] H
 nofun
 refine ⟨fun m σ H' => ∃ (x y:Int) (z:Option V), σ = [some (.int t),some (.int b),some (.int x),some (.int y),z]∧H' = H∧0 ≤ y∧Mth.g x y = Mth.g t b∧y.toNat = m,⟨_,_,_,none,rfl,rfl,by omega,rfl,rfl⟩, ?_⟩
 rintro m σ H' ⟨x,y,z,rfl,rfl,hy,hg,rfl⟩
 nofun
 by_cases c:y = 0
 ·subst c
  rw [if_neg (by simp)]
  nofun
  have gp:=Mth.g_pos (a:=t) (b:=b) (by omega)
  have gl:=Mth.g_le (a:=t) (b:=b) (by omega)
  have d1:DivOk (Mth.g t b):=divOk (n:=8000) (by omega) (Nat.lt_of_le_of_lt (by omega:(Mth.g t b).natAbs ≤ b.natAbs) hs)
  have e:(if x < 0 then -x else x) = Mth.g t b:=by
   rw [← hg,Mth.Jhi]
   split <;> omega
  nofun
  rw [e]
  refine ⟨d1,d1,len2, ?_⟩
  refine Jet fun p H1 S hp => k p H1 S ?_
  rw [hp]
  unfold Mth.top Mth.bot Mth.by_
  rw [if_neg (by omega)]
  nofun
 ·rw [if_pos (by simp [c])]
  nofun
  have f:=Mth.fm (x:=x) (y:=y) (by omega)
  refine ⟨_,fun _ _ q => q, ?_⟩
  nofun
  have hg':Mth.g y (x.fmod y) = Mth.g t b:=by rw [Mth.JfV (by omega)]; exact hg
  first
   | exact ⟨c,(x.fmod y).toNat,by omega,y,x.fmod y,_,rfl,f.1,hg',rfl⟩
   | exact ⟨c,(x.fmod y).toNat,by omega,y,x.fmod y,_,rfl,rfl,f.1,hg',rfl⟩
abbrev BaL:Stmt:=top 43
theorem JeK:Jaq ["_law_k", "_law_sign", "_law_style"] ["_law_k", "_law_sign", "_law_style"] (Jaf BaL):=⟨rfl,rfl,rfl,by decide +kernel,rfl,by decide +kernel,by decide +kernel⟩
def JbL  : Sp:=fun vs H Q E => ∃ (i:Int) (z:Str) (st:Int) (s m:Nat),vs = [.int i, .str z, .int st]∧z.cps = #[s]∧i = (m:Int)∧m ≤ 7∧0 ≤ st∧st ≤ 3∧Q (.str (nmK s st.toNat m)) H
theorem Jey {f:Addr} {fd:FuncData} {dV:Value} (F:FunD K "_law_name" "_law_name" BaL dV f fd) (T:Txt K mg Ad)  : FnOk P w K mg base (CX1 P w) 1 f fd ["_law_k", "_law_sign", "_law_style"] (JbL):=by
 refine F.okn JeK (fun vs H Q E h => ?_) (fun cdv A outer s H vs Q E hr h => ?_)
 ·obtain ⟨i,z,st,s,m,rfl,_⟩:=h; rfl
 obtain ⟨i,z,st,s,m,rfl,h⟩:=h
 have hu:=hr.units
 refine ⟨_,(Jai (Jao (pe_op JaH (pe_op JaH (pe_op JaW (pv 1) (pv 2)) (pe_ix ix_U JaG (pv 0) (fun _ _ => rfl))) (pe_op JaW (pv 1) (pe_op Je5 Jab (pv 2)))))), ?_⟩
 obtain ⟨hz,rfl,hm,h0,h3,q⟩:=h
 have zl:z.cps.toList = [s]:=by rw [hz]
 have zn:z.length = 1:=by rw [JcJ,zl]; rfl
 have sl:(1000:Nat) ≤ sizeLine:=by decide
 show tRet _ _ [some (.int (m:Int)),some (.str z),some (.int st)] H
 nofun
 refine ⟨h0,by omega,by omega,fun z1 hz1 => ?_⟩
 have ez1:z1.cps.toList = List.replicate st.toNat s:=by
  rw [hz1,zl]
  simp
 have eab:(Str.ofString "abcdefgh").cps.toList = List.range' 97 8:=by decide
 refine ⟨97 + m,by decide,by rw [eab]; exact Jcn (by rw [List.getElem?_range' (by omega),Nat.one_mul]), ?_⟩
 nofun
 have l1:z1.length = st.toNat:=by rw [JcJ,ez1,List.length_replicate]
 have e2s:(z1 ++ (⟨#[97 + m]⟩:Str)).cps.toList = List.replicate st.toNat s ++ [97 + m]:=by rw [JeR,ez1]
 have l2s:(z1 ++ (⟨#[97 + m]⟩:Str)).length = st.toNat + 1:=by rw [JcJ,e2s]; simp
 have lc:(⟨#[97 + m]⟩:Str).length = 1:=rfl
 refine ⟨by omega, ?_⟩
 nofun
 refine ⟨by omega,by omega,by omega,fun z2 hz2 => ?_⟩
 have ez2:z2.cps.toList = List.replicate (3 - st.toNat) s:=by
  rw [hz2,zl]
  have : (3 - st).toNat = 3 - st.toNat:=by omega
  rw [this]
  simp
 have l3:z2.length = 3 - st.toNat:=by rw [JcJ,ez2,List.length_replicate]
 nofun
 refine ⟨by omega, ?_⟩
 have en:z1 ++ (⟨#[97 + m]⟩:Str) ++ z2 = nmK s st.toNat m:=by
  have : (z1 ++ (⟨#[97 + m]⟩:Str) ++ z2).cps = (nmK s st.toNat m).cps:=by
   apply Array.toList_inj.mp
   rw [JeR,e2s,ez2]
   unfold nmK
   simp
  cases h1:z1 ++ (⟨#[97 + m]⟩:Str) ++ z2
  cases h2:nmK s st.toNat m
  rw [h1,h2] at this
  congr
 rw [en]
 exact q
abbrev BaM:Stmt:=top 44
theorem JaT:Jaq ["_law_k", "_law_cells", "_law_style", "_law_mixed", "_law_far", "_law_name_here", "_law_one", "_law_other", "_law_size", "_law_most"] ["_law_k", "_law_cells", "_law_style"] (Jaf BaM):=⟨rfl,rfl,rfl,by decide +kernel,rfl,by decide +kernel,by decide +kernel⟩
def Jca (K:PySem.W.Frag):Sp:=fun vs H Q E => ∃ (m:Nat) (c:Addr) (st:Int) (a b:Int),vs = [.int (m:Int), .ref c, .int st]∧SqL K H c [.int a, .int b]∧m ≤ 5∧0 ≤ st∧st ≤ 3∧∀ v p H',Same H H'→PDV K H' p v→POk p→Q v H'
theorem Jez {f:Addr} {fd:FuncData} {dV:Value} (F:FunD K "_law_part" "_law_part" BaM dV f fd) (T:Txt K mg Ad) (Bal:Cal P w K mg base 1 "_law_name" ["_law_k", "_law_sign", "_law_style"] [] (JbL)) (BaP:Cal P w K mg base 1 "_law_low" ["_law_top", "_law_bottom"] [] (JbW)) (Bax:Cal P w K mg base 1 "_law_signed" ["_law_cell_here", "_law_most"] [] (Jbi)):FnOk P w K mg base (CX1 P w) 2 f fd ["_law_k", "_law_cells", "_law_style"] (Jca K):=by
 refine F.okn JaT (fun vs H Q E h => ?_) (fun cdv A outer s H vs Q E hr h => ?_)
 ·obtain ⟨m,c,st,a,b,rfl,_⟩:=h; rfl
 obtain ⟨m,c,st,a,b,rfl,h⟩:=h
 have hu:=hr.units
 refine ⟨_,(Jac (Jar (i:=3) JaT.nd rfl (Or.inl rfl) (pe_op Jas (pe_op Jan (pe_op JaW (pe_ix ix_U (pv 1) Jab (fun _ _ => rfl)) Jab) Jab) Jab))
   (Jac (Jar (i:=4) JaT.nd rfl (Or.inl rfl) (pe_ix ix_U (JaP (Jaa Jab (Jaa (pe_op JeD Jab Jab) Jad))) (pe_op Jan (pe_op Jas (pv 3) Jab) Jab) (fun _ _ => rfl)))
   (Jac (Jar (i:=5) JaT.nd rfl (Or.inl rfl) (Bal.ev hr (by decide) rfl passF (Jaa (pe_ix ix_U (JaP (Jaa (pv 0) (Jaa (pv 0) (Jaa (pv 0) (Jaa (pe_op Jan (pe_op Jas (pv 3) Jab) Jab) Jad))))) (pe_op Jan (pe_op Jas (pv 3) Jab) Jab) (fun _ _ => rfl)) (Jaa JaG (Jaa (pv 2) Jad))) (he:=by exact Jag rfl)))
   (Jac (Jar (i:=6) JaT.nd rfl (Or.inl rfl) (Bal.ev hr (by decide) rfl passF (Jaa (pe_op Jan (pe_op Jas (pv 3) Jab) Jab) (Jaa JaG (Jaa (pv 2) Jad))) (he:=by exact Jag rfl)))
   (Jac (Jar (i:=7) JaT.nd rfl (Or.inl rfl) (Bal.ev hr (by decide) rfl passF (Jaa (pe_op Jan (pe_op JaH (pe_op JaH (pe_op Jas (pv 3) Jab) Jab) (pe_op Jan (pe_op Jas (pv 3) Jab) Jab)) Jab) (Jaa JaG (Jaa (pv 2) Jad))) (he:=by exact Jag rfl)))
   (Jac (Jar (i:=8) JaT.nd rfl (Or.inl rfl) (BaP.ev hr (by decide) rfl passF (Jaa (Bax.ev hr (by decide) rfl passF (Jaa (pe_ix ix_U (pv 1) Jab (fun _ _ => rfl)) (Jaa (pv 4) Jad)) (he:=by exact Jag rfl)) (Jaa (pe_op JaH Jab (pe_op Jan (pe_op Jas (pv 3) Jab) Jab)) Jad)) (he:=by exact Jag rfl)))
   (Jac (Jar (i:=9) JaT.nd rfl (Or.inl rfl) (BaP.ev hr (by decide) rfl passF (Jaa (pe_op Jan (pe_ix ix_U (pv 1) Jab (fun _ _ => rfl)) Jab) (Jaa (pe_op JaH Jab (pe_op Jan (pe_op Jas (pv 3) Jab) Jab)) Jad)) (he:=by exact Jag rfl)))
   (Jai (Jao (JaQ (Jaa (pv 5) (Jaa (pv 6) (Jaa (pv 7) (Jaa (pv 8) (Jaa (pv 9) (Jaa (pe_ix ix_U (JaP (Jaa (pe_op JaH Jab (pe_op Jan (pv 3) Jab)) (Jaa (pe_op JaH Jab (pe_op Jan (pe_ix ix_U (pv 1) Jab (fun _ _ => rfl)) (pe_op JeD Jab Jab))) Jad))) (pe_op Jan (pe_op Jas (pv 3) Jab) Jab) (fun _ _ => rfl)) Jad)))))))))))))))), ?_⟩
 obtain ⟨hc,hm,h0,h3,k⟩:=h
 have sl:(1000:Nat) ≤ sizeLine:=by decide
 have e102:(Str.ofString "f").cps = #[102]:=by decide
 have e112:(Str.ofString "p").cps = #[112]:=by decide
 show tSeq _ _ _ [some (.int (m:Int)),some (.ref c),some (.int st),none,none,none,none,none,none,none] H
 nofun
 refine ixL (i:=0) hc rfl ?_
 nofun
 repeat (refine And.intro (by first | exact Jav (by decide) | exact Jax (by decide) | exact Jaw (by decide) | exact Jam (by decide) | exact Int.one_ne_zero | decide) ?_)
 generalize hmx:((a * 48271).fmod 2147483647).fdiv 37 = mx
 nofun
 repeat (refine And.intro (by first | exact Jav (by decide) | exact Jax (by decide) | exact Jaw (by decide) | exact Jam (by decide) | exact Int.one_ne_zero | decide) ?_)
 intro fl h_fl
 generalize q_fl:upd H fl _ = H1
 have S1:=newS h_fl q_fl
 have e1:=newE q_fl
 nofun
 repeat (refine And.intro (by first | exact Jav (by decide) | exact Jax (by decide) | exact Jaw (by decide) | exact Jam (by decide) | exact Int.one_ne_zero | decide) ?_)
 have q5:=Mth.fm (x:=mx.fdiv 4096) (y:=2) (by decide)
 obtain ⟨n5,hn5⟩:=Int.eq_ofNat_of_zero_le q5.1
 rw [hn5] at q5 ⊢
 obtain ⟨mo,hmo,m1,m2⟩:∃ mo:Int,[V.int 9, .int 10000000000000000000000000000000000000000][n5]? = some (.int mo)∧1 ≤ mo∧mo ≤ 10000000000000000000000000000000000000000:=by
  match n5,q5 with
  | 0,_ => exact ⟨_,rfl,by decide,by decide⟩
  | 1,_ => exact ⟨_,rfl,by decide,by decide⟩
  | n + 2,q5 => omega
 refine ixL (i:=n5) (SqL.of e1) hmo ?_
 nofun
 repeat (refine And.intro (by first | exact Jav (by decide) | exact Jax (by decide) | exact Jaw (by decide) | exact Jam (by decide) | exact Int.one_ne_zero | decide) ?_)
 refine ⟨len4, ?_⟩
 intro nl h_nl
 generalize q_nl:upd H1 nl _ = H2
 have S2:=newS h_nl q_nl
 have e2:=newE q_nl
 nofun
 repeat (refine And.intro (by first | exact Jav (by decide) | exact Jax (by decide) | exact Jaw (by decide) | exact Jam (by decide) | exact Int.one_ne_zero | decide) ?_)
 have q4:=Mth.fm (x:=mx.fdiv 64) (y:=4) (by decide)
 have q6:=Mth.fm (x:=mx.fdiv 8) (y:=6) (by decide)
 obtain ⟨n4,hn4⟩:=Int.eq_ofNat_of_zero_le q4.1
 rw [hn4] at q4 ⊢
 obtain ⟨j,hj,hjl⟩:∃ j:Nat,[V.int (m:Int), .int (m:Int), .int (m:Int), .int ((mx.fdiv 8).fmod 6)][n4]? = some (.int (j:Int))∧j ≤ 7:=by
  match n4,q4 with
  | 0,_ => exact ⟨m,rfl,by omega⟩
  | 1,_ => exact ⟨m,rfl,by omega⟩
  | 2,_ => exact ⟨m,rfl,by omega⟩
  | 3,_ => exact ⟨((mx.fdiv 8).fmod 6).toNat,by rw [Int.toNat_of_nonneg q6.1]; rfl,by omega⟩
  | n + 4,q4 => omega
 refine ixL (i:=n4) (SqL.of e2) hj ?_
 nofun
 refine ⟨_,_,_,112,j,rfl,e112,rfl,hjl,h0,h3, ?_⟩
 nofun
 repeat (refine And.intro (by first | exact Jav (by decide) | exact Jax (by decide) | exact Jaw (by decide) | exact Jam (by decide) | exact Int.one_ne_zero | decide) ?_)
 have q7:=Mth.fm (x:=mx.fdiv 512) (y:=7) (by decide)
 refine ⟨_,_,_,102,((mx.fdiv 512).fmod 7).toNat,rfl,e102,by omega,by omega,h0,h3, ?_⟩
 nofun
 repeat (refine And.intro (by first | exact Jav (by decide) | exact Jax (by decide) | exact Jaw (by decide) | exact Jam (by decide) | exact Int.one_ne_zero | decide) ?_)
 have q8:=Mth.fm (x:=mx.fdiv 512 + 1 + (mx.fdiv 16).fmod 6) (y:=7) (by decide)
 refine ⟨_,_,_,102,((mx.fdiv 512 + 1 + (mx.fdiv 16).fmod 6).fmod 7).toNat,rfl,e102,by omega,by omega,h0,h3, ?_⟩
 have q9:=Mth.fm (x:=mx.fdiv 16) (y:=6) (by decide)
 have nn:nmK 102 st.toNat ((mx.fdiv 512).fmod 7).toNat ≠ nmK 102 st.toNat ((mx.fdiv 512 + 1 + (mx.fdiv 16).fmod 6).fmod 7).toNat:=fun z => by
  have z:=Jf5 z
  exact mod7 q9.1 q9.2 (by omega:(mx.fdiv 512).fmod 7 = (mx.fdiv 512 + 1 + (mx.fdiv 16).fmod 6).fmod 7)
 have hn1:nameS (nmK 112 st.toNat j) = true:=JbU (by decide) (by omega) (by omega)
 have hn2:nameS (nmK 102 st.toNat ((mx.fdiv 512).fmod 7).toNat) = true:=JbU (by decide) (by omega) (by omega)
 have hn3:nameS (nmK 102 st.toNat ((mx.fdiv 512 + 1 + (mx.fdiv 16).fmod 6).fmod 7).toNat) = true:=JbU (by decide) (by omega) (by omega)
 generalize nmK 112 st.toNat j = N1 at *
 generalize nmK 102 st.toNat ((mx.fdiv 512).fmod 7).toNat = N2 at *
 generalize nmK 102 st.toNat ((mx.fdiv 512 + 1 + (mx.fdiv 16).fmod 6).fmod 7).toNat = N3 at *
 nofun
 have hc2:=(hc.same S1).same S2
 refine ixL (i:=1) hc2 rfl ?_
 nofun
 refine ⟨b,mo,rfl,m1,fun tp ht1 ht2 => ?_⟩
 nofun
 repeat (refine And.intro (by first | exact Jav (by decide) | exact Jax (by decide) | exact Jaw (by decide) | exact Jam (by decide) | exact Int.one_ne_zero | decide) ?_)
 have qa:=Mth.fm (x:=mx.fdiv 32) (y:=12) (by decide)
 refine ⟨tp,_,rfl,by omega, .lit (by omega) (by omega),fun fz H3 S3 e3 => ?_⟩
 have zb:FOk 200 (Mth.top tp (1 + (mx.fdiv 32).fmod 12),Mth.bot tp (1 + (mx.fdiv 32).fmod 12)):=(FB.low (A:=133) (B:=5) (by omega) (.lit (by omega) (by omega)) (.lit (by omega) (by omega))).ok (by decide) (by decide)
 nofun
 refine ixL (i:=1) (hc2.same S3) rfl ?_
 nofun
 repeat (refine And.intro (by first | exact Jav (by decide) | exact Jax (by decide) | exact Jaw (by decide) | exact Jam (by decide) | exact Int.one_ne_zero | decide) ?_)
 have qb:=Mth.fm (x:=b) (y:=13) (by decide)
 have qc:=Mth.fm (x:=mx.fdiv 128) (y:=6) (by decide)
 refine ⟨_,_,rfl,by omega, .lit (by omega) (by omega),fun fo H4 S4 e4 => ?_⟩
 have ob:FOk 200 (Mth.top (b.fmod 13) (1 + (mx.fdiv 128).fmod 6),Mth.bot (b.fmod 13) (1 + (mx.fdiv 128).fmod 6)):=(FB.low (A:=5) (B:=5) (by omega) (.lit (by omega) (by omega)) (.lit (by omega) (by omega))).ok (by decide) (by decide)
 have on:0 ≤ Mth.top (b.fmod 13) (1 + (mx.fdiv 128).fmod 6):=JiY qb.1 (by omega)
 generalize Mth.top tp (1 + (mx.fdiv 32).fmod 12) = z1 at *
 generalize Mth.bot tp (1 + (mx.fdiv 32).fmod 12) = z2 at *
 generalize Mth.top (b.fmod 13) (1 + (mx.fdiv 128).fmod 6) = o1 at *
 generalize Mth.bot (b.fmod 13) (1 + (mx.fdiv 128).fmod 6) = o2 at *
 nofun
 repeat (refine And.intro (by first | exact Jav (by decide) | exact Jax (by decide) | exact Jaw (by decide) | exact Jam (by decide) | exact Int.one_ne_zero | decide) ?_)
 refine ixL (i:=1) ((hc2.same S3).same S4) rfl ?_
 nofun
 repeat (refine And.intro (by first | exact Jav (by decide) | exact Jax (by decide) | exact Jaw (by decide) | exact Jam (by decide) | exact Int.one_ne_zero | decide) ?_)
 refine ⟨len2, ?_⟩
 intro wl h_wl
 generalize q_wl:upd H4 wl _ = H5
 have S5:=newS h_wl q_wl
 have e5:=newE q_wl
 nofun
 repeat (refine And.intro (by first | exact Jav (by decide) | exact Jax (by decide) | exact Jaw (by decide) | exact Jam (by decide) | exact Int.one_ne_zero | decide) ?_)
 have qd:=Mth.fm (x:=mx.fdiv 8192) (y:=2) (by decide)
 have qe:=Mth.fm (x:=mx) (y:=4) (by decide)
 have qf:=Mth.fm (x:=b) (y:=1000000) (by decide)
 obtain ⟨nd,hnd⟩:=Int.eq_ofNat_of_zero_le qd.1
 rw [hnd] at qd ⊢
 obtain ⟨wt,hwt,w1,w2⟩:∃ wt:Int,[V.int (1 + mx.fmod 4), .int (1 + b.fmod 1000000)][nd]? = some (.int wt)∧1 ≤ wt∧wt ≤ 1000000:=by
  match nd,qd with
  | 0,_ => exact ⟨_,rfl,by omega,by omega⟩
  | 1,_ => exact ⟨_,rfl,by omega,by omega⟩
  | n + 2,qd => omega
 refine ixL (i:=nd) (SqL.of e5) hwt ?_
 nofun
 refine ⟨by show 6 ≤ sizeLine; omega, ?_⟩
 intro pt h_pt
 generalize q_pt:upd H5 pt _ = H6
 have S6:=newS h_pt q_pt
 have e6:=newE q_pt
 nofun
 refine k (.ref pt) ⟨N1,N2,N3,(z1,z2),(o1,o2),wt⟩ H6 (S1.trans (S2.trans (S3.trans (S4.trans (S5.trans S6))))) ⟨pt, .ref fz, .ref fo,rfl,SqT.of e6,FrV.of (S6 _ _ (S5 _ _ (S4 _ _ e3))),FrV.of (S6 _ _ (S5 _ _ e4))⟩ ⟨hn1,hn2,hn3,nn,zb,ob,on,w1,(Mth.Sz.lit (n:=64) (show -(2 ^ 64) < wt by omega) (show wt < 2 ^ 64 by omega)).mono (by decide)⟩
abbrev Ba5:Stmt:=top 45
theorem Jbj:Jaq ["_law_k", "_law_cells", "_law_style", "_law_mixed", "_law_name_here", "_law_one", "_law_other", "_law_low_here"] ["_law_k", "_law_cells", "_law_style"] (Jaf Ba5):=⟨rfl,rfl,rfl,by decide +kernel,rfl,by decide +kernel,by decide +kernel⟩
def Jcz (K:PySem.W.Frag):Sp:=fun vs H Q E => ∃ (m:Nat) (c:Addr) (st:Int) (a b:Int),vs = [.int (m:Int), .ref c, .int st]∧SqL K H c [.int a, .int b]∧m ≤ 5∧0 ≤ st∧st ≤ 3∧∀ v (g:GD) H',Same H H'→TV K H' g.td v→TOk g.td→Q v H'
theorem Jfv {f:Addr} {fd:FuncData} {dV:Value} (F:FunD K "_law_gap" "_law_gap" Ba5 dV f fd) (T:Txt K mg Ad) (Bal:Cal P w K mg base 1 "_law_name" ["_law_k", "_law_sign", "_law_style"] [] (JbL)) (BaP:Cal P w K mg base 1 "_law_low" ["_law_top", "_law_bottom"] [] (JbW)) (Bax:Cal P w K mg base 1 "_law_signed" ["_law_cell_here", "_law_most"] [] (Jbi)):FnOk P w K mg base (CX1 P w) 2 f fd ["_law_k", "_law_cells", "_law_style"] (Jcz K):=by
 refine F.okn Jbj (fun vs H Q E h => ?_) (fun cdv A outer s H vs Q E hr h => ?_)
 ·obtain ⟨m,c,st,a,b,rfl,_⟩:=h; rfl
 obtain ⟨m,c,st,a,b,rfl,h⟩:=h
 have hu:=hr.units
 refine ⟨_,(Jac (Jar (i:=3) Jbj.nd rfl (Or.inl rfl) (pe_op Jas (pe_op Jan (pe_op JaW (pe_ix ix_U (pv 1) Jab (fun _ _ => rfl)) Jab) Jab) Jab))
   (Jac (Jar (i:=4) Jbj.nd rfl (Or.inl rfl) (Bal.ev hr (by decide) rfl passF (Jaa (pe_ix ix_U (JaP (Jaa (pv 0) (Jaa (pv 0) (Jaa (pv 0) (Jaa (pe_op Jan (pe_op Jas (pv 3) Jab) Jab) Jad))))) (pe_op Jan (pe_op Jas (pv 3) Jab) Jab) (fun _ _ => rfl)) (Jaa (pe_ix ix_U (JaP (Jaa JaG (Jaa JaG Jad))) (pe_op Jan (pe_op Jas (pv 3) Jab) Jab) (fun _ _ => rfl)) (Jaa (pv 2) Jad))) (he:=by exact Jag rfl)))
   (Jac (Jar (i:=5) Jbj.nd rfl (Or.inl rfl) (Bal.ev hr (by decide) rfl passF (Jaa (pe_op Jan (pe_op Jas (pv 3) Jab) Jab) (Jaa JaG (Jaa (pv 2) Jad))) (he:=by exact Jag rfl)))
   (Jac (Jar (i:=6) Jbj.nd rfl (Or.inl rfl) (Bal.ev hr (by decide) rfl passF (Jaa (pe_op Jan (pe_op JaH (pe_op JaH (pe_op Jas (pv 3) Jab) Jab) (pe_op Jan (pe_op Jas (pv 3) Jab) Jab)) Jab) (Jaa JaG (Jaa (pv 2) Jad))) (he:=by exact Jag rfl)))
   (Jac (Jar (i:=7) Jbj.nd rfl (Or.inl rfl) (BaP.ev hr (by decide) rfl passF (Jaa (Bax.ev hr (by decide) rfl passF (Jaa (pe_ix ix_U (pv 1) Jab (fun _ _ => rfl)) (Jaa (pe_op JeD Jab Jab) Jad)) (he:=by exact Jag rfl)) (Jaa (pe_op JaH Jab (pe_op Jan (pe_op Jas (pv 3) Jab) Jab)) Jad)) (he:=by exact Jag rfl)))
   (Jai (Jao (JaQ (Jaa (pv 4) (Jaa (pv 5) (Jaa (pv 6) (Jaa (pv 7) (Jaa (JaQ (Jaa (pe_op JaH (pe_ix ix_U (pv 7) Jab (fun _ _ => rfl)) (pe_op JaW (pe_ix ix_U (pv 7) Jab (fun _ _ => rfl)) (pe_op Jan (pv 3) Jab))) (Jaa (pe_ix ix_U (pv 7) Jab (fun _ _ => rfl)) Jad))) Jad))))))))))))), ?_⟩
 obtain ⟨hc,hm,h0,h3,k⟩:=h
 have sl:(1000:Nat) ≤ sizeLine:=by decide
 have e102:(Str.ofString "f").cps = #[102]:=by decide
 have e103:(Str.ofString "g").cps = #[103]:=by decide
 have e112:(Str.ofString "p").cps = #[112]:=by decide
 show tSeq _ _ _ [some (.int (m:Int)),some (.ref c),some (.int st),none,none,none,none,none] H
 nofun
 refine ixL (i:=0) hc rfl ?_
 nofun
 repeat (refine And.intro (by first | exact Jav (by decide) | exact Jax (by decide) | exact Jaw (by decide) | exact Jam (by decide) | exact Int.one_ne_zero | decide) ?_)
 generalize hmx:((a * 39373).fmod 2147483629).fdiv 37 = mx
 nofun
 repeat (refine And.intro (by first | exact Jav (by decide) | exact Jax (by decide) | exact Jaw (by decide) | exact Jam (by decide) | exact Int.one_ne_zero | decide) ?_)
 refine ⟨len4, ?_⟩
 intro nl h_nl
 generalize q_nl:upd H nl _ = H1
 have S1:=newS h_nl q_nl
 have e1:=newE q_nl
 nofun
 repeat (refine And.intro (by first | exact Jav (by decide) | exact Jax (by decide) | exact Jaw (by decide) | exact Jam (by decide) | exact Int.one_ne_zero | decide) ?_)
 have q4:=Mth.fm (x:=mx.fdiv 64) (y:=4) (by decide)
 have q6:=Mth.fm (x:=mx.fdiv 8) (y:=5) (by decide)
 obtain ⟨n4,hn4⟩:=Int.eq_ofNat_of_zero_le q4.1
 rw [hn4] at q4 ⊢
 obtain ⟨j,hj,hjl⟩:∃ j:Nat,[V.int (m:Int), .int (m:Int), .int (m:Int), .int ((mx.fdiv 8).fmod 5)][n4]? = some (.int (j:Int))∧j ≤ 7:=by
  match n4,q4 with
  | 0,_ => exact ⟨m,rfl,by omega⟩
  | 1,_ => exact ⟨m,rfl,by omega⟩
  | 2,_ => exact ⟨m,rfl,by omega⟩
  | 3,_ => exact ⟨((mx.fdiv 8).fmod 5).toNat,by rw [Int.toNat_of_nonneg q6.1]; rfl,by omega⟩
  | n + 4,q4 => omega
 refine ixL (i:=n4) (SqL.of e1) hj ?_
 nofun
 repeat (refine And.intro (by first | exact Jav (by decide) | exact Jax (by decide) | exact Jaw (by decide) | exact Jam (by decide) | exact Int.one_ne_zero | decide) ?_)
 intro sg h_sg
 generalize q_sg:upd H1 sg _ = H2
 have S2:=newS h_sg q_sg
 have e2:=newE q_sg
 nofun
 repeat (refine And.intro (by first | exact Jav (by decide) | exact Jax (by decide) | exact Jaw (by decide) | exact Jam (by decide) | exact Int.one_ne_zero | decide) ?_)
 have q5:=Mth.fm (x:=mx.fdiv 1024) (y:=2) (by decide)
 obtain ⟨n5,hn5⟩:=Int.eq_ofNat_of_zero_le q5.1
 rw [hn5] at q5 ⊢
 obtain ⟨zc,sc_,hzc,hsc,hsr⟩:∃ (zc:Str) (sc_:Nat),[V.str (Str.ofString "g"),V.str (Str.ofString "p")][n5]? = some (.str zc)∧zc.cps = #[sc_]∧97 ≤ sc_∧sc_ ≤ 122:=by
  match n5,q5 with
  | 0,_ => exact ⟨_,103,rfl,e103,by decide,by decide⟩
  | 1,_ => exact ⟨_,112,rfl,e112,by decide,by decide⟩
  | n + 2,q5 => omega
 refine ixL (i:=n5) (SqL.of e2) hzc ?_
 nofun
 refine ⟨_,_,_,sc_,j,rfl,hsc,rfl,hjl,h0,h3, ?_⟩
 nofun
 repeat (refine And.intro (by first | exact Jav (by decide) | exact Jax (by decide) | exact Jaw (by decide) | exact Jam (by decide) | exact Int.one_ne_zero | decide) ?_)
 have q7:=Mth.fm (x:=mx.fdiv 512) (y:=7) (by decide)
 refine ⟨_,_,_,102,((mx.fdiv 512).fmod 7).toNat,rfl,e102,by omega,by omega,h0,h3, ?_⟩
 nofun
 repeat (refine And.intro (by first | exact Jav (by decide) | exact Jax (by decide) | exact Jaw (by decide) | exact Jam (by decide) | exact Int.one_ne_zero | decide) ?_)
 have q8:=Mth.fm (x:=mx.fdiv 512 + 1 + (mx.fdiv 16).fmod 6) (y:=7) (by decide)
 refine ⟨_,_,_,102,((mx.fdiv 512 + 1 + (mx.fdiv 16).fmod 6).fmod 7).toNat,rfl,e102,by omega,by omega,h0,h3, ?_⟩
 have q9:=Mth.fm (x:=mx.fdiv 16) (y:=6) (by decide)
 have nn:nmK 102 st.toNat ((mx.fdiv 512).fmod 7).toNat ≠ nmK 102 st.toNat ((mx.fdiv 512 + 1 + (mx.fdiv 16).fmod 6).fmod 7).toNat:=fun z => by
  have z:=Jf5 z
  exact mod7 q9.1 q9.2 (by omega:(mx.fdiv 512).fmod 7 = (mx.fdiv 512 + 1 + (mx.fdiv 16).fmod 6).fmod 7)
 have hn1:nameS (nmK sc_ st.toNat j) = true:=JbU hsr (by omega) (by omega)
 have hn2:nameS (nmK 102 st.toNat ((mx.fdiv 512).fmod 7).toNat) = true:=JbU (by decide) (by omega) (by omega)
 have hn3:nameS (nmK 102 st.toNat ((mx.fdiv 512 + 1 + (mx.fdiv 16).fmod 6).fmod 7).toNat) = true:=JbU (by decide) (by omega) (by omega)
 generalize nmK sc_ st.toNat j = N1 at *
 generalize nmK 102 st.toNat ((mx.fdiv 512).fmod 7).toNat = N2 at *
 generalize nmK 102 st.toNat ((mx.fdiv 512 + 1 + (mx.fdiv 16).fmod 6).fmod 7).toNat = N3 at *
 nofun
 have hc2:=(hc.same S1).same S2
 refine ixL (i:=1) hc2 rfl ?_
 nofun
 repeat (refine And.intro (by first | exact Jav (by decide) | exact Jax (by decide) | exact Jaw (by decide) | exact Jam (by decide) | exact Int.one_ne_zero | decide) ?_)
 refine ⟨b,_,rfl,by decide,fun tp ht1 ht2 => ?_⟩
 nofun
 repeat (refine And.intro (by first | exact Jav (by decide) | exact Jax (by decide) | exact Jaw (by decide) | exact Jam (by decide) | exact Int.one_ne_zero | decide) ?_)
 have qa:=Mth.fm (x:=mx.fdiv 32) (y:=12) (by decide)
 refine ⟨tp,_,rfl,by omega, .lit (by omega) (by omega),fun fz H3 S3 e3 => ?_⟩
 have zb:FOk 200 (Mth.top tp (1 + (mx.fdiv 32).fmod 12),Mth.bot tp (1 + (mx.fdiv 32).fmod 12)):=(FB.low (A:=133) (B:=5) (by omega) (.lit (by omega) (by omega)) (.lit (by omega) (by omega))).ok (by decide) (by decide)
 generalize Mth.top tp (1 + (mx.fdiv 32).fmod 12) = z1 at *
 generalize Mth.bot tp (1 + (mx.fdiv 32).fmod 12) = z2 at *
 nofun
 refine ixF0 (FrV.of e3) ?_
 nofun
 refine ixF1 (FrV.of e3) ?_
 nofun
 repeat (refine And.intro (by first | exact Jav (by decide) | exact Jax (by decide) | exact Jaw (by decide) | exact Jam (by decide) | exact Int.one_ne_zero | decide) ?_)
 have qk:=Mth.fm (x:=mx) (y:=3) (by decide)
 refine ⟨mulOk zb.s2 (Mth.Sz.lit (n:=4) (by omega) (by omega)), ?_⟩
 refine ixF1 (FrV.of e3) ?_
 nofun
 refine ⟨len2, ?_⟩
 intro hp h_hp
 generalize q_hp:upd H3 hp _ = H4
 have S4:=newS h_hp q_hp
 have e4:=newE q_hp
 nofun
 refine ⟨len5, ?_⟩
 intro gt h_gt
 generalize q_gt:upd H4 gt _ = H5
 have S5:=newS h_gt q_gt
 have e5:=newE q_gt
 nofun
 refine k (.ref gt) ⟨N1,N2,N3,(z1,z2),(z1 + z2 * mx.fmod 3,z2)⟩ H5 (S1.trans (S2.trans (S3.trans (S4.trans S5)))) ⟨gt, .ref fz, .ref hp,rfl,SqT.of e5,FrV.of (S5 _ _ (S4 _ _ e3)),FrV.of (S5 _ _ e4)⟩ ⟨hn1,hn2,hn3,nn,fun u hu => by cases hu; exact zb.mono (by decide),fun u hu => by cases hu; exact Jis zb qk.1 (by omega),JhQ zb.b1 qk.1⟩
abbrev BaN:Stmt:=top 46
theorem JeL:Jaq ["_law_thing", "_law_at", "_law_part_here"] ["_law_thing", "_law_at", "_law_part_here"] (Jaf BaN):=⟨rfl,rfl,rfl,by decide +kernel,rfl,by decide +kernel,by decide +kernel⟩
def Jcb (K:PySem.W.Frag):Sp:=fun vs H Q E => ∃ (a:Addr) (i:Nat) (x:V) (xs:List V),vs = [.ref a, .int (i:Int),x]∧SqT K H a xs∧i < xs.length∧2 ≤ xs.length∧xs.length ≤ 8∧∀ q H',Same H H'→H q = none→H' q = some (.tup (xs.set i x))→Q (.ref q) H'
theorem JeA {f:Addr} {fd:FuncData} {dV:Value} (F:FunD K "_law_with" "_law_with" BaN dV f fd) (T:Txt K mg Ad)  : FnOk P w K mg base (CX1 P w) 1 f fd ["_law_thing", "_law_at", "_law_part_here"] (Jcb K):=by
 refine F.okn JeL (fun vs H Q E h => ?_) (fun cdv A outer s H vs Q E hr h => ?_)
 ·obtain ⟨a,i,x,xs,rfl,_⟩:=h; rfl
 obtain ⟨a,i,x,xs,rfl,h⟩:=h
 have hu:=hr.units
 refine ⟨_,(Jai (Jao (pe_op JeB (pe_op JeB (JdK sl_V (pv 0) JeE (JeF (pv 1))) (JaQ (Jaa (pv 2) Jad))) (JdK sl_V (pv 0) (JeF (pe_op JeB (pv 1) Jab)) JeE)))), ?_⟩
 obtain ⟨hT,hi,h2,h8,k⟩:=h
 have sl:(1000:Nat) ≤ sizeLine:=by decide
 show tRet _ _ [some (.ref a),some (.int (i:Int)),some x] H
 nofun
 refine .inl (.inr ⟨a,xs,rfl,hT,by intro z; have:=z.2; unfold HT.sIx at this; dsimp only at this; rw [if_neg (by omega)] at this; omega, ?_⟩)
 rw [Jim (by omega)]
 intro q1 h_q1
 generalize q_q1:upd H q1 _ = H1
 have S1:=newS h_q1 q_q1
 have e1:=newE q_q1
 nofun
 refine ⟨by show 1 ≤ sizeLine; omega, ?_⟩
 intro q2 h_q2
 generalize q_q2:upd H1 q2 _ = H2
 have S2:=newS h_q2 q_q2
 have e2:=newE q_q2
 nofun
 have S12:=S1.trans S2
 by_cases c0:i = 0
 ·subst c0
  refine .inr ⟨_,SqT.of (S2 _ _ e1),SqT.of e2, ?_⟩
  have e3:H2 q2 = some (.tup (xs.take 0 ++ [x])):=e2
  nofun
  refine .inl (.inr ⟨a,xs,rfl,hT.same S12,by intro z; have:=z.1; unfold HT.sIx at this; dsimp only at this; rw [if_neg (by omega)] at this; omega, ?_⟩)
  rw [show ((0:Nat):Int) + 1 = ((0 + 1:Nat):Int) by omega,JeW (by omega)]
  intro q4 h_q4
  generalize q_q4:upd H2 q4 _ = H4
  have S4:=newS h_q4 q_q4
  have e4:=newE q_q4
  nofun
  by_cases last:0 + 1 = xs.length
  ·have en:xs.drop (0 + 1) = []:=List.drop_eq_nil_of_le (by omega)
   refine .inl (.inr ⟨q2,q4,_,_,rfl,rfl,SqT.of (S4 _ _ e3),SqT.of e4,by simp,by rw [List.length_append,List.length_take,List.length_drop,List.length_singleton]; omega,fun _ => ?_,fun z => absurd en z⟩)
   refine k q2 H4 (S12.trans S4) (Jd3 S1 h_q2) ?_
   rw [JdT hi,en,List.append_nil]
   exact S4 _ _ e3
  ·have en:xs.drop (0 + 1) ≠ []:=fun z => by have:=congrArg List.length z; rw [List.length_drop,List.length_nil] at this; omega
   refine .inl (.inr ⟨q2,q4,_,_,rfl,rfl,SqT.of (S4 _ _ e3),SqT.of e4,by simp,by rw [List.length_append,List.length_take,List.length_drop,List.length_singleton]; omega,fun z => absurd z en,fun _ => ?_⟩)
   intro q5 h_q5
   generalize q_q5:upd H4 q5 _ = H5
   have S5:=newS h_q5 q_q5
   have e5:=newE q_q5
   nofun
   refine k q5 H5 (S12.trans (S4.trans S5)) (Jd3 (S12.trans S4) h_q5) ?_
   rw [JdT hi]
   exact e5
 ·have ne:xs.take i ≠ []:=fun z => by have:=congrArg List.length z; rw [List.length_take,List.length_nil] at this; omega
  refine .inl (.inr ⟨q1,q2,_,_,rfl,rfl,SqT.of (S2 _ _ e1),SqT.of e2,ne,by rw [List.length_take,List.length_singleton]; omega,fun z => absurd z (by simp),fun _ => ?_⟩)
  intro q3 h_q3
  generalize q_q3:upd H2 q3 _ = H3
  have S3:=newS h_q3 q_q3
  have e3:=newE q_q3
  nofun
  have S13:=S12.trans S3
  nofun
  refine .inl (.inr ⟨a,xs,rfl,hT.same S13,by intro z; have:=z.1; unfold HT.sIx at this; dsimp only at this; rw [if_neg (by omega)] at this; omega, ?_⟩)
  rw [show (i:Int) + 1 = ((i + 1:Nat):Int) by omega,JeW (by omega)]
  intro q4 h_q4
  generalize q_q4:upd H3 q4 _ = H4
  have S4:=newS h_q4 q_q4
  have e4:=newE q_q4
  nofun
  by_cases last:i + 1 = xs.length
  ·have en:xs.drop (i + 1) = []:=List.drop_eq_nil_of_le (by omega)
   refine .inl (.inr ⟨q3,q4,_,_,rfl,rfl,SqT.of (S4 _ _ e3),SqT.of e4,by simp,by rw [List.length_append,List.length_take,List.length_drop,List.length_singleton]; omega,fun _ => ?_,fun z => absurd en z⟩)
   refine k q3 H4 (S13.trans S4) (Jd3 S12 h_q3) ?_
   rw [JdT hi,en,List.append_nil]
   exact S4 _ _ e3
  ·have en:xs.drop (i + 1) ≠ []:=fun z => by have:=congrArg List.length z; rw [List.length_drop,List.length_nil] at this; omega
   refine .inl (.inr ⟨q3,q4,_,_,rfl,rfl,SqT.of (S4 _ _ e3),SqT.of e4,by simp,by rw [List.length_append,List.length_take,List.length_drop,List.length_singleton]; omega,fun z => absurd z en,fun _ => ?_⟩)
   intro q5 h_q5
   generalize q_q5:upd H4 q5 _ = H5
   have S5:=newS h_q5 q_q5
   have e5:=newE q_q5
   nofun
   refine k q5 H5 (S13.trans (S4.trans S5)) (Jd3 (S13.trans S4) h_q5) ?_
   rw [JdT hi]
   exact e5
abbrev Bar:Stmt:=top 47
theorem Jb2:Jaq ["_law_thing", "_law_way", "_law_at"] ["_law_thing", "_law_way"] (Jaf Bar):=⟨rfl,rfl,rfl,by decide +kernel,rfl,by decide +kernel,by decide +kernel⟩
def Jbx (K:PySem.W.Frag):Sp:=fun vs H Q E => ∃ (x:V) (w:Int) (e:PD ⊕ GD) (p:Addr),vs = [x, .int w]∧EV K H e x∧okE e∧(∃ ys,H p = some (.lst ys))∧∀ y c H',Same H H'→Rep K (cut p H') c y→szD c→depD c ≤ 5→badE e c→Q y H'
theorem Jdb {f:Addr} {fd:FuncData} {dV:Value} (F:FunD K "_law_spoiled" "_law_spoiled" Bar dV f fd) (T:Txt K mg Ad) (Bay:Cal P w K mg base 1 "_law_with" ["_law_thing", "_law_at", "_law_part_here"] [] (Jcb K)):FnOk P w K mg base (CX1 P w) 2 f fd ["_law_thing", "_law_way"] (Jbx K):=by
 refine F.okn Jb2 (fun vs H Q E h => ?_) (fun cdv A outer s H vs Q E hr h => ?_)
 ·obtain ⟨x,w,e,p,rfl,_⟩:=h; rfl
 obtain ⟨x,w,e,p,rfl,h⟩:=h
 have hu:=hr.units
 refine ⟨_,(Jac (Jar (i:=2) Jb2.nd rfl (Or.inl rfl) (pe_op Jan (pe_op Jas (pv 1) Jab) (JaB JaY rfl T.Bb8 JbZ (Jaa (pv 0) Jad))))
   (Jac (ps_if (Jay (Jbr hu) (pe_op Jan (pv 1) Jab) Jab (Jaz _))
   (Jai (Jao (pe_ix ix_U (JaP (Jaa (Jci Jco rfl T.BcD Jdr (Jaa (pv 0) Jad)) (Jaa (JdK sl_V (pv 0) JeE (JeF (pe_un JgC Jab))) (Jaa (pe_op JaH (pv 0) (JaQ (Jaa Jab Jad))) (Jaa Jbf (Jaa Jab (Jaa (pe_ix ix_U (pv 0) Jab (fun _ _ => rfl)) (Jaa (JaQ Jad) Jad)))))))) (pe_op Jan (pe_op Jas (pv 1) Jab) Jab) (fun _ _ => rfl))))
   Jau)
   (Jac (ps_if (Jay (Jbr hu) (pe_op Jan (pv 1) Jab) Jab (Jaz _))
   (Jai (Jao (Bay.ev hr (by decide) rfl passF (Jaa (pv 0) (Jaa (pv 2) (Jaa (pe_ix ix_U (JaP (Jaa Jbf (Jaa pe_bl (Jaa pe_bl (Jaa (JaP Jad) (Jaa (JaQ (Jaa Jab Jad)) (Jaa (JaQ (Jaa Jab (Jaa Jab Jad))) (Jaa (JaQ (Jaa Jab (Jaa Jab Jad))) (Jaa (JaQ (Jaa pe_bl (Jaa Jab Jad))) Jad))))))))) (pe_op Jan (pe_op Jas (pv 1) Jab) Jab) (fun _ _ => rfl)) Jad))) (he:=by exact Jag rfl))))
   Jau)
   (Jac (ps_if (Jay (Jbr hu) (pe_op Jan (pv 1) Jab) Jab (Jaz _))
   (Jai (Jao (Bay.ev hr (by decide) rfl passF (Jaa (pv 0) (Jaa (pe_op Jan (pe_op Jas (pv 1) Jab) Jab) (Jaa (pe_ix ix_U (JaP (Jaa JaG (Jaa JaG (Jaa JaG (Jaa JaG (Jaa JaG (JiI (Jaa Jbf (Jaa JaG Jad))))))))) (pe_op Jan (pe_op Jas (pv 1) Jab) Jab) (fun _ _ => rfl)) Jad))) (he:=by exact Jag rfl))))
   Jau)
   (Jac (ps_if (Jay (Jbr hu) (pe_op Jan (pv 1) Jab) Jab (Jaz _))
   (Jai (Jao (Bay.ev hr (by decide) rfl passF (Jaa (pv 0) (Jaa Jab (Jaa (pe_ix ix_U (pv 0) Jab (fun _ _ => rfl)) Jad))) (he:=by exact Jag rfl))))
   Jau)
   (Jac (ps_if (PW.pt (Jgn (Jay (Jbr hu) (JaB JaY rfl T.Bb8 JbZ (Jaa (pv 0) Jad)) Jab (Jaz _)) (Jgo (Jay (Jbr hu) (pe_op Jan (pv 1) Jab) Jab (Jaz _)))))
   (Jai (Jao (Bay.ev hr (by decide) rfl passF (Jaa (pv 0) (Jaa Jab (Jaa (JaQ (Jaa (pe_op Je5 (pe_un JgC Jab) (pe_op Jan (pe_op Jas (pv 1) Jab) Jab)) (Jaa Jab Jad))) Jad))) (he:=by exact Jag rfl))))
   Jau)
   (Jac (ps_if (Jay (Jbr hu) (JaB JaY rfl T.Bb8 JbZ (Jaa (pv 0) Jad)) Jab (Jaz _))
   (Jai (Jao (Bay.ev hr (by decide) rfl passF (Jaa (pv 0) (Jaa Jab (Jaa (pe_ix ix_U (JaP (Jaa Jab (Jaa (pe_un JgC Jab) (Jaa pe_bl (Jaa (JaQ (Jaa Jab (Jaa Jab Jad))) (Jaa Jbf Jad)))))) (pe_op Jan (pe_op Jas (pv 1) Jab) Jab) (fun _ _ => rfl)) Jad))) (he:=by exact Jag rfl))))
   Jau)
   (Jai (Jao (Bay.ev hr (by decide) rfl passF (Jaa (pv 0) (Jaa Jab (Jaa (JaQ (Jaa (pe_op JaH (pe_ix ix_U (pe_ix ix_U (pv 0) Jab (fun _ _ => rfl)) Jab (fun _ _ => rfl)) (pe_ix ix_U (pe_ix ix_U (pv 0) Jab (fun _ _ => rfl)) Jab (fun _ _ => rfl))) (Jaa (pe_ix ix_U (pe_ix ix_U (pv 0) Jab (fun _ _ => rfl)) Jab (fun _ _ => rfl)) Jad))) Jad))) (he:=by exact Jag rfl))))))))))), ?_⟩
 obtain ⟨hE,hk,⟨ys,hp⟩,k⟩:=h
 obtain ⟨a,xs,rfl,hT,hR⟩:=(hE.cut hp).sq
 have hT0:SqT K H a xs:=hT.same JcH
 have sl:(1000:Nat) ≤ sizeLine:=by decide
 have lx:=hR.length
 have sz:=ok_sz hk
 have dp:=Jip e
 have l56:xs.length = 5 ∨ xs.length = 6:=by
  rw [← lx]
  cases e with
  | inl p => exact .inr rfl
  | inr g => exact .inl rfl
 show tSeq _ _ _ [some (.ref a),some (.int w),none] H
 nofun
 repeat (refine And.intro (by first | exact Jav (by decide) | exact Jax (by decide) | exact Jaw (by decide) | exact Jam (by decide) | exact Int.one_ne_zero | decide) ?_)
 refine ⟨xs, .inr hT0, ?_⟩
 nofun
 refine ⟨by omega, ?_⟩
 have qa:=Mth.fm (x:=w.fdiv 16) (y:=(xs.length:Int)) (by omega)
 obtain ⟨at_,hat⟩:=Int.eq_ofNat_of_zero_le qa.1
 rw [hat] at qa ⊢
 nofun
 repeat (refine And.intro (by first | exact Jav (by decide) | exact Jax (by decide) | exact Jaw (by decide) | exact Jam (by decide) | exact Int.one_ne_zero | decide) ?_)
 by_cases c0:w.fmod 8 = 0
 ·rw [if_pos (by simpa using c0)]
  nofun
  refine ⟨a,xs,rfl, .inr hT0, ?_⟩
  intro q0 h_q0
  generalize q_q0:upd H q0 _ = H1
  have S1:=newS h_q0 q_q0
  have f0:=newE q_q0
  nofun
  refine .inl (.inr ⟨a,xs,rfl,hT0.same S1,by intro z; have:=z.2; unfold HT.sIx at this; dsimp only at this; rw [if_pos (by decide)] at this; omega, ?_⟩)
  rw [JgM (by omega)]
  intro q1 h_q1
  generalize q_q1:upd H1 q1 _ = H2
  have S2:=newS h_q1 q_q1
  have f1:=newE q_q1
  nofun
  refine ⟨by show 1 ≤ sizeLine; omega, ?_⟩
  intro r2 h_r2
  generalize q_r2:upd H2 r2 _ = H3
  have S3:=newS h_r2 q_r2
  have g2:=newE q_r2
  nofun
  have S03:=S1.trans (S2.trans S3)
  refine .inr ⟨a,r2,xs,_,rfl,rfl,hT0.same S03,SqT.of g2,fun z => by rw [z] at l56; simp at l56,by show xs.length + 1 ≤ sizeLine; omega,fun z => absurd z (by simp),fun _ => ?_⟩
  intro q2 h_q2
  generalize q_q2:upd H3 q2 _ = H4
  have S4:=newS h_q2 q_q2
  have f2:=newE q_q2
  nofun
  obtain ⟨v0,hx0,z0,hz0⟩:∃ v,xs[0]? = some v∧∃ z,v = .str z:=by
   have : ∃ z,(dsOf e)[0]? = some (.str z):=by cases e <;> exact ⟨_,rfl⟩
   obtain ⟨z,hz⟩:=this
   obtain ⟨v,h1,h2⟩:=hR.get hz
   simp only [Rep] at h2
   exact ⟨v,h1,z,h2⟩
  subst hz0
  have z0s:z0.length ≤ 1000:=by
   have : ∃ z,(dsOf e)[0]? = some (.str z)∧z.length ≤ 1000:=by
    cases e with
    | inl p => exact ⟨_,rfl,Nat.le_trans (len8 (POk.n1 hk)) (by decide)⟩
    | inr g => exact ⟨_,rfl,Nat.le_trans (len8 (TOk.n1 hk)) (by decide)⟩
   obtain ⟨z,hz,hl⟩:=this
   obtain ⟨v,h1,h2⟩:=hR.get hz
   simp only [Rep] at h2
   rw [hx0] at h1
   have h1:=Option.some.inj h1
   rw [h2] at h1
   injection h1 with h1
   rw [h1]
   exact hl
  have S04:=S03.trans S4
  refine ixT (i:=0) (hT0.same S04) hx0 ?_
  nofun
  refine ⟨len0, ?_⟩
  intro q6 h_q6
  generalize q_q6:upd H4 q6 _ = H5
  have S5:=newS h_q6 q_q6
  have f6:=newE q_q6
  nofun
  refine ⟨by show 7 ≤ sizeLine; omega, ?_⟩
  intro ml h_ml
  generalize q_ml:upd H5 ml _ = H6
  have S6:=newS h_ml q_ml
  have fm:=newE q_ml
  nofun
  repeat (refine And.intro (by first | exact Jav (by decide) | exact Jax (by decide) | exact Jaw (by decide) | exact Jam (by decide) | exact Int.one_ne_zero | decide) ?_)
  have q7:=Mth.fm (x:=w.fdiv 8) (y:=7) (by decide)
  obtain ⟨y,hy,ha⟩:=JdM (xs:=[V.ref q0, .ref q1, .ref q2, .non, .int 7, .str z0, .ref q6]) q7.1 q7.2
  refine ⟨_,y, .inl (SqL.of fm),ha, ?_⟩
  have S46:=S5.trans S6
  have S36:=S4.trans S46
  have S26:=S3.trans S36
  have S16:=S2.trans S26
  have S06:=S1.trans S16
  have hp6:=S06 _ _ hp
  have hR6:=hR.same S06.cut
  have all:∀ y ∈ [V.ref q0, .ref q1, .ref q2, .non, .int 7, .str z0, .ref q6], ∃ c,Rep K (cut p H6) c y∧szD c∧depD c ≤ 5∧badE e c:=by
   intro y hy
   simp only [List.mem_cons,List.not_mem_nil,or_false] at hy
   rcases hy with rfl | rfl | rfl | rfl | rfl | rfl | rfl
   ·exact ⟨.lst (dsOf e),by simp only [Rep]; exact ⟨q0,xs,rfl,SqL.of (JfN hp (Same.refl H) h_q0 (S16 _ _ f0)),hR6⟩,by simp only [szD]; exact sz,by simp only [depD]; omega,JhA⟩
   ·exact ⟨.tup ((dsOf e).take (xs.length - 1)),by simp only [Rep]; exact ⟨q1,_,rfl,SqT.cut hp6 (SqT.of (S26 _ _ f1)),hR6.take _⟩,by simp only [szD]; exact Jfb _ sz,by simp only [depD]; have:=JgO (j:=xs.length - 1) dp; omega,Jeo (by rw [List.length_take]; omega)⟩
   ·exact ⟨.tup (dsOf e ++ [.int 1]),by simp only [Rep]; exact ⟨q2,_,rfl,SqT.cut hp6 (SqT.of (S46 _ _ f2)),hR6.app (by simp only [RepL,Rep]; exact ⟨_,_,rfl,rfl,rfl⟩)⟩,by simp only [szD]; exact Jgv sz (by simp only [szL,szD]; exact ⟨.lit (by decide) (by decide),trivial⟩),by simp only [depD]; have:=JhJ (es:=[.int 1]) dp (by simp [depL,depD]); omega,Jeo (by simp)⟩
   ·exact ⟨.non,by simp only [Rep],by simp only [szD],by simp [depD],JhB⟩
   ·exact ⟨.int 7,by simp only [Rep],by simp only [szD]; exact .lit (by decide) (by decide),by simp [depD],Jhy⟩
   ·exact ⟨.str z0,by simp only [Rep],by simp only [szD]; exact z0s,by simp [depD],JhC⟩
   ·exact ⟨.tup [],by simp only [Rep,RepL]; exact ⟨q6,_,rfl,SqT.cut hp6 (SqT.of (S6 _ _ f6)),rfl⟩,by simp only [szD,szL],by simp [depD,depL],Jeo (by simp; omega)⟩
  obtain ⟨c,h1,h2,h3,h4⟩:=all y hy
  exact k y c H6 S06 h1 h2 h3 h4
 ·rw [if_neg (by simpa using c0)]
  nofun
  repeat (refine And.intro (by first | exact Jav (by decide) | exact Jax (by decide) | exact Jaw (by decide) | exact Jam (by decide) | exact Int.one_ne_zero | decide) ?_)
  by_cases c1:w.fmod 8 = 1
  ·rw [if_pos (by simpa using c1)]
   nofun
   refine ⟨len0, ?_⟩
   intro j3 h_j3
   generalize q_j3:upd H j3 _ = H1
   have S1:=newS h_j3 q_j3
   have f3:=newE q_j3
   nofun
   refine ⟨by show 1 ≤ sizeLine; omega, ?_⟩
   intro j4 h_j4
   generalize q_j4:upd H1 j4 _ = H2
   have S2:=newS h_j4 q_j4
   have f4:=newE q_j4
   nofun
   refine ⟨len2, ?_⟩
   intro j5 h_j5
   generalize q_j5:upd H2 j5 _ = H3
   have S3:=newS h_j5 q_j5
   have f5:=newE q_j5
   nofun
   refine ⟨len2, ?_⟩
   intro j6 h_j6
   generalize q_j6:upd H3 j6 _ = H4
   have S4:=newS h_j6 q_j6
   have f6:=newE q_j6
   nofun
   refine ⟨len2, ?_⟩
   intro j7 h_j7
   generalize q_j7:upd H4 j7 _ = H5
   have S5:=newS h_j7 q_j7
   have f7:=newE q_j7
   nofun
   refine ⟨by show 8 ≤ sizeLine; omega, ?_⟩
   intro ml h_ml
   generalize q_ml:upd H5 ml _ = H6
   have S6:=newS h_ml q_ml
   have fm:=newE q_ml
   nofun
   repeat (refine And.intro (by first | exact Jav (by decide) | exact Jax (by decide) | exact Jaw (by decide) | exact Jam (by decide) | exact Int.one_ne_zero | decide) ?_)
   have q8:=Mth.fm (x:=w.fdiv 8) (y:=8) (by decide)
   obtain ⟨y,hy,ha⟩:=JdM (xs:=[V.non, .bl true, .bl false, .ref j3, .ref j4, .ref j5, .ref j6, .ref j7]) q8.1 q8.2
   refine ⟨_,y, .inl (SqL.of fm),ha, ?_⟩
   nofun
   have S56:=S6
   have S46:=S5.trans S56
   have S36:=S4.trans S46
   have S26:=S3.trans S36
   have S16:=S2.trans S26
   have S06:=S1.trans S16
   have hp6:=S06 _ _ hp
   have g22:Mth.g 2 2 = 2:=by decide
   have all:∀ y ∈ [V.non, .bl true, .bl false, .ref j3, .ref j4, .ref j5, .ref j6, .ref j7], ∃ c,Rep K (cut p H6) c y∧szD c∧depD c ≤ 4∧nameB c = false∧fracB c = false∧Ja6 c = false:=by
    intro y hy
    simp only [List.mem_cons,List.not_mem_nil,or_false] at hy
    rcases hy with rfl | rfl | rfl | rfl | rfl | rfl | rfl | rfl
    ·exact ⟨.non,by simp only [Rep],by simp only [szD],by simp [depD],rfl,rfl,rfl⟩
    ·exact ⟨.bl true,by simp only [Rep],by simp only [szD],by simp [depD],rfl,rfl,rfl⟩
    ·exact ⟨.bl false,by simp only [Rep],by simp only [szD],by simp [depD],rfl,rfl,rfl⟩
    ·exact ⟨.lst [],by simp only [Rep,RepL]; exact ⟨j3,_,rfl,SqL.of (JfN hp (Same.refl H) h_j3 (S16 _ _ f3)),rfl⟩,by simp only [szD,szL],by simp [depD,depL],rfl,rfl,rfl⟩
    ·exact ⟨.tup [.int 1],by simp only [Rep,RepL]; exact ⟨j4,_,rfl,SqT.cut hp6 (SqT.of (S26 _ _ f4)),_,_,rfl,rfl,rfl⟩,by simp only [szD,szL]; exact ⟨.lit (by decide) (by decide),trivial⟩,by simp [depD,depL],rfl,rfl,rfl⟩
    ·exact ⟨.tup [.int 2, .int 2],by simp only [Rep,RepL]; exact ⟨j5,_,rfl,SqT.cut hp6 (SqT.of (S36 _ _ f5)),_,_,rfl,rfl,_,_,rfl,rfl,rfl⟩,by simp only [szD,szL]; exact ⟨.lit (by decide) (by decide), .lit (by decide) (by decide),trivial⟩,by simp [depD,depL],rfl,by simp [fracB,g22],rfl⟩
    ·exact ⟨.tup [.int 1, .int 0],by simp only [Rep,RepL]; exact ⟨j6,_,rfl,SqT.cut hp6 (SqT.of (S46 _ _ f6)),_,_,rfl,rfl,_,_,rfl,rfl,rfl⟩,by simp only [szD,szL]; exact ⟨.lit (by decide) (by decide), .lit (by decide) (by decide),trivial⟩,by simp [depD,depL],rfl,by simp [fracB],rfl⟩
    ·exact ⟨.tup [.bl true, .int 1],by simp only [Rep,RepL]; exact ⟨j7,_,rfl,SqT.cut hp6 (SqT.of (S56 _ _ f7)),_,_,rfl,rfl,_,_,rfl,rfl,rfl⟩,by simp only [szD,szL]; exact ⟨trivial, .lit (by decide) (by decide),trivial⟩,by simp [depD,depL],rfl,rfl,rfl⟩
   obtain ⟨c,h1,h2,h3,h4,h5,h6⟩:=all y hy
   refine ⟨a,at_,y,xs,rfl,hT0.same S06,by omega,by omega,by omega,fun q H9 S9 h_q e9 => ?_⟩
   nofun
   have S09:=S06.trans S9
   have hp9:=S09 _ _ hp
   exact k (.ref q) (.tup ((dsOf e).set at_ c)) H9 S09 (by simp only [Rep]; exact ⟨q,_,rfl,SqT.cut hp9 (SqT.of e9),(hR.same S09.cut).set (Rep.same S9.cut h1)⟩) (by simp only [szD]; exact Jcc sz h2) (by simp only [depD]; have:=Jcp (i:=at_) (d:=c) (n:=4) (Nat.le_trans dp (by decide)) h3; omega) (JgG (by omega) h4 h5 h6)
  ·rw [if_neg (by simpa using c1)]
   nofun
   repeat (refine And.intro (by first | exact Jav (by decide) | exact Jax (by decide) | exact Jaw (by decide) | exact Jam (by decide) | exact Int.one_ne_zero | decide) ?_)
   by_cases c2:w.fmod 8 = 2
   ·rw [if_pos (by simpa using c2)]
    nofun
    repeat (refine And.intro (by first | exact Jav (by decide) | exact Jax (by decide) | exact Jaw (by decide) | exact Jam (by decide) | exact Int.one_ne_zero | decide) ?_)
    intro ml h_ml
    generalize q_ml:upd H ml _ = H6
    have S06:=newS h_ml q_ml
    have fm:=newE q_ml
    nofun
    repeat (refine And.intro (by first | exact Jav (by decide) | exact Jax (by decide) | exact Jaw (by decide) | exact Jam (by decide) | exact Int.one_ne_zero | decide) ?_)
    have q8:=Mth.fm (x:=w.fdiv 8) (y:=8) (by decide)
    have q3:=Mth.fm (x:=w.fdiv 16) (y:=3) (by decide)
    obtain ⟨i3,hi3⟩:=Int.eq_ofNat_of_zero_le q3.1
    rw [hi3] at q3 ⊢
    obtain ⟨y,hy,ha⟩:=JdM (xs:=[V.str "", .str "A", .str "a b", .str "abcdefghi", .str "a1", .int 7, .non, .str "a\n"]) q8.1 q8.2
    refine ⟨_,y, .inl (SqL.of fm),ha, ?_⟩
    nofun
    have all:∀ y ∈ [V.str "", .str "A", .str "a b", .str "abcdefghi", .str "a1", .int 7, .non, .str "a\n"], ∃ c,Rep K (cut p H6) c y∧szD c∧depD c ≤ 4∧nameB c = false:=by
     intro y hy
     simp only [List.mem_cons,List.not_mem_nil,or_false] at hy
     rcases hy with rfl | rfl | rfl | rfl | rfl | rfl | rfl | rfl
     ·exact ⟨.str "",by simp only [Rep],by simp only [szD]; decide,by simp [depD],by decide⟩
     ·exact ⟨.str "A",by simp only [Rep],by simp only [szD]; decide,by simp [depD],by decide⟩
     ·exact ⟨.str "a b",by simp only [Rep],by simp only [szD]; decide,by simp [depD],by decide⟩
     ·exact ⟨.str "abcdefghi",by simp only [Rep],by simp only [szD]; decide,by simp [depD],by decide⟩
     ·exact ⟨.str "a1",by simp only [Rep],by simp only [szD]; decide,by simp [depD],by decide⟩
     ·exact ⟨.int 7,by simp only [Rep],by simp only [szD]; exact .lit (by decide) (by decide),by simp [depD],rfl⟩
     ·exact ⟨.non,by simp only [Rep],by simp only [szD],by simp [depD],rfl⟩
     ·exact ⟨.str "a\n",by simp only [Rep],by simp only [szD]; decide,by simp [depD],by decide⟩
    obtain ⟨c,h1,h2,h3,h4⟩:=all y hy
    refine ⟨a,i3,y,xs,rfl,hT0.same S06,by omega,by omega,by omega,fun q H9 S9 h_q e9 => ?_⟩
    nofun
    have S09:=S06.trans S9
    have hp9:=S09 _ _ hp
    exact k (.ref q) (.tup ((dsOf e).set i3 c)) H9 S09 (by simp only [Rep]; exact ⟨q,_,rfl,SqT.cut hp9 (SqT.of e9),(hR.same S09.cut).set (Rep.same S9.cut h1)⟩) (by simp only [szD]; exact Jcc sz h2) (by simp only [depD]; have:=Jcp (i:=i3) (d:=c) (n:=4) (Nat.le_trans dp (by decide)) h3; omega) (JeS (by omega) h4)
   ·rw [if_neg (by simpa using c2)]
    nofun
    repeat (refine And.intro (by first | exact Jav (by decide) | exact Jax (by decide) | exact Jaw (by decide) | exact Jam (by decide) | exact Int.one_ne_zero | decide) ?_)
    by_cases c3:w.fmod 8 = 3
    ·rw [if_pos (by simpa using c3)]
     nofun
     obtain ⟨z1,hz1,hl1⟩:∃ z,(dsOf e)[1]? = some (.str z)∧z.length ≤ 1000:=by
      cases e with
      | inl p => exact ⟨_,rfl,Nat.le_trans (len8 (POk.n2 hk)) (by decide)⟩
      | inr g => exact ⟨_,rfl,Nat.le_trans (len8 (TOk.n2 hk)) (by decide)⟩
     obtain ⟨v1,hx1,hv1⟩:=hR.get hz1
     have hv1':v1 = .str z1:=by simpa only [Rep] using hv1
     subst hv1'
     have S00:=Same.refl H
     refine ixT (i:=1) hT0 hx1 ?_
     nofun
     refine ⟨a,2, .str z1,xs,rfl,hT0.same S00,by omega,by omega,by omega,fun q H9 S9 h_q e9 => ?_⟩
     nofun
     have S09:=S00.trans S9
     have hp9:=S09 _ _ hp
     exact k (.ref q) (.tup ((dsOf e).set 2 (.str z1))) H9 S09 (by simp only [Rep]; exact ⟨q,_,rfl,SqT.cut hp9 (SqT.of e9),(hR.same S09.cut).set (Rep.same S9.cut hv1)⟩) (by simp only [szD]; exact Jcc sz (by simp only [szD]; exact hl1)) (by simp only [depD]; have:=Jcp (i:=2) (d:=(.str z1)) (n:=4) (Nat.le_trans dp (by decide)) (by simp [depD]); omega) (JgF hz1)
    ·rw [if_neg (by simpa using c3)]
     nofun
     refine ⟨xs, .inr hT0, ?_⟩
     nofun
     cases e with
     | inl pp =>
      have l6:xs.length = 6:=by rw [← lx]; rfl
      rw [if_pos (by rw [l6]; decide)]
      nofun
      repeat (refine And.intro (by first | exact Jav (by decide) | exact Jax (by decide) | exact Jaw (by decide) | exact Jam (by decide) | exact Int.one_ne_zero | decide) ?_)
      by_cases c4:w.fmod 8 = 4
      ·rw [if_pos (by simpa using c4)]
       nofun
       repeat (refine And.intro (by first | exact Jav (by decide) | exact Jax (by decide) | exact Jaw (by decide) | exact Jam (by decide) | exact Int.one_ne_zero | decide) ?_)
       have q5:=Mth.fm (x:=w.fdiv 8) (y:=5) (by decide)
       refine ⟨len2, ?_⟩
       intro t h_t
       generalize q_t:upd H t _ = H6
       have S06:=newS h_t q_t
       have ft:=newE q_t
       nofun
       have hp6:=S06 _ _ hp
       have rt:Rep K (cut p H6) (.tup [.int (-1 - (w.fdiv 8).fmod 5), .int 7]) (.ref t):=by simp only [Rep,RepL]; exact ⟨t,_,rfl,SqT.cut hp6 (SqT.of ft),_,_,rfl,rfl,_,_,rfl,rfl,rfl⟩
       refine ⟨a,4, .ref t,xs,rfl,hT0.same S06,by omega,by omega,by omega,fun q H9 S9 h_q e9 => ?_⟩
       nofun
       have S09:=S06.trans S9
       have hp9:=S09 _ _ hp
       exact k (.ref q) (.tup ((dsOf (Sum.inl pp)).set 4 (.tup [.int (-1 - (w.fdiv 8).fmod 5), .int 7]))) H9 S09 (by simp only [Rep]; exact ⟨q,_,rfl,SqT.cut hp9 (SqT.of e9),(hR.same S09.cut).set (Rep.same S9.cut rt)⟩) (by simp only [szD]; exact Jcc sz (by simp only [szD,szL]; exact ⟨.lit (by omega) (by omega), .lit (by decide) (by decide),trivial⟩)) (by simp only [depD]; have:=Jcp (i:=4) (d:=(.tup [.int (-1 - (w.fdiv 8).fmod 5), .int 7])) (n:=4) (Nat.le_trans dp (by decide)) (by simp [depD,depL]); omega) (JgH q5.1)
      ·rw [if_neg (by simpa using c4)]
       nofun
       refine ⟨xs, .inr hT0, ?_⟩
       nofun
       rw [if_pos (by rw [l6]; decide)]
       nofun
       refine ⟨len2, ?_⟩
       intro t h_t
       generalize q_t:upd H t _ = H5
       have S5:=newS h_t q_t
       have ft:=newE q_t
       nofun
       refine ⟨len5, ?_⟩
       intro ml h_ml
       generalize q_ml:upd H5 ml _ = H6
       have S6:=newS h_ml q_ml
       have fm:=newE q_ml
       nofun
       repeat (refine And.intro (by first | exact Jav (by decide) | exact Jax (by decide) | exact Jaw (by decide) | exact Jam (by decide) | exact Int.one_ne_zero | decide) ?_)
       have q5:=Mth.fm (x:=w.fdiv 8) (y:=5) (by decide)
       obtain ⟨y,hy,ha⟩:=JdM (xs:=[V.int 0, .int (-1), .bl true, .ref t, .non]) q5.1 q5.2
       refine ⟨_,y, .inl (SqL.of fm),ha, ?_⟩
       nofun
       have S06:=S5.trans S6
       have hp6:=S06 _ _ hp
       have all:∀ y ∈ [V.int 0, .int (-1), .bl true, .ref t, .non], ∃ c,Rep K (cut p H6) c y∧szD c∧depD c ≤ 4∧(Ja6 c && wtB c) = false:=by
        intro y hy
        simp only [List.mem_cons,List.not_mem_nil,or_false] at hy
        rcases hy with rfl | rfl | rfl | rfl | rfl
        ·exact ⟨.int 0,by simp only [Rep],by simp only [szD]; exact .lit (by decide) (by decide),by simp [depD],by decide⟩
        ·exact ⟨.int (-1),by simp only [Rep],by simp only [szD]; exact .lit (by decide) (by decide),by simp [depD],by decide⟩
        ·exact ⟨.bl true,by simp only [Rep],by simp only [szD],by simp [depD],rfl⟩
        ·exact ⟨.tup [.int 1, .int 1],by simp only [Rep,RepL]; exact ⟨t,_,rfl,SqT.cut hp6 (SqT.of (S6 _ _ ft)),_,_,rfl,rfl,_,_,rfl,rfl,rfl⟩,by simp only [szD,szL]; exact ⟨.lit (by decide) (by decide), .lit (by decide) (by decide),trivial⟩,by simp [depD,depL],rfl⟩
        ·exact ⟨.non,by simp only [Rep],by simp only [szD],by simp [depD],rfl⟩
       obtain ⟨c,h1,h2,h3,h4⟩:=all y hy
       refine ⟨a,5,y,xs,rfl,hT0.same S06,by omega,by omega,by omega,fun q H9 S9 h_q e9 => ?_⟩
       nofun
       have S09:=S06.trans S9
       have hp9:=S09 _ _ hp
       exact k (.ref q) (.tup ((dsOf (Sum.inl pp)).set 5 c)) H9 S09 (by simp only [Rep]; exact ⟨q,_,rfl,SqT.cut hp9 (SqT.of e9),(hR.same S09.cut).set (Rep.same S9.cut h1)⟩) (by simp only [szD]; exact Jcc sz h2) (by simp only [depD]; have:=Jcp (i:=5) (d:=c) (n:=4) (Nat.le_trans dp (by decide)) h3; omega) (Jig h4)
     | inr g =>
      have l5:xs.length = 5:=by rw [← lx]; rfl
      rw [if_neg (by rw [l5]; decide)]
      nofun
      refine ⟨xs, .inr hT0, ?_⟩
      nofun
      rw [if_neg (by rw [l5]; decide)]
      nofun
      obtain ⟨v4,hx4,r4⟩:=hR.get (i:=4) (d:=frD g.hi) rfl
      have f4:FrV K H v4 g.hi.1 g.hi.2:=(FrV.of_rep r4).same JcH
      have b4:=hk.hi g.hi rfl
      refine ixT (i:=4) hT0 hx4 ?_
      nofun
      refine ixF0 f4 ?_
      nofun
      refine ixT (i:=4) hT0 hx4 ?_
      nofun
      refine ixF1 f4 ?_
      nofun
      refine ixT (i:=4) hT0 hx4 ?_
      nofun
      refine ixF1 f4 ?_
      nofun
      refine ⟨len2, ?_⟩
      intro t h_t
      generalize q_t:upd H t _ = H6
      have S06:=newS h_t q_t
      have ft:=newE q_t
      nofun
      have hp6:=S06 _ _ hp
      have rt:Rep K (cut p H6) (.tup [.int (g.hi.1 + g.hi.2), .int g.hi.2]) (.ref t):=by simp only [Rep,RepL]; exact ⟨t,_,rfl,SqT.cut hp6 (SqT.of ft),_,_,rfl,rfl,_,_,rfl,rfl,rfl⟩
      refine ⟨a,3, .ref t,xs,rfl,hT0.same S06,by omega,by omega,by omega,fun q H9 S9 h_q e9 => ?_⟩
      nofun
      have S09:=S06.trans S9
      have hp9:=S09 _ _ hp
      exact k (.ref q) (.tup ((dsOf (Sum.inr g)).set 3 (.tup [.int (g.hi.1 + g.hi.2), .int g.hi.2]))) H9 S09 (by simp only [Rep]; exact ⟨q,_,rfl,SqT.cut hp9 (SqT.of e9),(hR.same S09.cut).set (Rep.same S9.cut rt)⟩) (by simp only [szD]; exact Jcc sz (by simp only [szD,szL]; exact ⟨(Mth.Sz.add b4.s1 b4.s2).mono (by decide),b4.s2.mono (by decide),trivial⟩)) (by simp only [depD]; have:=Jcp (i:=3) (d:=(.tup [.int (g.hi.1 + g.hi.2), .int g.hi.2])) (n:=4) (Nat.le_trans dp (by decide)) (by simp [depD,depL]); omega) (Jhz hk)
abbrev Baz:Stmt:=top 48
theorem Jbh:Jaq ["_law_marks", "_law_one", "_law_other", "_law_here", "_law_there", "_law_face"] ["_law_marks", "_law_one", "_law_other"] (Jaf Baz):=⟨rfl,rfl,rfl,by decide +kernel,rfl,by decide +kernel,by decide +kernel⟩
def JbK (K:PySem.W.Frag):Sp:=fun vs H Q E => ∃ (d:Addr) (one other:Str) (n:Nat) (M:Str→Option Str),vs = [.ref d, .str one, .str other]∧MKs H d n M∧n ≤ 20∧∀ H',(∀ b u,b ≠ d→H b = some u→H' b = some u)→MKs H' d (n + 2) (joinM M one other)→Q .non H'
theorem JdH {f:Addr} {fd:FuncData} {dV:Value} (F:FunD K "_law_joined" "_law_joined" Baz dV f fd) (T:Txt K mg Ad)  : FnOk P w K mg base (CX1 P w) 1 f fd ["_law_marks", "_law_one", "_law_other"] (JbK K):=by
 refine F.okn Jbh (fun vs H Q E h => ?_) (fun cdv A outer s H vs Q E hr h => ?_)
 ·obtain ⟨d,one,other,n,M,rfl,_⟩:=h; rfl
 obtain ⟨d,one,other,n,M,rfl,h⟩:=h
 have hu:=hr.units
 refine ⟨_,(Jac (Jar (i:=3) Jbh.nd rfl (Or.inl rfl) (JdJ (hu1 hu) (pv 0) (pv 1) (pv 1) ⟨rfl,rfl,rfl,rfl⟩))
   (Jac (Jar (i:=4) Jbh.nd rfl (Or.inl rfl) (JdJ (hu1 hu) (pv 0) (pv 2) (pv 2) ⟨rfl,rfl,rfl,rfl⟩))
   (Jac (Jcj PassesOwn.never rfl (pi_U (Jci (Jfg rfl) rfl T.BcD Jdr (Jaa (pv 0) Jad))) (JaR (i:=5) Jbh.nd rfl (Or.inl rfl))
   (Jai (ps_if (Jay (Jbr hu) (Jcw (hu1 hu) (pv 0) (pv 5) (fun _ _ => rfl)) (pv 4) (Jaz _))
   (Jai (JbD (hu1 hu) (pv 0) (pv 5) (pv 3) rfl))
   Jau)))
   (Jac (JbD (hu1 hu) (pv 0) (pv 1) (pv 3) rfl)
   (Jai (JbD (hu1 hu) (pv 0) (pv 2) (pv 3) rfl)))))), ?_⟩
 obtain ⟨⟨kvs,ks,hd,hk,hn,hv⟩,h20,k⟩:=h
 have sl:(1000:Nat) ≤ sizeLine:=by decide
 have ge:∀ z:Str,(valV kvs (Sum.inr z)).getD (.str z) = .str (ext M z):=fun z => by
  rw [hv z]
  unfold ext
  cases M z <;> rfl
 have inks:∀ z,z ∈ ks ↔ (M z).isSome = true:=fun z => by
  have e:=JhT (kvs:=kvs) (k:=Sum.inr z)
  rw [hk,hv z] at e
  rw [show (M z).isSome = ((M z).map V.str).isSome by cases M z <;> rfl,e]
  simp
 show tSeq _ _ _ [some (.ref d),some (.str one),some (.str other),none,none,none] H
 nofun
 refine ⟨d,rfl, .inl ⟨kvs, .inl hd⟩,_,DGet.k (k:=Sum.inr one) hd, ?_⟩
 rw [ge one]
 nofun
 refine ⟨d,rfl, .inl ⟨kvs, .inl hd⟩,_,DGet.k (k:=Sum.inr other) hd, ?_⟩
 rw [ge other]
 nofun
 obtain ⟨A,hA⟩:∃ A,A = ext M one:=⟨_,rfl⟩
 obtain ⟨B,hB⟩:∃ B,B = ext M other:=⟨_,rfl⟩
 rw [← hA, ← hB]
 refine ⟨d,kvs,ks,rfl,hd,hk, ?_⟩
 intro l h_l
 generalize q_l:upd H l _ = H1
 have S1:=newS h_l q_l
 have e1:=newE q_l
 nofun
 have nld:l ≠ d:=fun z => by rw [z,hd] at h_l; cases h_l
 have lk:ks.length ≤ n:=by have:=congrArg List.length hk; rw [List.length_map,List.length_map] at this; omega
 refine ⟨l,rfl,ForA.byLN (xs:=ks.map V.str) (SqL.of e1) (fun i σ H' => ∃ (v5:Option V) (kv:List (Key × V)), σ = [some (.ref d),some (.str one),some (.str other),some (.str A),some (.str B),v5]∧(∀ b u,b ≠ d→H1 b = some u→H' b = some u)∧H' d = some (.dK kv)∧kv.map (·.1) = ks.map Sum.inr∧∀ f,valV kv (Sum.inr f) = (if f ∈ ks.take i∧M f = some B then some A else M f).map V.str) ⟨none,kvs,rfl,fun b u _ h => h,S1 _ _ hd,hk,fun f => by rw [if_neg (by simp)]; exact hv f⟩ (fun i σ H' z => by obtain ⟨_,_,_,z,_⟩:=z; exact SqL.of (z _ _ nld e1)) ?_ ?_⟩
 ·rintro i y σ H2 hy ⟨v5,kv,rfl,fr,hd2,hk2,hv2⟩ N0 hN0
  rw [List.getElem?_map] at hy
  obtain ⟨z,hz,rfl⟩:=Option.map_eq_some_iff.mp hy
  have zm:z ∈ ks:=List.mem_of_getElem? hz
  obtain ⟨cz,hcz⟩:∃ cz,(if z ∈ ks.take i∧M z = some B then some A else M z) = some cz:=by
   obtain ⟨x,hx⟩:=Option.isSome_iff_exists.mp ((inks z).mp zm)
   split
   ·exact ⟨A,rfl⟩
   ·exact ⟨x,hx⟩
  have lk2:kv.length = ks.length:=by have:=congrArg List.length hk2; rw [List.length_map,List.length_map] at this; exact this
  have hvz:valV kv (Sum.inr z) = some (.str cz):=by rw [hv2 z,hcz]; rfl
  have etk:ks.take (i + 1) = ks.take i ++ [z]:=by rw [List.take_succ,hz]; rfl
  nofun
  refine ⟨d, .str cz,rfl,by rw [← hvz]; exact DGet.k (k:=Sum.inr z) hd2, ?_⟩
  nofun
  by_cases cb:cz = B
  ·rw [if_pos (by simpa using cb)]
   nofun
   refine ⟨d,_,rfl,DPut.k (k:=Sum.inr z) hd2 (by omega), ?_⟩
   generalize u3:upd H2 d _ = H3
   nofun
   have e3:=putE u3
   refine hN0 _ _ ⟨_,_,rfl,fun b u hb h => by rw [← u3,Jae hb]; exact fr b u hb h,e3, ?_,fun f => ?_⟩
   ·rw [Jf2,if_pos (by rw [hvz]; rfl)]
    exact hk2
   ·rw [JbY,hv2 f,etk]
    by_cases cf:f = z
    ·subst cf
     rw [if_pos rfl,if_pos]
     nofun
     ·rfl
     ·refine ⟨by simp, ?_⟩
      split at hcz
      ·rename_i q; exact q.2
      ·rw [hcz,cb]
    ·rw [if_neg (fun q => cf (by injection q))]
     nofun
     congr 1
     have : (f ∈ ks.take i ++ [z]) = (f ∈ ks.take i):=by simp [cf]
     simp only [this]
  ·rw [if_neg (by simpa using cb)]
   nofun
   refine hN0 _ _ ⟨_,kv,rfl,fr,hd2,hk2,fun f => ?_⟩
   rw [hv2 f,etk]
   congr 1
   by_cases cf:f = z
   ·subst cf
    rw [hcz]
    split at hcz
    ·rename_i q
     rw [if_pos ⟨by simp,q.2⟩, ← hcz]
     nofun
    ·rename_i q
     rw [hcz,if_neg]
     rintro ⟨_,q2⟩
     exact cb (Option.some.inj q2)
   ·have : (f ∈ ks.take i ++ [z]) = (f ∈ ks.take i):=by simp [cf]
    simp only [this]
 ·rintro σ H2 ⟨v5,kv,rfl,fr,hd2,hk2,hv2⟩
  have lk2:kv.length = ks.length:=by have:=congrArg List.length hk2; rw [List.length_map,List.length_map] at this; exact this
  nofun
  refine ⟨d,_,rfl,DPut.k (k:=Sum.inr one) hd2 (by omega), ?_⟩
  generalize u3:upd H2 d _ = H3
  nofun
  have e3:=putE u3
  have l3:=JaC kv (Sum.inr one) (V.str A)
  refine ⟨d,_,rfl,DPut.k (k:=Sum.inr other) e3 (by omega), ?_⟩
  generalize u4:upd H3 d _ = H4
  nofun
  have e4:=putE u4
  have l4:=JaC (putK kv (Sum.inr one) (V.str A)) (Sum.inr other) (V.str A)
  obtain ⟨k3,hk3⟩:=Je3 (z:=one) (v:=V.str A) hk2
  obtain ⟨k4,hk4⟩:=Je3 (z:=other) (v:=V.str A) hk3
  refine k H4 (fun b u hb h => by rw [← u4,Jae hb, ← u3,Jae hb]; exact fr b u hb (S1 _ _ h)) ⟨_,k4,e4,hk4,by omega,fun f => ?_⟩
  rw [JbY,JbY,hv2 f]
  unfold joinM
  rw [← hA, ← hB]
  have tk:ks.take (ks.map V.str).length = ks:=List.take_of_length_le (by simp)
  rw [tk]
  by_cases c1:f = other
  ·rw [if_pos (by rw [c1]),if_pos (.inr c1)]
   nofun
   rfl
  ·rw [if_neg (fun q => c1 (by injection q))]
   nofun
   by_cases c2:f = one
   ·rw [if_pos (by rw [c2]),if_pos (.inl c2)]
    nofun
    rfl
   ·rw [if_neg (fun q => c2 (by injection q)),if_neg (c:=f = one ∨ f = other) (fun q => q.elim c2 c1)]
    nofun
    congr 1
    by_cases c3:M f = some B
    ·rw [if_pos ⟨(inks f).mpr (by rw [c3]; rfl),c3⟩,if_pos c3]
     nofun
    ·rw [if_neg (fun q => c3 q.2),if_neg c3]
     nofun
abbrev Ba6:Stmt:=top 49
theorem Ja2:Jaq ["_law_parts", "_law_gaps", "_law_marks", "_law_names", "_law_good", "_law_part_here", "_law_gap_here"] ["_law_parts", "_law_gaps"] (Jaf Ba6):=⟨rfl,rfl,rfl,by decide +kernel,rfl,by decide +kernel,by decide +kernel⟩
def Jcy (K:PySem.W.Frag):Sp:=fun vs H Q E => ∃ (a c:Addr) (xs zs:List V) (es:List (PD ⊕ D)) (fs:List (GD ⊕ D)),vs = [.ref a, .ref c]∧SqL K H a xs∧All2 (PQV K H) es xs∧SqL K H c zs∧All2 (GQV K H) fs zs∧es.length ≤ 6∧fs.length ≤ 5∧∀ H',Same H H'→Q (.str (JgE (dueW es fs))) H'
theorem Jfu {f:Addr} {fd:FuncData} {dV:Value} (F:FunD K "_law_due" "_law_due" Ba6 dV f fd) (T:Txt K mg Ad) (Bbj:Cal P w K mg base 1 "_law_joined" ["_law_marks", "_law_one", "_law_other"] [] (JbK K)):FnOk P w K mg base (CX1 P w) 2 f fd ["_law_parts", "_law_gaps"] (Jcy K):=by
 refine F.okn Ja2 (fun vs H Q E h => ?_) (fun cdv A outer s H vs Q E hr h => ?_)
 ·obtain ⟨a,c,xs,zs,es,fs,rfl,_⟩:=h; rfl
 obtain ⟨a,c,xs,zs,es,fs,rfl,h⟩:=h
 have hu:=hr.units
 refine ⟨_,(Jac (Jar (i:=2) Ja2.nd rfl (Or.inl rfl) JbC)
   (Jac (Jar (i:=3) Ja2.nd rfl (Or.inl rfl) JbC)
   (Jac (Jcj PassesOwn.never rfl (pi_U (pv 0)) (Je7 rfl (Jbs (JaR (i:=4) Ja2.nd rfl (Or.inl rfl)) (Jbs (JaR (i:=5) Ja2.nd rfl (Or.inl rfl)) JdL)))
   (Jac (ps_if (Jbb (Jbc (pv 4)))
   (Jai (Jao JaG))
   Jau)
   (Jac (ps_if (Jck (Jdm (hu1 hu) (pe_ix ix_U (pv 5) Jab (fun _ _ => rfl)) (pv 3)) (by with_unfolding_all rfl))
   (Jai (Jao JaG))
   Jau)
   (Jac (ps_if (PW.pt (Jgn (Jck (Jdm (hu1 hu) (pe_ix ix_U (pv 5) Jab (fun _ _ => rfl)) (pv 2)) (by with_unfolding_all rfl)) (Jgn (Jck (Jdm (hu1 hu) (pe_ix ix_U (pv 5) Jab (fun _ _ => rfl)) (pv 2)) (by with_unfolding_all rfl)) (Jgo (Jay (Jbr hu) (Jcw (hu1 hu) (pv 2) (pe_ix ix_U (pv 5) Jab (fun _ _ => rfl)) (fun _ _ => rfl)) (Jcw (hu1 hu) (pv 2) (pe_ix ix_U (pv 5) Jab (fun _ _ => rfl)) (fun _ _ => rfl)) (Jaz _))))))
   (Jai (Jao JaG))
   Jau)
   (Jac (JbD (hu1 hu) (pv 3) (pe_ix ix_U (pv 5) Jab (fun _ _ => rfl)) pe_bl rfl)
   (Jai (Ja7 (Bbj.ev hr (by decide) rfl passF (Jaa (pv 2) (Jaa (pe_ix ix_U (pv 5) Jab (fun _ _ => rfl)) (Jaa (pe_ix ix_U (pv 5) Jab (fun _ _ => rfl)) Jad))) (he:=by exact Jag rfl)))))))))
   (Jac (Jar (i:=3) Ja2.nd rfl (Or.inl rfl) JbC)
   (Jac (Jcj PassesOwn.never rfl (pi_U (pv 1)) (Je7 rfl (Jbs (JaR (i:=4) Ja2.nd rfl (Or.inl rfl)) (Jbs (JaR (i:=6) Ja2.nd rfl (Or.inl rfl)) JdL)))
   (Jac (ps_if (Jbb (Jbc (pv 4)))
   (Jai (Jao JaG))
   Jau)
   (Jac (ps_if (Jck (Jdm (hu1 hu) (pe_ix ix_U (pv 6) Jab (fun _ _ => rfl)) (pv 3)) (by with_unfolding_all rfl))
   (Jai (Jao JaG))
   Jau)
   (Jac (ps_if (PW.pt (pw_or (Jck (Jc1 (hu1 hu) (pe_ix ix_U (pv 6) Jab (fun _ _ => rfl)) (pv 2)) (by with_unfolding_all rfl)) (pw_or (Jck (Jc1 (hu1 hu) (pe_ix ix_U (pv 6) Jab (fun _ _ => rfl)) (pv 2)) (by with_unfolding_all rfl)) (Jby (Jay (JbM hu) (Jcw (hu1 hu) (pv 2) (pe_ix ix_U (pv 6) Jab (fun _ _ => rfl)) (fun _ _ => rfl)) (Jcw (hu1 hu) (pv 2) (pe_ix ix_U (pv 6) Jab (fun _ _ => rfl)) (fun _ _ => rfl)) (Jaz _))))))
   (Jai (Jao JaG))
   Jau)
   (Jai (JbD (hu1 hu) (pv 3) (pe_ix ix_U (pv 6) Jab (fun _ _ => rfl)) pe_bl rfl))))))
   (Jai (Jao JaG))))))), ?_⟩
 obtain ⟨hA,hE,hC,hG,l6,l5,k⟩:=h
 have sl:(1000:Nat) ≤ sizeLine:=by decide
 have le:=hE.length
 have lg:=hG.length
 show tSeq _ _ _ [some (.ref a),some (.ref c),none,none,none,none,none] H
 nofun
 intro md h_md
 generalize q_md:upd H md _ = H1
 have S1:=newS h_md q_md
 have e1:=newE q_md
 nofun
 intro nd h_nd
 generalize q_nd:upd H1 nd _ = H2
 have S2:=newS h_nd q_nd
 have e2:=newE q_nd
 nofun
 have nmn:nd ≠ md:=fun z => by rw [z,e1] at h_nd; cases h_nd
 have h0nd:=Jd3 S1 h_nd
 have putv:∀ (kn:List (Key × V)) (l l':List Str) (n:Str),(∀ z:Str,(valV kn (Sum.inr z)).isSome = decide (z ∈ l))→l' = l ++ [n]→∀ z:Str,(valV (putK kn (Sum.inr n) (.bl true)) (Sum.inr z)).isSome = decide (z ∈ l'):=fun kn l l' n hv e z => by
  rw [JbY,e]
  by_cases c:z = n
  ·subst c
   rw [if_pos rfl,decide_eq_true (by simp)]
   nofun
   rfl
  ·rw [if_neg (fun q => c (by injection q)),hv z]
   nofun
   exact decide_eq_decide.mpr ⟨fun h => by simp [h],fun h => by simpa [c] using h⟩
 refine ⟨a,rfl,ForA.byLN (xs:=xs) ((hA.same S1).same S2) (fun i σ H' => i ≤ xs.length∧∃ (v4 v5:Option V) (kn:List (Key × V)) (M:Str→Option Str) (ls:List PD), σ = [some (.ref a),some (.ref c),some (.ref md),some (.ref nd),v4,v5,none]∧Same H H'∧MKs H' md (2 * i) M∧H' nd = some (.dK kn)∧kn.length ≤ i∧(∀ z:Str,(valV kn (Sum.inr z)).isSome = decide (z ∈ ls.map (·.nm)))∧Mrk ls M∧(∀ q ∈ ls,q.st ≠ q.en)∧partsW ls (es.drop i) = partsW [] es) ⟨Nat.zero_le _,none,none,[],fun _ => none,[],rfl,S1.trans S2,⟨[],[],S2 _ _ e1,rfl,Nat.le_refl _,fun f => rfl⟩,e2,Nat.le_refl _,fun z => rfl,Mrk.nil,(fun q hq => by cases hq),rfl⟩ (fun i σ H' z => by obtain ⟨_,_,_,_,_,_,_,z,_⟩:=z; exact hA.same z) ?_ ?_⟩
 ·rintro i y σ H3 hy ⟨hi,v4,v5,kn,M,ls,rfl,S3,hM,hn,hkl,hval,hmk,hne,hw⟩ N0 hN0
  have li:=(List.getElem?_eq_some_iff.mp hy).1
  obtain ⟨e,he,b,v,rfl,hb,ev⟩:=hE.at_ hy
  have lie:i < es.length:=by omega
  have edr:es.drop i = e :: es.drop (i + 1):=by
   rw [List.drop_eq_getElem_cons lie]
   rw [List.getElem?_eq_getElem lie] at he
   rw [Option.some.inj he]
  rw [edr] at hw
  match e,hb,ev,hw with
  | .inr cc,hb,ev,hw =>
   replace hb:SqT K H b [.bl false,v]:=hb
   nofun
   refine ⟨b,_,rfl,hb.same S3,rfl, ?_⟩
   nofun
   rw [Jcu] at hw
   have kk:=k H3 S3
   rw [show dueW es fs = 0 by unfold dueW; rw [← hw]] at kk
   exact kk
  | .inl p,hb,ev,hw =>
   replace hb:SqT K H b [.bl true,v]:=hb
   obtain ⟨⟨pb,vz,vm,rfl,hpb,_,_⟩,ok⟩:=ev
   have hpb3:=hpb.same S3
   obtain ⟨km,ks,hm1,hm2,hm3,hm4⟩:=id hM
   nofun
   refine ⟨b,_,rfl,hb.same S3,rfl, ?_⟩
   nofun
   refine ixT (i:=0) hpb3 rfl ?_
   refine ⟨nd,_,rfl,DGet.k (k:=Sum.inr p.nm) hn, ?_⟩
   rw [hval p.nm]
   by_cases cn:p.nm ∈ ls.map (·.nm)
   ·rw [decide_eq_true cn]
    nofun
    rw [Jcv cn] at hw
    have kk:=k H3 S3
    rw [show dueW es fs = 1 by unfold dueW; rw [← hw]] at kk
    exact kk
   ·rw [decide_eq_false cn]
    nofun
    refine ixT (i:=1) hpb3 rfl ?_
    refine ⟨md,_,rfl,DGet.k (k:=Sum.inr p.st) hm1, ?_⟩
    rw [hm4 p.st]
    by_cases cc:Conn ls p.st p.en
    ·rw [Jb5 cn cc] at hw
     obtain ⟨x,h1,h2⟩:=(hmk.ring hne ok.ne).mp cc
     have v1:valV km (Sum.inr p.st) = some (.str x):=by rw [hm4,h1]; rfl
     have v2:valV km (Sum.inr p.en) = some (.str x):=by rw [hm4,h2]; rfl
     rw [h1,show ((some x).map V.str).isSome = true from rfl]
     nofun
     refine ixT (i:=2) hpb3 rfl ?_
     refine ⟨md,_,rfl,DGet.k (k:=Sum.inr p.en) hm1, ?_⟩
     rw [v2,show (some (V.str x)).isSome = true from rfl]
     nofun
     refine ixT (i:=1) hpb3 rfl ?_
     refine ⟨md,_,rfl,by rw [← v1]; exact DGet.k (k:=Sum.inr p.st) hm1, ?_⟩
     refine ixT (i:=2) hpb3 rfl ?_
     refine ⟨md,_,rfl,by rw [← v2]; exact DGet.k (k:=Sum.inr p.en) hm1, ?_⟩
     nofun
     have kk:=k H3 S3
     rw [show dueW es fs = 2 by unfold dueW; rw [← hw]] at kk
     exact kk
    ·rw [Jc0 cn cc] at hw
     cases h1:M p.st with
     | none =>
      rw [show ((none:Option Str).map V.str).isSome = false from rfl]
      nofun
      refine ixT (i:=0) hpb3 rfl ?_
      refine ⟨nd,_,rfl,DPut.k (k:=Sum.inr p.nm) hn (by omega), ?_⟩
      generalize u4:upd H3 nd _ = H4
      nofun
      have e4:=putE u4
      have S04:Same H H4:=fun b u h => by rw [← u4,Jae (Jah h h0nd)]; exact S3 _ _ h
      have hM4:MKs H4 md (2 * i) M:=⟨km,ks,by rw [← u4,Jae (Ne.symm nmn)]; exact hm1,hm2,hm3,hm4⟩
      have lp:=JaC kn (Sum.inr p.nm) (V.bl true)
      have hpb4:=hpb.same S04
      refine ixT (i:=1) hpb4 rfl ?_
      refine ixT (i:=2) hpb4 rfl ?_
      refine ⟨md,p.st,p.en,2 * i,M,rfl,hM4,by omega,fun H5 fr hM5 => ?_⟩
      nofun
      exact hN0 _ _ ⟨li,_,_,_,_,ls ++ [p],rfl,fun b u h => fr _ _ (Jah h h_md) (S04 _ _ h),by have z:=hM5; rwa [show 2 * i + 2 = 2 * (i + 1) by omega] at z,fr _ _ nmn e4,by omega,putv kn _ _ p.nm hval (by rw [List.map_append]; rfl),hmk.step hne ok.ne,fun q hq => (List.mem_append.mp hq).elim (hne q) fun z => by rw [List.mem_singleton.mp z]; exact ok.ne,hw⟩
     | some x =>
      have v1:valV km (Sum.inr p.st) = some (.str x):=by rw [hm4,h1]; rfl
      rw [show ((some x).map V.str).isSome = true from rfl]
      nofun
      refine ixT (i:=2) hpb3 rfl ?_
      refine ⟨md,_,rfl,DGet.k (k:=Sum.inr p.en) hm1, ?_⟩
      rw [hm4 p.en]
      cases h2:M p.en with
      | none =>
       rw [show ((none:Option Str).map V.str).isSome = false from rfl]
       nofun
       refine ixT (i:=0) hpb3 rfl ?_
       refine ⟨nd,_,rfl,DPut.k (k:=Sum.inr p.nm) hn (by omega), ?_⟩
       generalize u4:upd H3 nd _ = H4
       nofun
       have e4:=putE u4
       have S04:Same H H4:=fun b u h => by rw [← u4,Jae (Jah h h0nd)]; exact S3 _ _ h
       have hM4:MKs H4 md (2 * i) M:=⟨km,ks,by rw [← u4,Jae (Ne.symm nmn)]; exact hm1,hm2,hm3,hm4⟩
       have lp:=JaC kn (Sum.inr p.nm) (V.bl true)
       have hpb4:=hpb.same S04
       refine ixT (i:=1) hpb4 rfl ?_
       refine ixT (i:=2) hpb4 rfl ?_
       refine ⟨md,p.st,p.en,2 * i,M,rfl,hM4,by omega,fun H5 fr hM5 => ?_⟩
       nofun
       exact hN0 _ _ ⟨li,_,_,_,_,ls ++ [p],rfl,fun b u h => fr _ _ (Jah h h_md) (S04 _ _ h),by have z:=hM5; rwa [show 2 * i + 2 = 2 * (i + 1) by omega] at z,fr _ _ nmn e4,by omega,putv kn _ _ p.nm hval (by rw [List.map_append]; rfl),hmk.step hne ok.ne,fun q hq => (List.mem_append.mp hq).elim (hne q) fun z => by rw [List.mem_singleton.mp z]; exact ok.ne,hw⟩
      | some y =>
       have v2:valV km (Sum.inr p.en) = some (.str y):=by rw [hm4,h2]; rfl
       rw [show ((some y).map V.str).isSome = true from rfl]
       nofun
       refine ixT (i:=1) hpb3 rfl ?_
       refine ⟨md,_,rfl,by rw [← v1]; exact DGet.k (k:=Sum.inr p.st) hm1, ?_⟩
       refine ixT (i:=2) hpb3 rfl ?_
       refine ⟨md,_,rfl,by rw [← v2]; exact DGet.k (k:=Sum.inr p.en) hm1, ?_⟩
       have nxy:x ≠ y:=fun z => cc ((hmk.ring hne ok.ne).mpr ⟨x,h1,by rw [h2,z]⟩)
       nofun
       rw [if_neg (by simpa using nxy)]
       nofun
       nofun
       refine ixT (i:=0) hpb3 rfl ?_
       refine ⟨nd,_,rfl,DPut.k (k:=Sum.inr p.nm) hn (by omega), ?_⟩
       generalize u4:upd H3 nd _ = H4
       nofun
       have e4:=putE u4
       have S04:Same H H4:=fun b u h => by rw [← u4,Jae (Jah h h0nd)]; exact S3 _ _ h
       have hM4:MKs H4 md (2 * i) M:=⟨km,ks,by rw [← u4,Jae (Ne.symm nmn)]; exact hm1,hm2,hm3,hm4⟩
       have lp:=JaC kn (Sum.inr p.nm) (V.bl true)
       have hpb4:=hpb.same S04
       refine ixT (i:=1) hpb4 rfl ?_
       refine ixT (i:=2) hpb4 rfl ?_
       refine ⟨md,p.st,p.en,2 * i,M,rfl,hM4,by omega,fun H5 fr hM5 => ?_⟩
       nofun
       exact hN0 _ _ ⟨li,_,_,_,_,ls ++ [p],rfl,fun b u h => fr _ _ (Jah h h_md) (S04 _ _ h),by have z:=hM5; rwa [show 2 * i + 2 = 2 * (i + 1) by omega] at z,fr _ _ nmn e4,by omega,putv kn _ _ p.nm hval (by rw [List.map_append]; rfl),hmk.step hne ok.ne,fun q hq => (List.mem_append.mp hq).elim (hne q) fun z => by rw [List.mem_singleton.mp z]; exact ok.ne,hw⟩
 ·rintro σ H3 ⟨hi,v4,v5,kn,M,ls,rfl,S3,hM,hn,hkl,hval,hmk,hne,hw⟩
  rw [List.drop_eq_nil_of_le (by omega),partsW] at hw
  obtain ⟨km,ks,hm1,hm2,hm3,hm4⟩:=id hM
  nofun
  intro nd2 h_nd2
  generalize q_nd2:upd H3 nd2 _ = H4
  have S4:=newS h_nd2 q_nd2
  have e4:=newE q_nd2
  nofun
  refine ⟨c,rfl,ForA.byLN (xs:=zs) ((hC.same S3).same S4) (fun i σ H' => i ≤ zs.length∧∃ (v4 v6:Option V) (kn:List (Key × V)) (gs:List GD), σ = [some (.ref a),some (.ref c),some (.ref md),some (.ref nd2),v4,v5,v6]∧Same H3 H'∧H' nd2 = some (.dK kn)∧kn.length ≤ i∧(∀ z:Str,(valV kn (Sum.inr z)).isSome = decide (z ∈ gs.map (·.nm)))∧gapsW ls gs (fs.drop i) = gapsW ls [] fs) ⟨Nat.zero_le _,v4,none,[],[],rfl,S4,e4,Nat.le_refl _,fun z => rfl,rfl⟩ (fun i σ H' z => by obtain ⟨_,_,_,_,_,_,z,_⟩:=z; exact (hC.same S3).same z) ?_ ?_⟩
  ·rintro i y σ H5 hy ⟨hi',v4,v6,kn,gs,rfl,S5,hn5,hkl5,hval5,hw2⟩ N0 hN0
   have li:=(List.getElem?_eq_some_iff.mp hy).1
   obtain ⟨e,he,b,v,rfl,hb,ev⟩:=hG.at_ hy
   have lie:i < fs.length:=by omega
   have edr:fs.drop i = e :: fs.drop (i + 1):=by
    rw [List.drop_eq_getElem_cons lie]
    rw [List.getElem?_eq_getElem lie] at he
    rw [Option.some.inj he]
   rw [edr] at hw2
   have S05:=S3.trans S5
   match e,hb,ev,hw2 with
   | .inr cc,hb,ev,hw2 =>
    replace hb:SqT K H b [.bl false,v]:=hb
    nofun
    refine ⟨b,_,rfl,hb.same S05,rfl, ?_⟩
    nofun
    rw [JcQ] at hw2
    have kk:=k H5 S05
    rw [show dueW es fs = 3 by unfold dueW; rw [← hw]; dsimp only; rw [← hw2]] at kk
    exact kk
   | .inl g,hb,ev,hw2 =>
    replace hb:SqT K H b [.bl true,v]:=hb
    obtain ⟨⟨gb,vl_,vg,rfl,hgb,_,_⟩,ok⟩:=ev
    replace hgb:SqT K H gb [.str g.nm, .str g.st, .str g.en,vl_,vg]:=hgb
    have gne:g.st ≠ g.en:=ok.ne
    have hgb5:=hgb.same S05
    have hm5:=S5 _ _ hm1
    nofun
    refine ⟨b,_,rfl,hb.same S05,rfl, ?_⟩
    nofun
    refine ixT (i:=0) hgb5 rfl ?_
    refine ⟨nd2,_,rfl,DGet.k (k:=Sum.inr g.nm) hn5, ?_⟩
    rw [hval5 g.nm]
    by_cases cn:g.nm ∈ gs.map (·.nm)
    ·rw [decide_eq_true cn]
     nofun
     rw [JcR cn] at hw2
     have kk:=k H5 S05
     rw [show dueW es fs = 1 by unfold dueW; rw [← hw]; dsimp only; rw [← hw2]] at kk
     exact kk
    ·rw [decide_eq_false cn]
     nofun
     refine ixT (i:=1) hgb5 rfl ?_
     refine ⟨md,_,rfl,DGet.k (k:=Sum.inr g.st) hm5, ?_⟩
     rw [hm4 g.st]
     by_cases cc:Conn ls g.st g.en
     ·rw [Jdz cn cc] at hw2
      obtain ⟨x,h1,h2⟩:=(hmk.ring hne gne).mp cc
      have v1:valV km (Sum.inr g.st) = some (.str x):=by rw [hm4,h1]; rfl
      have v2:valV km (Sum.inr g.en) = some (.str x):=by rw [hm4,h2]; rfl
      rw [h1,show ((some x).map V.str).isSome = true from rfl]
      nofun
      refine ixT (i:=2) hgb5 rfl ?_
      refine ⟨md,_,rfl,DGet.k (k:=Sum.inr g.en) hm5, ?_⟩
      rw [v2,show (some (V.str x)).isSome = true from rfl]
      nofun
      refine ixT (i:=1) hgb5 rfl ?_
      refine ⟨md,_,rfl,by rw [← v1]; exact DGet.k (k:=Sum.inr g.st) hm5, ?_⟩
      refine ixT (i:=2) hgb5 rfl ?_
      refine ⟨md,_,rfl,by rw [← v2]; exact DGet.k (k:=Sum.inr g.en) hm5, ?_⟩
      nofun
      refine ixT (i:=0) hgb5 rfl ?_
      refine ⟨nd2,_,rfl,DPut.k (k:=Sum.inr g.nm) hn5 (by omega), ?_⟩
      generalize u6:upd H5 nd2 _ = H6
      nofun
      have e6:=putE u6
      have lp:=JaC kn (Sum.inr g.nm) (V.bl true)
      exact hN0 _ _ ⟨li,_,_,_,gs ++ [g],rfl,fun b u h => by rw [← u6,Jae (Jah h h_nd2)]; exact S5 _ _ h,e6,by omega,putv kn _ _ g.nm hval5 (by rw [List.map_append]; rfl),hw2⟩
     ·rw [Jb4 cn cc] at hw2
      have kk:=k H5 S05
      rw [show dueW es fs = 4 by unfold dueW; rw [← hw]; dsimp only; rw [← hw2]] at kk
      cases h1:M g.st with
      | none =>
       rw [show ((none:Option Str).map V.str).isSome = false from rfl]
       nofun
       exact kk
      | some x =>
       have v1:valV km (Sum.inr g.st) = some (.str x):=by rw [hm4,h1]; rfl
       rw [show ((some x).map V.str).isSome = true from rfl]
       nofun
       refine ixT (i:=2) hgb5 rfl ?_
       refine ⟨md,_,rfl,DGet.k (k:=Sum.inr g.en) hm5, ?_⟩
       rw [hm4 g.en]
       cases h2:M g.en with
       | none =>
        rw [show ((none:Option Str).map V.str).isSome = false from rfl]
        nofun
        exact kk
       | some y =>
        have v2:valV km (Sum.inr g.en) = some (.str y):=by rw [hm4,h2]; rfl
        rw [show ((some y).map V.str).isSome = true from rfl]
        nofun
        refine ixT (i:=1) hgb5 rfl ?_
        refine ⟨md,_,rfl,by rw [← v1]; exact DGet.k (k:=Sum.inr g.st) hm5, ?_⟩
        refine ixT (i:=2) hgb5 rfl ?_
        refine ⟨md,_,rfl,by rw [← v2]; exact DGet.k (k:=Sum.inr g.en) hm5, ?_⟩
        have nxy:x ≠ y:=fun z => cc ((hmk.ring hne gne).mpr ⟨x,h1,by rw [h2,z]⟩)
        nofun
        rw [if_pos (by simpa using nxy)]
        nofun
        exact kk
  ·rintro σ H5 ⟨hi',v4,v6,kn,gs,rfl,S5,hn5,hkl5,hval5,hw2⟩
   rw [List.drop_eq_nil_of_le (by omega),gapsW] at hw2
   nofun
   have kk:=k H5 (S3.trans S5)
   rw [show dueW es fs = 5 by unfold dueW; rw [← hw]; dsimp only; rw [← hw2]] at kk
   exact kk
abbrev BaO:Stmt:=top 50
theorem Ja1:Jaq ["_law_parts", "_law_gaps", "_law_named", "_law_others", "_law_found", "e"] ["_law_parts", "_law_gaps"] (Jaf BaO):=⟨rfl,rfl,rfl,by decide +kernel,rfl,by decide +kernel,by decide +kernel⟩
def Jb9 (K:PySem.W.Frag) (Ad:Adr):Sp:=fun vs H Q E => ∃ (a c:Addr) (xs zs:List V) (es:List (PD ⊕ D)) (fs:List (GD ⊕ D)),vs = [.ref a, .ref c]∧SqL K H a xs∧All2 (PEV K H) es xs∧SqL K H c zs∧All2 (GEV K H) fs zs∧es.length ≤ 6∧fs.length ≤ 5∧∀ q v H',Same H H'→H' q = some (.tup [.str (JgE (dueW es fs)),v])→(v = .non ∨ ∃ x ls gs,v = .ref x∧TKw K Ad H' x ls gs∧es = ls.map Sum.inl∧fs = gs.map Sum.inl)→Q (.ref q) H'
theorem Jex {f:Addr} {fd:FuncData} {dV:Value} (F:FunD K "_law_made" "_law_made" BaO dV f fd) (T:Txt K mg Ad) (Bcv:KCal P w K mg base 9 "Thing" Ad.Thing ["self", "parts", "gaps"] (JaV K Ad)):FnOk P w K mg base (CX1 P w) 11 f fd ["_law_parts", "_law_gaps"] (Jb9 K Ad):=by
 refine F.okn Ja1 (fun vs H Q E h => ?_) (fun cdv A outer s H vs Q E hr h => ?_)
 ·obtain ⟨a,c,xs,zs,es,fs,rfl,_⟩:=h; rfl
 obtain ⟨a,c,xs,zs,es,fs,rfl,h⟩:=h
 have hu:=hr.units
 refine ⟨_,(Jac (Jar (i:=2) Ja1.nd rfl (Or.inl rfl) (JaP Jad))
   (Jac (Jar (i:=3) Ja1.nd rfl (Or.inl rfl) (JaP Jad))
   (Jac (Jar (i:=4) Ja1.nd rfl (Or.inl rfl) Jbf)
   (Jac (Jgm (i:=5) (k:=4) Ja1.nd rfl rfl rfl (Or.inl rfl) (Bcv.tr hr (by decide) rfl (Jaa (pv 0) (Jaa (pv 1) Jad))) rfl T.m_SlackError (fun _ =>
   (Jac (Jar (i:=2) Ja1.nd rfl (Or.inl rfl) (JaP (Jaa (Ja3 (K:=K) rfl rfl T.Bac Jaj (Jaa (pv 5) (Jaa (JaX (v:=.ref _) rfl T.BcE rfl) Jad))) (Jaa (Ja3 (K:=K) rfl rfl T.Bac Jaj (Jaa (pv 5) (Jaa (JaX (v:=.ref _) rfl T.Bct rfl) Jad))) (Jaa (Ja3 (K:=K) rfl rfl T.Bac Jaj (Jaa (pv 5) (Jaa (JaX (v:=.ref _) rfl T.BcF rfl) Jad))) (Jaa (Ja3 (K:=K) rfl rfl T.Bac Jaj (Jaa (pv 5) (Jaa (JaX (v:=.ref _) rfl T.BcH rfl) Jad))) (Jaa (Ja3 (K:=K) rfl rfl T.Bac Jaj (Jaa (pv 5) (Jaa (JaX (v:=.ref _) rfl T.BcI rfl) Jad))) Jad)))))))
   (Jai (Jar (i:=3) Ja1.nd rfl (Or.inl rfl) (JaP (Jaa (Ja3 (K:=K) rfl rfl T.Bac Jaj (Jaa (pv 5) (Jaa (JaX (v:=.ref _) rfl T.m_NoTie rfl) Jad))) (Jaa (Ja3 (K:=K) rfl rfl T.Bac Jaj (Jaa (pv 5) (Jaa (JaX (v:=.ref _) rfl T.BcR rfl) Jad))) (Jaa (Ja3 (K:=K) rfl rfl T.Bac Jaj (Jaa (pv 5) (Jaa (JaX (v:=.ref _) rfl T.m_NoFace rfl) Jad))) (Jaa (Ja3 (K:=K) rfl rfl T.Bac Jaj (Jaa (pv 5) (Jaa (JaX (v:=.ref _) rfl T.m_Impossible rfl) Jad))) (Jaa (Ja3 (K:=K) rfl rfl T.Bac Jaj (Jaa (pv 5) (Jaa (JaX (v:=.ref _) rfl T.m_NoNumber rfl) Jad))) (Jaa (Ja3 (K:=K) rfl rfl T.Bac Jaj (Jaa (pv 5) (Jaa (JaX (v:=.ref _) rfl T.m_Tight rfl) Jad))) (Jaa (Ja3 (K:=K) rfl rfl T.Bac Jaj (Jaa (pv 5) (Jaa (JaX (v:=.ref _) rfl T.m_Off rfl) Jad))) (Jaa (Ja3 (K:=K) rfl rfl T.Bac Jaj (Jaa (pv 5) (Jaa (JaX (v:=.ref _) rfl T.m_NoRow rfl) Jad))) (Jaa (Je6 (Ja3 (K:=K) rfl rfl T.Bac Jaj (Jaa (pv 5) (Jaa (Jb6 (v:=.ty "ValueError") rfl T.n_ValueError Jdq rfl) Jad)))) Jad)))))))))))))))
   (Jac (ps_if (Jay JcK (pv 4) Jbf (Jaz _))
   (Jai (Jao (JaQ (Jaa JaG (Jaa (pv 4) Jad)))))
   Jau)
   (Jac (ps_if (PW.pt (pw_or (Jay Jhm pe_bl (pv 3) (by with_unfolding_all rfl)) (Jby (Jay (JbM hu) (pe_bm PySem.F.plainAttrs_list PySem.F.slot_list_count PySem.F.type_list_count JgX (pv 2) (Jaa pe_bl Jad)) Jab (Jaz _)))))
   (Jai (Jao (JaQ (Jaa JaG (Jaa Jbf Jad)))))
   Jau)
   (Jai (Jao (JaQ (Jaa (pe_ix ix_U (JaP (Jaa JaG (Jaa JaG (Jaa JaG (Jaa JaG (Jaa JaG Jad)))))) (pe_bm PySem.F.plainAttrs_list PySem.F.slot_list_index PySem.F.type_list_index Jf3 (pv 2) (Jaa pe_bl Jad)) (fun _ _ => rfl)) (Jaa Jbf Jad))))))))))), ?_⟩
 obtain ⟨hA,hE,hC,hG,l6,l5,k⟩:=h
 have sl:(1000:Nat) ≤ sizeLine:=by decide
 have x0:X5 K Ad Ad.NoPart 0:=⟨⟨T.y1,T.y2,T.y3,T.y4NoPart⟩,⟨T.xc1NoPart,T.xc2NoPart,T.xc3NoPart,T.xc4NoPart,T.xc5,T.xc6,T.xc7NoPart,T.xc8NoPart⟩,T.kNoPartNoPart,T.kNoPartTwice,T.kNoPartInRing,T.kNoPartNoGap,T.kNoPartApart,T.kNoPartNoTie,T.kNoPartNoName,T.kNoPartNoFace,T.kNoPartImpossible,T.kNoPartNoNumber,T.kNoPartTight,T.kNoPartOff,T.kNoPartNoRow,T.kVNoPart,by decide⟩
 have x1:X5 K Ad Ad.Twice 1:=⟨⟨T.y1,T.y2,T.y3,T.y4Twice⟩,⟨T.xc1Twice,T.xc2Twice,T.xc3Twice,T.xc4Twice,T.xc5,T.xc6,T.xc7Twice,T.xc8Twice⟩,T.kTwiceNoPart,T.kTwiceTwice,T.kTwiceInRing,T.kTwiceNoGap,T.kTwiceApart,T.kTwiceNoTie,T.kTwiceNoName,T.kTwiceNoFace,T.kTwiceImpossible,T.kTwiceNoNumber,T.kTwiceTight,T.kTwiceOff,T.kTwiceNoRow,T.kVTwice,by decide⟩
 have x2:X5 K Ad Ad.InRing 2:=⟨⟨T.y1,T.y2,T.y3,T.y4InRing⟩,⟨T.xc1InRing,T.xc2InRing,T.xc3InRing,T.xc4InRing,T.xc5,T.xc6,T.xc7InRing,T.xc8InRing⟩,T.kInRingNoPart,T.kInRingTwice,T.kInRingInRing,T.kInRingNoGap,T.kInRingApart,T.kInRingNoTie,T.kInRingNoName,T.kInRingNoFace,T.kInRingImpossible,T.kInRingNoNumber,T.kInRingTight,T.kInRingOff,T.kInRingNoRow,T.kVInRing,by decide⟩
 have x3:X5 K Ad Ad.NoGap 3:=⟨⟨T.y1,T.y2,T.y3,T.y4NoGap⟩,⟨T.xc1NoGap,T.xc2NoGap,T.xc3NoGap,T.xc4NoGap,T.xc5,T.xc6,T.xc7NoGap,T.xc8NoGap⟩,T.kNoGapNoPart,T.kNoGapTwice,T.kNoGapInRing,T.kNoGapNoGap,T.kNoGapApart,T.kNoGapNoTie,T.kNoGapNoName,T.kNoGapNoFace,T.kNoGapImpossible,T.kNoGapNoNumber,T.kNoGapTight,T.kNoGapOff,T.kNoGapNoRow,T.kVNoGap,by decide⟩
 have x4:X5 K Ad Ad.Apart 4:=⟨⟨T.y1,T.y2,T.y3,T.y4Apart⟩,⟨T.xc1Apart,T.xc2Apart,T.xc3Apart,T.xc4Apart,T.xc5,T.xc6,T.xc7Apart,T.xc8Apart⟩,T.kApartNoPart,T.kApartTwice,T.kApartInRing,T.kApartNoGap,T.kApartApart,T.kApartNoTie,T.kApartNoName,T.kApartNoFace,T.kApartImpossible,T.kApartNoNumber,T.kApartTight,T.kApartOff,T.kApartNoRow,T.kVApart,by decide⟩
 show tSeq _ _ _ [some (.ref a),some (.ref c),none,none,none,none] H
 nofun
 refine ⟨len0, ?_⟩
 intro nl h_nl
 generalize q_nl:upd H nl _ = H1
 have S1:=newS h_nl q_nl
 have e1:=newE q_nl
 nofun
 refine ⟨len0, ?_⟩
 intro ol h_ol
 generalize q_ol:upd H1 ol _ = H2
 have S2:=newS h_ol q_ol
 have e2:=newE q_ol
 nofun
 have S02:=S1.trans S2
 intro x dx hx hdx hne
 have Sm:Same H2 (upd (upd H2 dx (.own x)) x (.ins Ad.Thing dx [])):=fun b u q => by rw [Jae (Jah q hx),Jae (Jah q hdx)]; exact q
 have use:∀ (Q':VK) (E':XK),(∀ C j H',X5 K Ad C j→dueW es fs = j→Same H2 H'→E' (.ref C) none H')→(∀ ls gs H',es = ls.map Sum.inl→fs = gs.map Sum.inl→dueW es fs = 5→Same H2 H'→TK K Ad H' x ls gs→Q' .non H')→JaV K Ad [.ref x, .ref a, .ref c] (upd (upd H2 dx (.own x)) x (.ins Ad.Thing dx [])) Q' E':=fun Q' E' hE' hQ' =>
  ⟨x,dx,a,c,xs,zs,es,fs,H2,rfl,Jak,hx,Sm,hA.same S02,hE.mono (fun _ _ z => z.same S02),hC.same S02,hG.mono (fun _ _ z => z.same S02),by omega,by omega,JfY (E:=E') (Q:=Q') ⟨x0,x1,x2,x3,x4⟩ hE' hQ'⟩
 refine use _ _ ?_ ?_
 ·intro C j H3 x5 hd S3
  refine ⟨C,rfl,x5.cat, ?_⟩
  intro ea hea
  generalize qe:upd H3 ea _ = HE
  have SE:=newS hea qe
  have eE:=newE qe
  nofun
  refine isiXr eE x5.xc x5.k0 ?_
  nofun
  refine isiXr eE x5.xc x5.k1 ?_
  nofun
  refine isiXr eE x5.xc x5.k2 ?_
  nofun
  refine isiXr eE x5.xc x5.k3 ?_
  nofun
  refine isiXr eE x5.xc x5.k4 ?_
  nofun
  refine ⟨len5, ?_⟩
  intro l1 h_l1
  generalize q_l1:upd HE l1 _ = H4
  have S4:=newS h_l1 q_l1
  have e4:=newE q_l1
  nofun
  replace eE:=S4 _ _ eE
  refine isiXr eE x5.xc x5.z0 ?_
  nofun
  refine isiXr eE x5.xc x5.z1 ?_
  nofun
  refine isiXr eE x5.xc x5.z2 ?_
  nofun
  refine isiXr eE x5.xc x5.z3 ?_
  nofun
  refine isiXr eE x5.xc x5.z4 ?_
  nofun
  refine isiXr eE x5.xc x5.z5 ?_
  nofun
  refine isiXr eE x5.xc x5.z6 ?_
  nofun
  refine isiXr eE x5.xc x5.z7 ?_
  nofun
  refine isiXt eE x5.xc x5.kv ?_
  nofun
  refine ⟨by show 9 ≤ sizeLine; omega, ?_⟩
  intro l2 h_l2
  generalize q_l2:upd H4 l2 _ = H5
  have S5:=newS h_l2 q_l2
  have e5:=newE q_l2
  nofun
  refine ⟨l2,_,rfl, .inl (SqL.of e5),rfl,rfl, ?_⟩
  rw [show inV (.bl true) [V.bl false, .bl false, .bl false, .bl false, .bl false, .bl false, .bl false, .bl false, .bl false] = false from rfl]
  nofun
  obtain ⟨bs,hbs,hb1,hb2,hb3⟩:=five x5.lt
  have e5':H5 l1 = some (.lst (bs.map V.bl)):=by rw [S5 _ _ e4,hbs]; rfl
  refine ⟨.inl ⟨rfl,_,SqL.of e5'⟩, ?_⟩
  refine ⟨l1,bs,true,rfl,rfl,e5', ?_⟩
  rw [hb1]
  nofun
  rw [if_neg (by decide)]
  nofun
  nofun
  refine ⟨len5, ?_⟩
  intro wl h_wl
  generalize q_wl:upd H5 wl _ = H6
  have S6:=newS h_wl q_wl
  have e6:=newE q_wl
  nofun
  refine ⟨.inl ⟨rfl,_,SqL.of (S6 _ _ e5')⟩, ?_⟩
  refine ⟨l1,bs,true,j,rfl,rfl,S6 _ _ e5',hb2,hb3, ?_⟩
  have hwd:[V.str (Str.ofString "part"), .str (Str.ofString "twice"), .str (Str.ofString "ring"), .str (Str.ofString "gap"), .str (Str.ofString "apart")][j]? = some (.str (JgE j)):=by
   match j,x5.lt with
   | 0,_ | 1,_ | 2,_ | 3,_ | 4,_ => rfl
  refine ixL (i:=j) (SqL.of e6) hwd ?_
  nofun
  refine ⟨len2, ?_⟩
  intro q h_q
  generalize q_q:upd H6 q _ = H7
  have S7:=newS h_q q_q
  have e7:=newE q_q
  nofun
  rw [← hd] at e7
  exact k q .non H7 (S02.trans (S3.trans (SE.trans (S4.trans (S5.trans (S6.trans S7)))))) e7 (.inl rfl)
 ·intro ls gs H3 he hf hd S3 tk
  refine ⟨rfl, ?_⟩
  nofun
  refine ⟨len2, ?_⟩
  intro q h_q
  generalize q_q:upd H3 q _ = H4
  have S4:=newS h_q q_q
  have e4:=newE q_q
  nofun
  refine k q (.ref x) H4 (S02.trans (S3.trans S4)) (by rw [hd]; exact e4) (.inr ⟨x,ls,gs,rfl,tk.w.nl S4.nl,he,hf⟩)
abbrev BaE:Stmt:=top 51
theorem JaM:Jaq ["_law_script", "_law_style", "_law_parts", "_law_k", "_law_part_here", "_law_way", "_law_gaps", "_law_gap_here"] ["_law_script", "_law_style"] (Jaf BaE):=⟨rfl,rfl,rfl,by decide +kernel,rfl,by decide +kernel,by decide +kernel⟩
def JbQ (K:PySem.W.Frag):Sp:=fun vs H Q E => ∃ (a:Addr) (st:Int) (ns:List Int),vs = [.ref a, .int st]∧SqL K H a (ns.map V.int)∧ns.length ≤ 63∧0 ≤ st∧st ≤ 3∧∀ q pl gl px gx es fs H',Same H H'→H' q = some (.tup [.ref pl, .ref gl])→H' pl = some (.lst px)→All2 (PQV K H') es px→H' gl = some (.lst gx)→All2 (GQV K H') fs gx→es.length ≤ 6→fs.length ≤ 5→(∀ e ∈ es,depD (pD_ e) ≤ 5)→(∀ e ∈ fs,depD (gD_ e) ≤ 5)→Q (.ref q) H'
theorem Jec {f:Addr} {fd:FuncData} {dV:Value} (F:FunD K "_law_drawn" "_law_drawn" BaE dV f fd) (T:Txt K mg Ad) (Baf:Cal P w K mg base 1 "_law_cell" ["_law_script", "_law_k"] [] (JbJ K)) (BbH:Cal P w K mg base 2 "_law_part" ["_law_k", "_law_cells", "_law_style"] [] (Jca K)) (Bb1:Cal P w K mg base 2 "_law_gap" ["_law_k", "_law_cells", "_law_style"] [] (Jcz K)) (BaH:Cal P w K mg base 2 "_law_spoiled" ["_law_thing", "_law_way"] [] (Jbx K)):FnOk P w K mg base (CX1 P w) 3 f fd ["_law_script", "_law_style"] (JbQ K):=by
 refine F.okn JaM (fun vs H Q E h => ?_) (fun cdv A outer s H vs Q E hr h => ?_)
 ·obtain ⟨a,st,ns,rfl,_⟩:=h; rfl
 obtain ⟨a,st,ns,rfl,h⟩:=h
 have hu:=hr.units
 refine ⟨_,(Jac (Jar (i:=2) JaM.nd rfl (Or.inl rfl) (JaP Jad))
   (Jac (Jcj PassesOwn.never rfl (Jee rfl T.Bcs (Jaa (pe_op Jan (Baf.ev hr (by decide) rfl passF (Jaa (pv 0) (Jaa Jab Jad)) (he:=by exact Jag rfl)) Jab) Jad)) (JaR (i:=3) JaM.nd rfl (Or.inl rfl))
   (Jac (Jar (i:=4) JaM.nd rfl (Or.inl rfl) (BbH.ev hr (by decide) rfl passF (Jaa (pv 3) (Jaa (JaP (Jaa (Baf.ev hr (by decide) rfl passF (Jaa (pv 0) (Jaa (pe_op JaH Jab (pe_op JaW Jab (pv 3))) Jad)) (he:=by exact Jag rfl)) (Jaa (Baf.ev hr (by decide) rfl passF (Jaa (pv 0) (Jaa (pe_op JaH Jab (pe_op JaW Jab (pv 3))) Jad)) (he:=by exact Jag rfl)) Jad))) (Jaa (pv 1) Jad))) (he:=by exact Jag rfl)))
   (Jac (Jar (i:=5) JaM.nd rfl (Or.inl rfl) (pe_op Jas (pe_op Jan (pe_op JaW (Baf.ev hr (by decide) rfl passF (Jaa (pv 0) (Jaa (pe_op JaH Jab (pe_op JaW Jab (pv 3))) Jad)) (he:=by exact Jag rfl)) Jab) Jab) Jab))
   (Jai (ps_if (Jay (Jbr hu) (pe_op Jan (pe_op Jas (pv 5) Jab) Jab) Jab (Jaz _))
   (Jai (Ja7 (pe_bm PySem.F.plainAttrs_list PySem.F.slot_list_append PySem.F.type_list_append JaZ (pv 2) (Jaa (JaQ (Jaa pe_bl (Jaa (BaH.ev hr (by decide) rfl passF (Jaa (pv 4) (Jaa (pv 5) Jad)) (he:=by exact Jag rfl)) Jad))) Jad) (hs:=by exact Jag rfl))))
   (Jai (Ja7 (pe_bm PySem.F.plainAttrs_list PySem.F.slot_list_append PySem.F.type_list_append JaZ (pv 2) (Jaa (JaQ (Jaa pe_bl (Jaa (pv 4) Jad))) Jad) (hs:=by exact Jag rfl)))))))))
   (Jac (Jar (i:=6) JaM.nd rfl (Or.inl rfl) (JaP Jad))
   (Jac (Jcj PassesOwn.never rfl (Jee rfl T.Bcs (Jaa (pe_op Jan (Baf.ev hr (by decide) rfl passF (Jaa (pv 0) (Jaa Jab Jad)) (he:=by exact Jag rfl)) Jab) Jad)) (JaR (i:=3) JaM.nd rfl (Or.inl rfl))
   (Jac (Jar (i:=7) JaM.nd rfl (Or.inl rfl) (Bb1.ev hr (by decide) rfl passF (Jaa (pv 3) (Jaa (JaP (Jaa (Baf.ev hr (by decide) rfl passF (Jaa (pv 0) (Jaa (pe_op JaH Jab (pe_op JaW Jab (pv 3))) Jad)) (he:=by exact Jag rfl)) (Jaa (Baf.ev hr (by decide) rfl passF (Jaa (pv 0) (Jaa (pe_op JaH Jab (pe_op JaW Jab (pv 3))) Jad)) (he:=by exact Jag rfl)) Jad))) (Jaa (pv 1) Jad))) (he:=by exact Jag rfl)))
   (Jac (Jar (i:=5) JaM.nd rfl (Or.inl rfl) (pe_op Jas (pe_op Jan (pe_op JaW (Baf.ev hr (by decide) rfl passF (Jaa (pv 0) (Jaa (pe_op JaH Jab (pe_op JaW Jab (pv 3))) Jad)) (he:=by exact Jag rfl)) Jab) Jab) Jab))
   (Jai (ps_if (Jay (Jbr hu) (pe_op Jan (pe_op Jas (pv 5) Jab) Jab) Jab (Jaz _))
   (Jai (Ja7 (pe_bm PySem.F.plainAttrs_list PySem.F.slot_list_append PySem.F.type_list_append JaZ (pv 6) (Jaa (JaQ (Jaa pe_bl (Jaa (BaH.ev hr (by decide) rfl passF (Jaa (pv 7) (Jaa (pv 5) Jad)) (he:=by exact Jag rfl)) Jad))) Jad) (hs:=by exact Jag rfl))))
   (Jai (Ja7 (pe_bm PySem.F.plainAttrs_list PySem.F.slot_list_append PySem.F.type_list_append JaZ (pv 6) (Jaa (JaQ (Jaa pe_bl (Jaa (pv 7) Jad))) Jad) (hs:=by exact Jag rfl)))))))))
   (Jai (Jao (JaQ (Jaa (pv 2) (Jaa (pv 6) Jad))))))))), ?_⟩
 obtain ⟨hS,hl,h0,h3,k⟩:=h
 have sl:(1000:Nat) ≤ sizeLine:=by decide
 show tSeq _ _ _ [some (.ref a),some (.int st),none,none,none,none,none,none] H
 nofun
 refine ⟨len0, ?_⟩
 intro pl h_pl
 generalize q_pl:upd H pl _ = H1
 have S1:=newS h_pl q_pl
 have e1:=newE q_pl
 nofun
 refine ⟨a,ns,0,rfl,hS.same S1,hl,by decide,by decide,fun c0 => ?_⟩
 nofun
 repeat (refine And.intro (by first | exact Jav (by decide) | exact Jax (by decide) | exact Jaw (by decide) | exact Jam (by decide) | exact Int.one_ne_zero | decide) ?_)
 have q0:=Mth.fm (x:=c0) (y:=7) (by decide)
 refine ⟨_,rfl,by omega,by omega, ?_⟩
 have hS0:=hS
 refine ForR.byN (fun i σ H' => ∃ (v3 v4 v5:Option V) (px:List V) (es:List (PD ⊕ D)), σ = [some (.ref a),some (.int st),some (.ref pl),v3,v4,v5,none,none]∧Same H H'∧H' pl = some (.lst px)∧All2 (PQV K (cut pl H')) es px∧(∀ e ∈ es,depD (pD_ e) ≤ 5)∧es.length = i) ⟨none,none,none,[],[],rfl,S1,e1,rfl,(fun e he => by cases he),rfl⟩ ?_ ?_
 ·rintro i σ H3 hi ⟨v3,v4,v5,px,es,rfl,S3,ep,hP,hdep,hli⟩ N0 hN0
  have i6:i < 6:=by omega
  rw [Int.zero_add]
  nofun
  repeat (refine And.intro (by first | exact Jav (by decide) | exact Jax (by decide) | exact Jaw (by decide) | exact Jam (by decide) | exact Int.one_ne_zero | decide) ?_)
  refine ⟨a,ns,_,rfl,hS0.same S3,hl,by omega,by omega,fun c1 => ?_⟩
  nofun
  repeat (refine And.intro (by first | exact Jav (by decide) | exact Jax (by decide) | exact Jaw (by decide) | exact Jam (by decide) | exact Int.one_ne_zero | decide) ?_)
  refine ⟨a,ns,_,rfl,hS0.same S3,hl,by omega,by omega,fun c2 => ?_⟩
  nofun
  refine ⟨len2, ?_⟩
  intro cl h_cl
  generalize q_cl:upd H3 cl _ = H4
  have S4:=newS h_cl q_cl
  have e4:=newE q_cl
  nofun
  refine ⟨i,cl,st,c1,c2,rfl,SqL.of e4,by omega,h0,h3,fun v p H5 S5 pv ok => ?_⟩
  nofun
  repeat (refine And.intro (by first | exact Jav (by decide) | exact Jax (by decide) | exact Jaw (by decide) | exact Jam (by decide) | exact Int.one_ne_zero | decide) ?_)
  have S35:=S4.trans S5
  have S05:=S3.trans S35
  have ep5:=S35 _ _ ep
  have lp:=hP.length
  refine ⟨a,ns,_,rfl,hS0.same S05,hl,by omega,by omega,fun c3 => ?_⟩
  nofun
  repeat (refine And.intro (by first | exact Jav (by decide) | exact Jax (by decide) | exact Jaw (by decide) | exact Jam (by decide) | exact Int.one_ne_zero | decide) ?_)
  generalize ((c3 * 69621).fmod 2147483587).fdiv 37 = wy
  have hP5:=hP.mono (P':=PQV K (cut pl H5)) fun _ _ z => z.same S35.cut
  by_cases cw:(wy.fdiv 8192).fmod 11 = 1
  ·rw [if_pos (by simpa using cw)]
   nofun
   refine ⟨.inl ⟨rfl,_,SqL.of ep5⟩, ?_⟩
   nofun
   refine ⟨v,wy,Sum.inl p,pl,rfl,pv,ok,⟨px,ep5⟩,fun y c H6 S6 rc sc dc bc => ?_⟩
   nofun
   refine ⟨len2, ?_⟩
   intro t h_t
   generalize q_t:upd H6 t _ = H7
   have S7:=newS h_t q_t
   have e7:=newE q_t
   nofun
   have S57:=S6.trans S7
   have ep7:=S57 _ _ ep5
   refine ⟨pl,px,_,rfl,rfl,ep7,by omega, ?_⟩
   generalize u8:upd H7 pl _ = H8
   nofun
   have e8:=putE u8
   have ec:cut pl H8 = cut pl H7:=by rw [← u8]; exact Jdu
   refine hN0 _ _ ⟨_,_,_,px ++ [.ref t],es ++ [.inr c],rfl,fun b u h => by rw [← u8,Jae (Jah h h_pl)]; exact S57 _ _ (S05 _ _ h),e8, ?_, ?_,by simp [hli]⟩
   ·rw [ec]
    exact (hP5.mono (P':=PQV K (cut pl H7)) fun _ _ z => z.same S57.cut).append (.one ⟨t,y,rfl,SqT.cut ep7 (SqT.of e7),rc.same S7.cut,sc,bc⟩)
   ·intro e he
    rcases List.mem_append.mp he with he | he
    ·exact hdep e he
    ·rw [List.mem_singleton.mp he]
     exact dc
  ·rw [if_neg (by simpa using cw)]
   nofun
   refine ⟨.inl ⟨rfl,_,SqL.of ep5⟩, ?_⟩
   nofun
   refine ⟨len2, ?_⟩
   intro t h_t
   generalize q_t:upd H5 t _ = H7
   have S7:=newS h_t q_t
   have e7:=newE q_t
   nofun
   have ep7:=S7 _ _ ep5
   refine ⟨pl,px,_,rfl,rfl,ep7,by omega, ?_⟩
   generalize u8:upd H7 pl _ = H8
   nofun
   have e8:=putE u8
   have ec:cut pl H8 = cut pl H7:=by rw [← u8]; exact Jdu
   refine hN0 _ _ ⟨_,_,_,px ++ [.ref t],es ++ [.inl p],rfl,fun b u h => by rw [← u8,Jae (Jah h h_pl)]; exact S7 _ _ (S05 _ _ h),e8, ?_, ?_,by simp [hli]⟩
   ·rw [ec]
    exact (hP5.mono (P':=PQV K (cut pl H7)) fun _ _ z => z.same S7.cut).append (.one ⟨t,v,rfl,SqT.cut ep7 (SqT.of e7),(PDV.cut ep7 (pv.sameT S7.t)),ok⟩)
   ·intro e he
    rcases List.mem_append.mp he with he | he
    ·exact hdep e he
    ·rw [List.mem_singleton.mp he]
     exact (by simp [pD_,pdD,frD,depD,depL])
 ·rintro σ H3 ⟨v3,v4,v5,px,es,rfl,S3,ep,hP,hdep,hli⟩
  have hP3:=hP.mono (P':=PQV K H3) fun _ _ z => z.same JcH
  clear hP
  have hS3:=hS.same S3
  nofun
  refine ⟨len0, ?_⟩
  intro gl h_gl
  generalize q_gl:upd H3 gl _ = H4
  have S4:=newS h_gl q_gl
  have e4:=newE q_gl
  nofun
  refine ⟨a,ns,1,rfl,hS3.same S4,hl,by decide,by decide,fun d0 => ?_⟩
  nofun
  repeat (refine And.intro (by first | exact Jav (by decide) | exact Jax (by decide) | exact Jaw (by decide) | exact Jam (by decide) | exact Int.one_ne_zero | decide) ?_)
  have r0:=Mth.fm (x:=d0) (y:=6) (by decide)
  refine ⟨_,rfl,by omega,by omega, ?_⟩
  obtain ⟨es0,px0,hes,hpx⟩:∃ es0 px0,es0 = es∧px0 = px:=⟨_,_,rfl,rfl⟩
  subst hes
  subst hpx
  have hS0:=hS3
  have dep0:=hdep
  refine ForR.byN (fun i σ H' => ∃ (v3 v5 v7:Option V) (px:List V) (es:List (GD ⊕ D)), σ = [some (.ref a),some (.int st),some (.ref pl),v3,v4,v5,some (.ref gl),v7]∧Same H3 H'∧H' gl = some (.lst px)∧All2 (GQV K (cut gl H')) es px∧(∀ e ∈ es,depD (gD_ e) ≤ 5)∧es.length = i) ⟨v3,v5,none,[],[],rfl,S4,e4,rfl,(fun e he => by cases he),rfl⟩ ?_ ?_
  ·rintro i σ K3 hi ⟨v3,v5,v7,px,es,rfl,R3,ep,hP,hdep,hli⟩ N0 hN0
   have i6:i < 5:=by omega
   rw [Int.zero_add]
   nofun
   repeat (refine And.intro (by first | exact Jav (by decide) | exact Jax (by decide) | exact Jaw (by decide) | exact Jam (by decide) | exact Int.one_ne_zero | decide) ?_)
   refine ⟨a,ns,_,rfl,hS0.same R3,hl,by omega,by omega,fun c1 => ?_⟩
   nofun
   repeat (refine And.intro (by first | exact Jav (by decide) | exact Jax (by decide) | exact Jaw (by decide) | exact Jam (by decide) | exact Int.one_ne_zero | decide) ?_)
   refine ⟨a,ns,_,rfl,hS0.same R3,hl,by omega,by omega,fun c2 => ?_⟩
   nofun
   refine ⟨len2, ?_⟩
   intro cl h_cl
   generalize q_cl:upd K3 cl _ = H4
   have S4:=newS h_cl q_cl
   have e4:=newE q_cl
   nofun
   refine ⟨i,cl,st,c1,c2,rfl,SqL.of e4,by omega,h0,h3,fun v p H5 S5 pv ok => ?_⟩
   nofun
   repeat (refine And.intro (by first | exact Jav (by decide) | exact Jax (by decide) | exact Jaw (by decide) | exact Jam (by decide) | exact Int.one_ne_zero | decide) ?_)
   have S35:=S4.trans S5
   have S05:=R3.trans S35
   have ep5:=S35 _ _ ep
   have lp:=hP.length
   refine ⟨a,ns,_,rfl,hS0.same S05,hl,by omega,by omega,fun c3 => ?_⟩
   nofun
   repeat (refine And.intro (by first | exact Jav (by decide) | exact Jax (by decide) | exact Jaw (by decide) | exact Jam (by decide) | exact Int.one_ne_zero | decide) ?_)
   generalize ((c3 * 69621).fmod 2147483587).fdiv 37 = wy
   have hP5:=hP.mono (P':=GQV K (cut gl H5)) fun _ _ z => z.same S35.cut
   by_cases cw:(wy.fdiv 8192).fmod 11 = 1
   ·rw [if_pos (by simpa using cw)]
    nofun
    refine ⟨.inl ⟨rfl,_,SqL.of ep5⟩, ?_⟩
    nofun
    refine ⟨v,wy,Sum.inr p,gl,rfl,pv,ok,⟨px,ep5⟩,fun y c H6 S6 rc sc dc bc => ?_⟩
    nofun
    refine ⟨len2, ?_⟩
    intro t h_t
    generalize q_t:upd H6 t _ = H7
    have S7:=newS h_t q_t
    have e7:=newE q_t
    nofun
    have S57:=S6.trans S7
    have ep7:=S57 _ _ ep5
    refine ⟨gl,px,_,rfl,rfl,ep7,by omega, ?_⟩
    generalize u8:upd H7 gl _ = H8
    nofun
    have e8:=putE u8
    have ec:cut gl H8 = cut gl H7:=by rw [← u8]; exact Jdu
    refine hN0 _ _ ⟨_,_,_,px ++ [.ref t],es ++ [.inr c],rfl,fun b u h => by rw [← u8,Jae (Jah h h_gl)]; exact S57 _ _ (S05 _ _ h),e8, ?_, ?_,by simp [hli]⟩
    ·rw [ec]
     exact (hP5.mono (P':=GQV K (cut gl H7)) fun _ _ z => z.same S57.cut).append (.one ⟨t,y,rfl,SqT.cut ep7 (SqT.of e7),rc.same S7.cut,sc,bc⟩)
    ·intro e he
     rcases List.mem_append.mp he with he | he
     ·exact hdep e he
     ·rw [List.mem_singleton.mp he]
      exact dc
   ·rw [if_neg (by simpa using cw)]
    nofun
    refine ⟨.inl ⟨rfl,_,SqL.of ep5⟩, ?_⟩
    nofun
    refine ⟨len2, ?_⟩
    intro t h_t
    generalize q_t:upd H5 t _ = H7
    have S7:=newS h_t q_t
    have e7:=newE q_t
    nofun
    have ep7:=S7 _ _ ep5
    refine ⟨gl,px,_,rfl,rfl,ep7,by omega, ?_⟩
    generalize u8:upd H7 gl _ = H8
    nofun
    have e8:=putE u8
    have ec:cut gl H8 = cut gl H7:=by rw [← u8]; exact Jdu
    refine hN0 _ _ ⟨_,_,_,px ++ [.ref t],es ++ [.inl p],rfl,fun b u h => by rw [← u8,Jae (Jah h h_gl)]; exact S7 _ _ (S05 _ _ h),e8, ?_, ?_,by simp [hli]⟩
    ·rw [ec]
     exact (hP5.mono (P':=GQV K (cut gl H7)) fun _ _ z => z.same S7.cut).append (.one ⟨t,v,rfl,SqT.cut ep7 (SqT.of e7),(TV.cut ep7 (pv.sameT S7.t)),ok⟩)
    ·intro e he
     rcases List.mem_append.mp he with he | he
     ·exact hdep e he
     ·rw [List.mem_singleton.mp he]
      exact (by simp [gD_,tdD,GD.td,bD,frD,depD,depL])
  ·rintro σ H5 ⟨v3,v5,v7,gx,fs,rfl,S5,eg,hG,gdep,hgi⟩
   have hG5:=hG.mono (P':=GQV K H5) fun _ _ z => z.same JcH
   nofun
   refine ⟨len2, ?_⟩
   intro q h_q
   generalize q_q:upd H5 q _ = H6
   have S6:=newS h_q q_q
   have e6:=newE q_q
   nofun
   have S36:=S5.trans S6
   exact k q pl gl px0 gx es0 fs H6 (S3.trans S36) e6 (S36 _ _ ep) (hP3.mono fun _ _ z => z.same S36) (S6 _ _ eg) (hG5.mono fun _ _ z => z.same S6) (by omega) (by omega) dep0 gdep
abbrev Bcf:Stmt:=top 52
theorem Jb1:Jaq ["_law_script", "_law_style", "_law_parts", "_law_gaps", "_law_due_here", "_law_handed", "_law_kept", "_law_word", "_law_found", "_law_told"] ["_law_script"] (Jaf Bcf):=⟨rfl,rfl,rfl,by decide +kernel,rfl,by decide +kernel,by decide +kernel⟩
def Bco (K:PySem.W.Frag):Sp:=fun vs H Q E => ∃ (a:Addr) (ns:List Int),vs = [.ref a]∧SqL K H a (ns.map V.int)∧ns.length ≤ 63∧∀ H',Q (.bl true) H'
theorem JiC {f:Addr} {fd:FuncData} {dV:Value} (F:FunD K "law" "law" Bcf dV f fd) (T:Txt K mg Ad) (Baf:Cal P w K mg base 1 "_law_cell" ["_law_script", "_law_k"] [] (JbJ K)) (Bbq:Cal P w K mg base 3 "_law_drawn" ["_law_script", "_law_style"] [] (JbQ K)) (Bb2:Cal P w K mg base 2 "_law_due" ["_law_parts", "_law_gaps"] [] (Jcy K)) (BbI:Cal P w K mg base 11 "_law_made" ["_law_parts", "_law_gaps"] [] (Jb9 K Ad)) (Bb3:MCal P w K mg base 2 "parts" (JcN Ad) ["self"] (Jbw K Ad)) (Bcq:MCal P w K mg base 2 "gaps" (JcN Ad) ["self"] (JbG K Ad)):FnOk P w K mg base (CX1 P w) 12 f fd ["_law_script"] (Bco K):=by
 refine F.okn Jb1 (fun vs H Q E h => ?_) (fun cdv A outer s H vs Q E hr h => ?_)
 ·obtain ⟨a,ns,rfl,_⟩:=h; rfl
 obtain ⟨a,ns,rfl,h⟩:=h
 have hu:=hr.units
 refine ⟨_,(Jac (Jar (i:=1) Jb1.nd rfl (Or.inl rfl) (pe_op Jan (Baf.ev hr (by decide) rfl passF (Jaa (pv 0) (Jaa Jab Jad)) (he:=by exact Jag rfl)) Jab))
   (Jac (Jho (Bbq.ev hr (by decide) rfl passF (Jaa (pv 0) (Jaa (pv 1) Jad)) (he:=by exact Jag rfl)) (Je7 rfl (Jbs (JaR (i:=2) Jb1.nd rfl (Or.inl rfl)) (Jbs (JaR (i:=3) Jb1.nd rfl (Or.inl rfl)) JdL))))
   (Jac (Jar (i:=4) Jb1.nd rfl (Or.inl rfl) (Bb2.ev hr (by decide) rfl passF (Jaa (pv 2) (Jaa (pv 3) Jad)) (he:=by exact Jag rfl)))
   (Jac (Jar (i:=5) Jb1.nd rfl (Or.inl rfl) (JaP (Jaa (Jc2 (own:=["_law_pair"]) (cs:=[]) (cl:=[]) rfl (pi_U (pv 2)) (fun _ _ _ _ => (JaR (i:=0) (show [("_law_pair" : Str)].Nodup by decide) rfl (Or.inl rfl))) (fun _ _ _ _ => (pe_ix (ix_UK (K:=K) rfl) (pv 0) Jab (fun _ _ => rfl))) rfl (by decide) rfl (by decide) hcl0 (hhas0 (by decide)) hcs0) (Jaa (Jc2 (own:=["_law_pair"]) (cs:=[]) (cl:=[]) rfl (pi_U (pv 3)) (fun _ _ _ _ => (JaR (i:=0) (show [("_law_pair" : Str)].Nodup by decide) rfl (Or.inl rfl))) (fun _ _ _ _ => (pe_ix (ix_UK (K:=K) rfl) (pv 0) Jab (fun _ _ => rfl))) rfl (by decide) rfl (by decide) hcl0 (hhas0 (by decide)) hcs0) Jad))))
   (Jac (Jar (i:=6) Jb1.nd rfl (Or.inl rfl) (JaP (Jaa (Jci Jco rfl T.BcD Jdr (Jaa (pe_ix ix_U (pv 5) Jab (fun _ _ => rfl)) Jad)) (Jaa (Jci Jco rfl T.BcD Jdr (Jaa (pe_ix ix_U (pv 5) Jab (fun _ _ => rfl)) Jad)) Jad))))
   (Jac (Jho (BbI.ev hr (by decide) rfl passF (Jaa (pe_ix ix_U (pv 5) Jab (fun _ _ => rfl)) (Jaa (pe_ix ix_U (pv 5) Jab (fun _ _ => rfl)) Jad)) (he:=by exact Jag rfl)) (Je7 rfl (Jbs (JaR (i:=7) Jb1.nd rfl (Or.inl rfl)) (Jbs (JaR (i:=8) Jb1.nd rfl (Or.inl rfl)) JdL))))
   (Jac (ps_if (PW.pt (pw_or (Jay (JbM hu) (pv 7) (pv 4) (Jaz _)) (Jby (Jay (JbM hu) (pv 5) (pv 6) (Jaz _)))))
   (Jai (Jao pe_bl))
   Jau)
   (Jac (ps_if (Jay JcZ (pv 8) Jbf (Jaz _))
   (Jai (Jao pe_bl))
   Jau)
   (Jac (Ja7 (pe_bm PySem.F.plainAttrs_list PySem.F.slot_list_append PySem.F.type_list_append JaZ (pe_ix ix_U (pv 5) Jab (fun _ _ => rfl)) (Jaa Jab Jad) (hs:=by exact Jag rfl)))
   (Jac (Ja7 (Jhn PySem.F.plainAttrs_list PySem.F.slot_list_reverse PySem.F.type_list_reverse Jfr (pe_ix ix_U (pv 5) Jab (fun _ _ => rfl))))
   (Jac (ps_if (PW.pt (pw_or (Jay (JbM hu) (Bb3.m0 hr (by decide) passF (pv 8)) (pe_ix ix_U (pv 6) Jab (fun _ _ => rfl)) (Jaz _)) (Jby (Jay (JbM hu) (Bcq.m0 hr (by decide) passF (pv 8)) (pe_ix ix_U (pv 6) Jab (fun _ _ => rfl)) (Jaz _)))))
   (Jai (Jao pe_bl))
   Jau)
   (Jac (Jar (i:=9) Jb1.nd rfl (Or.inl rfl) (JaP (Jaa (Bb3.m0 hr (by decide) passF (pv 8)) (Jaa (Bcq.m0 hr (by decide) passF (pv 8)) Jad))))
   (Jac (Ja7 (pe_bm PySem.F.plainAttrs_list PySem.F.slot_list_append PySem.F.type_list_append JaZ (pe_ix ix_U (pv 9) Jab (fun _ _ => rfl)) (Jaa Jab Jad) (hs:=by exact Jag rfl)))
   (Jac (Ja7 (pe_bm PySem.F.plainAttrs_list PySem.F.slot_list_append PySem.F.type_list_append JaZ (pe_ix ix_U (pv 9) Jab (fun _ _ => rfl)) (Jaa Jab Jad) (hs:=by exact Jag rfl)))
   (Jai (Jao (Jb0 (Jbl (Jbr hu) (Bb3.m0 hr (by decide) passF (pv 8)) (pe_ix ix_U (pv 6) Jab (fun _ _ => rfl)) (Jaz _)) (JcC (Jbl (Jbr hu) (Bcq.m0 hr (by decide) passF (pv 8)) (pe_ix ix_U (pv 6) Jab (fun _ _ => rfl)) (Jaz _)))))))))))))))))))), ?_⟩
 obtain ⟨hS,hl,k⟩:=h
 have sl:(1000:Nat) ≤ sizeLine:=by decide
 have pdep:∀ ls:List PD, ∀ d ∈ ls.map pdD,depD d ≤ 2:=fun ls d hd => by
  obtain ⟨p,_,rfl⟩:=List.mem_map.mp hd
  simp [pdD,frD,depD,depL]
 have gdep:∀ gs:List GD, ∀ d ∈ gs.map (fun g => tdD g.td),depD d ≤ 2:=fun gs d hd => by
  obtain ⟨p,_,rfl⟩:=List.mem_map.mp hd
  simp [tdD,GD.td,bD,frD,depD,depL]
 show tSeq _ _ _ [some (.ref a),none,none,none,none,none,none,none,none,none] H
 nofun
 refine ⟨a,ns,2,rfl,hS,hl,by decide,by decide,fun c0 => ?_⟩
 nofun
 repeat (refine And.intro (by first | exact Jav (by decide) | exact Jax (by decide) | exact Jaw (by decide) | exact Jam (by decide) | exact Int.one_ne_zero | decide) ?_)
 have q0:=Mth.fm (x:=c0) (y:=4) (by decide)
 refine ⟨a,_,ns,rfl,hS,hl,q0.1,by omega,fun q pl gl px gx es fs H1 S1 eq ep hP eg hG l6 l5 dE dF => ?_⟩
 nofun
 refine ⟨q,_,rfl,SqT.of eq,rfl, ?_⟩
 nofun
 refine ⟨pl,gl,px,gx,es,fs,rfl,SqL.of ep,hP,SqL.of eg,hG,l6,l5,fun H2 S2 => ?_⟩
 nofun
 have ep2:=S2 _ _ ep
 have eg2:=S2 _ _ eg
 have hP2:=hP.mono (P':=PQV K H2) fun _ _ z => z.same S2
 have hG2:=hG.mono (P':=GQV K H2) fun _ _ z => z.same S2
 have lp:=hP.length
 have lg:=hG.length
 refine ⟨pl,rfl, .inl ⟨⟨px,SqL.of ep2⟩,CompJ.list (xs:=px) (fun i ys H' => H' = H2∧All2 (PEV K H2) (es.take i) ys) ⟨rfl,rfl⟩ (fun i ys H' hi z => ⟨by rw [z.1]; exact SqL.of ep2,by have:=z.2.length; rw [List.length_take] at this; omega⟩) ?_ ?_⟩⟩
 ·rintro i y ys H' hy ⟨hH,hA⟩
  subst hH
  simpa only [List.length_singleton,List.replicate,JaO,List.map_cons,List.map_nil,Option.join_some]
  obtain ⟨e,he,b,v,rfl,hb,ev⟩:=hP2.at_ hy
  refine ixT (i:=1) hb rfl ?_
  refine ⟨rfl, ?_⟩
  rw [List.take_succ,he]
  exact hA.append (.one ev)
 ·rintro ys H' ⟨hH,hA⟩
  subst hH
  rw [List.take_of_length_le (by omega)] at hA
  intro h0 h_h0
  generalize q_h0:upd H' h0 _ = H3
  have S3:=newS h_h0 q_h0
  have e3:=newE q_h0
  nofun
  have eg3:=S3 _ _ eg2
  have hG3:=hG2.mono (P':=GQV K H3) fun _ _ z => z.same S3
  refine ⟨gl,rfl, .inl ⟨⟨gx,SqL.of eg3⟩,CompJ.list (xs:=gx) (fun i zs H'' => H'' = H3∧All2 (GEV K H3) (fs.take i) zs) ⟨rfl,rfl⟩ (fun i zs H'' hi z => ⟨by rw [z.1]; exact SqL.of eg3,by have:=z.2.length; rw [List.length_take] at this; omega⟩) ?_ ?_⟩⟩
  ·rintro i y zs H'' hy ⟨hH,hB⟩
   subst hH
   simpa only [List.length_singleton,List.replicate,JaO,List.map_cons,List.map_nil,Option.join_some]
   obtain ⟨e,he,b,v,rfl,hb,ev⟩:=hG3.at_ hy
   refine ixT (i:=1) hb rfl ?_
   refine ⟨rfl, ?_⟩
   rw [List.take_succ,he]
   exact hB.append (.one ev)
  ·rintro zs H'' ⟨hH,hB⟩
   subst hH
   rw [List.take_of_length_le (by omega)] at hB
   have lys:=hA.length
   have lzs:=hB.length
   intro h1 h_h1
   generalize q_h1:upd H'' h1 _ = H4
   have S4:=newS h_h1 q_h1
   have e4:=newE q_h1
   nofun
   refine ⟨len2, ?_⟩
   intro ho h_ho
   generalize q_ho:upd H4 ho _ = H5
   have S5:=newS h_ho q_ho
   have e5:=newE q_ho
   nofun
   have e35:=S5 _ _ (S4 _ _ e3)
   have e45:=S5 _ _ e4
   refine ixL (i:=0) (SqL.of e5) rfl ?_
   nofun
   refine ⟨h0,ys,rfl, .inl (SqL.of e35), ?_⟩
   intro k0 h_k0
   generalize q_k0:upd H5 k0 _ = H6
   have S6:=newS h_k0 q_k0
   have e6:=newE q_k0
   nofun
   refine ixL (i:=1) (SqL.of (S6 _ _ e5)) rfl ?_
   nofun
   refine ⟨h1,zs,rfl, .inl (SqL.of (S6 _ _ e45)), ?_⟩
   intro k1 h_k1
   generalize q_k1:upd H6 k1 _ = H7
   have S7:=newS h_k1 q_k1
   have e7:=newE q_k1
   nofun
   refine ⟨len2, ?_⟩
   intro ko h_ko
   generalize q_ko:upd H7 ko _ = H8
   have S8:=newS h_ko q_ko
   have e8:=newE q_ko
   nofun
   have S68:=S7.trans S8
   have S58:=S6.trans S68
   have S48:=S5.trans S58
   have S38:=S4.trans S48
   have hA8:=hA.mono (P':=PEV K H8) fun _ _ z => z.same (S3.trans S38)
   have hB8:=hB.mono (P':=GEV K H8) fun _ _ z => z.same S38
   refine ixL (i:=0) (SqL.of (S58 _ _ e5)) rfl ?_
   nofun
   refine ixL (i:=1) (SqL.of (S58 _ _ e5)) rfl ?_
   nofun
   refine ⟨h0,h1,ys,zs,es,fs,rfl,SqL.of (S58 _ _ e35),hA8,SqL.of (S58 _ _ e45),hB8,l6,l5,fun q2 v H9 S9 eq2 hv => ?_⟩
   nofun
   refine ⟨q2,_,rfl,SqT.of eq2,rfl, ?_⟩
   nofun
   have S59:=S58.trans S9
   have S69:=S68.trans S9
   have a0:=S59 _ _ e35
   have a1:=S59 _ _ e45
   have ao:=S59 _ _ e5
   have b0:=S69 _ _ e6
   have b1:=S9 _ _ (S8 _ _ e7)
   have bo:=S9 _ _ e8
   have hA9:=hA8.mono (P':=PEV K H9) fun _ _ z => z.same S9
   have hB9:=hB8.mono (P':=GEV K H9) fun _ _ z => z.same S9
   have rA:RepL K H9 (es.map pD_) ys:=hA9.repL fun _ _ z => z.rep
   have rB:RepL K H9 (fs.map gD_) zs:=hB9.repL fun _ _ z => z.rep
   refine ⟨.lst [.lst (es.map pD_), .lst (fs.map gD_)], .lst [.lst (es.map pD_), .lst (fs.map gD_)], ?_, ?_, ?_,rfl, ?_⟩
   ·simp only [Rep,RepL]
    exact ⟨ho,_,rfl,SqL.of ao,_,_,rfl,⟨h0,ys,rfl,SqL.of a0,rA⟩,_,_,rfl,⟨h1,zs,rfl,SqL.of a1,rB⟩,rfl⟩
   ·simp only [Rep,RepL]
    exact ⟨ko,_,rfl,SqL.of bo,_,_,rfl,⟨k0,ys,rfl,SqL.of b0,rA⟩,_,_,rfl,⟨k1,zs,rfl,SqL.of b1,rB⟩,rfl⟩
   ·have d1:depL (es.map pD_) ≤ 5:=Jbu fun d hd => by
     obtain ⟨e,he,rfl⟩:=List.mem_map.mp hd
     exact dE e he
    have d2:depL (fs.map gD_) ≤ 5:=Jbu fun d hd => by
     obtain ⟨e,he,rfl⟩:=List.mem_map.mp hd
     exact dF e he
    simp only [depD,depL]
    omega
   rw [Jbg]
   nofun
   rcases hv with hv | ⟨x,ls,gs,hv,tk,he,hf⟩
   ·subst hv
    nofun
    exact k _
   ·subst hv
    subst he
    subst hf
    rw [List.length_map] at l6 l5
    nofun
    have n01:h1 ≠ h0:=fun z => by rw [z,e3] at h_h1; cases h_h1
    have no0:ho ≠ h0:=fun z => by rw [z,S4 _ _ e3] at h_ho; cases h_ho
    have no1:ho ≠ h1:=fun z => by rw [z,e4] at h_ho; cases h_ho
    have nk0:k0 ≠ h0:=fun z => by rw [z,e35] at h_k0; cases h_k0
    have nk1:k0 ≠ h1:=fun z => by rw [z,e45] at h_k0; cases h_k0
    have nl0:k1 ≠ h0:=fun z => by rw [z,S6 _ _ e35] at h_k1; cases h_k1
    have nl1:k1 ≠ h1:=fun z => by rw [z,S6 _ _ e45] at h_k1; cases h_k1
    have nm0:ko ≠ h0:=fun z => by rw [z,S7 _ _ (S6 _ _ e35)] at h_ko; cases h_ko
    have nm1:ko ≠ h1:=fun z => by rw [z,S7 _ _ (S6 _ _ e45)] at h_ko; cases h_ko
    refine ixL (i:=0) (SqL.of ao) rfl ?_
    nofun
    refine ⟨.inl ⟨rfl,_,SqL.of a0⟩, ?_⟩
    refine ⟨h0,ys,_,rfl,rfl,a0,by rw [lys,List.length_map]; omega, ?_⟩
    generalize u10:upd H9 h0 _ = H10
    nofun
    have ao10:=(show H10 ho = H9 ho by rw [← u10,Jae no0]).trans ao
    have a110:=(show H10 h1 = H9 h1 by rw [← u10,Jae n01]).trans a1
    refine ixL (i:=1) (SqL.of ao10) rfl ?_
    nofun
    refine ⟨.inl ⟨rfl,_,SqL.of a110⟩, ?_⟩
    refine ⟨h1,zs,rfl,rfl,a110, ?_⟩
    generalize u11:upd H10 h1 _ = H11
    nofun
    have nl:Jba H9 H11:=(Jba.put u10 a0).trans (Jba.put u11 a110)
    have fr:∀ b w,b ≠ h0→b ≠ h1→H9 b = some w→H11 b = some w:=fun b w n0 n1 h => by rw [← u11,Jae n1, ← u10,Jae n0]; exact h
    have tk11:=tk.nl nl
    obtain ⟨dx_,d1,d2,d3,kk1,kk2,kk3,hx11,_⟩:=id tk11
    have c0':=fr _ _ nk0 nk1 b0
    have c1':=fr _ _ nl0 nl1 b1
    have co':=fr _ _ nm0 nm1 bo
    have pA:All2 (PDV K H11) ls ys:=(hA9.unmap).mono fun _ _ z => z.1.sameT nl.t
    have gA:All2 (fun (g:GD) v => TV K H11 g.td v) gs zs:=(hB9.unmap).mono fun _ _ z => z.1.sameT nl.t
    refine ⟨x,_,dx_,_,rfl,hx11,rfl,rfl, ?_⟩
    refine ⟨x,ls,gs,rfl,tk11,by omega,fun l ys2 H12 S12 h_l el hA2 => ?_⟩
    nofun
    refine ixL (i:=0) (SqL.of (S12 _ _ co')) rfl ?_
    nofun
    refine ⟨.lst (ls.map pdD), .lst (ls.map pdD),by simp only [Rep]; exact ⟨l,ys2,rfl,SqL.of el,hA2.repL fun _ _ z => PDV.rep z⟩,by simp only [Rep]; exact ⟨k0,ys,rfl,SqL.of (S12 _ _ c0'),(pA.mono (P':=PDV K H12) fun _ _ z => z.sameT S12.t).repL fun _ _ z => PDV.rep z⟩,by simp only [depD]; have:=Jbu (n:=2) (pdep ls); omega,rfl, ?_⟩
    rw [Jbg]
    nofun
    refine ⟨x,_,dx_,_,rfl,(S12 _ _ hx11),rfl,rfl, ?_⟩
    refine ⟨x,ls,gs,rfl,(tk11.nl S12.nl),by omega,fun l ys2 H13 S13 h_l el hA2 => ?_⟩
    nofun
    refine ixL (i:=1) (SqL.of (S13 _ _ (S12 _ _ co'))) rfl ?_
    nofun
    refine ⟨.lst (gs.map fun g => tdD g.td), .lst (gs.map fun g => tdD g.td),by simp only [Rep]; exact ⟨l,ys2,rfl,SqL.of el,hA2.repL fun _ _ z => TV.rep z⟩,by simp only [Rep]; exact ⟨k1,zs,rfl,SqL.of (S13 _ _ (S12 _ _ c1')),((gA.mono (P':=fun (g:GD) v => TV K H12 g.td v) fun _ _ z => z.sameT S12.t).mono (P':=fun (g:GD) v => TV K H13 g.td v) fun _ _ z => z.sameT S13.t).repL fun _ _ z => TV.rep z⟩,by simp only [depD]; have:=Jbu (n:=2) (gdep gs); omega,rfl, ?_⟩
    rw [Jbg]
    nofun
    have S113:=S12.trans S13
    refine ⟨x,_,dx_,_,rfl,S113 _ _ hx11,rfl,rfl, ?_⟩
    refine ⟨x,ls,gs,rfl,tk11.nl S113.nl,by omega,fun t0 ts0 H14 S14 h_t0 et0 hT0 => ?_⟩
    nofun
    refine ⟨x,_,dx_,_,rfl,S14 _ _ (S113 _ _ hx11),rfl,rfl, ?_⟩
    refine ⟨x,ls,gs,rfl,(tk11.nl S113.nl).nl S14.nl,by omega,fun t1 ts1 H15 S15 h_t1 et1 hT1 => ?_⟩
    nofun
    refine ⟨len2, ?_⟩
    intro tl h_tl
    generalize q_tl:upd H15 tl _ = H16
    have S16:=newS h_tl q_tl
    have e16:=newE q_tl
    nofun
    have n10:t1 ≠ t0:=fun z => by rw [z,et0] at h_t1; cases h_t1
    have nt0:tl ≠ t0:=fun z => by rw [z,S15 _ _ et0] at h_tl; cases h_tl
    have nt1:tl ≠ t1:=fun z => by rw [z,et1] at h_tl; cases h_tl
    have lt0:=hT0.length
    have lt1:=hT1.length
    have et0':=S16 _ _ (S15 _ _ et0)
    have et1':=S16 _ _ et1
    refine ixL (i:=0) (SqL.of e16) rfl ?_
    nofun
    refine ⟨.inl ⟨rfl,_,SqL.of et0'⟩, ?_⟩
    refine ⟨t0,ts0,_,rfl,rfl,et0',by omega, ?_⟩
    generalize u17:upd H16 t0 _ = H17
    nofun
    have e17:=(show H17 tl = H16 tl by rw [← u17,Jae nt0]).trans e16
    have et17:=(show H17 t1 = H16 t1 by rw [← u17,Jae n10]).trans et1'
    refine ixL (i:=1) (SqL.of e17) rfl ?_
    nofun
    refine ⟨.inl ⟨rfl,_,SqL.of et17⟩, ?_⟩
    refine ⟨t1,ts1,_,rfl,rfl,et17,by omega, ?_⟩
    generalize u18:upd H17 t1 _ = H18
    nofun
    have SA:Same H13 H18:=fun b w h => by rw [← u18,Jae (Jah (S14 _ _ h) h_t1), ← u17,Jae (Jah h h_t0)]; exact S16 _ _ (S15 _ _ (S14 _ _ h))
    have S1118:=S113.trans SA
    refine ⟨x,_,dx_,_,rfl,(S1118 _ _ hx11),rfl,rfl, ?_⟩
    refine ⟨x,ls,gs,rfl,(tk11.nl S1118.nl),by omega,fun l ys2 H19 S19 h_l el hA2 => ?_⟩
    nofun
    refine ixL (i:=0) (SqL.of (S19 _ _ (S1118 _ _ co'))) rfl ?_
    nofun
    refine ⟨.lst (ls.map pdD), .lst (ls.map pdD),by simp only [Rep]; exact ⟨l,ys2,rfl,SqL.of el,hA2.repL fun _ _ z => PDV.rep z⟩,by simp only [Rep]; exact ⟨k0,ys,rfl,SqL.of (S19 _ _ (S1118 _ _ c0')),((pA.mono (P':=PDV K H18) fun _ _ z => z.sameT S1118.t).mono (P':=PDV K H19) fun _ _ z => z.sameT S19.t).repL fun _ _ z => PDV.rep z⟩,by simp only [depD]; have:=Jbu (n:=2) (pdep ls); omega,rfl, ?_⟩
    rw [Jbg]
    nofun
    have S1119:=S1118.trans S19
    refine ⟨x,_,dx_,_,rfl,(S1119 _ _ hx11),rfl,rfl, ?_⟩
    refine ⟨x,ls,gs,rfl,(tk11.nl S1119.nl),by omega,fun l ys2 H20 S20 h_l el hA2 => ?_⟩
    nofun
    refine ixL (i:=1) (SqL.of (S20 _ _ (S1119 _ _ co'))) rfl ?_
    nofun
    refine ⟨.lst (gs.map fun g => tdD g.td), .lst (gs.map fun g => tdD g.td),by simp only [Rep]; exact ⟨l,ys2,rfl,SqL.of el,hA2.repL fun _ _ z => TV.rep z⟩,by simp only [Rep]; exact ⟨k1,zs,rfl,SqL.of (S20 _ _ (S1119 _ _ c1')),((gA.mono (P':=fun (g:GD) v => TV K H19 g.td v) fun _ _ z => z.sameT S1119.t).mono (P':=fun (g:GD) v => TV K H20 g.td v) fun _ _ z => z.sameT S20.t).repL fun _ _ z => TV.rep z⟩,by simp only [depD]; have:=Jbu (n:=2) (gdep gs); omega,rfl, ?_⟩
    rw [Jbg]
    nofun
    exact k _
end
theorem all_mk {l:PySem.W.OpenLaw} {w:World} {K:PySem.W.Frag} {h:Heap} {mg:Str→Option Value} {fa:Addr} {SlackError NoTie NoName NoFace Impossible NoNumber Tight Off NoRow NoPart Twice InRing NoGap Apart Part Gap Joints Thing:Addr} (X:K.In h) (G:h.Ns mainGlobals mg) (hfa:mg "law" = some (.ref fa))
  {f1:Addr} {od1 an1:Option Addr} {sl1:Array (Option Value)} {oc1 kV1 dc1 pm1 cd1 ct1:Value}
  {f2:Addr} {od2 an2:Option Addr} {sl2:Array (Option Value)} {oc2 kV2 dc2 pm2 cd2 ct2:Value}
  {f3:Addr} {od3 an3:Option Addr} {sl3:Array (Option Value)} {oc3 kV3 dc3 pm3 cd3 ct3:Value}
  {f4:Addr} {od4 an4:Option Addr} {sl4:Array (Option Value)} {oc4 kV4 dc4 pm4 cd4 ct4:Value}
  {f5:Addr} {od5 an5:Option Addr} {sl5:Array (Option Value)} {oc5 kV5 dc5 pm5 cd5 ct5:Value}
  {f6:Addr} {od6 an6:Option Addr} {sl6:Array (Option Value)} {oc6 kV6 dc6 pm6 cd6 ct6:Value}
  {f7:Addr} {od7 an7:Option Addr} {sl7:Array (Option Value)} {oc7 kV7 dc7 pm7 cd7 ct7:Value}
  {f8:Addr} {od8 an8:Option Addr} {sl8:Array (Option Value)} {oc8 kV8 dc8 pm8 cd8 ct8:Value}
  {f9:Addr} {od9 an9:Option Addr} {sl9:Array (Option Value)} {oc9 kV9 dc9 pm9 cd9 ct9:Value}
  {f10:Addr} {od10 an10:Option Addr} {sl10:Array (Option Value)} {oc10 kV10 dc10 pm10 cd10 ct10:Value}
  {f11:Addr} {od11 an11:Option Addr} {sl11:Array (Option Value)} {oc11 kV11 dc11 pm11 cd11 ct11:Value}
  {f12:Addr} {od12 an12:Option Addr} {sl12:Array (Option Value)} {oc12 kV12 dc12 pm12 cd12 ct12:Value}
  {f13:Addr} {od13 an13:Option Addr} {sl13:Array (Option Value)} {oc13 kV13 dc13 pm13 cd13 ct13:Value}
  {f14:Addr} {od14 an14:Option Addr} {sl14:Array (Option Value)} {oc14 kV14 dc14 pm14 cd14 ct14:Value}
  {f15:Addr} {od15 an15:Option Addr} {sl15:Array (Option Value)} {oc15 kV15 dc15 pm15 cd15 ct15:Value}
  {f16:Addr} {od16 an16:Option Addr} {sl16:Array (Option Value)} {oc16 kV16 dc16 pm16 cd16 ct16:Value}
  {f17:Addr} {od17 an17:Option Addr} {sl17:Array (Option Value)} {oc17 kV17 dc17 pm17 cd17 ct17:Value}
  {f18:Addr} {od18 an18:Option Addr} {sl18:Array (Option Value)} {oc18 kV18 dc18 pm18 cd18 ct18:Value}
  {f19:Addr} {od19 an19:Option Addr} {sl19:Array (Option Value)} {oc19 kV19 dc19 pm19 cd19 ct19:Value}
  {f20:Addr} {od20 an20:Option Addr} {sl20:Array (Option Value)} {oc20 kV20 dc20 pm20 cd20 ct20:Value}
  {f21:Addr} {od21 an21:Option Addr} {sl21:Array (Option Value)} {oc21 kV21 dc21 pm21 cd21 ct21:Value}
  {f22:Addr} {od22 an22:Option Addr} {sl22:Array (Option Value)} {oc22 kV22 dc22 pm22 cd22 ct22:Value}
  {f23:Addr} {od23 an23:Option Addr} {sl23:Array (Option Value)} {oc23 kV23 dc23 pm23 cd23 ct23:Value}
  {f24:Addr} {od24 an24:Option Addr} {sl24:Array (Option Value)} {oc24 kV24 dc24 pm24 cd24 ct24:Value}
  {f25:Addr} {od25 an25:Option Addr} {sl25:Array (Option Value)} {oc25 kV25 dc25 pm25 cd25 ct25:Value}
  {f26:Addr} {od26 an26:Option Addr} {sl26:Array (Option Value)} {oc26 kV26 dc26 pm26 cd26 ct26:Value}
  {f27:Addr} {od27 an27:Option Addr} {sl27:Array (Option Value)} {oc27 kV27 dc27 pm27 cd27 ct27:Value}
  {f28:Addr} {od28 an28:Option Addr} {sl28:Array (Option Value)} {oc28 kV28 dc28 pm28 cd28 ct28:Value}
  {f29:Addr} {od29 an29:Option Addr} {sl29:Array (Option Value)} {oc29 kV29 dc29 pm29 cd29 ct29:Value}
  {f30:Addr} {od30 an30:Option Addr} {sl30:Array (Option Value)} {oc30 kV30 dc30 pm30 cd30 ct30:Value}
  {f31:Addr} {od31 an31:Option Addr} {sl31:Array (Option Value)} {oc31 kV31 dc31 pm31 cd31 ct31:Value}
  {f32:Addr} {od32 an32:Option Addr} {sl32:Array (Option Value)} {oc32 kV32 dc32 pm32 cd32 ct32:Value}
  {f33:Addr} {od33 an33:Option Addr} {sl33:Array (Option Value)} {oc33 kV33 dc33 pm33 cd33 ct33:Value}
  {f34:Addr} {od34 an34:Option Addr} {sl34:Array (Option Value)} {oc34 kV34 dc34 pm34 cd34 ct34:Value}
  {f35:Addr} {od35 an35:Option Addr} {sl35:Array (Option Value)} {oc35 kV35 dc35 pm35 cd35 ct35:Value}
  {f36:Addr} {od36 an36:Option Addr} {sl36:Array (Option Value)} {oc36 kV36 dc36 pm36 cd36 ct36:Value}
  {Baa:Tok}
  {Bab:Tok}
  {ZERO:Addr} {BcX:Option Addr} {BcY:Nat} {BcZ:Array (Option Value)} {BcT BcU:Tok}
  (g_SlackError:PySem.W.nsIn K mainGlobals "SlackError" = some (some (.ref SlackError)))
  (g_NoTie:PySem.W.nsIn K mainGlobals "NoTie" = some (some (.ref NoTie)))
  (Bcg:PySem.W.nsIn K mainGlobals "NoName" = some (some (.ref NoName)))
  (g_NoFace:PySem.W.nsIn K mainGlobals "NoFace" = some (some (.ref NoFace)))
  (g_Impossible:PySem.W.nsIn K mainGlobals "Impossible" = some (some (.ref Impossible)))
  (g_NoNumber:PySem.W.nsIn K mainGlobals "NoNumber" = some (some (.ref NoNumber)))
  (g_Tight:PySem.W.nsIn K mainGlobals "Tight" = some (some (.ref Tight)))
  (g_Off:PySem.W.nsIn K mainGlobals "Off" = some (some (.ref Off)))
  (g_NoRow:PySem.W.nsIn K mainGlobals "NoRow" = some (some (.ref NoRow)))
  (Bch:PySem.W.nsIn K mainGlobals "NoPart" = some (some (.ref NoPart)))
  (Bcw:PySem.W.nsIn K mainGlobals "Twice" = some (some (.ref Twice)))
  (Bci:PySem.W.nsIn K mainGlobals "InRing" = some (some (.ref InRing)))
  (Bcx:PySem.W.nsIn K mainGlobals "NoGap" = some (some (.ref NoGap)))
  (Bcy:PySem.W.nsIn K mainGlobals "Apart" = some (some (.ref Apart)))
  (BcG:PySem.W.nsIn K mainGlobals "Part" = some (some (.ref Part)))
  (BcV:PySem.W.nsIn K mainGlobals "Gap" = some (some (.ref Gap)))
  (BbJ:PySem.W.nsIn K mainGlobals "Joints" = some (some (.ref Joints)))
  (Bcj:PySem.W.nsIn K mainGlobals "Thing" = some (some (.ref Thing)))
  (a1:PySem.W.nsIn K mainGlobals "common_divisor" = some (some (.ref f1))) (l1:K.lookup f1 = some ⟨oc1,od1, .func (PySem.W.fnOf "common_divisor" "common_divisor" (Jap Bag) (Jal Bag) (Jaf Bag) .none kV1 dc1 pm1 an1 cd1 ct1),sl1⟩) (c1:PySem.W.codeIn K cd1 "common_divisor" = true) (k1:PySem.W.keepIn K (.ref f1) = true)
  (a2:PySem.W.nsIn K mainGlobals "under" = some (some (.ref f2))) (l2:K.lookup f2 = some ⟨oc2,od2, .func (PySem.W.fnOf "under" "under" (Jap BbF) (Jal BbF) (Jaf BbF) .none kV2 dc2 pm2 an2 cd2 ct2),sl2⟩) (c2:PySem.W.codeIn K cd2 "under" = true) (k2:PySem.W.keepIn K (.ref f2) = true)
  (a3:PySem.W.nsIn K mainGlobals "is_name" = some (some (.ref f3))) (l3:K.lookup f3 = some ⟨oc3,od3, .func (PySem.W.fnOf "is_name" "is_name" (Jap Ba1) (Jal Ba1) (Jaf Ba1) .none kV3 dc3 pm3 an3 cd3 ct3),sl3⟩) (c3:PySem.W.codeIn K cd3 "is_name" = true) (k3:PySem.W.keepIn K (.ref f3) = true)
  (a4:PySem.W.nsIn K mainGlobals "is_whole" = some (some (.ref f4))) (l4:K.lookup f4 = some ⟨oc4,od4, .func (PySem.W.fnOf "is_whole" "is_whole" (Jap BaI) (Jal BaI) (Jaf BaI) .none kV4 dc4 pm4 an4 cd4 ct4),sl4⟩) (c4:PySem.W.codeIn K cd4 "is_whole" = true) (k4:PySem.W.keepIn K (.ref f4) = true)
  (a5:PySem.W.nsIn K mainGlobals "is_fraction" = some (some (.ref f5))) (l5:K.lookup f5 = some ⟨oc5,od5, .func (PySem.W.fnOf "is_fraction" "is_fraction" (Jap Bao) (Jal Bao) (Jaf Bao) .none kV5 dc5 pm5 an5 cd5 ct5),sl5⟩) (c5:PySem.W.codeIn K cd5 "is_fraction" = true) (k5:PySem.W.keepIn K (.ref f5) = true)
  (a6:PySem.W.nsIn K mainGlobals "is_bound" = some (some (.ref f6))) (l6:K.lookup f6 = some ⟨oc6,od6, .func (PySem.W.fnOf "is_bound" "is_bound" (Jap BaJ) (Jal BaJ) (Jaf BaJ) .none kV6 dc6 pm6 an6 cd6 ct6),sl6⟩) (c6:PySem.W.codeIn K cd6 "is_bound" = true) (k6:PySem.W.keepIn K (.ref f6) = true)
  (a7:PySem.W.nsIn K mainGlobals "are_faces" = some (some (.ref f7))) (l7:K.lookup f7 = some ⟨oc7,od7, .func (PySem.W.fnOf "are_faces" "are_faces" (Jap BaB) (Jal BaB) (Jaf BaB) .none kV7 dc7 pm7 an7 cd7 ct7),sl7⟩) (c7:PySem.W.codeIn K cd7 "are_faces" = true) (k7:PySem.W.keepIn K (.ref f7) = true)
  (a8:PySem.W.nsIn K mainGlobals "are_bounds" = some (some (.ref f8))) (l8:K.lookup f8 = some ⟨oc8,od8, .func (PySem.W.fnOf "are_bounds" "are_bounds" (Jap Bat) (Jal Bat) (Jaf Bat) .none kV8 dc8 pm8 an8 cd8 ct8),sl8⟩) (c8:PySem.W.codeIn K cd8 "are_bounds" = true) (k8:PySem.W.keepIn K (.ref f8) = true)
  (a9:PySem.W.nsIn K mainGlobals "is_tie" = some (some (.ref f9))) (l9:K.lookup f9 = some ⟨oc9,od9, .func (PySem.W.fnOf "is_tie" "is_tie" (Jap Bbn) (Jal Bbn) (Jaf Bbn) .none kV9 dc9 pm9 an9 cd9 ct9),sl9⟩) (c9:PySem.W.codeIn K cd9 "is_tie" = true) (k9:PySem.W.keepIn K (.ref f9) = true)
  (a10:PySem.W.findIn K (.ref Part) "__init__" = some (some (.ref f10))) (l10:K.lookup f10 = some ⟨oc10,od10, .func (PySem.W.fnOf "__init__" "Part.__init__" (Jap Bai) (Jal Bai) (Jaf Bai) .none kV10 dc10 pm10 an10 cd10 ct10),sl10⟩) (c10:PySem.W.codeIn K cd10 "Part.__init__" = true) (k10:PySem.W.keepIn K (.ref f10) = true)
  (a11:PySem.W.findIn K (.ref Part) "plain" = some (some (.ref f11))) (l11:K.lookup f11 = some ⟨oc11,od11, .func (PySem.W.fnOf "plain" "Part.plain" (Jap Bau) (Jal Bau) (Jaf Bau) .none kV11 dc11 pm11 an11 cd11 ct11),sl11⟩) (c11:PySem.W.codeIn K cd11 "Part.plain" = true) (k11:PySem.W.keepIn K (.ref f11) = true)
  (a12:PySem.W.findIn K (.ref Gap) "__init__" = some (some (.ref f12))) (l12:K.lookup f12 = some ⟨oc12,od12, .func (PySem.W.fnOf "__init__" "Gap.__init__" (Jap Bak) (Jal Bak) (Jaf Bak) .none kV12 dc12 pm12 an12 cd12 ct12),sl12⟩) (c12:PySem.W.codeIn K cd12 "Gap.__init__" = true) (k12:PySem.W.keepIn K (.ref f12) = true)
  (a13:PySem.W.findIn K (.ref Gap) "plain" = some (some (.ref f13))) (l13:K.lookup f13 = some ⟨oc13,od13, .func (PySem.W.fnOf "plain" "Gap.plain" (Jap BaD) (Jal BaD) (Jaf BaD) .none kV13 dc13 pm13 an13 cd13 ct13),sl13⟩) (c13:PySem.W.codeIn K cd13 "Gap.plain" = true) (k13:PySem.W.keepIn K (.ref f13) = true)
  (a14:PySem.W.nsIn K mainGlobals "is_part" = some (some (.ref f14))) (l14:K.lookup f14 = some ⟨oc14,od14, .func (PySem.W.fnOf "is_part" "is_part" (Jap Ba2) (Jal Ba2) (Jaf Ba2) .none kV14 dc14 pm14 an14 cd14 ct14),sl14⟩) (c14:PySem.W.codeIn K cd14 "is_part" = true) (k14:PySem.W.keepIn K (.ref f14) = true)
  (a15:PySem.W.nsIn K mainGlobals "is_gap" = some (some (.ref f15))) (l15:K.lookup f15 = some ⟨oc15,od15, .func (PySem.W.fnOf "is_gap" "is_gap" (Jap Bbo) (Jal Bbo) (Jaf Bbo) .none kV15 dc15 pm15 an15 cd15 ct15),sl15⟩) (c15:PySem.W.codeIn K cd15 "is_gap" = true) (k15:PySem.W.keepIn K (.ref f15) = true)
  (a16:PySem.W.nsIn K mainGlobals "part_of" = some (some (.ref f16))) (l16:K.lookup f16 = some ⟨oc16,od16, .func (PySem.W.fnOf "part_of" "part_of" (Jap Ba3) (Jal Ba3) (Jaf Ba3) .none kV16 dc16 pm16 an16 cd16 ct16),sl16⟩) (c16:PySem.W.codeIn K cd16 "part_of" = true) (k16:PySem.W.keepIn K (.ref f16) = true)
  (a17:PySem.W.nsIn K mainGlobals "gap_of" = some (some (.ref f17))) (l17:K.lookup f17 = some ⟨oc17,od17, .func (PySem.W.fnOf "gap_of" "gap_of" (Jap Bbp) (Jal Bbp) (Jaf Bbp) .none kV17 dc17 pm17 an17 cd17 ct17),sl17⟩) (c17:PySem.W.codeIn K cd17 "gap_of" = true) (k17:PySem.W.keepIn K (.ref f17) = true)
  (a18:PySem.W.findIn K (.ref Joints) "__init__" = some (some (.ref f18))) (l18:K.lookup f18 = some ⟨oc18,od18, .func (PySem.W.fnOf "__init__" "Joints.__init__" (Jap Bae) (Jal Bae) (Jaf Bae) .none kV18 dc18 pm18 an18 cd18 ct18),sl18⟩) (c18:PySem.W.codeIn K cd18 "Joints.__init__" = true) (k18:PySem.W.keepIn K (.ref f18) = true)
  (a19:PySem.W.findIn K (.ref Joints) "link" = some (some (.ref f19))) (l19:K.lookup f19 = some ⟨oc19,od19, .func (PySem.W.fnOf "link" "Joints.link" (Jap Bap) (Jal Bap) (Jaf Bap) .none kV19 dc19 pm19 an19 cd19 ct19),sl19⟩) (c19:PySem.W.codeIn K cd19 "Joints.link" = true) (k19:PySem.W.keepIn K (.ref f19) = true)
  (a20:PySem.W.findIn K (.ref Joints) "way_between" = some (some (.ref f20))) (l20:K.lookup f20 = some ⟨oc20,od20, .func (PySem.W.fnOf "way_between" "Joints.way_between" (Jap Bad) (Jal Bad) (Jaf Bad) .none kV20 dc20 pm20 an20 cd20 ct20),sl20⟩) (c20:PySem.W.codeIn K cd20 "Joints.way_between" = true) (k20:PySem.W.keepIn K (.ref f20) = true)
  (a21:PySem.W.findIn K (.ref Thing) "__init__" = some (some (.ref f21))) (l21:K.lookup f21 = some ⟨oc21,od21, .func (PySem.W.fnOf "__init__" "Thing.__init__" (Jap Bah) (Jal Bah) (Jaf Bah) .none kV21 dc21 pm21 an21 cd21 ct21),sl21⟩) (c21:PySem.W.codeIn K cd21 "Thing.__init__" = true) (k21:PySem.W.keepIn K (.ref f21) = true)
  (a22:PySem.W.findIn K (.ref Thing) "parts" = some (some (.ref f22))) (l22:K.lookup f22 = some ⟨oc22,od22, .func (PySem.W.fnOf "parts" "Thing.parts" (Jap Baq) (Jal Baq) (Jaf Baq) .none kV22 dc22 pm22 an22 cd22 ct22),sl22⟩) (c22:PySem.W.codeIn K cd22 "Thing.parts" = true) (k22:PySem.W.keepIn K (.ref f22) = true)
  (a23:PySem.W.findIn K (.ref Thing) "gaps" = some (some (.ref f23))) (l23:K.lookup f23 = some ⟨oc23,od23, .func (PySem.W.fnOf "gaps" "Thing.gaps" (Jap Bav) (Jal Bav) (Jaf Bav) .none kV23 dc23 pm23 an23 cd23 ct23),sl23⟩) (c23:PySem.W.codeIn K cd23 "Thing.gaps" = true) (k23:PySem.W.keepIn K (.ref f23) = true)
  (a24:PySem.W.nsIn K mainGlobals "_law_cell" = some (some (.ref f24))) (l24:K.lookup f24 = some ⟨oc24,od24, .func (PySem.W.fnOf "_law_cell" "_law_cell" (Jap BaK) (Jal BaK) (Jaf BaK) .none kV24 dc24 pm24 an24 cd24 ct24),sl24⟩) (c24:PySem.W.codeIn K cd24 "_law_cell" = true) (k24:PySem.W.keepIn K (.ref f24) = true)
  (a25:PySem.W.nsIn K mainGlobals "_law_signed" = some (some (.ref f25))) (l25:K.lookup f25 = some ⟨oc25,od25, .func (PySem.W.fnOf "_law_signed" "_law_signed" (Jap Baw) (Jal Baw) (Jaf Baw) .none kV25 dc25 pm25 an25 cd25 ct25),sl25⟩) (c25:PySem.W.codeIn K cd25 "_law_signed" = true) (k25:PySem.W.keepIn K (.ref f25) = true)
  (a26:PySem.W.nsIn K mainGlobals "_law_low" = some (some (.ref f26))) (l26:K.lookup f26 = some ⟨oc26,od26, .func (PySem.W.fnOf "_law_low" "_law_low" (Jap Ba4) (Jal Ba4) (Jaf Ba4) .none kV26 dc26 pm26 an26 cd26 ct26),sl26⟩) (c26:PySem.W.codeIn K cd26 "_law_low" = true) (k26:PySem.W.keepIn K (.ref f26) = true)
  (a27:PySem.W.nsIn K mainGlobals "_law_name" = some (some (.ref f27))) (l27:K.lookup f27 = some ⟨oc27,od27, .func (PySem.W.fnOf "_law_name" "_law_name" (Jap BaL) (Jal BaL) (Jaf BaL) .none kV27 dc27 pm27 an27 cd27 ct27),sl27⟩) (c27:PySem.W.codeIn K cd27 "_law_name" = true) (k27:PySem.W.keepIn K (.ref f27) = true)
  (a28:PySem.W.nsIn K mainGlobals "_law_part" = some (some (.ref f28))) (l28:K.lookup f28 = some ⟨oc28,od28, .func (PySem.W.fnOf "_law_part" "_law_part" (Jap BaM) (Jal BaM) (Jaf BaM) .none kV28 dc28 pm28 an28 cd28 ct28),sl28⟩) (c28:PySem.W.codeIn K cd28 "_law_part" = true) (k28:PySem.W.keepIn K (.ref f28) = true)
  (a29:PySem.W.nsIn K mainGlobals "_law_gap" = some (some (.ref f29))) (l29:K.lookup f29 = some ⟨oc29,od29, .func (PySem.W.fnOf "_law_gap" "_law_gap" (Jap Ba5) (Jal Ba5) (Jaf Ba5) .none kV29 dc29 pm29 an29 cd29 ct29),sl29⟩) (c29:PySem.W.codeIn K cd29 "_law_gap" = true) (k29:PySem.W.keepIn K (.ref f29) = true)
  (a30:PySem.W.nsIn K mainGlobals "_law_with" = some (some (.ref f30))) (l30:K.lookup f30 = some ⟨oc30,od30, .func (PySem.W.fnOf "_law_with" "_law_with" (Jap BaN) (Jal BaN) (Jaf BaN) .none kV30 dc30 pm30 an30 cd30 ct30),sl30⟩) (c30:PySem.W.codeIn K cd30 "_law_with" = true) (k30:PySem.W.keepIn K (.ref f30) = true)
  (a31:PySem.W.nsIn K mainGlobals "_law_spoiled" = some (some (.ref f31))) (l31:K.lookup f31 = some ⟨oc31,od31, .func (PySem.W.fnOf "_law_spoiled" "_law_spoiled" (Jap Bar) (Jal Bar) (Jaf Bar) .none kV31 dc31 pm31 an31 cd31 ct31),sl31⟩) (c31:PySem.W.codeIn K cd31 "_law_spoiled" = true) (k31:PySem.W.keepIn K (.ref f31) = true)
  (a32:PySem.W.nsIn K mainGlobals "_law_joined" = some (some (.ref f32))) (l32:K.lookup f32 = some ⟨oc32,od32, .func (PySem.W.fnOf "_law_joined" "_law_joined" (Jap Baz) (Jal Baz) (Jaf Baz) .none kV32 dc32 pm32 an32 cd32 ct32),sl32⟩) (c32:PySem.W.codeIn K cd32 "_law_joined" = true) (k32:PySem.W.keepIn K (.ref f32) = true)
  (a33:PySem.W.nsIn K mainGlobals "_law_due" = some (some (.ref f33))) (l33:K.lookup f33 = some ⟨oc33,od33, .func (PySem.W.fnOf "_law_due" "_law_due" (Jap Ba6) (Jal Ba6) (Jaf Ba6) .none kV33 dc33 pm33 an33 cd33 ct33),sl33⟩) (c33:PySem.W.codeIn K cd33 "_law_due" = true) (k33:PySem.W.keepIn K (.ref f33) = true)
  (a34:PySem.W.nsIn K mainGlobals "_law_made" = some (some (.ref f34))) (l34:K.lookup f34 = some ⟨oc34,od34, .func (PySem.W.fnOf "_law_made" "_law_made" (Jap BaO) (Jal BaO) (Jaf BaO) .none kV34 dc34 pm34 an34 cd34 ct34),sl34⟩) (c34:PySem.W.codeIn K cd34 "_law_made" = true) (k34:PySem.W.keepIn K (.ref f34) = true)
  (a35:PySem.W.nsIn K mainGlobals "_law_drawn" = some (some (.ref f35))) (l35:K.lookup f35 = some ⟨oc35,od35, .func (PySem.W.fnOf "_law_drawn" "_law_drawn" (Jap BaE) (Jal BaE) (Jaf BaE) .none kV35 dc35 pm35 an35 cd35 ct35),sl35⟩) (c35:PySem.W.codeIn K cd35 "_law_drawn" = true) (k35:PySem.W.keepIn K (.ref f35) = true)
  (a36:PySem.W.nsIn K mainGlobals "law" = some (some (.ref f36))) (l36:K.lookup f36 = some ⟨oc36,od36, .func (PySem.W.fnOf "law" "law" (Jap Bcf) (Jal Bcf) (Jaf Bcf) .none kV36 dc36 pm36 an36 cd36 ct36),sl36⟩) (c36:PySem.W.codeIn K cd36 "law" = true) (k36:PySem.W.keepIn K (.ref f36) = true)
  (z_abs:PySem.W.nsIn K mainGlobals "abs" = some none)
  (z_isinstance:PySem.W.nsIn K mainGlobals "isinstance" = some none)
  (z_len:PySem.W.nsIn K mainGlobals "len" = some none)
  (z_int:PySem.W.nsIn K mainGlobals "int" = some none)
  (z_bool:PySem.W.nsIn K mainGlobals "bool" = some none)
  (z_tuple:PySem.W.nsIn K mainGlobals "tuple" = some none)
  (z_str:PySem.W.nsIn K mainGlobals "str" = some none)
  (z_range:PySem.W.nsIn K mainGlobals "range" = some none)
  (z_list:PySem.W.nsIn K mainGlobals "list" = some none)
  (z_min:PySem.W.nsIn K mainGlobals "min" = some none)
  (z_all:PySem.W.nsIn K mainGlobals "all" = some none)
  (z_ValueError:PySem.W.nsIn K mainGlobals "ValueError" = some none)
  (BaQ:PySem.W.nsIn K mainGlobals "SMALL_LETTERS" = some (some (.str "abcdefghijklmnopqrstuvwxyz" Baa)))
  (BaR:PySem.W.nsIn K mainGlobals "LONGEST_NAME" = some (some (.int 8 Bab)))
  (BcL:PySem.W.nsIn K mainGlobals "ZERO" = some (some (.ref ZERO)))
  (h_ZERO:K.lookup ZERO = some ⟨.type "tuple",BcX, .seq #[.int 0 BcT, .int 1 BcU] BcY,BcZ⟩)
  (Bbr:PySem.W.excIn K NoPart [.type "ValueError", .type "Exception", .type "BaseException", .type "object"] "ValueError.__new__" = true)
  (BbE:PySem.W.excIn K Twice [.type "ValueError", .type "Exception", .type "BaseException", .type "object"] "ValueError.__new__" = true)
  (Bbs:PySem.W.excIn K InRing [.type "ValueError", .type "Exception", .type "BaseException", .type "object"] "ValueError.__new__" = true)
  (BbM:PySem.W.excIn K NoGap [.type "ValueError", .type "Exception", .type "BaseException", .type "object"] "ValueError.__new__" = true)
  (BbN:PySem.W.excIn K Apart [.type "ValueError", .type "Exception", .type "BaseException", .type "object"] "ValueError.__new__" = true)
  (Bcz:PySem.W.makesIn K Part = true)
  (BcA:PySem.W.findIn K (.ref Part) "__init__" = some (some (.ref f10)))
  (BcB:PySem.W.isFn K (.ref f10) = true)
  (BcC:PySem.W.keepIn K (.ref Part) = true)
  (BcM:PySem.W.makesIn K Gap = true)
  (BcN:PySem.W.findIn K (.ref Gap) "__init__" = some (some (.ref f12)))
  (BcO:PySem.W.isFn K (.ref f12) = true)
  (BcP:PySem.W.keepIn K (.ref Gap) = true)
  (Bb4:PySem.W.makesIn K Joints = true)
  (Bb5:PySem.W.findIn K (.ref Joints) "__init__" = some (some (.ref f18)))
  (Bb6:PySem.W.isFn K (.ref f18) = true)
  (Bb7:PySem.W.keepIn K (.ref Joints) = true)
  (Bck:PySem.W.makesIn K Thing = true)
  (Bcl:PySem.W.findIn K (.ref Thing) "__init__" = some (some (.ref f21)))
  (Bcm:PySem.W.isFn K (.ref f21) = true)
  (Bcn:PySem.W.keepIn K (.ref Thing) = true)
  (Ba7:PySem.W.findIn K (.ref Part) "plain" = some (some (.ref f11)))
  (Ba8:PySem.W.isFn K (.ref f11) = true)
  (Bbk:PySem.W.findIn K (.ref Gap) "plain" = some (some (.ref f13)))
  (Bbl:PySem.W.isFn K (.ref f13) = true)
  (BaS:PySem.W.findIn K (.ref Joints) "link" = some (some (.ref f19)))
  (BaT:PySem.W.isFn K (.ref f19) = true)
  (Bam:PySem.W.findIn K (.ref Joints) "way_between" = some (some (.ref f20)))
  (Ban:PySem.W.isFn K (.ref f20) = true)
  (BaU:PySem.W.findIn K (.ref Thing) "parts" = some (some (.ref f22)))
  (BaV:PySem.W.isFn K (.ref f22) = true)
  (Ba9:PySem.W.findIn K (.ref Thing) "gaps" = some (some (.ref f23)))
  (Bba:PySem.W.isFn K (.ref f23) = true)
  (Bbt:PySem.W.plainGet K Part Str.empty = true)
  (Bbu:PySem.W.hasDictIn K Part = true)
  (Bbv:PySem.W.plainOver K Part = true)
  (Bbw:PySem.W.findIn K (.ref Part) "__setattr__" = some (some (.builtin "object.__setattr__")))
  (Bbx:PySem.W.findIn K (.ref Part) "name" = some none)
  (Bby:PySem.W.findIn K (.ref Part) "start" = some none)
  (Bbz:PySem.W.findIn K (.ref Part) "end" = some none)
  (BbA:PySem.W.findIn K (.ref Part) "size" = some none)
  (BbB:PySem.W.findIn K (.ref Part) "most" = some none)
  (BbC:PySem.W.findIn K (.ref Part) "weight" = some none)
  (BbO:PySem.W.plainGet K Gap Str.empty = true)
  (BbP:PySem.W.hasDictIn K Gap = true)
  (BbQ:PySem.W.plainOver K Gap = true)
  (BbR:PySem.W.findIn K (.ref Gap) "__setattr__" = some (some (.builtin "object.__setattr__")))
  (BbS:PySem.W.findIn K (.ref Gap) "name" = some none)
  (BbT:PySem.W.findIn K (.ref Gap) "one" = some none)
  (BbU:PySem.W.findIn K (.ref Gap) "other" = some none)
  (BbV:PySem.W.findIn K (.ref Gap) "low" = some none)
  (BbW:PySem.W.findIn K (.ref Gap) "high" = some none)
  (BaW:PySem.W.plainGet K Joints Str.empty = true)
  (BaX:PySem.W.hasDictIn K Joints = true)
  (BaY:PySem.W.plainOver K Joints = true)
  (BaZ:PySem.W.findIn K (.ref Joints) "__setattr__" = some (some (.builtin "object.__setattr__")))
  (Ba0:PySem.W.findIn K (.ref Joints) "leads" = some none)
  (Bbb:PySem.W.plainGet K Thing Str.empty = true)
  (Bbc:PySem.W.hasDictIn K Thing = true)
  (Bbd:PySem.W.plainOver K Thing = true)
  (Bbe:PySem.W.findIn K (.ref Thing) "__setattr__" = some (some (.builtin "object.__setattr__")))
  (Bbf:PySem.W.findIn K (.ref Thing) "parts_by_name" = some none)
  (Bbg:PySem.W.findIn K (.ref Thing) "gaps_by_name" = some none)
  (Bbh:PySem.W.findIn K (.ref Thing) "ways" = some none)
  (y1:PySem.W.hasDictIn K SlackError = true)
  (y2:PySem.W.typeIn K (.ref SlackError) = some (.type "type"))
  (y3:PySem.W.mroIn K SlackError (.type "BaseException") = some true)
  (xc5:PySem.W.specialIn K (.builtin "object.__class__") "__get__" = some (some (.builtin "getset_descriptor.__get__")))
  (xc6:PySem.W.takesIn K (.builtin "object.__class__") = some true)
  (y4NoPart:PySem.W.mroIn K NoPart (.ref SlackError) = some true)
  (xc1NoPart:PySem.W.hasDictIn K NoPart = true)
  (xc2NoPart:PySem.W.findIn K (.ref NoPart) "__getattribute__" = some (some (.builtin "BaseException.__getattribute__")))
  (xc3NoPart:PySem.W.findIn K (.ref NoPart) "__getattr__" = some none)
  (xc4NoPart:PySem.W.findIn K (.ref NoPart) "__class__" = some (some (.builtin "object.__class__")))
  (xc7NoPart:PySem.W.mroIn K NoPart (.type "object") = some true)
  (xc8NoPart:PySem.W.mroIn K NoPart (.type "BaseException") = some true)
  (kNoPartNoPart:PySem.W.kitOne K (.ref NoPart) (.ref NoPart) = some true)
  (kNoPartTwice:PySem.W.kitOne K (.ref NoPart) (.ref Twice) = some false)
  (kNoPartInRing:PySem.W.kitOne K (.ref NoPart) (.ref InRing) = some false)
  (kNoPartNoGap:PySem.W.kitOne K (.ref NoPart) (.ref NoGap) = some false)
  (kNoPartApart:PySem.W.kitOne K (.ref NoPart) (.ref Apart) = some false)
  (kNoPartNoTie:PySem.W.kitOne K (.ref NoPart) (.ref NoTie) = some false)
  (kNoPartNoName:PySem.W.kitOne K (.ref NoPart) (.ref NoName) = some false)
  (kNoPartNoFace:PySem.W.kitOne K (.ref NoPart) (.ref NoFace) = some false)
  (kNoPartImpossible:PySem.W.kitOne K (.ref NoPart) (.ref Impossible) = some false)
  (kNoPartNoNumber:PySem.W.kitOne K (.ref NoPart) (.ref NoNumber) = some false)
  (kNoPartTight:PySem.W.kitOne K (.ref NoPart) (.ref Tight) = some false)
  (kNoPartOff:PySem.W.kitOne K (.ref NoPart) (.ref Off) = some false)
  (kNoPartNoRow:PySem.W.kitOne K (.ref NoPart) (.ref NoRow) = some false)
  (kVNoPart:PySem.W.kitOne K (.ref NoPart) (.type "ValueError") = some true)
  (y4Twice:PySem.W.mroIn K Twice (.ref SlackError) = some true)
  (xc1Twice:PySem.W.hasDictIn K Twice = true)
  (xc2Twice:PySem.W.findIn K (.ref Twice) "__getattribute__" = some (some (.builtin "BaseException.__getattribute__")))
  (xc3Twice:PySem.W.findIn K (.ref Twice) "__getattr__" = some none)
  (xc4Twice:PySem.W.findIn K (.ref Twice) "__class__" = some (some (.builtin "object.__class__")))
  (xc7Twice:PySem.W.mroIn K Twice (.type "object") = some true)
  (xc8Twice:PySem.W.mroIn K Twice (.type "BaseException") = some true)
  (kTwiceNoPart:PySem.W.kitOne K (.ref Twice) (.ref NoPart) = some false)
  (kTwiceTwice:PySem.W.kitOne K (.ref Twice) (.ref Twice) = some true)
  (kTwiceInRing:PySem.W.kitOne K (.ref Twice) (.ref InRing) = some false)
  (kTwiceNoGap:PySem.W.kitOne K (.ref Twice) (.ref NoGap) = some false)
  (kTwiceApart:PySem.W.kitOne K (.ref Twice) (.ref Apart) = some false)
  (kTwiceNoTie:PySem.W.kitOne K (.ref Twice) (.ref NoTie) = some false)
  (kTwiceNoName:PySem.W.kitOne K (.ref Twice) (.ref NoName) = some false)
  (kTwiceNoFace:PySem.W.kitOne K (.ref Twice) (.ref NoFace) = some false)
  (kTwiceImpossible:PySem.W.kitOne K (.ref Twice) (.ref Impossible) = some false)
  (kTwiceNoNumber:PySem.W.kitOne K (.ref Twice) (.ref NoNumber) = some false)
  (kTwiceTight:PySem.W.kitOne K (.ref Twice) (.ref Tight) = some false)
  (kTwiceOff:PySem.W.kitOne K (.ref Twice) (.ref Off) = some false)
  (kTwiceNoRow:PySem.W.kitOne K (.ref Twice) (.ref NoRow) = some false)
  (kVTwice:PySem.W.kitOne K (.ref Twice) (.type "ValueError") = some true)
  (y4InRing:PySem.W.mroIn K InRing (.ref SlackError) = some true)
  (xc1InRing:PySem.W.hasDictIn K InRing = true)
  (xc2InRing:PySem.W.findIn K (.ref InRing) "__getattribute__" = some (some (.builtin "BaseException.__getattribute__")))
  (xc3InRing:PySem.W.findIn K (.ref InRing) "__getattr__" = some none)
  (xc4InRing:PySem.W.findIn K (.ref InRing) "__class__" = some (some (.builtin "object.__class__")))
  (xc7InRing:PySem.W.mroIn K InRing (.type "object") = some true)
  (xc8InRing:PySem.W.mroIn K InRing (.type "BaseException") = some true)
  (kInRingNoPart:PySem.W.kitOne K (.ref InRing) (.ref NoPart) = some false)
  (kInRingTwice:PySem.W.kitOne K (.ref InRing) (.ref Twice) = some false)
  (kInRingInRing:PySem.W.kitOne K (.ref InRing) (.ref InRing) = some true)
  (kInRingNoGap:PySem.W.kitOne K (.ref InRing) (.ref NoGap) = some false)
  (kInRingApart:PySem.W.kitOne K (.ref InRing) (.ref Apart) = some false)
  (kInRingNoTie:PySem.W.kitOne K (.ref InRing) (.ref NoTie) = some false)
  (kInRingNoName:PySem.W.kitOne K (.ref InRing) (.ref NoName) = some false)
  (kInRingNoFace:PySem.W.kitOne K (.ref InRing) (.ref NoFace) = some false)
  (kInRingImpossible:PySem.W.kitOne K (.ref InRing) (.ref Impossible) = some false)
  (kInRingNoNumber:PySem.W.kitOne K (.ref InRing) (.ref NoNumber) = some false)
  (kInRingTight:PySem.W.kitOne K (.ref InRing) (.ref Tight) = some false)
  (kInRingOff:PySem.W.kitOne K (.ref InRing) (.ref Off) = some false)
  (kInRingNoRow:PySem.W.kitOne K (.ref InRing) (.ref NoRow) = some false)
  (kVInRing:PySem.W.kitOne K (.ref InRing) (.type "ValueError") = some true)
  (y4NoGap:PySem.W.mroIn K NoGap (.ref SlackError) = some true)
  (xc1NoGap:PySem.W.hasDictIn K NoGap = true)
  (xc2NoGap:PySem.W.findIn K (.ref NoGap) "__getattribute__" = some (some (.builtin "BaseException.__getattribute__")))
  (xc3NoGap:PySem.W.findIn K (.ref NoGap) "__getattr__" = some none)
  (xc4NoGap:PySem.W.findIn K (.ref NoGap) "__class__" = some (some (.builtin "object.__class__")))
  (xc7NoGap:PySem.W.mroIn K NoGap (.type "object") = some true)
  (xc8NoGap:PySem.W.mroIn K NoGap (.type "BaseException") = some true)
  (kNoGapNoPart:PySem.W.kitOne K (.ref NoGap) (.ref NoPart) = some false)
  (kNoGapTwice:PySem.W.kitOne K (.ref NoGap) (.ref Twice) = some false)
  (kNoGapInRing:PySem.W.kitOne K (.ref NoGap) (.ref InRing) = some false)
  (kNoGapNoGap:PySem.W.kitOne K (.ref NoGap) (.ref NoGap) = some true)
  (kNoGapApart:PySem.W.kitOne K (.ref NoGap) (.ref Apart) = some false)
  (kNoGapNoTie:PySem.W.kitOne K (.ref NoGap) (.ref NoTie) = some false)
  (kNoGapNoName:PySem.W.kitOne K (.ref NoGap) (.ref NoName) = some false)
  (kNoGapNoFace:PySem.W.kitOne K (.ref NoGap) (.ref NoFace) = some false)
  (kNoGapImpossible:PySem.W.kitOne K (.ref NoGap) (.ref Impossible) = some false)
  (kNoGapNoNumber:PySem.W.kitOne K (.ref NoGap) (.ref NoNumber) = some false)
  (kNoGapTight:PySem.W.kitOne K (.ref NoGap) (.ref Tight) = some false)
  (kNoGapOff:PySem.W.kitOne K (.ref NoGap) (.ref Off) = some false)
  (kNoGapNoRow:PySem.W.kitOne K (.ref NoGap) (.ref NoRow) = some false)
  (kVNoGap:PySem.W.kitOne K (.ref NoGap) (.type "ValueError") = some true)
  (y4Apart:PySem.W.mroIn K Apart (.ref SlackError) = some true)
  (xc1Apart:PySem.W.hasDictIn K Apart = true)
  (xc2Apart:PySem.W.findIn K (.ref Apart) "__getattribute__" = some (some (.builtin "BaseException.__getattribute__")))
  (xc3Apart:PySem.W.findIn K (.ref Apart) "__getattr__" = some none)
  (xc4Apart:PySem.W.findIn K (.ref Apart) "__class__" = some (some (.builtin "object.__class__")))
  (xc7Apart:PySem.W.mroIn K Apart (.type "object") = some true)
  (xc8Apart:PySem.W.mroIn K Apart (.type "BaseException") = some true)
  (kApartNoPart:PySem.W.kitOne K (.ref Apart) (.ref NoPart) = some false)
  (kApartTwice:PySem.W.kitOne K (.ref Apart) (.ref Twice) = some false)
  (kApartInRing:PySem.W.kitOne K (.ref Apart) (.ref InRing) = some false)
  (kApartNoGap:PySem.W.kitOne K (.ref Apart) (.ref NoGap) = some false)
  (kApartApart:PySem.W.kitOne K (.ref Apart) (.ref Apart) = some true)
  (kApartNoTie:PySem.W.kitOne K (.ref Apart) (.ref NoTie) = some false)
  (kApartNoName:PySem.W.kitOne K (.ref Apart) (.ref NoName) = some false)
  (kApartNoFace:PySem.W.kitOne K (.ref Apart) (.ref NoFace) = some false)
  (kApartImpossible:PySem.W.kitOne K (.ref Apart) (.ref Impossible) = some false)
  (kApartNoNumber:PySem.W.kitOne K (.ref Apart) (.ref NoNumber) = some false)
  (kApartTight:PySem.W.kitOne K (.ref Apart) (.ref Tight) = some false)
  (kApartOff:PySem.W.kitOne K (.ref Apart) (.ref Off) = some false)
  (kApartNoRow:PySem.W.kitOne K (.ref Apart) (.ref NoRow) = some false)
  (kVApart:PySem.W.kitOne K (.ref Apart) (.type "ValueError") = some true)
  : ∃ fd:FuncData,(∀ (s:Shared) (v:Value),BindsTo s fd ⟨[v],[]⟩ [("_law_script",v)])∧∀ base:Heap,K.In base→base.Ns mainGlobals mg→FnOk l.prog w K mg base (CX1 l.prog w) 12 fa fd ["_law_script"] (Bco K):=by
 have e:=hfa.symm.trans (PySem.W.mg_of X G a36)
 cases e
 have T:Txt K mg ⟨SlackError,NoTie,NoName,NoFace,Impossible,NoNumber,Tight,Off,NoRow,NoPart,Twice,InRing,NoGap,Apart,Part,Gap,Joints,Thing,(.str "abcdefghijklmnopqrstuvwxyz" Baa),(.int 8 Bab),ZERO⟩:=⟨PySem.W.mg_none_of X G z_abs,PySem.W.mg_none_of X G z_isinstance,PySem.W.mg_none_of X G z_len,PySem.W.mg_none_of X G z_int,PySem.W.mg_none_of X G z_bool,PySem.W.mg_none_of X G z_tuple,PySem.W.mg_none_of X G z_str,PySem.W.mg_none_of X G z_range,PySem.W.mg_none_of X G z_list,PySem.W.mg_none_of X G z_min,PySem.W.mg_none_of X G z_all,PySem.W.mg_none_of X G z_ValueError,PySem.W.mg_of X G g_SlackError,PySem.W.mg_of X G g_NoTie,PySem.W.mg_of X G Bcg,PySem.W.mg_of X G g_NoFace,PySem.W.mg_of X G g_Impossible,PySem.W.mg_of X G g_NoNumber,PySem.W.mg_of X G g_Tight,PySem.W.mg_of X G g_Off,PySem.W.mg_of X G g_NoRow,PySem.W.mg_of X G Bch,PySem.W.mg_of X G Bcw,PySem.W.mg_of X G Bci,PySem.W.mg_of X G Bcx,PySem.W.mg_of X G Bcy,PySem.W.mg_of X G BcG,PySem.W.mg_of X G BcV,PySem.W.mg_of X G BbJ,PySem.W.mg_of X G Bcj,PySem.W.mg_of X G BaQ,⟨_,rfl⟩,PySem.W.mg_of X G BaR,⟨_,rfl⟩,PySem.W.mg_of X G BcL,rfl,fun H => .inr ⟨_,_,_,h_ZERO,rfl,rfl,by show 2 ≤ sizeLine; decide, .cons ⟨_,rfl⟩ (.cons ⟨_,rfl⟩ (.nil))⟩,Bbr,BbE,Bbs,BbM,BbN,Bbt,Bbu,Bbv,Bbw,Bbx,Bby,Bbz,BbA,BbB,BbC,BbO,BbP,BbQ,BbR,BbS,BbT,BbU,BbV,BbW,BaW,BaX,BaY,BaZ,Ba0,Bbb,Bbc,Bbd,Bbe,Bbf,Bbg,Bbh,y1,y2,y3,xc5,xc6,y4NoPart,xc1NoPart,xc2NoPart,xc3NoPart,xc4NoPart,xc7NoPart,xc8NoPart,kNoPartNoPart,kNoPartTwice,kNoPartInRing,kNoPartNoGap,kNoPartApart,kNoPartNoTie,kNoPartNoName,kNoPartNoFace,kNoPartImpossible,kNoPartNoNumber,kNoPartTight,kNoPartOff,kNoPartNoRow,kVNoPart,y4Twice,xc1Twice,xc2Twice,xc3Twice,xc4Twice,xc7Twice,xc8Twice,kTwiceNoPart,kTwiceTwice,kTwiceInRing,kTwiceNoGap,kTwiceApart,kTwiceNoTie,kTwiceNoName,kTwiceNoFace,kTwiceImpossible,kTwiceNoNumber,kTwiceTight,kTwiceOff,kTwiceNoRow,kVTwice,y4InRing,xc1InRing,xc2InRing,xc3InRing,xc4InRing,xc7InRing,xc8InRing,kInRingNoPart,kInRingTwice,kInRingInRing,kInRingNoGap,kInRingApart,kInRingNoTie,kInRingNoName,kInRingNoFace,kInRingImpossible,kInRingNoNumber,kInRingTight,kInRingOff,kInRingNoRow,kVInRing,y4NoGap,xc1NoGap,xc2NoGap,xc3NoGap,xc4NoGap,xc7NoGap,xc8NoGap,kNoGapNoPart,kNoGapTwice,kNoGapInRing,kNoGapNoGap,kNoGapApart,kNoGapNoTie,kNoGapNoName,kNoGapNoFace,kNoGapImpossible,kNoGapNoNumber,kNoGapTight,kNoGapOff,kNoGapNoRow,kVNoGap,y4Apart,xc1Apart,xc2Apart,xc3Apart,xc4Apart,xc7Apart,xc8Apart,kApartNoPart,kApartTwice,kApartInRing,kApartNoGap,kApartApart,kApartNoTie,kApartNoName,kApartNoFace,kApartImpossible,kApartNoNumber,kApartTight,kApartOff,kApartNoRow,kVApart,(fun C hC => by cases hC; exact ⟨⟨Bbt,Bbu,Bbv,Bbw⟩,Bbx,Bby,Bbz,BbA,BbB,BbC⟩),(fun C hC => by cases hC; exact ⟨⟨BbO,BbP,BbQ,BbR⟩,BbS,BbT,BbU,BbV,BbW⟩),(fun C hC => by cases hC; exact ⟨⟨BaW,BaX,BaY,BaZ⟩,Ba0⟩),(fun C hC => by cases hC; exact ⟨⟨Bbb,Bbc,Bbd,Bbe⟩,Bbf,Bbg,Bbh⟩)⟩
 have F1:=Jat (st:=Bag) l1 c1 k1
 have b1:=F1.binds (ps:=["one", "other"]) fun _ _ _ _ _ _ us hl => match us,hl with | [_,_],_ => rfl
 have F2:=Jat (st:=BbF) l2 c2 k2
 have b2:=F2.binds (ps:=["one", "other"]) fun _ _ _ _ _ _ us hl => match us,hl with | [_,_],_ => rfl
 have F3:=Jat (st:=Ba1) l3 c3 k3
 have b3:=F3.binds (ps:=["thing"]) fun _ _ _ _ _ _ us hl => match us,hl with | [_],_ => rfl
 have F4:=Jat (st:=BaI) l4 c4 k4
 have b4:=F4.binds (ps:=["thing"]) fun _ _ _ _ _ _ us hl => match us,hl with | [_],_ => rfl
 have F5:=Jat (st:=Bao) l5 c5 k5
 have b5:=F5.binds (ps:=["thing"]) fun _ _ _ _ _ _ us hl => match us,hl with | [_],_ => rfl
 have F6:=Jat (st:=BaJ) l6 c6 k6
 have b6:=F6.binds (ps:=["thing"]) fun _ _ _ _ _ _ us hl => match us,hl with | [_],_ => rfl
 have F7:=Jat (st:=BaB) l7 c7 k7
 have b7:=F7.binds (ps:=["one", "other"]) fun _ _ _ _ _ _ us hl => match us,hl with | [_,_],_ => rfl
 have F8:=Jat (st:=Bat) l8 c8 k8
 have b8:=F8.binds (ps:=["least", "greatest"]) fun _ _ _ _ _ _ us hl => match us,hl with | [_,_],_ => rfl
 have F9:=Jat (st:=Bbn) l9 c9 k9
 have b9:=F9.binds (ps:=["thing"]) fun _ _ _ _ _ _ us hl => match us,hl with | [_],_ => rfl
 have F10:=Jat (st:=Bai) l10 c10 k10
 have b10:=F10.binds (ps:=["self", "row"]) fun _ _ _ _ _ _ us hl => match us,hl with | [_,_],_ => rfl
 have F11:=Jat (st:=Bau) l11 c11 k11
 have b11:=F11.binds (ps:=["self"]) fun _ _ _ _ _ _ us hl => match us,hl with | [_],_ => rfl
 have F12:=Jat (st:=Bak) l12 c12 k12
 have b12:=F12.binds (ps:=["self", "row"]) fun _ _ _ _ _ _ us hl => match us,hl with | [_,_],_ => rfl
 have F13:=Jat (st:=BaD) l13 c13 k13
 have b13:=F13.binds (ps:=["self"]) fun _ _ _ _ _ _ us hl => match us,hl with | [_],_ => rfl
 have F14:=Jat (st:=Ba2) l14 c14 k14
 have b14:=F14.binds (ps:=["thing"]) fun _ _ _ _ _ _ us hl => match us,hl with | [_],_ => rfl
 have F15:=Jat (st:=Bbo) l15 c15 k15
 have b15:=F15.binds (ps:=["thing"]) fun _ _ _ _ _ _ us hl => match us,hl with | [_],_ => rfl
 have F16:=Jat (st:=Ba3) l16 c16 k16
 have b16:=F16.binds (ps:=["thing"]) fun _ _ _ _ _ _ us hl => match us,hl with | [_],_ => rfl
 have F17:=Jat (st:=Bbp) l17 c17 k17
 have b17:=F17.binds (ps:=["thing"]) fun _ _ _ _ _ _ us hl => match us,hl with | [_],_ => rfl
 have F18:=Jat (st:=Bae) l18 c18 k18
 have b18:=F18.binds (ps:=["self"]) fun _ _ _ _ _ _ us hl => match us,hl with | [_],_ => rfl
 have F19:=Jat (st:=Bap) l19 c19 k19
 have b19:=F19.binds (ps:=["self", "part"]) fun _ _ _ _ _ _ us hl => match us,hl with | [_,_],_ => rfl
 have F20:=Jat (st:=Bad) l20 c20 k20
 have b20:=F20.binds (ps:=["self", "one", "other"]) fun _ _ _ _ _ _ us hl => match us,hl with | [_,_,_],_ => rfl
 have F21:=Jat (st:=Bah) l21 c21 k21
 have b21:=F21.binds (ps:=["self", "parts", "gaps"]) fun _ _ _ _ _ _ us hl => match us,hl with | [_,_,_],_ => rfl
 have F22:=Jat (st:=Baq) l22 c22 k22
 have b22:=F22.binds (ps:=["self"]) fun _ _ _ _ _ _ us hl => match us,hl with | [_],_ => rfl
 have F23:=Jat (st:=Bav) l23 c23 k23
 have b23:=F23.binds (ps:=["self"]) fun _ _ _ _ _ _ us hl => match us,hl with | [_],_ => rfl
 have F24:=Jat (st:=BaK) l24 c24 k24
 have b24:=F24.binds (ps:=["_law_script", "_law_k"]) fun _ _ _ _ _ _ us hl => match us,hl with | [_,_],_ => rfl
 have F25:=Jat (st:=Baw) l25 c25 k25
 have b25:=F25.binds (ps:=["_law_cell_here", "_law_most"]) fun _ _ _ _ _ _ us hl => match us,hl with | [_,_],_ => rfl
 have F26:=Jat (st:=Ba4) l26 c26 k26
 have b26:=F26.binds (ps:=["_law_top", "_law_bottom"]) fun _ _ _ _ _ _ us hl => match us,hl with | [_,_],_ => rfl
 have F27:=Jat (st:=BaL) l27 c27 k27
 have b27:=F27.binds (ps:=["_law_k", "_law_sign", "_law_style"]) fun _ _ _ _ _ _ us hl => match us,hl with | [_,_,_],_ => rfl
 have F28:=Jat (st:=BaM) l28 c28 k28
 have b28:=F28.binds (ps:=["_law_k", "_law_cells", "_law_style"]) fun _ _ _ _ _ _ us hl => match us,hl with | [_,_,_],_ => rfl
 have F29:=Jat (st:=Ba5) l29 c29 k29
 have b29:=F29.binds (ps:=["_law_k", "_law_cells", "_law_style"]) fun _ _ _ _ _ _ us hl => match us,hl with | [_,_,_],_ => rfl
 have F30:=Jat (st:=BaN) l30 c30 k30
 have b30:=F30.binds (ps:=["_law_thing", "_law_at", "_law_part_here"]) fun _ _ _ _ _ _ us hl => match us,hl with | [_,_,_],_ => rfl
 have F31:=Jat (st:=Bar) l31 c31 k31
 have b31:=F31.binds (ps:=["_law_thing", "_law_way"]) fun _ _ _ _ _ _ us hl => match us,hl with | [_,_],_ => rfl
 have F32:=Jat (st:=Baz) l32 c32 k32
 have b32:=F32.binds (ps:=["_law_marks", "_law_one", "_law_other"]) fun _ _ _ _ _ _ us hl => match us,hl with | [_,_,_],_ => rfl
 have F33:=Jat (st:=Ba6) l33 c33 k33
 have b33:=F33.binds (ps:=["_law_parts", "_law_gaps"]) fun _ _ _ _ _ _ us hl => match us,hl with | [_,_],_ => rfl
 have F34:=Jat (st:=BaO) l34 c34 k34
 have b34:=F34.binds (ps:=["_law_parts", "_law_gaps"]) fun _ _ _ _ _ _ us hl => match us,hl with | [_,_],_ => rfl
 have F35:=Jat (st:=BaE) l35 c35 k35
 have b35:=F35.binds (ps:=["_law_script", "_law_style"]) fun _ _ _ _ _ _ us hl => match us,hl with | [_,_],_ => rfl
 have F36:=Jat (st:=Bcf) l36 c36 k36
 have b36:=F36.binds (ps:=["_law_script"]) fun _ _ _ _ _ _ us hl => match us,hl with | [_],_ => rfl
 refine ⟨PySem.W.fnOf "law" "law" (Jap Bcf) (Jal Bcf) (Jaf Bcf) .none kV36 dc36 pm36 an36 cd36 ct36,fun s v => .of_eq rfl,fun base _ _ => ?_⟩
 have K1:=Jct (P:=l.prog) (w:=w) (base:=base) F1 T
 have BaF:Cal l.prog w K mg base 1 "common_divisor" ["one", "other"] [] (Ja8):=⟨f1,_,[],K1,PySem.W.mg_of X G a1,k1,b1, .nil⟩
 have K2:=JgZ (P:=l.prog) (w:=w) (base:=base) F2 T
 have BbG:Cal l.prog w K mg base 1 "under" ["one", "other"] [] (JcL K):=⟨f2,_,[],K2,PySem.W.mg_of X G a2,k2,b2, .nil⟩
 have K3:=Jfs (P:=l.prog) (w:=w) (base:=base) F3 T
 have Bas:Cal l.prog w K mg base 1 "is_name" ["thing"] [] (Jbz K):=⟨f3,_,[],K3,PySem.W.mg_of X G a3,k3,b3, .nil⟩
 have K4:=Jev (P:=l.prog) (w:=w) (base:=base) F4 T
 have BaA:Cal l.prog w K mg base 1 "is_whole" ["thing"] [] (JbI K):=⟨f4,_,[],K4,PySem.W.mg_of X G a4,k4,b4, .nil⟩
 have K5:=Jda (P:=l.prog) (w:=w) (base:=base) F5 T BaA BaF
 have Baj:Cal l.prog w K mg base 2 "is_fraction" ["thing"] [] (Ja9 K):=⟨f5,_,[],K5,PySem.W.mg_of X G a5,k5,b5, .nil⟩
 have K6:=Jeu (P:=l.prog) (w:=w) (base:=base) F6 T Baj
 have Bbm:Cal l.prog w K mg base 3 "is_bound" ["thing"] [] (Jb8 K):=⟨f6,_,[],K6,PySem.W.mg_of X G a6,k6,b6, .nil⟩
 have K7:=Jeb (P:=l.prog) (w:=w) (base:=base) F7 T Bas
 have BaC:Cal l.prog w K mg base 2 "are_faces" ["one", "other"] [] (Jbt K):=⟨f7,_,[],K7,PySem.W.mg_of X G a7,k7,b7, .nil⟩
 have K8:=JdG (P:=l.prog) (w:=w) (base:=base) F8 T Bbm BbG
 have Bbi:Cal l.prog w K mg base 4 "are_bounds" ["least", "greatest"] [] (JbH K):=⟨f8,_,[],K8,PySem.W.mg_of X G a8,k8,b8, .nil⟩
 have K9:=Jgb (P:=l.prog) (w:=w) (base:=base) F9 T Bas BaC Bbi
 have Bcb:Cal l.prog w K mg base 5 "is_tie" ["thing"] [] (Jc6 K):=⟨f9,_,[],K9,PySem.W.mg_of X G a9,k9,b9, .nil⟩
 have K10:=JcE (P:=l.prog) (w:=w) (base:=base) F10 T
 have BcJ:KCal l.prog w K mg base 1 "Part" Part ["self", "row"] (Jbd K):=⟨f10,_,K10,PySem.W.mg_of X G BcG,⟨Bcz,BcA,BcB,BcC⟩,b10⟩
 have K11:=JdE (P:=l.prog) (w:=w) (base:=base) F11 T
 have Bcu:MCal l.prog w K mg base 1 "plain" (IsPart ⟨SlackError,NoTie,NoName,NoFace,Impossible,NoNumber,Tight,Off,NoRow,NoPart,Twice,InRing,NoGap,Apart,Part,Gap,Joints,Thing,(.str "abcdefghijklmnopqrstuvwxyz" Baa),(.int 8 Bab),ZERO⟩) ["self"] (JbF K ⟨SlackError,NoTie,NoName,NoFace,Impossible,NoNumber,Tight,Off,NoRow,NoPart,Twice,InRing,NoGap,Apart,Part,Gap,Joints,Thing,(.str "abcdefghijklmnopqrstuvwxyz" Baa),(.int 8 Bab),ZERO⟩):=⟨f11,_,K11,fun C hC => ⟨(T.Bcp C hC).cls,(by cases hC; exact ⟨Ba7,Ba8,k11⟩)⟩,k11,b11⟩
 have K12:=JcY (P:=l.prog) (w:=w) (base:=base) F12 T
 have BcW:KCal l.prog w K mg base 1 "Gap" Gap ["self", "row"] (Jbn K):=⟨f12,_,K12,PySem.W.mg_of X G BcV,⟨BcM,BcN,BcO,BcP⟩,b12⟩
 have K13:=Jea (P:=l.prog) (w:=w) (base:=base) F13 T
 have Bb0:MCal l.prog w K mg base 1 "plain" (IsGap ⟨SlackError,NoTie,NoName,NoFace,Impossible,NoNumber,Tight,Off,NoRow,NoPart,Twice,InRing,NoGap,Apart,Part,Gap,Joints,Thing,(.str "abcdefghijklmnopqrstuvwxyz" Baa),(.int 8 Bab),ZERO⟩) ["self"] (JbP K ⟨SlackError,NoTie,NoName,NoFace,Impossible,NoNumber,Tight,Off,NoRow,NoPart,Twice,InRing,NoGap,Apart,Part,Gap,Joints,Thing,(.str "abcdefghijklmnopqrstuvwxyz" Baa),(.int 8 Bab),ZERO⟩):=⟨f13,_,K13,fun C hC => ⟨(T.BcS C hC).cls,(by cases hC; exact ⟨Bbk,Bbl,k13⟩)⟩,k13,b13⟩
 have K14:=Jft (P:=l.prog) (w:=w) (base:=base) F14 T Bas BaC Baj BaA BbG
 have BbY:Cal l.prog w K mg base 5 "is_part" ["thing"] [] (Jcx K):=⟨f14,_,[],K14,PySem.W.mg_of X G a14,k14,b14, .nil⟩
 have K15:=Jga (P:=l.prog) (w:=w) (base:=base) F15 T Bcb
 have Bcc:Cal l.prog w K mg base 6 "is_gap" ["thing"] [] (Jc5 K):=⟨f15,_,[],K15,PySem.W.mg_of X G a15,k15,b15, .nil⟩
 have K16:=Jfx (P:=l.prog) (w:=w) (base:=base) F16 T BbY BcJ
 have BbZ:Cal l.prog w K mg base 6 "part_of" ["thing"] [] (JcA K ⟨SlackError,NoTie,NoName,NoFace,Impossible,NoNumber,Tight,Off,NoRow,NoPart,Twice,InRing,NoGap,Apart,Part,Gap,Joints,Thing,(.str "abcdefghijklmnopqrstuvwxyz" Baa),(.int 8 Bab),ZERO⟩):=⟨f16,_,[],K16,PySem.W.mg_of X G a16,k16,b16, .nil⟩
 have K17:=Jf9 (P:=l.prog) (w:=w) (base:=base) F17 T Bcc BcW
 have Bce:Cal l.prog w K mg base 7 "gap_of" ["thing"] [] (Jc4 K ⟨SlackError,NoTie,NoName,NoFace,Impossible,NoNumber,Tight,Off,NoRow,NoPart,Twice,InRing,NoGap,Apart,Part,Gap,Joints,Thing,(.str "abcdefghijklmnopqrstuvwxyz" Baa),(.int 8 Bab),ZERO⟩):=⟨f17,_,[],K17,PySem.W.mg_of X G a17,k17,b17, .nil⟩
 have K18:=Jch (P:=l.prog) (w:=w) (base:=base) F18 T
 have Bcd:KCal l.prog w K mg base 1 "Joints" Joints ["self"] (Ja4 K ⟨SlackError,NoTie,NoName,NoFace,Impossible,NoNumber,Tight,Off,NoRow,NoPart,Twice,InRing,NoGap,Apart,Part,Gap,Joints,Thing,(.str "abcdefghijklmnopqrstuvwxyz" Baa),(.int 8 Bab),ZERO⟩):=⟨f18,_,K18,PySem.W.mg_of X G BbJ,⟨Bb4,Bb5,Bb6,Bb7⟩,b18⟩
 have K19:=Jc8 (P:=l.prog) (w:=w) (base:=base) F19 T
 have BcK:MCal l.prog w K mg base 1 "link" (Jcd ⟨SlackError,NoTie,NoName,NoFace,Impossible,NoNumber,Tight,Off,NoRow,NoPart,Twice,InRing,NoGap,Apart,Part,Gap,Joints,Thing,(.str "abcdefghijklmnopqrstuvwxyz" Baa),(.int 8 Bab),ZERO⟩) ["self", "part"] (Jbv K ⟨SlackError,NoTie,NoName,NoFace,Impossible,NoNumber,Tight,Off,NoRow,NoPart,Twice,InRing,NoGap,Apart,Part,Gap,Joints,Thing,(.str "abcdefghijklmnopqrstuvwxyz" Baa),(.int 8 Bab),ZERO⟩):=⟨f19,_,K19,fun C hC => ⟨(T.BbD C hC).cls,(by cases hC; exact ⟨BaS,BaT,k19⟩)⟩,k19,b19⟩
 have K20:=JbO (P:=l.prog) (w:=w) (base:=base) F20 T
 have BaG:MCal l.prog w K mg base 1 "way_between" (Jcd ⟨SlackError,NoTie,NoName,NoFace,Impossible,NoNumber,Tight,Off,NoRow,NoPart,Twice,InRing,NoGap,Apart,Part,Gap,Joints,Thing,(.str "abcdefghijklmnopqrstuvwxyz" Baa),(.int 8 Bab),ZERO⟩) ["self", "one", "other"] (JaU K ⟨SlackError,NoTie,NoName,NoFace,Impossible,NoNumber,Tight,Off,NoRow,NoPart,Twice,InRing,NoGap,Apart,Part,Gap,Joints,Thing,(.str "abcdefghijklmnopqrstuvwxyz" Baa),(.int 8 Bab),ZERO⟩):=⟨f20,_,K20,fun C hC => ⟨(T.BbD C hC).cls,(by cases hC; exact ⟨Bam,Ban,k20⟩)⟩,k20,b20⟩
 have K21:=Jcs (P:=l.prog) (w:=w) (base:=base) F21 T Bcd BbZ Bce BaG BcK
 have Bcv:KCal l.prog w K mg base 9 "Thing" Thing ["self", "parts", "gaps"] (JaV K ⟨SlackError,NoTie,NoName,NoFace,Impossible,NoNumber,Tight,Off,NoRow,NoPart,Twice,InRing,NoGap,Apart,Part,Gap,Joints,Thing,(.str "abcdefghijklmnopqrstuvwxyz" Baa),(.int 8 Bab),ZERO⟩):=⟨f21,_,K21,PySem.W.mg_of X G Bcj,⟨Bck,Bcl,Bcm,Bcn⟩,b21⟩
 have K22:=Jc9 (P:=l.prog) (w:=w) (base:=base) F22 T Bcu
 have Bb3:MCal l.prog w K mg base 2 "parts" (JcN ⟨SlackError,NoTie,NoName,NoFace,Impossible,NoNumber,Tight,Off,NoRow,NoPart,Twice,InRing,NoGap,Apart,Part,Gap,Joints,Thing,(.str "abcdefghijklmnopqrstuvwxyz" Baa),(.int 8 Bab),ZERO⟩) ["self"] (Jbw K ⟨SlackError,NoTie,NoName,NoFace,Impossible,NoNumber,Tight,Off,NoRow,NoPart,Twice,InRing,NoGap,Apart,Part,Gap,Joints,Thing,(.str "abcdefghijklmnopqrstuvwxyz" Baa),(.int 8 Bab),ZERO⟩):=⟨f22,_,K22,fun C hC => ⟨(T.BbX C hC).cls,(by cases hC; exact ⟨BaU,BaV,k22⟩)⟩,k22,b22⟩
 have K23:=JdF (P:=l.prog) (w:=w) (base:=base) F23 T Bb0
 have Bcq:MCal l.prog w K mg base 2 "gaps" (JcN ⟨SlackError,NoTie,NoName,NoFace,Impossible,NoNumber,Tight,Off,NoRow,NoPart,Twice,InRing,NoGap,Apart,Part,Gap,Joints,Thing,(.str "abcdefghijklmnopqrstuvwxyz" Baa),(.int 8 Bab),ZERO⟩) ["self"] (JbG K ⟨SlackError,NoTie,NoName,NoFace,Impossible,NoNumber,Tight,Off,NoRow,NoPart,Twice,InRing,NoGap,Apart,Part,Gap,Joints,Thing,(.str "abcdefghijklmnopqrstuvwxyz" Baa),(.int 8 Bab),ZERO⟩):=⟨f23,_,K23,fun C hC => ⟨(T.BbX C hC).cls,(by cases hC; exact ⟨Ba9,Bba,k23⟩)⟩,k23,b23⟩
 have K24:=Jew (P:=l.prog) (w:=w) (base:=base) F24 T
 have Baf:Cal l.prog w K mg base 1 "_law_cell" ["_law_script", "_law_k"] [] (JbJ K):=⟨f24,_,[],K24,PySem.W.mg_of X G a24,k24,b24, .nil⟩
 have K25:=JdI (P:=l.prog) (w:=w) (base:=base) F25 T
 have Bax:Cal l.prog w K mg base 1 "_law_signed" ["_law_cell_here", "_law_most"] [] (Jbi):=⟨f25,_,[],K25,PySem.W.mg_of X G a25,k25,b25, .nil⟩
 have K26:=Jfw (P:=l.prog) (w:=w) (base:=base) F26 T
 have BaP:Cal l.prog w K mg base 1 "_law_low" ["_law_top", "_law_bottom"] [] (JbW):=⟨f26,_,[],K26,PySem.W.mg_of X G a26,k26,b26, .nil⟩
 have K27:=Jey (P:=l.prog) (w:=w) (base:=base) F27 T
 have Bal:Cal l.prog w K mg base 1 "_law_name" ["_law_k", "_law_sign", "_law_style"] [] (JbL):=⟨f27,_,[],K27,PySem.W.mg_of X G a27,k27,b27, .nil⟩
 have K28:=Jez (P:=l.prog) (w:=w) (base:=base) F28 T Bal BaP Bax
 have BbH:Cal l.prog w K mg base 2 "_law_part" ["_law_k", "_law_cells", "_law_style"] [] (Jca K):=⟨f28,_,[],K28,PySem.W.mg_of X G a28,k28,b28, .nil⟩
 have K29:=Jfv (P:=l.prog) (w:=w) (base:=base) F29 T Bal BaP Bax
 have Bb1:Cal l.prog w K mg base 2 "_law_gap" ["_law_k", "_law_cells", "_law_style"] [] (Jcz K):=⟨f29,_,[],K29,PySem.W.mg_of X G a29,k29,b29, .nil⟩
 have K30:=JeA (P:=l.prog) (w:=w) (base:=base) F30 T
 have Bay:Cal l.prog w K mg base 1 "_law_with" ["_law_thing", "_law_at", "_law_part_here"] [] (Jcb K):=⟨f30,_,[],K30,PySem.W.mg_of X G a30,k30,b30, .nil⟩
 have K31:=Jdb (P:=l.prog) (w:=w) (base:=base) F31 T Bay
 have BaH:Cal l.prog w K mg base 2 "_law_spoiled" ["_law_thing", "_law_way"] [] (Jbx K):=⟨f31,_,[],K31,PySem.W.mg_of X G a31,k31,b31, .nil⟩
 have K32:=JdH (P:=l.prog) (w:=w) (base:=base) F32 T
 have Bbj:Cal l.prog w K mg base 1 "_law_joined" ["_law_marks", "_law_one", "_law_other"] [] (JbK K):=⟨f32,_,[],K32,PySem.W.mg_of X G a32,k32,b32, .nil⟩
 have K33:=Jfu (P:=l.prog) (w:=w) (base:=base) F33 T Bbj
 have Bb2:Cal l.prog w K mg base 2 "_law_due" ["_law_parts", "_law_gaps"] [] (Jcy K):=⟨f33,_,[],K33,PySem.W.mg_of X G a33,k33,b33, .nil⟩
 have K34:=Jex (P:=l.prog) (w:=w) (base:=base) F34 T Bcv
 have BbI:Cal l.prog w K mg base 11 "_law_made" ["_law_parts", "_law_gaps"] [] (Jb9 K ⟨SlackError,NoTie,NoName,NoFace,Impossible,NoNumber,Tight,Off,NoRow,NoPart,Twice,InRing,NoGap,Apart,Part,Gap,Joints,Thing,(.str "abcdefghijklmnopqrstuvwxyz" Baa),(.int 8 Bab),ZERO⟩):=⟨f34,_,[],K34,PySem.W.mg_of X G a34,k34,b34, .nil⟩
 have K35:=Jec (P:=l.prog) (w:=w) (base:=base) F35 T Baf BbH Bb1 BaH
 have Bbq:Cal l.prog w K mg base 3 "_law_drawn" ["_law_script", "_law_style"] [] (JbQ K):=⟨f35,_,[],K35,PySem.W.mg_of X G a35,k35,b35, .nil⟩
 exact JiC F36 T Baf Bbq Bb2 BbI Bb3 Bcq
theorem walk {l:PySem.W.OpenLaw} {q:Program} {loose:List Str} {XP:(Str→Option Value)→Heap→Prop} {YP:World→Heap→Prop} {d:DefRec} {K:Params→PySem.W.Frag} (hn:l.most = some 63) (hdf:d.params.defaults = [])
  (hY:∀ (w:World) (h:Heap),YP w h→(K w.params).In h)
  (F:∀ (w:World) (mg:Str→Option Value) (fa:Addr) (h:Heap),(K w.params).In h→h.Ns mainGlobals mg→mg d.name = some (.ref fa) →
   ∃ fd:FuncData,(∀ (s:Shared) (u:Value),BindsTo s fd ⟨[u],[]⟩ [("_law_script",u)])∧∀ base:Heap,(K w.params).In base→base.Ns mainGlobals mg→FnOk l.prog w (K w.params) mg base (CX1 l.prog w) 12 fa fd ["_law_script"] (Bco (K w.params))) :
  PySem.W.WalkO q loose XP YP l.row.toRowW d [] (fun f vs => PySem.call f vs) :=
 L2.JgD (n:=63) (k:=12) (x:="_law_script") (CX:=fun w => CX1 l.prog w) (sp:=fun w => Bco (K w.params)) hn (by decide) hdf ⟨rfl,by decide,by decide⟩ hY F (fun _ _ a ns hl _ hS => ⟨a,ns,rfl,hS,hl,fun _ => rfl⟩) fun _ _ _ _ _ z => by
  obtain ⟨_,_,_,_,_,_,_,_,_,_,_,z⟩:=z
  exact z
end Prg
open PySem PySem.W PyProof.Rows
def PySem.W.Fast.tw10062843760052603648 : Nat := 0
def PySem.W.Fast.tw10089565710246132264 : Nat := 0
def PySem.W.Fast.tw10097434284757186156 : Nat := 0
def PySem.W.Fast.tw1013704769513018762 : Nat := 0
def PySem.W.Fast.tw10160258009616811553 : Nat := 0
def PySem.W.Fast.tw10256273907520451186 : Nat := 0
def PySem.W.Fast.tw1031953951162520287 : Nat := 0
def PySem.W.Fast.tw1032867683205096117 : Nat := 0
def PySem.W.Fast.tw10330306464374207452 : Nat := 0
def PySem.W.Fast.tw10359926274591058654 : Nat := 0
def PySem.W.Fast.tw10367864278004263314 : Nat := 0
def PySem.W.Fast.tw10412552125178755484 : Nat := 0
def PySem.W.Fast.tw10424471854411470940 : Nat := 0
def PySem.W.Fast.tw10435927062596969433 : Nat := 0
def PySem.W.Fast.tw10488882251875430318 : Nat := 0
def PySem.W.Fast.tw10625517290994641176 : Nat := 0
def PySem.W.Fast.tw10687989844380055270 : Nat := 0
def PySem.W.Fast.tw10782460865451299479 : Nat := 0
def PySem.W.Fast.tw1081646666458827963 : Nat := 0
def PySem.W.Fast.tw108260058025729068 : Nat := 0
def PySem.W.Fast.tw10829486272353618337 : Nat := 0
def PySem.W.Fast.tw10850260423242616614 : Nat := 0
def PySem.W.Fast.tw10888842578747854827 : Nat := 0
def PySem.W.Fast.tw10914958823738485957 : Nat := 0
def PySem.W.Fast.tw10918736854112321610 : Nat := 0
def PySem.W.Fast.tw10919742907200632645 : Nat := 0
def PySem.W.Fast.tw10955661123221959202 : Nat := 0
def PySem.W.Fast.tw10959804650130833713 : Nat := 0
def PySem.W.Fast.tw10980893913425564207 : Nat := 0
def PySem.W.Fast.tw10985229397346664009 : Nat := 0
def PySem.W.Fast.tw11099513868461682127 : Nat := 0
def PySem.W.Fast.tw11118521649102852193 : Nat := 0
def PySem.W.Fast.tw11133175226592994299 : Nat := 0
def PySem.W.Fast.tw11156076409808423428 : Nat := 0
def PySem.W.Fast.tw11175734991416437168 : Nat := 0
def PySem.W.Fast.tw11191076827391229117 : Nat := 0
def PySem.W.Fast.tw11303181149511716421 : Nat := 0
def PySem.W.Fast.tw11316352339915592705 : Nat := 0
def PySem.W.Fast.tw11345681298478676018 : Nat := 0
def PySem.W.Fast.tw11351808327742547975 : Nat := 0
def PySem.W.Fast.tw11370661451642232992 : Nat := 0
def PySem.W.Fast.tw11382335006219556242 : Nat := 0
def PySem.W.Fast.tw11382729551079703932 : Nat := 0
def PySem.W.Fast.tw11388522056283988237 : Nat := 0
def PySem.W.Fast.tw11388686970662735670 : Nat := 0
def PySem.W.Fast.tw11421950530158358896 : Nat := 0
def PySem.W.Fast.tw11463057915072542054 : Nat := 0
def PySem.W.Fast.tw11487472925474032199 : Nat := 0
def PySem.W.Fast.tw11507531748518137610 : Nat := 0
def PySem.W.Fast.tw11513670217642243916 : Nat := 0
def PySem.W.Fast.tw1159278503268474200 : Nat := 0
def PySem.W.Fast.tw11625971049274388744 : Nat := 0
def PySem.W.Fast.tw11644022379973515001 : Nat := 0
def PySem.W.Fast.tw11649960269704372350 : Nat := 0
def PySem.W.Fast.tw11652870909077231133 : Nat := 0
def PySem.W.Fast.tw11684643403105406201 : Nat := 0
def PySem.W.Fast.tw11688263867079184911 : Nat := 0
def PySem.W.Fast.tw11727126257503633124 : Nat := 0
def PySem.W.Fast.tw11728543262063227999 : Nat := 0
def PySem.W.Fast.tw11753132331578643811 : Nat := 0
def PySem.W.Fast.tw11753231265231704107 : Nat := 0
def PySem.W.Fast.tw11771903588556591640 : Nat := 0
def PySem.W.Fast.tw1178447634473173652 : Nat := 0
def PySem.W.Fast.tw11814177070979879626 : Nat := 0
def PySem.W.Fast.tw11816862100783780090 : Nat := 0
def PySem.W.Fast.tw11836303523747169148 : Nat := 0
def PySem.W.Fast.tw11866480513004457051 : Nat := 0
def PySem.W.Fast.tw11869768066294250031 : Nat := 0
def PySem.W.Fast.tw11888382965713462216 : Nat := 0
def PySem.W.Fast.tw11888810086798036219 : Nat := 0
def PySem.W.Fast.tw11951717868685199900 : Nat := 0
def PySem.W.Fast.tw1200717023583223460 : Nat := 0
def PySem.W.Fast.tw12018996750759514168 : Nat := 0
def PySem.W.Fast.tw12047200078748926651 : Nat := 0
def PySem.W.Fast.tw12116911732671030125 : Nat := 0
def PySem.W.Fast.tw12119525571000466250 : Nat := 0
def PySem.W.Fast.tw12252127610600384130 : Nat := 0
def PySem.W.Fast.tw12315211788671181281 : Nat := 0
def PySem.W.Fast.tw12326798831090410541 : Nat := 0
def PySem.W.Fast.tw12334254875829058402 : Nat := 0
def PySem.W.Fast.tw12337692178609474333 : Nat := 0
def PySem.W.Fast.tw12397068741148697027 : Nat := 0
def PySem.W.Fast.tw12421763573274863585 : Nat := 0
def PySem.W.Fast.tw12478628285603033830 : Nat := 0
def PySem.W.Fast.tw124858580696519470 : Nat := 0
def PySem.W.Fast.tw12491809282646929590 : Nat := 0
def PySem.W.Fast.tw12496225320576195425 : Nat := 0
def PySem.W.Fast.tw12505431684884796839 : Nat := 0
def PySem.W.Fast.tw1251630237813420334 : Nat := 0
def PySem.W.Fast.tw12561871632067138636 : Nat := 0
def PySem.W.Fast.tw12625513110322722561 : Nat := 0
def PySem.W.Fast.tw12718503770151896450 : Nat := 0
def PySem.W.Fast.tw12726259870788418579 : Nat := 0
def PySem.W.Fast.tw12745478646936601036 : Nat := 0
def PySem.W.Fast.tw12789131851025198250 : Nat := 0
def PySem.W.Fast.tw12797322260336486119 : Nat := 0
def PySem.W.Fast.tw12828341000099147417 : Nat := 0
def PySem.W.Fast.tw12880505451889654971 : Nat := 0
def PySem.W.Fast.tw12902470393693133479 : Nat := 0
def PySem.W.Fast.tw12913081898400413985 : Nat := 0
def PySem.W.Fast.tw12963069888070425172 : Nat := 0
def PySem.W.Fast.tw12965987353912890032 : Nat := 0
def PySem.W.Fast.tw12992252201845668636 : Nat := 0
def PySem.W.Fast.tw12997813157065190120 : Nat := 0
def PySem.W.Fast.tw13042747688007209703 : Nat := 0
def PySem.W.Fast.tw13048437468918443582 : Nat := 0
def PySem.W.Fast.tw13067216586434697530 : Nat := 0
def PySem.W.Fast.tw13096519141945352430 : Nat := 0
def PySem.W.Fast.tw13113436971419592201 : Nat := 0
def PySem.W.Fast.tw13165174973027206887 : Nat := 0
def PySem.W.Fast.tw13182530259942167086 : Nat := 0
def PySem.W.Fast.tw13364585384174102698 : Nat := 0
def PySem.W.Fast.tw13392261770402205167 : Nat := 0
def PySem.W.Fast.tw13425368739302625187 : Nat := 0
def PySem.W.Fast.tw13428280364373579008 : Nat := 0
def PySem.W.Fast.tw13433641322289957014 : Nat := 0
def PySem.W.Fast.tw13468201737975892829 : Nat := 0
def PySem.W.Fast.tw134683763241333314 : Nat := 0
def PySem.W.Fast.tw13548034608030254927 : Nat := 0
def PySem.W.Fast.tw1355759792874257488 : Nat := 0
def PySem.W.Fast.tw13573167094581216672 : Nat := 0
def PySem.W.Fast.tw13610156940704806830 : Nat := 0
def PySem.W.Fast.tw1362112765346591010 : Nat := 0
def PySem.W.Fast.tw13653214929848217787 : Nat := 0
def PySem.W.Fast.tw13726589208951056093 : Nat := 0
def PySem.W.Fast.tw13727367744348218847 : Nat := 0
def PySem.W.Fast.tw137445901666234849 : Nat := 0
def PySem.W.Fast.tw1375298775114728337 : Nat := 0
def PySem.W.Fast.tw13801632160733836041 : Nat := 0
def PySem.W.Fast.tw13816357599653939969 : Nat := 0
def PySem.W.Fast.tw13857297442597023124 : Nat := 0
def PySem.W.Fast.tw13858559521199215089 : Nat := 0
def PySem.W.Fast.tw13916168531193849487 : Nat := 0
def PySem.W.Fast.tw1393699932835496343 : Nat := 0
def PySem.W.Fast.tw13994536594606663876 : Nat := 0
def PySem.W.Fast.tw14042417261930197067 : Nat := 0
def PySem.W.Fast.tw14086805069325171896 : Nat := 0
def PySem.W.Fast.tw14098171614757047555 : Nat := 0
def PySem.W.Fast.tw14137190957146682502 : Nat := 0
def PySem.W.Fast.tw14164101342088175869 : Nat := 0
def PySem.W.Fast.tw1417589012499391088 : Nat := 0
def PySem.W.Fast.tw14183641218726215020 : Nat := 0
def PySem.W.Fast.tw14195936176021699626 : Nat := 0
def PySem.W.Fast.tw14237416945910493970 : Nat := 0
def PySem.W.Fast.tw14253539994420736814 : Nat := 0
def PySem.W.Fast.tw1427973047019431097 : Nat := 0
def PySem.W.Fast.tw14291472169033429768 : Nat := 0
def PySem.W.Fast.tw14330198490249221127 : Nat := 0
def PySem.W.Fast.tw14332621608021805393 : Nat := 0
def PySem.W.Fast.tw14427103388622566904 : Nat := 0
def PySem.W.Fast.tw14481861302969626426 : Nat := 0
def PySem.W.Fast.tw14516499031417775087 : Nat := 0
def PySem.W.Fast.tw1452981204216897191 : Nat := 0
def PySem.W.Fast.tw14560816944592502934 : Nat := 0
def PySem.W.Fast.tw1456995255997693428 : Nat := 0
def PySem.W.Fast.tw14597906916859647652 : Nat := 0
def PySem.W.Fast.tw1460016490260456951 : Nat := 0
def PySem.W.Fast.tw14637374492664682082 : Nat := 0
def PySem.W.Fast.tw14642565679475134118 : Nat := 0
def PySem.W.Fast.tw14673051234362367010 : Nat := 0
def PySem.W.Fast.tw14699267160113018325 : Nat := 0
def PySem.W.Fast.tw14721660531401712135 : Nat := 0
def PySem.W.Fast.tw14865282627532872547 : Nat := 0
def PySem.W.Fast.tw14964310425716453341 : Nat := 0
def PySem.W.Fast.tw14977723743716317523 : Nat := 0
def PySem.W.Fast.tw14993444955784233906 : Nat := 0
def PySem.W.Fast.tw15002444477942008797 : Nat := 0
def PySem.W.Fast.tw15006949899627710802 : Nat := 0
def PySem.W.Fast.tw1501671622350939973 : Nat := 0
def PySem.W.Fast.tw15021114843447860478 : Nat := 0
def PySem.W.Fast.tw15033215798548713041 : Nat := 0
def PySem.W.Fast.tw1503732244042278455 : Nat := 0
def PySem.W.Fast.tw15079148943075754806 : Nat := 0
def PySem.W.Fast.tw15086740540453766094 : Nat := 0
def PySem.W.Fast.tw15088811335226744325 : Nat := 0
def PySem.W.Fast.tw15212173963975680832 : Nat := 0
def PySem.W.Fast.tw15250333643666119738 : Nat := 0
def PySem.W.Fast.tw15261360263491348782 : Nat := 0
def PySem.W.Fast.tw15311503828437539704 : Nat := 0
def PySem.W.Fast.tw15323902090258229051 : Nat := 0
def PySem.W.Fast.tw15378199845074364386 : Nat := 0
def PySem.W.Fast.tw15387150254966210046 : Nat := 0
def PySem.W.Fast.tw15500526327320301220 : Nat := 0
def PySem.W.Fast.tw15524381877196284823 : Nat := 0
def PySem.W.Fast.tw15529880342092669297 : Nat := 0
def PySem.W.Fast.tw15546071441490420143 : Nat := 0
def PySem.W.Fast.tw15586958672437814670 : Nat := 0
def PySem.W.Fast.tw15619701418284974565 : Nat := 0
def PySem.W.Fast.tw15692099626104948535 : Nat := 0
def PySem.W.Fast.tw15712553646096057295 : Nat := 0
def PySem.W.Fast.tw15748133839704665755 : Nat := 0
def PySem.W.Fast.tw15799102552134399242 : Nat := 0
def PySem.W.Fast.tw15893289692526128114 : Nat := 0
def PySem.W.Fast.tw15912482159991759159 : Nat := 0
def PySem.W.Fast.tw15922044455389227910 : Nat := 0
def PySem.W.Fast.tw15925338198634924440 : Nat := 0
def PySem.W.Fast.tw15931076091509875951 : Nat := 0
def PySem.W.Fast.tw15988027725956636272 : Nat := 0
def PySem.W.Fast.tw16094820125388538221 : Nat := 0
def PySem.W.Fast.tw16194528051372458821 : Nat := 0
def PySem.W.Fast.tw16206748600295169457 : Nat := 0
def PySem.W.Fast.tw16219227499324558726 : Nat := 0
def PySem.W.Fast.tw16228135873149371045 : Nat := 0
def PySem.W.Fast.tw16262364545556237759 : Nat := 0
def PySem.W.Fast.tw16287991667086812563 : Nat := 0
def PySem.W.Fast.tw16330339563828040507 : Nat := 0
def PySem.W.Fast.tw16332698830801517653 : Nat := 0
def PySem.W.Fast.tw16385168732394344988 : Nat := 0
def PySem.W.Fast.tw16412789584630657306 : Nat := 0
def PySem.W.Fast.tw16426123942094334323 : Nat := 0
def PySem.W.Fast.tw16430864848771288226 : Nat := 0
def PySem.W.Fast.tw1648352881306256335 : Nat := 0
def PySem.W.Fast.tw16487443974431881186 : Nat := 0
def PySem.W.Fast.tw16513300208063612739 : Nat := 0
def PySem.W.Fast.tw16543721844587391320 : Nat := 0
def PySem.W.Fast.tw16586776236970025081 : Nat := 0
def PySem.W.Fast.tw16686101938506347731 : Nat := 0
def PySem.W.Fast.tw16824582257898771519 : Nat := 0
def PySem.W.Fast.tw16907444010013099130 : Nat := 0
def PySem.W.Fast.tw16907486371076303706 : Nat := 0
def PySem.W.Fast.tw16912220145606206084 : Nat := 0
def PySem.W.Fast.tw1693092860184869882 : Nat := 0
def PySem.W.Fast.tw17035913681213556299 : Nat := 0
def PySem.W.Fast.tw17036174776882175871 : Nat := 0
def PySem.W.Fast.tw17039374324333686120 : Nat := 0
def PySem.W.Fast.tw17115372822052070870 : Nat := 0
def PySem.W.Fast.tw17144398147776986171 : Nat := 0
def PySem.W.Fast.tw17159391973440761090 : Nat := 0
def PySem.W.Fast.tw17165719075125151656 : Nat := 0
def PySem.W.Fast.tw17170696748794671707 : Nat := 0
def PySem.W.Fast.tw17181087119027103350 : Nat := 0
def PySem.W.Fast.tw17197649014466116252 : Nat := 0
def PySem.W.Fast.tw17233630651266051500 : Nat := 0
def PySem.W.Fast.tw17263377047021064581 : Nat := 0
def PySem.W.Fast.tw17268603981497268257 : Nat := 0
def PySem.W.Fast.tw17319595561902238342 : Nat := 0
def PySem.W.Fast.tw17432407669629338953 : Nat := 0
def PySem.W.Fast.tw17434081171995163515 : Nat := 0
def PySem.W.Fast.tw17461505047615887827 : Nat := 0
def PySem.W.Fast.tw17475283497448968068 : Nat := 0
def PySem.W.Fast.tw17487331210540297471 : Nat := 0
def PySem.W.Fast.tw17519883730885623729 : Nat := 0
def PySem.W.Fast.tw17572768058226590803 : Nat := 0
def PySem.W.Fast.tw17577221565595988294 : Nat := 0
def PySem.W.Fast.tw17577995068698865215 : Nat := 0
def PySem.W.Fast.tw17597935202334722869 : Nat := 0
def PySem.W.Fast.tw17612745372198697138 : Nat := 0
def PySem.W.Fast.tw17698794917400213650 : Nat := 0
def PySem.W.Fast.tw17707150561846466238 : Nat := 0
def PySem.W.Fast.tw17735702535771704913 : Nat := 0
def PySem.W.Fast.tw17754906564292001182 : Nat := 0
def PySem.W.Fast.tw17780640571778139167 : Nat := 0
def PySem.W.Fast.tw1783244470806388606 : Nat := 0
def PySem.W.Fast.tw17884986318482369801 : Nat := 0
def PySem.W.Fast.tw17900949429220559655 : Nat := 0
def PySem.W.Fast.tw17928794359407449864 : Nat := 0
def PySem.W.Fast.tw17943716333073523764 : Nat := 0
def PySem.W.Fast.tw17984952498954896291 : Nat := 0
def PySem.W.Fast.tw1800768140699892585 : Nat := 0
def PySem.W.Fast.tw18011241162335278986 : Nat := 0
def PySem.W.Fast.tw18098566436446634617 : Nat := 0
def PySem.W.Fast.tw18102597240278107856 : Nat := 0
def PySem.W.Fast.tw18133621452965291257 : Nat := 0
def PySem.W.Fast.tw18137527105604031103 : Nat := 0
def PySem.W.Fast.tw18186826508526197774 : Nat := 0
def PySem.W.Fast.tw18216637483364659029 : Nat := 0
def PySem.W.Fast.tw18277268044615451673 : Nat := 0
def PySem.W.Fast.tw18295677277186551168 : Nat := 0
def PySem.W.Fast.tw18337287093373509606 : Nat := 0
def PySem.W.Fast.tw1837576244344980299 : Nat := 0
def PySem.W.Fast.tw18400556473232580230 : Nat := 0
def PySem.W.Fast.tw18432553806762730584 : Nat := 0
def PySem.W.Fast.tw1848752915486489315 : Nat := 0
def PySem.W.Fast.tw1856143902671490073 : Nat := 0
def PySem.W.Fast.tw188250267647477776 : Nat := 0
def PySem.W.Fast.tw1926160927937639984 : Nat := 0
def PySem.W.Fast.tw2048651866920233741 : Nat := 0
def PySem.W.Fast.tw2073774779308824811 : Nat := 0
def PySem.W.Fast.tw2077676192393518999 : Nat := 0
def PySem.W.Fast.tw2077931157706041492 : Nat := 0
def PySem.W.Fast.tw2082712870729654496 : Nat := 0
def PySem.W.Fast.tw2137987843802124408 : Nat := 0
def PySem.W.Fast.tw2193282016904128277 : Nat := 0
def PySem.W.Fast.tw2257988015748640247 : Nat := 0
def PySem.W.Fast.tw2263126498261140141 : Nat := 0
def PySem.W.Fast.tw2309175454253384601 : Nat := 0
def PySem.W.Fast.tw2309675538179081765 : Nat := 0
def PySem.W.Fast.tw2386277160124152748 : Nat := 0
def PySem.W.Fast.tw2402765568870465889 : Nat := 0
def PySem.W.Fast.tw2404405274544419085 : Nat := 0
def PySem.W.Fast.tw2404660199995070543 : Nat := 0
def PySem.W.Fast.tw2429010852472187386 : Nat := 0
def PySem.W.Fast.tw2447156465773027936 : Nat := 0
def PySem.W.Fast.tw2598159023993376995 : Nat := 0
def PySem.W.Fast.tw2649483847653814319 : Nat := 0
def PySem.W.Fast.tw2680348320358300403 : Nat := 0
def PySem.W.Fast.tw2707179126497691351 : Nat := 0
def PySem.W.Fast.tw2731225814128349510 : Nat := 0
def PySem.W.Fast.tw2787143719042016256 : Nat := 0
def PySem.W.Fast.tw2802794817047053564 : Nat := 0
def PySem.W.Fast.tw2837336229584004788 : Nat := 0
def PySem.W.Fast.tw2923741781901352714 : Nat := 0
def PySem.W.Fast.tw2929970469144542986 : Nat := 0
def PySem.W.Fast.tw2931100813401236482 : Nat := 0
def PySem.W.Fast.tw2948907163367964952 : Nat := 0
def PySem.W.Fast.tw2950928602318150452 : Nat := 0
def PySem.W.Fast.tw2976682491912613430 : Nat := 0
def PySem.W.Fast.tw3027198816726382274 : Nat := 0
def PySem.W.Fast.tw3057595670335106595 : Nat := 0
def PySem.W.Fast.tw3105037801102672767 : Nat := 0
def PySem.W.Fast.tw3133204638892828786 : Nat := 0
def PySem.W.Fast.tw3148411822930891372 : Nat := 0
def PySem.W.Fast.tw3171723709464071712 : Nat := 0
def PySem.W.Fast.tw320085087634791868 : Nat := 0
def PySem.W.Fast.tw3203885490573630593 : Nat := 0
def PySem.W.Fast.tw320874174379780557 : Nat := 0
def PySem.W.Fast.tw3232843232316862248 : Nat := 0
def PySem.W.Fast.tw3259826489976061529 : Nat := 0
def PySem.W.Fast.tw3274953467895555334 : Nat := 0
def PySem.W.Fast.tw3293682986560466998 : Nat := 0
def PySem.W.Fast.tw3314501750037930567 : Nat := 0
def PySem.W.Fast.tw3322096961096268385 : Nat := 0
def PySem.W.Fast.tw3339854548216285204 : Nat := 0
def PySem.W.Fast.tw3402216208114779718 : Nat := 0
def PySem.W.Fast.tw3418124325179928873 : Nat := 0
def PySem.W.Fast.tw3418944027385581285 : Nat := 0
def PySem.W.Fast.tw3429262562173534038 : Nat := 0
def PySem.W.Fast.tw343255935230234073 : Nat := 0
def PySem.W.Fast.tw3446530040865026046 : Nat := 0
def PySem.W.Fast.tw3484769129859630978 : Nat := 0
def PySem.W.Fast.tw349295017139511603 : Nat := 0
def PySem.W.Fast.tw3512506918155559575 : Nat := 0
def PySem.W.Fast.tw3518964666847758686 : Nat := 0
def PySem.W.Fast.tw3527007688262391742 : Nat := 0
def PySem.W.Fast.tw3533448903068902727 : Nat := 0
def PySem.W.Fast.tw3569763527214316818 : Nat := 0
def PySem.W.Fast.tw3589441145356531086 : Nat := 0
def PySem.W.Fast.tw3638555166807117846 : Nat := 0
def PySem.W.Fast.tw3650428396677843871 : Nat := 0
def PySem.W.Fast.tw3709137886684944796 : Nat := 0
def PySem.W.Fast.tw3721396123894899942 : Nat := 0
def PySem.W.Fast.tw3739781658475708842 : Nat := 0
def PySem.W.Fast.tw3761482833207553243 : Nat := 0
def PySem.W.Fast.tw3771238448808834808 : Nat := 0
def PySem.W.Fast.tw3785265926065762958 : Nat := 0
def PySem.W.Fast.tw3792195508649785782 : Nat := 0
def PySem.W.Fast.tw3857922733912494431 : Nat := 0
def PySem.W.Fast.tw3919996857165778934 : Nat := 0
def PySem.W.Fast.tw3990058991434285014 : Nat := 0
def PySem.W.Fast.tw4027753977447797010 : Nat := 0
def PySem.W.Fast.tw4060223953208344517 : Nat := 0
def PySem.W.Fast.tw4100283136257030205 : Nat := 0
def PySem.W.Fast.tw411291915204134257 : Nat := 0
def PySem.W.Fast.tw4151228217185717296 : Nat := 0
def PySem.W.Fast.tw4156211774778934073 : Nat := 0
def PySem.W.Fast.tw4237299111861939341 : Nat := 0
def PySem.W.Fast.tw4241301065832910156 : Nat := 0
def PySem.W.Fast.tw4247186347393722158 : Nat := 0
def PySem.W.Fast.tw426551774427197472 : Nat := 0
def PySem.W.Fast.tw4333567852621221618 : Nat := 0
def PySem.W.Fast.tw437666399478287631 : Nat := 0
def PySem.W.Fast.tw4381790551799883788 : Nat := 0
def PySem.W.Fast.tw4384366093973237190 : Nat := 0
def PySem.W.Fast.tw4396869481139449095 : Nat := 0
def PySem.W.Fast.tw4401563541466282166 : Nat := 0
def PySem.W.Fast.tw4418417516189655778 : Nat := 0
def PySem.W.Fast.tw4453823362595312453 : Nat := 0
def PySem.W.Fast.tw4598869836832925263 : Nat := 0
def PySem.W.Fast.tw4602714845222051817 : Nat := 0
def PySem.W.Fast.tw4616697731802413180 : Nat := 0
def PySem.W.Fast.tw4648574244186132828 : Nat := 0
def PySem.W.Fast.tw4653210412007182698 : Nat := 0
def PySem.W.Fast.tw4654776325392457511 : Nat := 0
def PySem.W.Fast.tw4673940240652605388 : Nat := 0
def PySem.W.Fast.tw4690016834916415829 : Nat := 0
def PySem.W.Fast.tw4709624485594323938 : Nat := 0
def PySem.W.Fast.tw4737867299690999221 : Nat := 0
def PySem.W.Fast.tw4740678413204487175 : Nat := 0
def PySem.W.Fast.tw476688661093600522 : Nat := 0
def PySem.W.Fast.tw4772145183308615015 : Nat := 0
def PySem.W.Fast.tw4807184184901698209 : Nat := 0
def PySem.W.Fast.tw4843002891261126940 : Nat := 0
def PySem.W.Fast.tw4872272809965125432 : Nat := 0
def PySem.W.Fast.tw4887477558615844976 : Nat := 0
def PySem.W.Fast.tw4892092298188597643 : Nat := 0
def PySem.W.Fast.tw4970945269725548356 : Nat := 0
def PySem.W.Fast.tw5000411603200680819 : Nat := 0
def PySem.W.Fast.tw5009713626807364603 : Nat := 0
def PySem.W.Fast.tw5041819848420295797 : Nat := 0
def PySem.W.Fast.tw5055543804248490418 : Nat := 0
def PySem.W.Fast.tw5058091128147325859 : Nat := 0
def PySem.W.Fast.tw5060946920573509031 : Nat := 0
def PySem.W.Fast.tw5061189523237417961 : Nat := 0
def PySem.W.Fast.tw5063212964094554017 : Nat := 0
def PySem.W.Fast.tw5100417722275898195 : Nat := 0
def PySem.W.Fast.tw5122599227824390751 : Nat := 0
def PySem.W.Fast.tw5196241097594101277 : Nat := 0
def PySem.W.Fast.tw5214961371461391122 : Nat := 0
def PySem.W.Fast.tw5255198539522733876 : Nat := 0
def PySem.W.Fast.tw5259776996155191451 : Nat := 0
def PySem.W.Fast.tw5295008154365478046 : Nat := 0
def PySem.W.Fast.tw5327041708597833039 : Nat := 0
def PySem.W.Fast.tw5390078828661835290 : Nat := 0
def PySem.W.Fast.tw5390553647371371116 : Nat := 0
def PySem.W.Fast.tw539095391991074937 : Nat := 0
def PySem.W.Fast.tw5505445083182644869 : Nat := 0
def PySem.W.Fast.tw5524842488376183608 : Nat := 0
def PySem.W.Fast.tw552985753117638996 : Nat := 0
def PySem.W.Fast.tw5535253535339606951 : Nat := 0
def PySem.W.Fast.tw5544743684546410889 : Nat := 0
def PySem.W.Fast.tw5570658332271383937 : Nat := 0
def PySem.W.Fast.tw5576512122064022663 : Nat := 0
def PySem.W.Fast.tw55868661301249453 : Nat := 0
def PySem.W.Fast.tw5599996464671482815 : Nat := 0
def PySem.W.Fast.tw5602472714793378491 : Nat := 0
def PySem.W.Fast.tw5615468400547857596 : Nat := 0
def PySem.W.Fast.tw5639729485084067143 : Nat := 0
def PySem.W.Fast.tw5645829674036634001 : Nat := 0
def PySem.W.Fast.tw5749296477243675239 : Nat := 0
def PySem.W.Fast.tw5791317321022053982 : Nat := 0
def PySem.W.Fast.tw5817033843517985617 : Nat := 0
def PySem.W.Fast.tw5827392213458152757 : Nat := 0
def PySem.W.Fast.tw5933090743121315169 : Nat := 0
def PySem.W.Fast.tw5990240688433231061 : Nat := 0
def PySem.W.Fast.tw6145224196518281597 : Nat := 0
def PySem.W.Fast.tw6151712298995643336 : Nat := 0
def PySem.W.Fast.tw6214272878368181470 : Nat := 0
def PySem.W.Fast.tw6215688028788259285 : Nat := 0
def PySem.W.Fast.tw6236089361656761605 : Nat := 0
def PySem.W.Fast.tw6253894851959550524 : Nat := 0
def PySem.W.Fast.tw6280638784064478976 : Nat := 0
def PySem.W.Fast.tw6299377028352747655 : Nat := 0
def PySem.W.Fast.tw6352844766765231877 : Nat := 0
def PySem.W.Fast.tw6383997142812474342 : Nat := 0
def PySem.W.Fast.tw6413418343106737095 : Nat := 0
def PySem.W.Fast.tw6414386895727721214 : Nat := 0
def PySem.W.Fast.tw6472342775949365588 : Nat := 0
def PySem.W.Fast.tw6498396936924550434 : Nat := 0
def PySem.W.Fast.tw6508353074022634733 : Nat := 0
def PySem.W.Fast.tw6510782242157993589 : Nat := 0
def PySem.W.Fast.tw6527359685176435899 : Nat := 0
def PySem.W.Fast.tw6559980765652842723 : Nat := 0
def PySem.W.Fast.tw6619886719985652029 : Nat := 0
def PySem.W.Fast.tw662959178149761498 : Nat := 0
def PySem.W.Fast.tw6669102091838547357 : Nat := 0
def PySem.W.Fast.tw6730175952713751665 : Nat := 0
def PySem.W.Fast.tw6753766523519420572 : Nat := 0
def PySem.W.Fast.tw6790812885622237134 : Nat := 0
def PySem.W.Fast.tw679845840007010412 : Nat := 0
def PySem.W.Fast.tw6842162832445690401 : Nat := 0
def PySem.W.Fast.tw6873534616899813874 : Nat := 0
def PySem.W.Fast.tw691702383934837909 : Nat := 0
def PySem.W.Fast.tw695152175720566863 : Nat := 0
def PySem.W.Fast.tw6977156655734524240 : Nat := 0
def PySem.W.Fast.tw6979345087497635487 : Nat := 0
def PySem.W.Fast.tw6988161872154685824 : Nat := 0
def PySem.W.Fast.tw7000390396764704037 : Nat := 0
def PySem.W.Fast.tw7031048991218660757 : Nat := 0
def PySem.W.Fast.tw7076412397586199519 : Nat := 0
def PySem.W.Fast.tw7139516744519348017 : Nat := 0
def PySem.W.Fast.tw7139847752873090602 : Nat := 0
def PySem.W.Fast.tw718561630683509962 : Nat := 0
def PySem.W.Fast.tw7209213641377792980 : Nat := 0
def PySem.W.Fast.tw7242873221822844042 : Nat := 0
def PySem.W.Fast.tw7265148164792681831 : Nat := 0
def PySem.W.Fast.tw7289403123551695333 : Nat := 0
def PySem.W.Fast.tw7300578822185293906 : Nat := 0
def PySem.W.Fast.tw732902058728055963 : Nat := 0
def PySem.W.Fast.tw7339515520454725266 : Nat := 0
def PySem.W.Fast.tw7357098567116909905 : Nat := 0
def PySem.W.Fast.tw7422359613692527254 : Nat := 0
def PySem.W.Fast.tw7479707276672117428 : Nat := 0
def PySem.W.Fast.tw7498714241933675236 : Nat := 0
def PySem.W.Fast.tw755916980479907398 : Nat := 0
def PySem.W.Fast.tw757219084608156320 : Nat := 0
def PySem.W.Fast.tw7700530511551434993 : Nat := 0
def PySem.W.Fast.tw7713471487346767862 : Nat := 0
def PySem.W.Fast.tw7788223231418869654 : Nat := 0
def PySem.W.Fast.tw8000674187885476388 : Nat := 0
def PySem.W.Fast.tw8013815354043450840 : Nat := 0
def PySem.W.Fast.tw8083534262172944198 : Nat := 0
def PySem.W.Fast.tw8109709659530923083 : Nat := 0
def PySem.W.Fast.tw8138256970054031804 : Nat := 0
def PySem.W.Fast.tw8156946485115263496 : Nat := 0
def PySem.W.Fast.tw8163280355834402017 : Nat := 0
def PySem.W.Fast.tw8209754438563863428 : Nat := 0
def PySem.W.Fast.tw8269479701727003040 : Nat := 0
def PySem.W.Fast.tw8280107049539713636 : Nat := 0
def PySem.W.Fast.tw8286005385438578872 : Nat := 0
def PySem.W.Fast.tw8311386208908861223 : Nat := 0
def PySem.W.Fast.tw8328883252129156881 : Nat := 0
def PySem.W.Fast.tw8388337527756195423 : Nat := 0
def PySem.W.Fast.tw8389144513651956945 : Nat := 0
def PySem.W.Fast.tw8409051973172322779 : Nat := 0
def PySem.W.Fast.tw8411524236661444409 : Nat := 0
def PySem.W.Fast.tw8418744733522454761 : Nat := 0
def PySem.W.Fast.tw8527908833561961008 : Nat := 0
def PySem.W.Fast.tw8552461865041131542 : Nat := 0
def PySem.W.Fast.tw8570908767542819601 : Nat := 0
def PySem.W.Fast.tw8621553652611090371 : Nat := 0
def PySem.W.Fast.tw8662744149838684615 : Nat := 0
def PySem.W.Fast.tw8683879662786446807 : Nat := 0
def PySem.W.Fast.tw880352621480245919 : Nat := 0
def PySem.W.Fast.tw8979329630939296381 : Nat := 0
def PySem.W.Fast.tw8990564236390186316 : Nat := 0
def PySem.W.Fast.tw9017640266547417619 : Nat := 0
def PySem.W.Fast.tw9046189804902368613 : Nat := 0
def PySem.W.Fast.tw9094771270752168315 : Nat := 0
def PySem.W.Fast.tw9115357415980771494 : Nat := 0
def PySem.W.Fast.tw9127416924729142859 : Nat := 0
def PySem.W.Fast.tw9130955196339486067 : Nat := 0
def PySem.W.Fast.tw9186565064368641893 : Nat := 0
def PySem.W.Fast.tw9247135695873587759 : Nat := 0
def PySem.W.Fast.tw9279553354916300540 : Nat := 0
def PySem.W.Fast.tw9290887548965082217 : Nat := 0
def PySem.W.Fast.tw9356695713971917743 : Nat := 0
def PySem.W.Fast.tw9363432294354682230 : Nat := 0
def PySem.W.Fast.tw9363584743791654607 : Nat := 0
def PySem.W.Fast.tw9406216364067731774 : Nat := 0
def PySem.W.Fast.tw9422451342940012996 : Nat := 0
def PySem.W.Fast.tw9433981642510492771 : Nat := 0
def PySem.W.Fast.tw9441093692366198146 : Nat := 0
def PySem.W.Fast.tw945506748448152688 : Nat := 0
def PySem.W.Fast.tw94865294525377039 : Nat := 0
def PySem.W.Fast.tw9525869507595509970 : Nat := 0
def PySem.W.Fast.tw9539557223849631822 : Nat := 0
def PySem.W.Fast.tw9554097760220206903 : Nat := 0
def PySem.W.Fast.tw9563481138465234758 : Nat := 0
def PySem.W.Fast.tw9618643342356938040 : Nat := 0
def PySem.W.Fast.tw9631448756868611932 : Nat := 0
def PySem.W.Fast.tw9790320797537023076 : Nat := 0
def PySem.W.Fast.tw9805330337491753530 : Nat := 0
def PySem.W.Fast.tw9808065854235621424 : Nat := 0
def PySem.W.Fast.tw9834383475100250910 : Nat := 0
def PySem.W.Fast.tw9837549833374791160 : Nat := 0
def PySem.W.Fast.tw9883866921461973893 : Nat := 0
def PySem.W.Fast.tw9943816964896331074 : Nat := 0
def PySem.W.Fast.tw9948008203377068196 : Nat := 0
def PySem.W.Fast.tw9953510789585512429 : Nat := 0
def PySem.W.Fast.tw9957397251560046113 : Nat := 0
def PySem.W.Fast.tw9994451894686122854 : Nat := 0
set_option maxRecDepth 100000 in
set_option maxHeartbeats 0 in
theorem PySem.Challenge.cw_slackchain_k41_things_made_or_refused_holds : PySem.Challenge.rw_slackchain_k41_things_made_or_refused.Holds := by
 w_on; o_law; k_head; (case hw => w_witness2)
 k_fill
 refine Prg.walk (l:=PySem.Challenge.rw_slackchain_k41_things_made_or_refused) rfl rfl (fun w h Y => PySem.W.kIn_of Y) ?F
 case F =>
  intro w mg fa h KX G hmg
  refine' Prg.all_mk KX G hmg ?g_SlackError ?g_NoTie ?Bcg ?g_NoFace ?g_Impossible ?g_NoNumber ?g_Tight ?g_Off ?g_NoRow ?Bch ?Bcw ?Bci ?Bcx ?Bcy ?BcG ?BcV ?BbJ ?Bcj ?a1 ?l1 ?c1 ?k1 ?a2 ?l2 ?c2 ?k2 ?a3 ?l3 ?c3 ?k3 ?a4 ?l4 ?c4 ?k4 ?a5 ?l5 ?c5 ?k5 ?a6 ?l6 ?c6 ?k6 ?a7 ?l7 ?c7 ?k7 ?a8 ?l8 ?c8 ?k8 ?a9 ?l9 ?c9 ?k9 ?a10 ?l10 ?c10 ?k10 ?a11 ?l11 ?c11 ?k11 ?a12 ?l12 ?c12 ?k12 ?a13 ?l13 ?c13 ?k13 ?a14 ?l14 ?c14 ?k14 ?a15 ?l15 ?c15 ?k15 ?a16 ?l16 ?c16 ?k16 ?a17 ?l17 ?c17 ?k17 ?a18 ?l18 ?c18 ?k18 ?a19 ?l19 ?c19 ?k19 ?a20 ?l20 ?c20 ?k20 ?a21 ?l21 ?c21 ?k21 ?a22 ?l22 ?c22 ?k22 ?a23 ?l23 ?c23 ?k23 ?a24 ?l24 ?c24 ?k24 ?a25 ?l25 ?c25 ?k25 ?a26 ?l26 ?c26 ?k26 ?a27 ?l27 ?c27 ?k27 ?a28 ?l28 ?c28 ?k28 ?a29 ?l29 ?c29 ?k29 ?a30 ?l30 ?c30 ?k30 ?a31 ?l31 ?c31 ?k31 ?a32 ?l32 ?c32 ?k32 ?a33 ?l33 ?c33 ?k33 ?a34 ?l34 ?c34 ?k34 ?a35 ?l35 ?c35 ?k35 ?a36 ?l36 ?c36 ?k36 ?z_abs ?z_isinstance ?z_len ?z_int ?z_bool ?z_tuple ?z_str ?z_range ?z_list ?z_min ?z_all ?z_ValueError ?BaQ ?BaR ?BcL ?h_ZERO ?Bbr ?BbE ?Bbs ?BbM ?BbN ?Bcz ?BcA ?BcB ?BcC ?BcM ?BcN ?BcO ?BcP ?Bb4 ?Bb5 ?Bb6 ?Bb7 ?Bck ?Bcl ?Bcm ?Bcn ?Ba7 ?Ba8 ?Bbk ?Bbl ?BaS ?BaT ?Bam ?Ban ?BaU ?BaV ?Ba9 ?Bba ?Bbt ?Bbu ?Bbv ?Bbw ?Bbx ?Bby ?Bbz ?BbA ?BbB ?BbC ?BbO ?BbP ?BbQ ?BbR ?BbS ?BbT ?BbU ?BbV ?BbW ?BaW ?BaX ?BaY ?BaZ ?Ba0 ?Bbb ?Bbc ?Bbd ?Bbe ?Bbf ?Bbg ?Bbh ?y1 ?y2 ?y3 ?xc5 ?xc6 ?y4NoPart ?xc1NoPart ?xc2NoPart ?xc3NoPart ?xc4NoPart ?xc7NoPart ?xc8NoPart ?kNoPartNoPart ?kNoPartTwice ?kNoPartInRing ?kNoPartNoGap ?kNoPartApart ?kNoPartNoTie ?kNoPartNoName ?kNoPartNoFace ?kNoPartImpossible ?kNoPartNoNumber ?kNoPartTight ?kNoPartOff ?kNoPartNoRow ?kVNoPart ?y4Twice ?xc1Twice ?xc2Twice ?xc3Twice ?xc4Twice ?xc7Twice ?xc8Twice ?kTwiceNoPart ?kTwiceTwice ?kTwiceInRing ?kTwiceNoGap ?kTwiceApart ?kTwiceNoTie ?kTwiceNoName ?kTwiceNoFace ?kTwiceImpossible ?kTwiceNoNumber ?kTwiceTight ?kTwiceOff ?kTwiceNoRow ?kVTwice ?y4InRing ?xc1InRing ?xc2InRing ?xc3InRing ?xc4InRing ?xc7InRing ?xc8InRing ?kInRingNoPart ?kInRingTwice ?kInRingInRing ?kInRingNoGap ?kInRingApart ?kInRingNoTie ?kInRingNoName ?kInRingNoFace ?kInRingImpossible ?kInRingNoNumber ?kInRingTight ?kInRingOff ?kInRingNoRow ?kVInRing ?y4NoGap ?xc1NoGap ?xc2NoGap ?xc3NoGap ?xc4NoGap ?xc7NoGap ?xc8NoGap ?kNoGapNoPart ?kNoGapTwice ?kNoGapInRing ?kNoGapNoGap ?kNoGapApart ?kNoGapNoTie ?kNoGapNoName ?kNoGapNoFace ?kNoGapImpossible ?kNoGapNoNumber ?kNoGapTight ?kNoGapOff ?kNoGapNoRow ?kVNoGap ?y4Apart ?xc1Apart ?xc2Apart ?xc3Apart ?xc4Apart ?xc7Apart ?xc8Apart ?kApartNoPart ?kApartTwice ?kApartInRing ?kApartNoGap ?kApartApart ?kApartNoTie ?kApartNoName ?kApartNoFace ?kApartImpossible ?kApartNoNumber ?kApartTight ?kApartOff ?kApartNoRow ?kVApart
  (case g_SlackError => k_is)
  (case g_NoTie => k_is)
  (case Bcg => k_is)
  (case g_NoFace => k_is)
  (case g_Impossible => k_is)
  (case g_NoNumber => k_is)
  (case g_Tight => k_is)
  (case g_Off => k_is)
  (case g_NoRow => k_is)
  (case Bch => k_is)
  (case Bcw => k_is)
  (case Bci => k_is)
  (case Bcx => k_is)
  (case Bcy => k_is)
  (case BcG => k_is)
  (case BcV => k_is)
  (case BbJ => k_is)
  (case Bcj => k_is)
  (case a1 => k_is)
  (case l1 => k_is)
  (case c1 => k_is)
  (case k1 => k_is)
  (case a2 => k_is)
  (case l2 => k_is)
  (case c2 => k_is)
  (case k2 => k_is)
  (case a3 => k_is)
  (case l3 => k_is)
  (case c3 => k_is)
  (case k3 => k_is)
  (case a4 => k_is)
  (case l4 => k_is)
  (case c4 => k_is)
  (case k4 => k_is)
  (case a5 => k_is)
  (case l5 => k_is)
  (case c5 => k_is)
  (case k5 => k_is)
  (case a6 => k_is)
  (case l6 => k_is)
  (case c6 => k_is)
  (case k6 => k_is)
  (case a7 => k_is)
  (case l7 => k_is)
  (case c7 => k_is)
  (case k7 => k_is)
  (case a8 => k_is)
  (case l8 => k_is)
  (case c8 => k_is)
  (case k8 => k_is)
  (case a9 => k_is)
  (case l9 => k_is)
  (case c9 => k_is)
  (case k9 => k_is)
  (case a10 => k_is)
  (case l10 => k_is)
  (case c10 => k_is)
  (case k10 => k_is)
  (case a11 => k_is)
  (case l11 => k_is)
  (case c11 => k_is)
  (case k11 => k_is)
  (case a12 => k_is)
  (case l12 => k_is)
  (case c12 => k_is)
  (case k12 => k_is)
  (case a13 => k_is)
  (case l13 => k_is)
  (case c13 => k_is)
  (case k13 => k_is)
  (case a14 => k_is)
  (case l14 => k_is)
  (case c14 => k_is)
  (case k14 => k_is)
  (case a15 => k_is)
  (case l15 => k_is)
  (case c15 => k_is)
  (case k15 => k_is)
  (case a16 => k_is)
  (case l16 => k_is)
  (case c16 => k_is)
  (case k16 => k_is)
  (case a17 => k_is)
  (case l17 => k_is)
  (case c17 => k_is)
  (case k17 => k_is)
  (case a18 => k_is)
  (case l18 => k_is)
  (case c18 => k_is)
  (case k18 => k_is)
  (case a19 => k_is)
  (case l19 => k_is)
  (case c19 => k_is)
  (case k19 => k_is)
  (case a20 => k_is)
  (case l20 => k_is)
  (case c20 => k_is)
  (case k20 => k_is)
  (case a21 => k_is)
  (case l21 => k_is)
  (case c21 => k_is)
  (case k21 => k_is)
  (case a22 => k_is)
  (case l22 => k_is)
  (case c22 => k_is)
  (case k22 => k_is)
  (case a23 => k_is)
  (case l23 => k_is)
  (case c23 => k_is)
  (case k23 => k_is)
  (case a24 => k_is)
  (case l24 => k_is)
  (case c24 => k_is)
  (case k24 => k_is)
  (case a25 => k_is)
  (case l25 => k_is)
  (case c25 => k_is)
  (case k25 => k_is)
  (case a26 => k_is)
  (case l26 => k_is)
  (case c26 => k_is)
  (case k26 => k_is)
  (case a27 => k_is)
  (case l27 => k_is)
  (case c27 => k_is)
  (case k27 => k_is)
  (case a28 => k_is)
  (case l28 => k_is)
  (case c28 => k_is)
  (case k28 => k_is)
  (case a29 => k_is)
  (case l29 => k_is)
  (case c29 => k_is)
  (case k29 => k_is)
  (case a30 => k_is)
  (case l30 => k_is)
  (case c30 => k_is)
  (case k30 => k_is)
  (case a31 => k_is)
  (case l31 => k_is)
  (case c31 => k_is)
  (case k31 => k_is)
  (case a32 => k_is)
  (case l32 => k_is)
  (case c32 => k_is)
  (case k32 => k_is)
  (case a33 => k_is)
  (case l33 => k_is)
  (case c33 => k_is)
  (case k33 => k_is)
  (case a34 => k_is)
  (case l34 => k_is)
  (case c34 => k_is)
  (case k34 => k_is)
  (case a35 => k_is)
  (case l35 => k_is)
  (case c35 => k_is)
  (case k35 => k_is)
  (case a36 => k_is)
  (case l36 => k_is)
  (case c36 => k_is)
  (case k36 => k_is)
  (case z_abs => k_is)
  (case z_isinstance => k_is)
  (case z_len => k_is)
  (case z_int => k_is)
  (case z_bool => k_is)
  (case z_tuple => k_is)
  (case z_str => k_is)
  (case z_range => k_is)
  (case z_list => k_is)
  (case z_min => k_is)
  (case z_all => k_is)
  (case z_ValueError => k_is)
  (case BaQ => k_is)
  (case BaR => k_is)
  (case BcL => k_is)
  (case h_ZERO => k_is)
  (case Bbr => k_exc)
  (case BbE => k_exc)
  (case Bbs => k_exc)
  (case BbM => k_exc)
  (case BbN => k_exc)
  (case Bcz => k_is)
  (case BcA => k_is)
  (case BcB => k_is)
  (case BcC => k_is)
  (case BcM => k_is)
  (case BcN => k_is)
  (case BcO => k_is)
  (case BcP => k_is)
  (case Bb4 => k_is)
  (case Bb5 => k_is)
  (case Bb6 => k_is)
  (case Bb7 => k_is)
  (case Bck => k_is)
  (case Bcl => k_is)
  (case Bcm => k_is)
  (case Bcn => k_is)
  (case Ba7 => k_is)
  (case Ba8 => k_is)
  (case Bbk => k_is)
  (case Bbl => k_is)
  (case BaS => k_is)
  (case BaT => k_is)
  (case Bam => k_is)
  (case Ban => k_is)
  (case BaU => k_is)
  (case BaV => k_is)
  (case Ba9 => k_is)
  (case Bba => k_is)
  (case Bbt => k_is)
  (case Bbu => k_is)
  (case Bbv => k_is)
  (case Bbw => k_is)
  (case Bbx => k_is)
  (case Bby => k_is)
  (case Bbz => k_is)
  (case BbA => k_is)
  (case BbB => k_is)
  (case BbC => k_is)
  (case BbO => k_is)
  (case BbP => k_is)
  (case BbQ => k_is)
  (case BbR => k_is)
  (case BbS => k_is)
  (case BbT => k_is)
  (case BbU => k_is)
  (case BbV => k_is)
  (case BbW => k_is)
  (case BaW => k_is)
  (case BaX => k_is)
  (case BaY => k_is)
  (case BaZ => k_is)
  (case Ba0 => k_is)
  (case Bbb => k_is)
  (case Bbc => k_is)
  (case Bbd => k_is)
  (case Bbe => k_is)
  (case Bbf => k_is)
  (case Bbg => k_is)
  (case Bbh => k_is)
  (case y1 => k_is)
  (case y2 => k_is)
  (case y3 => k_is)
  (case xc5 => k_is)
  (case xc6 => k_is)
  (case y4NoPart => k_is)
  (case xc1NoPart => k_is)
  (case xc2NoPart => k_is)
  (case xc3NoPart => k_is)
  (case xc4NoPart => k_is)
  (case xc7NoPart => k_is)
  (case xc8NoPart => k_is)
  (case kNoPartNoPart => kit_is)
  (case kNoPartTwice => kit_is)
  (case kNoPartInRing => kit_is)
  (case kNoPartNoGap => kit_is)
  (case kNoPartApart => kit_is)
  (case kNoPartNoTie => kit_is)
  (case kNoPartNoName => kit_is)
  (case kNoPartNoFace => kit_is)
  (case kNoPartImpossible => kit_is)
  (case kNoPartNoNumber => kit_is)
  (case kNoPartTight => kit_is)
  (case kNoPartOff => kit_is)
  (case kNoPartNoRow => kit_is)
  (case kVNoPart => kit_is)
  (case y4Twice => k_is)
  (case xc1Twice => k_is)
  (case xc2Twice => k_is)
  (case xc3Twice => k_is)
  (case xc4Twice => k_is)
  (case xc7Twice => k_is)
  (case xc8Twice => k_is)
  (case kTwiceNoPart => kit_is)
  (case kTwiceTwice => kit_is)
  (case kTwiceInRing => kit_is)
  (case kTwiceNoGap => kit_is)
  (case kTwiceApart => kit_is)
  (case kTwiceNoTie => kit_is)
  (case kTwiceNoName => kit_is)
  (case kTwiceNoFace => kit_is)
  (case kTwiceImpossible => kit_is)
  (case kTwiceNoNumber => kit_is)
  (case kTwiceTight => kit_is)
  (case kTwiceOff => kit_is)
  (case kTwiceNoRow => kit_is)
  (case kVTwice => kit_is)
  (case y4InRing => k_is)
  (case xc1InRing => k_is)
  (case xc2InRing => k_is)
  (case xc3InRing => k_is)
  (case xc4InRing => k_is)
  (case xc7InRing => k_is)
  (case xc8InRing => k_is)
  (case kInRingNoPart => kit_is)
  (case kInRingTwice => kit_is)
  (case kInRingInRing => kit_is)
  (case kInRingNoGap => kit_is)
  (case kInRingApart => kit_is)
  (case kInRingNoTie => kit_is)
  (case kInRingNoName => kit_is)
  (case kInRingNoFace => kit_is)
  (case kInRingImpossible => kit_is)
  (case kInRingNoNumber => kit_is)
  (case kInRingTight => kit_is)
  (case kInRingOff => kit_is)
  (case kInRingNoRow => kit_is)
  (case kVInRing => kit_is)
  (case y4NoGap => k_is)
  (case xc1NoGap => k_is)
  (case xc2NoGap => k_is)
  (case xc3NoGap => k_is)
  (case xc4NoGap => k_is)
  (case xc7NoGap => k_is)
  (case xc8NoGap => k_is)
  (case kNoGapNoPart => kit_is)
  (case kNoGapTwice => kit_is)
  (case kNoGapInRing => kit_is)
  (case kNoGapNoGap => kit_is)
  (case kNoGapApart => kit_is)
  (case kNoGapNoTie => kit_is)
  (case kNoGapNoName => kit_is)
  (case kNoGapNoFace => kit_is)
  (case kNoGapImpossible => kit_is)
  (case kNoGapNoNumber => kit_is)
  (case kNoGapTight => kit_is)
  (case kNoGapOff => kit_is)
  (case kNoGapNoRow => kit_is)
  (case kVNoGap => kit_is)
  (case y4Apart => k_is)
  (case xc1Apart => k_is)
  (case xc2Apart => k_is)
  (case xc3Apart => k_is)
  (case xc4Apart => k_is)
  (case xc7Apart => k_is)
  (case xc8Apart => k_is)
  (case kApartNoPart => kit_is)
  (case kApartTwice => kit_is)
  (case kApartInRing => kit_is)
  (case kApartNoGap => kit_is)
  (case kApartApart => kit_is)
  (case kApartNoTie => kit_is)
  (case kApartNoName => kit_is)
  (case kApartNoFace => kit_is)
  (case kApartImpossible => kit_is)
  (case kApartNoNumber => kit_is)
  (case kApartTight => kit_is)
  (case kApartOff => kit_is)
  (case kApartNoRow => kit_is)
  (case kVApart => kit_is)
