import PyProof.Rows.All
import Wide.All
import OpenK.AllK
import Wide.FinOn
import Lean
import PyProof.EqAt
import PyProof.EqKinds
import PyProof.TupleCall
import PyProof.ZipIter
import PyProof.Rows.SetFrom
import PyProof.Rows.SortStr
import KE.KDictList
import PyProof.AttrMissHeap
import KE.KDictOf
import KE.KDictLaws
import KE.KRevIter
import PyProof.CollectIter
import PyProof.FactsAll.range_2
import PyProof.FactsAll.range_iterator_1
import PyProof.WalksEnum
import PyProof.EnumMake
import PyProof.Rows.Range3
import PySem.Challenge.RW_slackchain_k36_books_asked_between_deeds
set_option Elab.async false
set_option linter.all false
set_option maxRecDepth 100000
open List (mem_cons_self mem_cons_of_mem mem_cons mem_append mem_append_left mem_append_right length_cons map_cons length_map append_nil nodup_cons length_take length_append size_toArray any_cons length_singleton map_nil length_nil not_mem_nil foldl_cons eq_nil_of_length_eq_zero mem_singleton mem_map map_append foldl_append nodup_append map_map take_succ take_of_length_le mem_map_of_mem cons_append nil_append take_zero)
local macro_rules|`(tactic|ac_nf)=>`(tactic|first|lia|omega)
local macro_rules|`(⋯)=>`(by decide)
local macro_rules|`(∅)=>`(by ac_nf)
local macro_rules|`(tactic|subst_eqs)=>`(tactic|(intro _ _ _ _ h;(repeat obtain ⟨_,h⟩:=h);subst_vars;rfl))
namespace L2
open PySem PySem.Spec PyProof.Rows
abbrev Key:=Sum Bool Str
def isBoolOf:Bool->Value->Bool
 | b, .bool c=>b == c
 | _,_=>false
variable {b:Bool}
theorem Jes {v:Value} (h:isBoolOf b v=true):v=.bool b:=by
 cases v <;> simp_all [isBoolOf]
def keyIs:Key->Value->Bool
 | .inl k,v=>isBoolOf k v
 | .inr x,v=>Value.isStrOf x v
def keyH (w:World):Key->Int
 | .inl k=>hashInt (if k then 1 else 0)
 | .inr x=>hashStr w x
theorem JaN:∀ {k:Key} {v:Value},keyIs k v=true->(∃ i,k=Sum.inl i/\v=Value.bool i)\/(∃ x t,k=Sum.inr x/\v=Value.str x t)
 | .inl i,v,h=>.inl ⟨i,rfl,Jes h⟩
 | .inr x,v,h=>by
  obtain ⟨t,e⟩:=Value.isStrOf_shape (x:=x) (v:=v) h;exact .inr ⟨x,t,rfl,e⟩
theorem Jhx (i:Bool):keyIs (.inl i) (.bool i)=true:=by simp [keyIs,isBoolOf]
theorem Jir (x:Str) (t:Tok):keyIs (.inr x) (.str x t)=true:=by simp [keyIs,Value.isStrOf]
theorem JlG (a b:Bool):decide ((Sum.inl a:Key)=Sum.inl b)=(a == b):=by cases a <;> cases b <;> rfl
theorem JlJ (a b:Str):decide ((Sum.inr a:Key)=Sum.inr b)=decide (a=b):=by
 by_cases e:a=b
 ·subst e;simp
 ·have h:¬ (Sum.inr a:Key)=Sum.inr b:=fun q=>e (Sum.inr.inj q);rw [decide_eq_false h,decide_eq_false e]
theorem JlH (a:Bool) (b:Str):decide ((Sum.inl a:Key)=Sum.inr b)=false:=decide_eq_false (fun q=>nomatch q)
theorem JlI (a:Str) (b:Bool):decide ((Sum.inr a:Key)=Sum.inl b)=false:=decide_eq_false (fun q=>nomatch q)
variable {prog:Program} {w:World} {A:Around} {E:Value->Shared->Prop} {s:Shared}
theorem JgM {Q:Int->Shared->Prop} (h:Q (hashInt (if b then 1 else 0)) { s with toks:=s.toks+1 }) :
  wpAny (model prog w) A (pyHash (.bool b)) Q E s:=by
 have c:=rawHash_range (if b then 1 else 0);have a:s.TypeIs (.bool b) "bool":=rfl;unfold pyHash;have d:[Value.bool b].any Value.onHeap=false:=rfl;refine wpAny_bind ?_;rw [cRoomFor,if_neg (by rw [d];exact Bool.false_ne_true)];refine wpAny_pure ?_;refine wpAny_bind (wpAny_specialOf a F.slot_bool_hash.lookup ?_);show wpAny _ _ (if (some (Value.builtin "int.__hash__") == some Value.none)=true then _ else _) Q E s;rw [if_neg (by rw [beq_builtin_none];exact Bool.false_ne_true)];refine wpAny_bind (wpAny_specialOf a F.slot_bool_hash.lookup ?_);show wpAny _ _ (callSpecialIfBoundUnlessNone? (.bool b) "__hash__" _ >>= _) Q E s;refine wpAny_bind (wpAny_callSpecialIfBoundUnlessNone?_slot a F.slot_bool_hash
  (wpAny_call_entry F.slot_bool_hash a entry_int_hash
   (show wpAny _ _ (do ret (<- mkInt (rawHash (if b then 1 else 0)))) _ _ s from wpAny_ret_mkInt ?_) (args_int_hash _)))
 show wpAny _ _ (if (decide (-(2:Int) ^ 63<=rawHash (if b then 1 else 0))&&decide (rawHash (if b then 1 else 0)<2 ^ 63))=true then _ else _) Q E _;rw [if_pos (by rw [decide_eq_true c.1,decide_eq_true c.2];rfl)];exact wpAny_pure h
def JaE (prog:Program) (w:World):PySem.KeyKind prog w Key where
 is:=keyIs
 hash:=keyH w
 inj:=fun v a b ha hb=>by
  rcases JaN ha with ⟨i,rfl,rfl⟩ | ⟨x,t,rfl,rfl⟩
  ·rcases JaN hb with ⟨j,rfl,e⟩ | ⟨y,u,rfl,e⟩
   ·injection e with e1;rw [e1]
   ·exact nomatch e
  ·rcases JaN hb with ⟨j,rfl,e⟩ | ⟨y,u,rfl,e⟩
   ·exact nomatch e
   ·injection e with e1 _;rw [e1]
 byValue:=fun k v h=>by
  rcases JaN h with ⟨i,rfl,rfl⟩ | ⟨x,t,rfl,rfl⟩ <;> rfl
 pyHash:=fun hv h=>by
  rcases JaN hv with ⟨i,rfl,rfl⟩ | ⟨x,t,rfl,rfl⟩
  ·exact JgM h
  ·exact wpAny_pyHash_str h
 eqBool:=fun hu hv h=>by
  rcases JaN hu with ⟨i,rfl,rfl⟩ | ⟨x,t,rfl,rfl⟩
  ·rcases JaN hv with ⟨j,rfl,rfl⟩ | ⟨y,u,rfl,rfl⟩
   ·rw [JlG] at h;exact SeqAt.EqAt.bool_bool i j _ _ _ _ h
   ·rw [JlH] at h;exact SeqAt.EqAt.bool_str i y u _ _ _ _ h
  ·rcases JaN hv with ⟨j,rfl,rfl⟩ | ⟨y,u,rfl,rfl⟩
   ·rw [JlI] at h;exact SeqAt.EqAt.str_bool x t j _ _ _ _ h
   ·rw [JlJ] at h;exact wpAny_eqBool_str h
 «strs»:=fun k x t v h=>by
  rcases JaN h with ⟨i,rfl,e⟩ | ⟨y,u,rfl,e⟩
  ·exact nomatch e
  ·injection e with e1 _
   subst e1;cases v <;> rfl
theorem JfO (prog:Program) (w:World) (i:Bool):(JaE prog w).is (.inl i) (.bool i)=true:=Jhx i
theorem Jgy (prog:Program) (w:World) (x:Str) (t:Tok):(JaE prog w).is (.inr x) (.str x t)=true:=Jir x t
inductive V where
 | non | bl (b:Bool) | int (i:Int) | str (x:Str) | byt (b:Array UInt8) | flt (b:UInt64) | ref (a:Addr) | ty (n:String)
 deriving DecidableEq
def RelV:V->Value->Prop
 | .non,u=>u=Value.none
 | .bl b,u=>u=Value.bool b
 | .int i,u=>∃ t,u=Value.int i t
 | .str x,u=>∃ t,u=Value.str x t
 | .byt b,u=>∃ t,u=Value.bytes b t
 | .flt b,u=>∃ t,u=Value.float b t
 | .ref a,u=>u=Value.ref a
 | .ty n,u=>u=Value.type n
abbrev Vals:List V->List Value->Prop:=Paired RelV
variable {xs:List V} {us:List Value}
theorem Vals.length (r:Vals xs us):xs.length=us.length:=Paired.length r
theorem Vals.get:∀ {xs:List V} {us:List Value} {i:Nat} {x:V},Vals xs us->xs[i]?=some x->∃ u,us[i]?=some u/\RelV x u
 | _,_,_,_, .nil,e=>by simp at e
 | _,_,0,_, .cons r _,e=>by simp at e;subst e;exact ⟨_,rfl,r⟩
 | _,_,i+1,x, .cons _ t,e=>by
  obtain ⟨u,h1,h2⟩:=Vals.get (i:=i) (x:=x) t (by simpa using e);exact ⟨u,by simpa using h1,h2⟩
theorem Vals.set {x:V} {u:Value} (r:RelV x u):∀ {xs:List V} {us:List Value} (i:Nat),Vals xs us->Vals (xs.set i x) (us.set i u)
 | _,_,_, .nil=>.nil
 | _,_,0, .cons _ t=>.cons r t
 | _,_,i+1, .cons q t=>.cons q (Vals.set r i t)
theorem Vals.append:∀ {xs ys:List V} {us ws:List Value},Vals xs us->Vals ys ws->Vals (xs++ys) (us++ws)
 | _,_,_,_, .nil,s=>s
 | _,_,_,_, .cons r t,s=>.cons r (Vals.append t s)
theorem Vals.take:∀ {xs:List V} {us:List Value} (n:Nat),Vals xs us->Vals (xs.take n) (us.take n)
 | _,_,0,_=>.nil
 | _,_,_+1, .nil=>.nil
 | _,_,n+1, .cons r t=>.cons r (Vals.take n t)
theorem Vals.drop:∀ {xs:List V} {us:List Value} (n:Nat),Vals xs us->Vals (xs.drop n) (us.drop n)
 | _,_,0,r=>r
 | _,_,_+1, .nil=>.nil
 | _,_,n+1, .cons _ t=>Vals.drop n t
def RelO:Option V->Option Value->Prop
 | some v,some u=>RelV v u
 | none,none=>True
 | _,_=>False
def KV {κ:Type}:List (κ × V)->List (κ × Value)->Prop:=Paired fun (p : κ × V) (q : κ × Value)=>p.1=q.1/\RelV p.2 q.2
def kV:Key->V
 | .inl i=>.bl i
 | .inr x=>.str x
inductive HO where
 | lst (xs:List V)
 | tup (xs:List V)
 | dK (kvs:List (Key × V)) | dT (kvs:List (List Key × V))
 | set (S:Int->Bool) (n:Nat)
 | ins (C dx:Addr) (fs:List (Str × V))
 | own (x:Addr)
 | xd (fs:List (Str × V))
 | met (f x:Addr)
 | rng (lo hi:Int)
 | frz (o:Obj) (u:HO)
 | tbl (ps:Array Value)
 | ext (φ : Heap->Prop)
abbrev Hp:=Addr->Option HO
def upd (H:Hp) (a:Addr) (o:HO):Hp:=fun b=>if b=a then some o else H b
variable {H:Hp} {a:Addr} {o:HO}
theorem Jas:upd H a o a=some o:=by unfold upd;rw [if_pos rfl]
variable {b:Addr}
theorem Jah (h:b≠a):upd H a o b=H b:=by unfold upd;rw [if_neg h]
variable {u:HO}
theorem ne_of (h:H a=some o) (h':H b=some u) (d:o≠u):a≠b:=by
 intro e;subst e;rw [h] at h';exact d (Option.some.inj h')
theorem Jae (h:H a=some o) (h':H b=none):a≠b:=by
 intro e;subst e;rw [h] at h';cases h'
section
variable (P:Program) (w:World)
def ObjOk (H:Hp) (h:Heap) (a:Addr):HO->Prop
 | .lst xs=>xs.length<=sizeLine/\∃ (its:List Value) (n:Nat),Vals xs its/\h.get? a=some { cls:=.type "list",data:=.seq its.toArray n }
 | .tup xs=>xs.length<=sizeLine/\∃ its:List Value,Vals xs its/\IsTup h a its.toArray
 | .dK kvs=>kvs.length<=sizeLine/\(a == sysModules)=false/\∃ vs,KV kvs vs/\h.DictOf (JaE P w) a vs
 | .dT kvs=>kvs.length<=sizeLine/\(a == sysModules)=false/\∃ xs:List (List Key × Addr × Value),
   Paired (fun (p:List Key × V) (q:List Key × Addr × Value)=>p.1=q.1/\H q.2.1=some (.tup (p.1.map kV))/\RelV p.2 q.2.2) kvs xs /\
   ∃ o es ep,h.get? a=some o/\o.ExactDict/\o.data=.dict es ep/\es.toList=xs.map (entryOfKey (tupleKind (JaE P w)))/\(xs.map (·.1)).Nodup
 | .set S n=>h.SetOf (intKind P w) a S n
 | .ins C dx fs=>H dx=some (.own a)/\fs.length<=1000/\dx≠a/\h.get? a=some (W.instObj C dx) /\
   ∃ mA,h.Ns1 dx mA/\(∀ f,RelO (fs.lookup f) (mA f))/\PySem.Within mA (fs.map (·.1))
 | .own _=>∃ o,h.get? a=some o
 | .xd fs=>∃ mA,h.Ns1 a mA/\∀ f,RelO (fs.lookup f) (mA f)
 | .rng lo hi=>∃ t u v,h.get? a=some { cls:=.type "range",data:=.fields #[.int lo t, .int hi u, .int 1 v] }
 | .frz o u=>h.get? a=some o/\ObjOk H h a u
 | .tbl ps=>h.get? a=some { cls:=.none,data:=.fields ps }
 | .met f x=>h.get? a=some (W.methodObj (.ref f) (.ref x))
 | .ext φ=>φ h/\(∃ o,h.get? a=some o)/\∀ h1 h2:Heap,φ h1->(∀ o,h1.get? a=some o->h2.get? a=some o)->φ h2
def HOk (H:Hp) (h:Heap):Prop:=∀ a o,H a=some o->ObjOk P w H h a o
end
variable {P:Program} {H':Hp} {h h':Heap}
theorem ObjOk.lt (x:ObjOk P w H h a o):a<h.objs.size:=by
 cases o with
 | lst xs=>obtain ⟨_,_,_,_,e⟩:=x;exact Heap.lt_size e
 | tup xs=>obtain ⟨_,_,_,p⟩:=x;exact p.lt
 | dK kvs=>obtain ⟨_,_,_,_,o,_,_,e,_⟩:=x;exact Heap.lt_size e
 | dT kvs=>obtain ⟨_,_,_,_,o,_,_,e,_⟩:=x;exact Heap.lt_size e
 | set S n=>obtain ⟨o,_,_,_,e,_⟩:=x;exact Heap.lt_size e
 | ins C dx fs=>obtain ⟨_,_,_,e,_⟩:=x;exact Heap.lt_size e
 | own y=>obtain ⟨_,e⟩:=x;exact Heap.lt_size e
 | xd fs=>obtain ⟨_,⟨_,_,_,e,_⟩,_⟩:=x;exact Heap.lt_size e
 | rng lo hi=>obtain ⟨_,_,_,e⟩:=x;exact Heap.lt_size e
 | frz ob u=>obtain ⟨e,_⟩:=x;exact Heap.lt_size e
 | tbl ps=>exact Heap.lt_size (show h.get? a=some _ from x)
 | met f y=>exact Heap.lt_size (show h.get? a=some _ from x)
 | ext φ=>obtain ⟨_,⟨_,e⟩,_⟩:=x;exact Heap.lt_size e
variable {α:Type}
theorem Paired.mapP {β:Type} {F G : α->β->Prop}:∀ {l₁ : List α} {l₂ : List β},Paired F l₁ l₂->(∀ a b,F a b->G a b)->Paired G l₁ l₂
 | _,_, .nil,_=>.nil
 | _,_, .cons r t,f=>.cons (f _ _ r) (Paired.mapP t f)
theorem ObjOk.stay (x:ObjOk P w H h a o) (k:∀ b u,(b=a\/H b=some (.own a))->h.get? b=some u->h'.get? b=some u)
  (ho:∀ b,H b=some (.own a)->H' b=some (.own a)) (ht:∀ b xs,H b=some (.tup xs)->H' b=some (.tup xs)):ObjOk P w H' h' a o:=by
 induction o with
 | lst xs=>obtain ⟨z,l,n,r,e⟩:=x;exact ⟨z,l,n,r,k _ _ (.inl rfl) e⟩
 | tup xs=>obtain ⟨z,l,r,g,e,c⟩:=x;exact ⟨z,l,r,g,k _ _ (.inl rfl) e,c⟩
 | dK kvs=>obtain ⟨z,y,D,r,g,j,i,e,c⟩:=x;exact ⟨z,y,D,r,g,j,i,k _ _ (.inl rfl) e,c⟩
 | dT kvs=>
  obtain ⟨z,y,xs,r,g,j,i,e,c⟩:=x;exact ⟨z,y,xs,Paired.mapP r fun p q z=>⟨z.1,ht _ _ z.2.1,z.2.2⟩,g,j,i,k _ _ (.inl rfl) e,c⟩
 | set S n=>obtain ⟨g,j,i,t,e,c⟩:=x;exact ⟨g,j,i,t,k _ _ (.inl rfl) e,c⟩
 | ins C dx fs=>
  obtain ⟨d,z,B,e,s,⟨m,j,i,E,c⟩,r⟩:=x;exact ⟨ho _ d,z,B,k _ _ (.inl rfl) e,s,⟨m,j,i,k _ _ (.inr d) E,c⟩,r⟩
 | own y=>obtain ⟨g,e⟩:=x;exact ⟨g,k _ _ (.inl rfl) e⟩
 | xd fs=>obtain ⟨s,⟨m,j,i,e,c⟩,r⟩:=x;exact ⟨s,⟨m,j,i,k _ _ (.inl rfl) e,c⟩,r⟩
 | rng lo hi=>obtain ⟨t,u,v,e⟩:=x;exact ⟨t,u,v,k _ _ (.inl rfl) e⟩
 | frz g u ih=>obtain ⟨e,q⟩:=x;exact ⟨k _ _ (.inl rfl) e,ih q⟩
 | tbl ps=>
  have e:h.get? a=some { cls:=.none,data:=.fields ps }:=x;show h'.get? a=some { cls:=.none,data:=.fields ps };exact k a _ (.inl rfl) e
 | met f y=>
  have e:h.get? a=some (W.methodObj (.ref f) (.ref y)):=x;show h'.get? a=some (W.methodObj (.ref f) (.ref y));exact k a _ (.inl rfl) e
 | ext φ=>obtain ⟨p,⟨o,e⟩,A⟩:=x;exact ⟨A _ _ p fun o q=>k _ _ (.inl rfl) q,⟨o,k _ _ (.inl rfl) e⟩,A⟩
theorem HOk.lt (x:HOk P w H h) (e:H a=some o):a<h.objs.size:=(x a o e).lt
theorem HOk.fresh (x:HOk P w H h) (e:h.objs.size<=a):H a=none:=by
 cases q:H a with
 | none=>rfl
 | some u=>exact absurd (Nat.lt_of_lt_of_le (x.lt q) e) (Nat.lt_irrefl _)
theorem HOk.kept (x:HOk P w H h) (k:∀ b u,h.get? b=some u->h'.get? b=some u):HOk P w H h':=fun a o e=>
 (x a o e).stay (fun b u _ q=>k b u q) (fun _ q=>q) fun _ _ q=>q
theorem HOk.laid (x:HOk P w H h) (k:∀ b u,h.get? b=some u->h'.get? b=some u) (hp:h.objs.size<=a) (new:ObjOk P w (upd H a o) h' a o):HOk P w (upd H a o) h':=fun b u e=>by
 have f:=x.fresh hp;by_cases d:b=a
 ·subst d;rw [Jas] at e;cases e;exact new
 ·rw [Jah d] at e;exact (x b u e).stay (fun c v _ q=>k c v q) (fun c q=>by rw [Jah (Jae q f)];exact q) fun c g q=>by rw [Jah (Jae q f)];exact q
def Rd (H:Hp) (a:Addr) (u:HO):Prop:=H a=some u\/∃ o,H a=some (.frz o u)
theorem Rd.ok (r:Rd H a u) (x:HOk P w H h):ObjOk P w H h a u:=by
 rcases r with r | ⟨o,r⟩
 ·exact x a u r
 ·obtain ⟨_,q⟩:=x a _ r;exact q
def Mut:Option HO->Prop
 | some (.lst _)=>True
 | some (.dK _)=>True
 | some (.dT _)=>True
 | some (.set _ _)=>True
 | some (.ins _ _ _)=>True
 | some (.ext _)=>True
 | _=>False
variable {x e:Addr} {o':HO}
theorem HOk.write (ok:HOk P w H h) (mu:Mut (H x)) (he:e=x\/H e=some (.own x)) (k:∀ b u,b≠e->h.get? b=some u->h'.get? b=some u) (heo:∃ u,h'.get? e=some u)
  (new:ObjOk P w (upd H x o') h' x o'):HOk P w (upd H x o') h':=fun b u q=>by
 have d:∀ c y,H c=some (.own y)->c≠x:=fun c y r z=>by subst z;rw [r] at mu;exact mu
 have f:∀ c g,H c=some (.tup g)->c≠x:=fun c g r z=>by subst z;rw [r] at mu;exact mu
 by_cases i:b=x
 ·subst i;rw [Jas] at q;cases q;exact new
 ·rw [Jah i] at q;by_cases a:b=e
  ·have l:H b=some (.own x):=by
    rcases he with z | z
    ·exact absurd (a.trans z) i
    ·rw [a];exact z
   rw [q] at l;cases l;obtain ⟨v,m⟩:=heo;exact ⟨v,by rw [a];exact m⟩
  ·refine (ok b u q).stay (fun c v j r=>k c v ?_ r) (fun c r=>by rw [Jah (d c b r)];exact r) fun c g r=>by rw [Jah (f c g r)];exact r
   rcases j with rfl | j
   ·exact a
   ·rintro rfl;rcases he with z | z
    ·exact d c b j z
    ·rw [j] at z;cases z;exact i rfl
structure Un (fs ex:List Addr) (H H':Hp) (h h':Heap):Prop where
 keep:∀ b o,h.get? b=some o->H b=none->b∉fs->b∉ex->h'.get? b=some o
 slot:∀ b o,h.get? b=some o->H b=none->b∈fs->b∉ex->∃ sl,h'.get? b=some { o with slots:=sl }
 free:∀ b o,h.get? b=some o->H b=none->b∉ex->H' b=none
 there:∀ b o,h.get? b=some o->b∉ex->∃ o',h'.get? b=some o'
 tups:∀ b xs,H b=some (.tup xs)->H' b=some (.tup xs)
 frzs:∀ b o u,H b=some (.frz o u)->H' b=some (.frz o u)
 tbls:∀ b ps,H b=some (.tbl ps)->∃ more,H' b=some (.tbl (ps++more))
section
variable {fs' ex ex':List Addr} {H1 H2:Hp} {h1 h2:Heap} {fs:List Addr}
theorem Un.any (u:Un fs ex H H1 h h1) {b:Addr} {ob:Obj} (q:h.get? b=some ob) (n:H b=none) (hx:b∉ex):∃ sl,h1.get? b=some { ob with slots:=sl }:=by
 by_cases a:b∈fs
 ·exact u.slot b ob q n a hx
 ·exact ⟨ob.slots,u.keep b ob q n a hx⟩
theorem Un.kept (k:∀ b u,h.get? b=some u->h'.get? b=some u):Un fs ex H H h h' :=
 ⟨fun b a q _ _ _=>k b a q,fun b a q _ _ _=>⟨a.slots,k b a q⟩,fun _ _ _ n _=>n,fun b a q _=>⟨a,k b a q⟩,fun _ _ q=>q,fun _ _ _ q=>q,fun _ c q=>⟨#[],by rw [q];simp⟩⟩
theorem Un.refl:Un fs ex H H h h:=Un.kept fun _ _ q=>q
theorem Un.laid (k:∀ b u,h.get? b=some u->h'.get? b=some u) (hp:h.objs.size<=a) (hn:H a=none):Un fs ex H (upd H a o) h h' where
 keep:=fun b u q _ _ _=>k b u q
 slot:=fun b u q _ _ _=>⟨u.slots,k b u q⟩
 free:=fun b u q n _=>by rw [Jah (Nat.ne_of_lt (Nat.lt_of_lt_of_le (Heap.lt_size q) hp))];exact n
 there:=fun b u q _=>⟨u,k b u q⟩
 tups:=fun b c q=>by rw [Jah (Jae q hn)];exact q
 frzs:=fun b u c q=>by rw [Jah (Jae q hn)];exact q
 tbls:=fun b d q=>⟨#[],by rw [Jah (Jae q hn),q];simp⟩
theorem Un.write (mu:Mut (H x)) (he:e=x\/H e=some (.own x)) (k:∀ b u,b≠e->h.get? b=some u->h'.get? b=some u) (heo:∃ u,h'.get? e=some u):Un fs ex H (upd H x o) h h':=by
 have f:∀ b,H b=none->b≠x:=fun b n z=>by subst z;rw [n] at mu;exact mu
 have d:∀ b,H b=none->b≠e:=fun b n z=>by
  subst z;rcases he with r | r
  ·exact f b n r
  ·rw [n] at r;cases r
 have c:∀ b u,H b=some u->¬ Mut (some u)->b≠x:=fun b u q i z=>by subst z;rw [q] at mu;exact i mu
 refine ⟨fun b u q n _ _=>k b u (d b n) q,fun b u q n _ _=>⟨u.slots,k b u (d b n) q⟩,fun b u q n _=>by rw [Jah (f b n)];exact n,fun b u q _=>?_,
  fun b g q=>by rw [Jah (c b _ q fun z=>z)];exact q,fun b u g q=>by rw [Jah (c b _ q fun z=>z)];exact q,fun b j q=>⟨#[],by rw [Jah (c b _ q fun z=>z),q];simp⟩⟩
 by_cases a:b=e
 ·subst a;exact heo
 ·exact ⟨u,k b u a q⟩
end
def trk (h:Heap) (H:Hp):List Addr:=(List.range h.objs.size).filter fun a=>(H a).isSome
def hidT (h:Heap) (H:Hp):Heap:=W.hideAll h (trk h H)
theorem Jim (h:Heap) (H:Hp):(hidT h H).objs.size=h.objs.size:=W.hideAll_size _ _
variable {o:Obj}
theorem Jjp (e:h.get? b=some o) (n:H b=none):(hidT h H).get? b=some o :=
 W.hideAll_get _ e fun a=>by
  have q:(H b).isSome=true:=(List.mem_filter.mp a).2;rw [n] at q;simp at q
theorem JkX (e:(hidT h H).get? b=some o):h.get? b=some o/\H b=none:=by
 have a:h.get? b=some o:=W.of_hideAll (trk h H) e;refine ⟨a,?_⟩;cases q:H b with
 | none=>rfl
 | some x=>
  have c:b∈trk h H:=List.mem_filter.mpr ⟨List.mem_range.mpr (Heap.lt_size a),by simp [q]⟩;have z:(hidT h H).get? b=none:=W.hideAll_none (trk h H) c;rw [z] at e;cases e
def JkA (g h:Heap) (L:Addr):List (Addr × Obj):=(List.range h.objs.size).filterMap fun a=>if a=L\/(g.get? a).isSome=true then none else (h.get? a).map fun o=>(a,o)
def rest (g h:Heap) (L d:Addr):List (Addr × Obj):=(JkA g h L).filter fun p=>decide (p.1≠d)
structure Mod (K:W.Frag) (mg:Str->Option Value) (base:Heap):Prop where
 kin:K.In base
 glob:base.Ns mainGlobals mg
 blt:∃ mb,base.Ns builtinsNs mb/\∀ x:Str,x≠"__name__"->mb x=bootBuiltins x
 nolimit:base.NoLimit
structure Cx where
 prog:Program
 w:World
 K:W.Frag
 mg:Str->Option Value
 base:Heap
 A:Around
 N:List Str
 s₀ : Shared
 H₀ : Hp
 env:Env
 outer:List Env
 stack:List Env
 ex:List Addr
 fn:Str->Bool
 calm:Bool
 pn:List (Addr × Obj)
 xe:Value->Shared->Prop
def frs (l:List Env):List Addr:=l.filterMap (·.frame)
abbrev Cx.fs (X:Cx):List Addr:=frs X.outer
def Vis (sc:Scope) (x:Str):Prop:=sc.names.lookup x=some .local\/sc.names.lookup x=some .cell\/sc.names.lookup x=some .free
def Loc (sc:Scope) (x:Str):Prop:=sc.names.lookup x=some .local\/sc.names.lookup x=some .cell
def Look (env:Env) (h:Heap) (m:Str->Option Value) (x:Str) (u:Value):Prop :=
 (env.kindOf x=some .local/\m x=some u)\/((env.kindOf x=some .cell\/env.kindOf x=some .free)/\∃ c,env.cells.lookup x=some c/\h.IsCell c (some u))
structure Cx.Ok (X:Cx):Prop where
 mod:Mod X.K X.mg X.base
 kind:X.env.scope.kind=.function
 glob:X.env.globals=mainGlobals
 blt:X.env.builtins=builtinsNs
 above:X.s₀.heap.objs.size<=X.env.locals
 inj:∀ x y c,X.env.cells.lookup x=some c->X.env.cells.lookup y=some c->x=y
 has:∀ x,(X.env.kindOf x=some .cell\/X.env.kindOf x=some .free)->∃ c,X.env.cells.lookup x=some c
 cab:∀ x c,X.fn x=true->X.env.cells.lookup x=some c->X.s₀.heap.objs.size<=c
 hd:X.calm=true->X.A.handled=none
 frames:X.A.frames=some X.stack
 stk:X.stack=X.outer\/(X.stack=X.env::X.outer/\X.env.frame=some X.env.locals)
 exf:∀ b∈X.ex,b≠X.env.locals/\∀ x c,X.env.cells.lookup x=some c->c≠b
 bs:∀ b o,X.base.get? b=some o->X.s₀.heap.get? b=some o/\X.H₀ b=none
 bsz:X.base.objs.size<=X.s₀.heap.objs.size
 noex:∀ b o,X.base.get? b=some o->b∉X.ex
 exfs:∀ b∈X.ex,b∉X.fs
 funs:X.s₀.heap.FunFrames X.base X.outer
 frf:∀ b∈X.fs,X.H₀ b=none
structure Inv (X:Cx) (pins:List (Addr × Obj)) (σ : List (Option V)) (H:Hp) (s:Shared):Prop where
 ok:X.Ok
 os:s.os=X.s₀.os
 bare:AllBare s.gens
 base:Un X.fs X.ex X.H₀ H X.s₀.heap s.heap
 loc:∃ m,s.heap.Ns X.env.locals m/\∀ (i:Nat) (x:Str) (v:V),X.N[i]?=some x->σ[i]?=some (some v)->Vis X.env.scope x->∃ u,RelV v u/\Look X.env s.heap m x u
 cell:∀ x c,X.env.cells.lookup x=some c->∃ v,s.heap.IsCell c v
 free:H X.env.locals=none
 freeC:∀ x c,X.env.cells.lookup x=some c->H c=none
 pin:∀ p∈X.pn++pins,s.heap.get? p.1=some p.2/\H p.1=none/\p.1≠X.env.locals/\p.1∉X.fs/\∀ v,p.2.data≠.cell v
 hok:HOk X.prog X.w H s.heap
 len : σ.length=X.N.length
variable {X:Cx} {pins:List (Addr × Obj)} {σ:List (Option V)}
theorem Cx.Ok.nofr (ok:X.Ok) {b:Addr} {o:Obj} (e:X.base.get? b=some o):b∉X.fs:=fun a=>by
 have:=(ok.funs.mem a).1;rw [e] at this;cases this
theorem Inv.bs (I:Inv X pins σ H s):∀ b o,X.base.get? b=some o->s.heap.get? b=some o/\H b=none:=fun b o e=>
 ⟨I.base.keep b o (I.ok.bs b o e).1 (I.ok.bs b o e).2 (I.ok.nofr e) (I.ok.noex b o e),I.base.free b o (I.ok.bs b o e).1 (I.ok.bs b o e).2 (I.ok.noex b o e)⟩
theorem Inv.bk (I:Inv X pins σ H s):∀ b o,X.base.get? b=some o->s.heap.get? b=some o:=fun b o e=>(I.bs b o e).1
theorem Inv.mod (I:Inv X pins σ H s):Mod X.K X.mg X.base:=I.ok.mod
theorem Inv.kIn (I:Inv X pins σ H s):X.K.In s.heap:=I.ok.mod.kin.keeps I.bk
theorem Inv.lt (I:Inv X pins σ H s):X.env.locals<s.heap.objs.size:=let ⟨_,hn,_⟩:=I.loc;hn.lt
theorem Inv.sz (I:Inv X pins σ H s):X.s₀.heap.objs.size<=s.heap.objs.size:=Nat.le_trans I.ok.above (Nat.le_of_lt I.lt)
theorem Inv.nofs (I:Inv X pins σ H s) {a:Addr} (h:s.heap.objs.size<=a):a∉X.fs:=fun b=>by
 obtain ⟨_,o,c,_⟩:=I.ok.funs.mem b;exact absurd (Nat.lt_of_lt_of_le (Heap.lt_size c) (Nat.le_trans I.sz h)) (Nat.lt_irrefl _)
theorem Inv.cne (I:Inv X pins σ H s):∀ x c,X.env.cells.lookup x=some c->c≠X.env.locals:=fun x c e z=>by
 obtain ⟨v,o,f,d⟩:=I.cell x c e;obtain ⟨m,⟨i,h,g,a,b,_⟩,_⟩:=I.loc;rw [z,a] at f;cases f;rw [b] at d;cases d
theorem Inv.funs (I:Inv X pins σ H s):s.heap.FunFrames X.base X.outer:=by
 have all:∀ (l:List Env),(∀ b∈frs l,b∈X.fs)->X.s₀.heap.FunFrames X.base l->s.heap.FunFrames X.base l:=by
  intro l;induction l with
  | nil=>intro _ _;trivial
  | cons env r ih=>
   intro f h;obtain ⟨g,⟨L,o,d,i,j,m⟩,k⟩:=h;have a:L∈X.fs:=f L (by unfold frs;rw [List.filterMap_cons,d];exact mem_cons_self);obtain ⟨n,e⟩:=I.base.slot L o j (I.ok.frf L a) a fun z=>I.ok.exfs L z a;exact ⟨g,⟨L,_,d,i,e,m⟩,ih (fun b c=>f b (by unfold frs;rw [List.filterMap_cons,d];exact mem_cons_of_mem _ c)) k⟩
 exact all X.outer (fun _ c=>c) I.ok.funs
theorem Inv.stack (I:Inv X pins σ H s):s.heap.FunFrames X.base X.stack:=by
 rcases I.ok.stk with e | ⟨e,hf⟩
 ·rw [e];exact I.funs
 ·rw [e];obtain ⟨m,a,_⟩:=I.loc;refine .cons (by rw [I.ok.kind];decide) hf a ?_ I.funs;exact Heap.get?_none_of_le (Nat.le_trans I.ok.bsz I.ok.above)
theorem Inv.stkSub (I:Inv X pins σ H s):∀ b∈frs X.stack,b∈X.env.locals::X.fs:=fun b a=>by
 rcases I.ok.stk with e | ⟨e,hf⟩
 ·rw [e] at a;exact mem_cons_of_mem _ a
 ·rw [e] at a;unfold frs at a;rw [List.filterMap_cons,hf] at a;exact a
theorem Inv.stkFree (I:Inv X pins σ H s):∀ b∈frs X.stack,H b=none:=fun b a=>by
 rcases mem_cons.mp (I.stkSub b a) with e | a
 ·rw [e];exact I.free
 ·obtain ⟨_,o,c,_⟩:=I.ok.funs.mem a;exact I.base.free b o c (I.ok.frf b a) fun z=>I.ok.exfs b z a
variable {g':Array GenState} {t':Nat} {d':Drawn} {ch:List Addr}
theorem Inv.step (I:Inv X pins σ H s)
  (hch:∀ b∈ch,(b∈X.ex\/X.s₀.heap.objs.size<=b)/\b≠X.env.locals/\(∀ x c,X.env.cells.lookup x=some c->c≠b)/\∀ p∈X.pn++pins,p.1≠b)
  (keep:∀ b o,b≠X.env.locals->b∉X.fs->b∉ch->s.heap.get? b=some o->H b=none->h'.get? b=some o)
  (slot:∀ b o,b≠X.env.locals->b∈X.fs->b∉ch->s.heap.get? b=some o->H b=none->∃ sl,h'.get? b=some { o with slots:=sl }) (free:∀ b o,b∉ch->s.heap.get? b=some o->H b=none->H' b=none)
  (there:∀ b o,b∉ch->s.heap.get? b=some o->∃ o',h'.get? b=some o')
  (tups:∀ b xs,H b=some (.tup xs)->H' b=some (.tup xs)) (frzs:∀ b o u,H b=some (.frz o u)->H' b=some (.frz o u)) (tbls:∀ b ps,H b=some (.tbl ps)->∃ more,H' b=some (.tbl (ps++more)))
  (ns:∀ m,s.heap.Ns X.env.locals m->h'.Ns X.env.locals m) (hok:HOk X.prog X.w H' h') (hg:AllBare g') :
  Inv X pins σ H' { s with heap:=h',gens:=g',drawn:=d',toks:=t' }:=by
 have A:∀ b o,X.s₀.heap.get? b=some o->b≠X.env.locals:=fun b o e=>Nat.ne_of_lt (Nat.lt_of_lt_of_le (Heap.lt_size e) I.ok.above);have h:∀ b o,X.s₀.heap.get? b=some o->b∉X.ex->b∉ch:=fun b o e a t=>by
  rcases (hch b t).1 with z | z
  ·exact a z
  ·exact absurd (Nat.lt_of_lt_of_le (Heap.lt_size e) z) (Nat.lt_irrefl _)
 have f:∀ x c,X.env.cells.lookup x=some c->∀ v,s.heap.IsCell c v->h'.IsCell c v:=fun x c e v ⟨o,y,D⟩=>by
  have g:c∉ch:=fun z=>(hch c z).2.2.1 x c e rfl;by_cases J:c∈X.fs
  ·obtain ⟨sl,q⟩:=slot c o (I.cne x c e) J g y (I.freeC x c e);exact ⟨_,q,D⟩
  ·exact ⟨o,keep c o (I.cne x c e) J g y (I.freeC x c e),D⟩
 refine ⟨I.ok,I.os,hg,⟨fun b o e n t a=>?_,fun b o e n t a=>?_,fun b o e n a=>?_,fun b o e a=>?_,fun b xs e=>tups b xs (I.base.tups b xs e),fun b o xs e=>frzs b o xs (I.base.frzs b o xs e),fun b ps e=>?_⟩,?_,fun x c e=>?_,?_,fun x c e=>?_,fun p F=>?_,hok,I.len⟩
 ·exact keep b o (A b o e) t (h b o e a) (I.base.keep b o e n t a) (I.base.free b o e n a)
 ·obtain ⟨sl,j⟩:=I.base.slot b o e n t a;obtain ⟨C,B⟩:=slot b _ (A b o e) t (h b o e a) j (I.base.free b o e n a);exact ⟨C,B⟩
 ·obtain ⟨o',j⟩:=I.base.there b o e a;exact free b o' (h b o e a) j (I.base.free b o e n a)
 ·obtain ⟨o',j⟩:=I.base.there b o e a;exact there b o' (h b o e a) j
 ·obtain ⟨O,j⟩:=I.base.tbls b ps e;obtain ⟨K,B⟩:=tbls b _ j;exact ⟨O++K,by rw [B,Array.append_assoc]⟩
 ·obtain ⟨m,L,N⟩:=I.loc;refine ⟨m,ns m L,fun i x v j B M=>?_⟩;obtain ⟨u,r,l⟩:=N i x v j B M;refine ⟨u,r,?_⟩;rcases l with l | ⟨k,c,e,z⟩
  ·exact .inl l
  ·exact .inr ⟨k,c,e,f x c e _ z⟩
 ·obtain ⟨v,z⟩:=I.cell x c e;exact ⟨v,f x c e v z⟩
 ·obtain ⟨m,⟨o,_,_,y,_⟩,_⟩:=I.loc;exact free _ o (fun z=>(hch _ z).2.1 rfl) y I.free
 ·obtain ⟨v,o,y,D⟩:=I.cell x c e;exact free c o (fun z=>(hch c z).2.2.1 x c e rfl) y (I.freeC x c e)
 ·obtain ⟨e,n,E,G,d⟩:=I.pin p F;have g:p.1∉ch:=fun z=>(hch p.1 z).2.2.2 p F rfl;exact ⟨keep p.1 p.2 E G g e n,free p.1 p.2 g e n,E,G,d⟩
theorem Inv.un (I:Inv X pins σ H s) (u:Un X.fs [] H H' s.heap h') (hok:HOk X.prog X.w H' h'):Inv X pins σ H' { s with heap:=h',toks:=t' }:=by
 obtain ⟨m,⟨o,t,l,g,r⟩,_⟩:=id I.loc;obtain ⟨p,j⟩:=u.any g I.free (by simp);exact I.step (g':=s.gens) (d':=s.drawn) (ch:=[]) (fun _ z=>nomatch z) (fun b o _ f _ e n=>u.keep b o e n f (by simp)) (fun b o _ f _ e n=>u.slot b o e n f (by simp)) (fun b o _ e n=>u.free b o e n (by simp)) (fun b o _ e=>u.there b o e (by simp)) u.tups u.frzs u.tbls (fun q h=>by
  obtain ⟨k,c,d,a,i⟩:=h;rw [g] at a;cases a;exact ⟨_,c,d,j,i⟩) hok I.bare
theorem Inv.call (I:Inv X pins σ H s) (u:Un (frs X.stack) ch H H' s.heap h') (hok:HOk X.prog X.w H' h') (hg:AllBare g')
  (hch:∀ b∈ch,(b∈X.ex\/X.s₀.heap.objs.size<=b)/\b≠X.env.locals/\(∀ x c,X.env.cells.lookup x=some c->c≠b)/\∀ p∈X.pn++pins,p.1≠b) :
  Inv X pins σ H' { s with heap:=h',gens:=g',drawn:=d',toks:=t' }:=by
 obtain ⟨m,⟨o,A,t,i,r⟩,_⟩:=id I.loc;obtain ⟨v,h⟩:=u.any i I.free fun z=>(hch _ z).2.1 rfl;exact I.step (ch:=ch) hch (fun b o h l a e n=>u.keep b o e n (fun z=>(mem_cons.mp (I.stkSub b z)).elim h l) a) (fun b o _ _ a e n=>u.any e n a) (fun b o a e n=>u.free b o e n a) (fun b o a e=>u.there b o e a) u.tups u.frzs u.tbls (fun y j=>by
  obtain ⟨q,f,g,d,k⟩:=j;rw [i] at d;cases d;exact ⟨_,f,g,h,k⟩) hok hg
variable {it:Addr}
theorem Inv.turned (I:Inv X pins σ H s) (k:∀ b o,b≠it->s.heap.get? b=some o->h'.get? b=some o) (hn:H it=none) (hL:it≠X.env.locals)
  (h1:it∈X.ex\/X.s₀.heap.objs.size<=it) (h2:∀ x c,X.env.cells.lookup x=some c->c≠it) (h3:∀ p∈X.pn++pins,p.1≠it):Inv X pins σ H { s with heap:=h',toks:=t' }:=by
 have d:∀ b u,H b=some u->b≠it:=fun b u e z=>by rw [z,hn] at e;cases e
 refine I.step (g':=s.gens) (d':=s.drawn) (ch:=[it]) (fun b i=>?_) (fun b o _ _ a e _=>k b o (fun z=>a (by simp [z])) e) (fun b o _ _ a e _=>⟨o.slots,k b o (fun z=>a (by simp [z])) e⟩) (fun _ _ _ _ n=>n)
  (fun b o a e=>⟨o,k b o (fun z=>a (by simp [z])) e⟩) (fun _ _ e=>e) (fun _ _ _ e=>e) (fun b l e=>⟨#[],by rw [e];simp⟩) (fun m g=>?_) (fun b u e=>?_) I.bare
 ·have e:b=it:=by simpa using i
  subst e;exact ⟨h1,hL,h2,h3⟩
 ·obtain ⟨o,j,h,f,r⟩:=g;exact ⟨o,j,h,k _ o (Ne.symm hL) f,r⟩
 ·refine (I.hok b u e).stay (fun c v a q=>k c v ?_ q) (fun _ q=>q) fun _ _ q=>q;rcases a with z | z
  ·rw [z];exact d b u e
  ·exact d c _ z
theorem Inv.tok (I:Inv X pins σ H s) (t:Nat):Inv X pins σ H { s with toks:=t }:=I.un (h':=s.heap) (t':=t) Un.refl I.hok
theorem Inv.kept (I:Inv X pins σ H s) (k:∀ b u,s.heap.get? b=some u->h'.get? b=some u):Inv X pins σ H { s with heap:=h',toks:=t' }:=I.un (Un.kept k) (I.hok.kept k)
variable {o:HO}
theorem Inv.laid (I:Inv X pins σ H s) (k:∀ b u,s.heap.get? b=some u->h'.get? b=some u) (hp:s.heap.objs.size<=a) (new:ObjOk X.prog X.w (upd H a o) h' a o) :
  Inv X pins σ (upd H a o) { s with heap:=h',toks:=t' }:=I.un (Un.laid k hp (I.hok.fresh hp)) (I.hok.laid k hp new)
theorem Inv.write (I:Inv X pins σ H s) (mu:Mut (H x)) (he:e=x\/H e=some (.own x)) (k:∀ b u,b≠e->s.heap.get? b=some u->h'.get? b=some u) (heo:∃ u,h'.get? e=some u)
  (new:ObjOk X.prog X.w (upd H x o) h' x o):Inv X pins σ (upd H x o) { s with heap:=h',toks:=t' }:=I.un (Un.write mu he k heo) (I.hok.write mu he k heo new)
theorem Inv.pins_of {pins':List (Addr × Obj)} (I:Inv X pins σ H s) (h:∀ p∈pins',s.heap.get? p.1=some p.2/\H p.1=none/\p.1≠X.env.locals/\p.1∉X.fs/\∀ v,p.2.data≠.cell v):Inv X pins' σ H s :=
 ⟨I.ok,I.os,I.bare,I.base,I.loc,I.cell,I.free,I.freeC,fun p a=>(mem_append.mp a).elim (fun z=>I.pin p (mem_append_left _ z)) (h p),I.hok,I.len⟩
variable {N:List Str}
theorem Jfd (hN:N.Nodup) {i j:Nat} {x:Str} (a:N[i]?=some x) (b:N[j]?=some x):i=j:=by
 obtain ⟨e,d⟩:=List.getElem?_eq_some_iff.mp a;obtain ⟨f,c⟩:=List.getElem?_eq_some_iff.mp b;exact (List.getElem_inj hN).mp (d.trans c.symm)
variable {M:Model} {i:Nat} {x:Str} {v:V} {u:Value} {Q:Unit->Shared->Prop}
theorem Jen (I:Inv X pins σ H s) (hN:X.N.Nodup) (hi:X.N[i]?=some x) (hx:Loc X.env.scope x) (r:RelV v u)
  (h:∀ s',Inv X pins (σ.set i (some v)) H s'->(∃ a,Heap.SameBut a s.heap s'.heap/\(a=X.env.locals\/X.env.cells.lookup x=some a))->Q () s') (hf:X.fn x=true\/X.env.scope.names.lookup x=some .local:=by first | exact .inl rfl | exact .inr rfl | assumption):wpAny M A (storeName X.env x u) Q E s:=by
 obtain ⟨m,Z,hl⟩:=id I.loc;have O:(X.env.scope.kind == .class||(X.env.scope.kind == .module&&X.env.locals != X.env.globals))=false:=by rw [I.ok.kind];rfl
 have hiσ : i<σ.length:=by rw [I.len];exact (List.getElem?_eq_some_iff.mp hi).1
 have D:=I.cne;have l:∀ {a:Addr} {K:Heap},(∃ o,s.heap.get? a=some o/\H a=none)->Heap.SameBut a s.heap K->HOk X.prog X.w H K:=fun {a K} ha f b ob e=>by
  obtain ⟨_,_,B⟩:=ha;refine (I.hok b ob e).stay (fun c U t q=>(f.2 c ?_).trans q) (fun _ q=>q) fun _ _ q=>q;rintro rfl;rcases t with rfl | t
  ·rw [B] at e;cases e
  ·rw [B] at t;cases t
 rcases hx with hk | hk
 ·refine wpAny_storeName_local hk Z (fun K Y f=>?_) O;obtain ⟨oL,_,_,a0,_⟩:=id Z;refine h _ ⟨I.ok,I.os,I.bare,⟨fun b o e n G hx=>?_,fun b o e n G hx=>?_,I.base.free,fun b o e hx=>?_,I.base.tups,I.base.frzs,I.base.tbls⟩,⟨_,Y,fun j y v' g C e3=>?_⟩,fun y c e=>?_,I.free,I.freeC,fun p hp=>?_,l ⟨oL,a0,I.free⟩ f,by simpa using I.len⟩ ⟨_,f, .inl rfl⟩
  ·exact (f.2 b (Nat.ne_of_lt (Nat.lt_of_lt_of_le (Heap.lt_size e) I.ok.above))).trans (I.base.keep b o e n G hx)
  ·obtain ⟨sl,g⟩:=I.base.slot b o e n G hx;exact ⟨sl,(f.2 b (Nat.ne_of_lt (Nat.lt_of_lt_of_le (Heap.lt_size e) I.ok.above))).trans g⟩
  ·obtain ⟨o',g⟩:=I.base.there b o e hx;exact ⟨o',(f.2 b (Nat.ne_of_lt (Nat.lt_of_lt_of_le (Heap.lt_size e) I.ok.above))).trans g⟩
  ·by_cases F:j=i
   ·subst F;rw [hi] at g;cases g;rw [List.getElem?_set_self hiσ] at C;cases C;exact ⟨u,r, .inl ⟨hk,by simp⟩⟩
   ·rw [List.getElem?_set_ne (Ne.symm F)] at C;obtain ⟨u',r',q⟩:=hl j y v' g C e3;refine ⟨u',r',?_⟩;rcases q with ⟨k,e⟩ | ⟨k,c,e,z⟩
    ·refine .inl ⟨k,?_⟩;have : y≠x:=fun e=>F (Jfd hN g (e ▸ hi));simp [this,e]
    ·exact .inr ⟨k,c,e,z.sameBut f (D y c e)⟩
  ·obtain ⟨U,z⟩:=I.cell y c e;exact ⟨U,z.sameBut f (D y c e)⟩
  ·obtain ⟨e,n,T,nf,d⟩:=I.pin p hp;exact ⟨(f.2 p.1 T).trans e,n,T,nf,d⟩
 ·have J:X.fn x=true:=by
   rcases hf with z | z
   ·exact z
   ·rw [z] at hk;cases hk
  obtain ⟨c,t⟩:=I.ok.has x (.inl hk);obtain ⟨U,z⟩:=I.cell x c t;refine wpAny_storeName_cell I.ok.kind hk t z (fun K S f=>?_);obtain ⟨oc,L,R⟩:=id z;refine h { s with heap:=K } ⟨I.ok,I.os,I.bare,⟨fun b o e n G hx=>?_,fun b o e n G hx=>?_,I.base.free,fun b o e hx=>?_,I.base.tups,I.base.frzs,I.base.tbls⟩,⟨m,Z.sameBut f (Ne.symm (D x c t)),fun j y v' g C e3=>?_⟩,fun y W e=>?_,I.free,I.freeC,fun p hp=>?_,l ⟨oc,L,I.freeC x c t⟩ f,by simpa using I.len⟩ ⟨c,f, .inr t⟩
  ·exact (f.2 b (Nat.ne_of_lt (Nat.lt_of_lt_of_le (Heap.lt_size e) (I.ok.cab x c J t)))).trans (I.base.keep b o e n G hx)
  ·obtain ⟨sl,g⟩:=I.base.slot b o e n G hx;exact ⟨sl,(f.2 b (Nat.ne_of_lt (Nat.lt_of_lt_of_le (Heap.lt_size e) (I.ok.cab x c J t)))).trans g⟩
  ·obtain ⟨o',g⟩:=I.base.there b o e hx;exact ⟨o',(f.2 b (Nat.ne_of_lt (Nat.lt_of_lt_of_le (Heap.lt_size e) (I.ok.cab x c J t)))).trans g⟩
  ·by_cases F:j=i
   ·subst F;rw [hi] at g;cases g;rw [List.getElem?_set_self hiσ] at C;cases C;exact ⟨u,r, .inr ⟨.inl hk,c,t,S⟩⟩
   ·rw [List.getElem?_set_ne (Ne.symm F)] at C;obtain ⟨u',r',q⟩:=hl j y v' g C e3;refine ⟨u',r',?_⟩;rcases q with q | ⟨k,W,e,z'⟩
    ·exact .inl q
    ·refine .inr ⟨k,W,e,z'.sameBut f ?_⟩;rintro rfl;exact F (Jfd hN g (I.ok.inj _ _ _ e t ▸ hi))
  ·by_cases P:W=c
   ·subst P;exact ⟨_,S⟩
   ·obtain ⟨w2,z2⟩:=I.cell y W e;exact ⟨w2,z2.sameBut f P⟩
  ·obtain ⟨e,n,T,nf,d⟩:=I.pin p hp;refine ⟨(f.2 p.1 ?_).trans e,n,T,nf,d⟩;intro q;rw [q,L] at e;have q':oc=p.2:=Option.some.inj e;exact d U (by rw [<- q'];exact R)
theorem JdO (I:Inv X pins σ H s) (hN:X.N.Nodup) (hi:X.N[i]?=some x) (hx:Loc X.env.scope x) (r:RelV v u)
  (h:∀ s',Inv X pins (σ.set i (some v)) H s'->Q () s') (hf:X.fn x=true\/X.env.scope.names.lookup x=some .local:=by first | exact .inl rfl | exact .inr rfl | assumption):wpAny M A (storeName X.env x u) Q E s :=
 Jen I hN hi hx r (fun s' I' _=>h s' I') hf
variable {s':Shared}
theorem Inv.call' (I:Inv X pins σ H s) (ho:s'.os=s.os) (u:Un (frs X.stack) ch H H' s.heap s'.heap) (hok:HOk X.prog X.w H' s'.heap) (hg:AllBare s'.gens)
  (hch:∀ b∈ch,(b∈X.ex\/X.s₀.heap.objs.size<=b)/\b≠X.env.locals/\(∀ x c,X.env.cells.lookup x=some c->c≠b)/\∀ p∈X.pn++pins,p.1≠b):Inv X pins σ H' s':=by
 obtain ⟨d,g',d',t',a⟩:=s';have e:a=s.os:=ho;subst e;exact I.call (g':=g') (t':=t') (d':=d') u hok hg hch
abbrev XK:=Value->Option Addr->Hp->Prop
abbrev St:=List (Option V)
abbrev VK:=V->Hp->Prop
abbrev TE:=St->Hp->VK->Prop
abbrev TT:=St->Hp->(Bool->Hp->Prop)->Prop
abbrev TA:=St->Hp->(List V->Hp->Prop)->Prop
structure Ends where
 nx:St->Hp->Prop
 rt:VK
 bk:St->Hp->Prop:=fun _ _=>False
 ct:St->Hp->Prop:=fun _ _=>False
abbrev TS:=Ends->St->Hp->Prop
def EP (X:Cx) (pins:List (Addr × Obj)) (σ : St) (Q:VK) (u:Value) (s':Shared):Prop:=∃ v H',Inv X pins σ H' s'/\RelV v u/\Q v H'
def TP (X:Cx) (pins:List (Addr × Obj)) (σ : St) (Q:Bool->Hp->Prop) (b:Bool) (s':Shared):Prop:=∃ H',Inv X pins σ H' s'/\Q b H'
def AP (X:Cx) (pins:List (Addr × Obj)) (σ : St) (Q:List V->Hp->Prop) (us:List Value) (s':Shared):Prop:=∃ vs H',Inv X pins σ H' s'/\Vals vs us/\Q vs H'
def SP (X:Cx) (pins:List (Addr × Obj)) (D:Ends) (f:Flow) (s':Shared):Prop :=
 match f with
 | .next=>∃ σ' H',Inv X pins σ' H' s'/\D.nx σ' H'
 | .brk=>∃ σ' H',Inv X pins σ' H' s'/\D.bk σ' H'
 | .cont=>∃ σ' H',Inv X pins σ' H' s'/\D.ct σ' H'
 | .ret u=>∃ v σ' H',Inv X pins σ' H' s'/\RelV v u/\D.rt v H'
def PE (X:Cx) (e:Expr) (t:TE):Prop :=
 ∀ (pins:List (Addr × Obj)) (s:Shared) (σ : St) (H:Hp) (Q:VK),Inv X pins σ H s->t σ H Q->wpAny (model X.prog X.w) X.A (eval e X.env) (EP X pins σ Q) X.xe s
def PT (X:Cx) (e:Expr) (t:TT):Prop :=
 ∀ (pins:List (Addr × Obj)) (s:Shared) (σ : St) (H:Hp) (Q:Bool->Hp->Prop),Inv X pins σ H s->t σ H Q->wpAny (model X.prog X.w) X.A (isTrue e X.env (eval e X.env)) (TP X pins σ Q) X.xe s
def PW (X:Cx) (e:Expr) (t:TT):Prop :=
 ∀ (whole:Sem Value) (pins:List (Addr × Obj)) (s:Shared) (σ : St) (H:Hp) (Q:Bool->Hp->Prop),Inv X pins σ H s->t σ H Q->wpAny (model X.prog X.w) X.A (isTrue e X.env whole) (TP X pins σ Q) X.xe s
variable {e:Expr}
theorem PW.pt {t:TT} (h:PW X e t):PT X e t:=h _
def PA (X:Cx) (es:List Expr) (t:TA):Prop :=
 ∀ (pos:Pos) (pins:List (Addr × Obj)) (s:Shared) (σ : St) (H:Hp) (Q:List V->Hp->Prop),Inv X pins σ H s->t σ H Q->wpAny (model X.prog X.w) X.A (spliced (backTo pos (starEach es X.env))) (AP X pins σ Q) X.xe s
def PS (X:Cx) (st:Stmt) (t:TS):Prop :=
 ∀ (pins:List (Addr × Obj)) (s:Shared) (σ : St) (H:Hp) (D:Ends),Inv X pins σ H s->t D σ H->wpAny (model X.prog X.w) X.A (exec st X.env) (SP X pins D) X.xe s
def PSs (X:Cx) (st:List Stmt) (t:TS):Prop :=
 ∀ (pins:List (Addr × Obj)) (s:Shared) (σ : St) (H:Hp) (D:Ends),Inv X pins σ H s->t D σ H->wpAny (model X.prog X.w) X.A (execs st X.env) (SP X pins D) X.xe s
theorem thn {t:Sem α} {Q Q' : α->Shared->Prop} (h:wpAny M A t Q E s) (hQ:∀ a s,Q a s->Q' a s):wpAny M A t Q' E s:=wpAny_mono h hQ fun _ _ x=>x
section
def tVar (i:Nat):TE:=fun σ H Q=>∃ v,σ[i]?=some (some v)/\Q v H
def tC (v:V):TE:=fun _ H Q=>Q v H
variable {pos:Pos}
theorem JlX (hN:X.N[i]?=some x) (hv:Vis X.env.scope x) (hd:(x == ("__debug__" : Str))=false:=by decide) (hcd:(x == ("__classdict__" : Str))=false:=by decide):PE X (.Name x pos) (tVar i):=by
 intro b s σ H Q I h;obtain ⟨v,e,h⟩:=h;obtain ⟨m,f,d⟩:=I.loc;obtain ⟨u,r,l⟩:=d i x v hN e hv;have a:EP X b σ Q u s:=⟨v,H,I,r,h⟩;rcases l with ⟨hk,hm⟩ | ⟨hk,c,hc,hcell⟩
 ·exact wpAny_Name (wpAny_loadName_local I.ok.kind hk f hm a) hd
 ·rcases hk with hk | hk
  ·exact wpAny_Name (wpAny_loadName_cell I.ok.kind hk hc hcell a) hd
  ·exact wpAny_Name (wpAny_loadName_free I.ok.kind hk hc hcell a hcd) hd
theorem Jad {i j pos}:PE X (.Constant (.int i) j pos) (tC (.int i)):=fun _ _ _ H _ I h=>wpAny_Constant_int ⟨.int i,H,I.tok _,⟨_,rfl⟩,h⟩
theorem pe_bl {b j pos}:PE X (.Constant (.bool b) j pos) (tC (.bl b)):=fun _ _ _ H _ I h=>Constant_bool ⟨.bl b,H,I,rfl,h⟩
theorem JaI {j pos}:PE X (.Constant .none j pos) (tC .non):=fun _ _ _ H _ I h=>Constant_none ⟨.non,H,I,rfl,h⟩
theorem Jbf {x j pos}:PE X (.Constant (.str x) j pos) (tC (.str x)):=fun _ _ _ H _ I h=>Calls.Constant_str ⟨.str x,H,I.tok _,⟨_,rfl⟩,h⟩
def Gl (X:Cx) (x:Str):Prop:=X.env.kindOf x=some .globalImplicit
variable {σ:St} {Q:Value->Shared->Prop}
theorem Jb0 (I:Inv X pins σ H s) (hg:Gl X x) (hm:X.mg x=some u) (h:Q u s)
  (hd:(x == ("__debug__" : Str))=false:=by decide):wpAny (model X.prog X.w) X.A (eval (.Name x pos) X.env) Q E s :=
 Calls.Name_function_global I.ok.kind hg (Calls.loadGlobal_global (by rw [I.ok.glob];exact I.mod.glob.keeps I.bk) hm h) hd
theorem JcT (I:Inv X pins σ H s) (hg:Gl X x) (hm:X.mg x=none) (hv:bootBuiltins x=some u) (h:Q u s)
  (hn:x≠"__name__":=by decide) (hd:(x == ("__debug__" : Str))=false:=by decide):wpAny (model X.prog X.w) X.A (eval (.Name x pos) X.env) Q E s:=by
 obtain ⟨c,a,b⟩:=I.mod.blt;exact Calls.Name_function_global I.ok.kind hg (Calls.loadGlobal_builtin (by rw [I.ok.glob];exact I.mod.glob.keeps I.bk) hm (by rw [I.ok.blt];exact a.keeps I.bk) ((b x hn).trans hv) h) hd
theorem Jdp (hg:Gl X x) (hm:X.mg x=some u) (r:RelV v u) (hd:(x == ("__debug__" : Str))=false:=by decide):PE X (.Name x pos) (tC v) :=
 fun _ _ _ H _ I h=>Jb0 I hg hm ⟨v,H,I,r,h⟩ hd
theorem Jec (hg:Gl X x) (hm:X.mg x=none) (hv:bootBuiltins x=some u) (r:RelV v u) (hn:x≠"__name__":=by decide) (hd:(x == ("__debug__" : Str))=false:=by decide):PE X (.Name x pos) (tC v) :=
 fun _ _ _ H _ I h=>JcT I hg hm hv ⟨v,H,I,r,h⟩ hn hd
variable {a b:Expr} {ta tb:TE}
def PC (X:Cx) (op:CmpOp) (a b:Expr) (t:TE):Prop :=
 ∀ (pins:List (Addr × Obj)) (s:Shared) (σ : St) (H:Hp) (Q:VK),Inv X pins σ H s->t σ H Q ->
  wpAny (model X.prog X.w) X.A (eval a X.env) (fun v s₁=>wpAny (model X.prog X.w) X.A (eval b X.env) (fun u s₂=>wpAny (model X.prog X.w) X.A (compareOp op v u) (EP X pins σ Q) X.xe s₂) X.xe s₁) X.xe s
def tB (t:TE):TT:=fun σ H Q=>t σ H fun x H1=>∃ c,x=.bl c/\Q c H1
theorem Jcd {op:CmpOp} {t:TE} (h:PC X op a b t) (h1:behindInMarks op b=false:=by first | exact nobehind _ ⋯ ⋯ | rfl):PT X (.Compare a [op] [b] pos) (tB t):=by
 intro e s σ H Q I g;refine wpAny_isTrue_Compare1 (thn (h e s σ H _ I g) fun v n h1=>thn h1 fun u m j=>thn j fun c l ζ=>?_) h1;obtain ⟨x,k,I1,i,f⟩:=ζ;obtain ⟨d,rfl,q⟩:=f;cases i;exact wpAny_truthy_bool ⟨k,I1,q⟩
theorem Jce {t:TE} (h:PE X e t) (he:∀ whole,isTrue e X.env whole=(do let v <- whole;standAt e.pos;holding [v] (truthy v)):=by intro _;rfl):PT X e (tB t):=by
 intro a s σ H Q I b;refine isTrue_plain (thn (h a s σ H _ I b) fun v i ζ=>?_) (he _);obtain ⟨x,g,I1,c,f⟩:=ζ;obtain ⟨d,rfl,q⟩:=f;cases c;exact wpAny_truthy_bool ⟨g,I1,q⟩
variable {tA tB':TT} {rest:List Expr}
def tAnd (t u:TT):TT:=fun σ H Q=>t σ H fun c H1=>if c=true then u σ H1 Q else Q false H1
def tOr (t u:TT):TT:=fun σ H Q=>t σ H fun c H1=>if c=true then Q true H1 else u σ H1 Q
def tNot (t:TT):TT:=fun σ H Q=>t σ H fun c H1=>Q (!c) H1
theorem JcB (ha:PT X a tA):PW X (.BoolOp .And [a] pos) tA:=by
 intro d b s σ H Q I h;refine isTrue_and (thn (ha b s σ H Q I h) fun c f e=>?_);cases c with
 | true=>exact isTrue_and_nil e
 | false=>exact e
theorem Jcp (ha:PT X a tA):PW X (.BoolOp .Or [a] pos) tA:=by
 intro d b s σ H Q I h;refine isTrue_or (thn (ha b s σ H Q I h) fun c f e=>?_);cases c with
 | false=>exact isTrue_or_nil e
 | true=>exact e
theorem Jdy (ha:PT X a tA) (hb:PW X (.BoolOp .And (b::rest) pos) tB'):PW X (.BoolOp .And (a::b::rest) pos) (tAnd tA tB'):=by
 intro i d s σ H Q I h;refine isTrue_and (thn (ha d s σ H _ I h) fun c g ⟨f,I1,e⟩=>?_);cases c with
 | true=>exact hb i d g σ f Q I1 e
 | false=>exact ⟨f,I1,e⟩
theorem pw_or (ha:PT X a tA) (hb:PW X (.BoolOp .Or (b::rest) pos) tB'):PW X (.BoolOp .Or (a::b::rest) pos) (tOr tA tB'):=by
 intro i d s σ H Q I h;refine isTrue_or (thn (ha d s σ H _ I h) fun c g ⟨f,I1,e⟩=>?_);cases c with
 | true=>exact ⟨f,I1,e⟩
 | false=>exact hb i d g σ f Q I1 e
theorem JcA (ha:PT X a tA):PT X (.UnaryOp .Not a pos) (tNot tA):=by
 intro b s σ H Q I h;exact isTrue_not (ha b s σ H (fun c d=>Q (!c) d) I h)
def tAndV (ta tb:TE):TE:=fun σ H Q=>ta σ H fun x H1=>∃ c,x=.bl c/\if c=true then tb σ H1 Q else Q (.bl false) H1
def tOrV (ta tb:TE):TE:=fun σ H Q=>ta σ H fun x H1=>∃ c,x=.bl c/\if c=true then Q (.bl true) H1 else tb σ H1 Q
def tNotV (ta:TE):TE:=fun σ H Q=>ta σ H fun x H1=>∃ c,x=.bl c/\Q (.bl (!c)) H1
theorem Jdw {op} {t:TE} (h:PE X a t):PE X (.BoolOp op [a] pos) t:=fun b s σ H Q I c=>BoolOp_one (h b s σ H Q I c)
theorem Jda (ha:PE X a ta) (hb:PE X (.BoolOp .And (b::rest) pos) tb):PE X (.BoolOp .And (a::b::rest) pos) (tAndV ta tb):=by
 intro d s σ H Q I h;refine BoolOp_and (thn (ha d s σ H _ I h) fun v i ζ=>?_);obtain ⟨x,f,I1,g,e⟩:=ζ;obtain ⟨c,rfl,e⟩:=e;cases g;refine wpAny_truthy_bool ?_;cases c with
 | true=>exact hb d i σ f Q I1 e
 | false=>exact ⟨.bl false,f,I1,rfl,e⟩
theorem pe_or (ha:PE X a ta) (hb:PE X (.BoolOp .Or (b::rest) pos) tb):PE X (.BoolOp .Or (a::b::rest) pos) (tOrV ta tb):=by
 intro d s σ H Q I h;refine BoolOp_or (thn (ha d s σ H _ I h) fun v i ζ=>?_);obtain ⟨x,f,I1,g,e⟩:=ζ;obtain ⟨c,rfl,e⟩:=e;cases g;refine wpAny_truthy_bool ?_;cases c with
 | false=>exact hb d i σ f Q I1 e
 | true=>exact ⟨.bl true,f,I1,rfl,e⟩
theorem Jkr (ha:PE X a ta):PE X (.UnaryOp .Not a pos) (tNotV ta):=by
 intro b s σ H Q I h;refine UnaryOp_ (thn (ha b s σ H _ I h) fun v g ζ=>?_);obtain ⟨x,f,I1,e,d⟩:=ζ;obtain ⟨c,rfl,d⟩:=d;cases e;exact not_of (wpAny_truthy_bool ⟨.bl (!c),f,I1,rfl,d⟩)
def tIf (t:TT) (ta tb:TE):TE:=fun σ H Q=>t σ H fun c H1=>if c=true then ta σ H1 Q else tb σ H1 Q
variable {c:Expr}
theorem JjH (hc:PT X c tA) (ha:PE X a ta) (hb:PE X b tb):PE X (.IfExp c a b pos) (tIf tA ta tb):=by
 intro e s σ H Q I h;refine wpAny_IfExp (thn (hc e s σ H _ I h) fun d g ⟨i,I1,f⟩=>?_);cases d with
 | true=>exact ha e g σ i Q I1 f
 | false=>exact hb e g σ i Q I1 f
end
def SqL (K:W.Frag) (H:Hp) (a:Addr) (xs:List V):Prop :=
 Rd H a (.lst xs) \/
  ∃ (o:Obj) (its:Array Value) (n:Nat),K.lookup a=some o/\o.cls=.type "list"/\o.dict=none/\o.data=.seq its n/\its.size<=sizeLine/\Vals xs its.toList
def SqT (K:W.Frag) (H:Hp) (a:Addr) (xs:List V):Prop :=
 Rd H a (.tup xs) \/
  ∃ (o:Obj) (its:Array Value) (n:Nat),K.lookup a=some o/\o.cls=.type "tuple"/\o.data=.seq its n/\its.size<=sizeLine/\Vals xs its.toList
def absV:Value->Option V
 | .none=>some .non
 | .bool b=>some (.bl b)
 | .int i _=>some (.int i)
 | .str x _=>some (.str x)
 | .bytes b _=>some (.byt b)
 | .float b _=>some (.flt b)
 | .ref a=>some (.ref a)
 | .type n=>some (.ty n)
 | _=>none
variable {x:V}
theorem RelV.abs (r:RelV x u):absV u=some x:=by
 cases x with
 | non=>cases r;rfl
 | bl _=>cases r;rfl
 | int _=>obtain ⟨t,rfl⟩:=r;rfl
 | str _=>obtain ⟨t,rfl⟩:=r;rfl
 | byt _=>obtain ⟨t,rfl⟩:=r;rfl
 | flt _=>obtain ⟨t,rfl⟩:=r;rfl
 | ref _=>cases r;rfl
 | ty _=>cases r;rfl
variable {y:V}
theorem RelV.inj (r:RelV x u) (q:RelV y u):x=y:=Option.some.inj (r.abs.symm.trans q.abs)
theorem Vals.inj:∀ {xs ys:List V} {us:List Value},Vals xs us->Vals ys us->xs=ys
 | _,_,_, .nil, .nil=>rfl
 | _,_,_, .cons r t, .cons r' t'=>by rw [r.inj r',Vals.inj t t']
variable {σ:St} {ys:List V}
theorem SqL.of {K:W.Frag} (h:H a=some (.lst xs)):SqL K H a xs:=.inl (.inl h)
theorem SqT.of {K:W.Frag} (h:H a=some (.tup xs)):SqT K H a xs:=.inl (.inl h)
theorem Inv.list (I:Inv X pins σ H s) (h:SqL X.K H a xs):∃ its:List Value,Vals xs its/\PlainL s.heap a its.toArray/\xs.length<=sizeLine:=by
 rcases h with h | ⟨o,its,n,hk,hc,hd,hs,hz,r⟩
 ·obtain ⟨z,its,n,r,e⟩:=h.ok I.hok;exact ⟨its,r,⟨_,n,e,rfl,rfl,rfl⟩,z⟩
 ·refine ⟨its.toList,r,⟨o,n,I.kIn a o hk,hc,hd,by simpa using hs⟩,?_⟩;have e:=r.length;simp only [Array.length_toList] at e;ac_nf
theorem Inv.tuple (I:Inv X pins σ H s) (h:SqT X.K H a xs):∃ its:List Value,Vals xs its/\IsTup s.heap a its.toArray/\xs.length<=sizeLine:=by
 rcases h with h | ⟨o,its,n,hk,hc,hs,hz,r⟩
 ·obtain ⟨z,its,r,p⟩:=h.ok I.hok;exact ⟨its,r,p,z⟩
 ·refine ⟨its.toList,r,⟨o,I.kIn a o hk,hc,n,by simpa using hs⟩,?_⟩;have e:=r.length;simp only [Array.length_toList] at e;ac_nf
theorem Inv.list_inj (I:Inv X pins σ H s) (h:SqL X.K H a xs) (h':SqL X.K H a ys):xs=ys:=by
 obtain ⟨c,r,⟨o,n,e,_,_,d⟩,_⟩:=I.list h;obtain ⟨b,i,⟨k,j,f,_,_,g⟩,_⟩:=I.list h';rw [e] at f;cases f;rw [d] at g;injection g with d1 _
 have : c=b:=by simpa using congrArg Array.toList d1
 subst this;exact r.inj i
theorem Inv.tuple_inj (I:Inv X pins σ H s) (h:SqT X.K H a xs) (h':SqT X.K H a ys):xs=ys:=by
 obtain ⟨c,r,⟨o,e,_,n,d⟩,_⟩:=I.tuple h;obtain ⟨b,i,⟨k,f,_,j,g⟩,_⟩:=I.tuple h';rw [e] at f;cases f;rw [d] at g;injection g with d1 _
 have : c=b:=by simpa using congrArg Array.toList d1
 subst this;exact r.inj i
abbrev Cx.wish (X:Cx) (E:Value->Shared->Prop):Cx:={ X with xe:=E }
abbrev Cx.nox (X:Cx):Cx:=X.wish fun _ _=>False
theorem Cx.Ok.wish (ok:X.Ok) (E:Value->Shared->Prop):(X.wish E).Ok :=
 ⟨ok.mod,ok.kind,ok.glob,ok.blt,ok.above,ok.inj,ok.has,ok.cab,ok.hd,ok.frames,ok.stk,ok.exf,ok.bs,ok.bsz,ok.noex,ok.exfs,ok.funs,ok.frf⟩
theorem Cx.Ok.unwish (ok:(X.wish E).Ok):X.Ok :=
 ⟨ok.mod,ok.kind,ok.glob,ok.blt,ok.above,ok.inj,ok.has,ok.cab,ok.hd,ok.frames,ok.stk,ok.exf,ok.bs,ok.bsz,ok.noex,ok.exfs,ok.funs,ok.frf⟩
theorem Inv.wish (I:Inv X pins σ H s) (E:Value->Shared->Prop):Inv (X.wish E) pins σ H s:=⟨I.ok.wish E,I.os,I.bare,I.base,I.loc,I.cell,I.free,I.freeC,I.pin,I.hok,I.len⟩
theorem Inv.unwish (I:Inv (X.wish E) pins σ H s):Inv X pins σ H s:=⟨I.ok.unwish,I.os,I.bare,I.base,I.loc,I.cell,I.free,I.freeC,I.pin,I.hok,I.len⟩
theorem SP.unwish {D:Ends} {f:Flow} (h:SP (X.wish E) pins D f s'):SP X pins D f s':=by
 cases f with
 | next=>obtain ⟨σ',a,I,q⟩:=h;exact ⟨σ',a,I.unwish,q⟩
 | brk=>obtain ⟨σ',a,I,q⟩:=h;exact ⟨σ',a,I.unwish,q⟩
 | cont=>obtain ⟨σ',a,I,q⟩:=h;exact ⟨σ',a,I.unwish,q⟩
 | ret u=>obtain ⟨v,σ',a,I,r,q⟩:=h;exact ⟨v,σ',a,I.unwish,r,q⟩
theorem PSs.nox {st:List Stmt} {t:TS} (h:PSs X.nox st t):PSs X st t:=fun a s σ H D I b=>
 wpAny_mono (h a s σ H D (I.wish _) b) (fun _ _ q=>q.unwish) fun _ _ z=>False.elim z
section
variable {st:Stmt} {u:TS} {te:TE} {pos:Pos} {rest:List Stmt} {t:TS}
def tNext:TS:=fun D σ H=>D.nx σ H
def tSeq (t u:TS):TS:=fun D σ H=>t { D with nx:=u D } σ H
theorem Jap:PSs X [] tNext:=fun _ _ σ H _ I h=>wpAny_execs_nil ⟨σ,H,I,h⟩
theorem Jab (h1:PS X st t) (h2:PSs X rest u):PSs X (st::rest) (tSeq t u):=by
 intro a s σ H D I h;refine wpAny_execs_cons (thn (h1 a s σ H { D with nx:=u D } I h) fun f c q=>?_);cases f with
 | next=>
  obtain ⟨σ',b,I',q⟩:=q;exact h2 a c σ' b D I' q
 | ret v=>exact q
 | brk=>exact q
 | cont=>exact q
theorem Jaf (h1:PS X st t):PSs X [st] t:=by
 intro a s σ H D I h;refine wpAny_execs_cons (thn (h1 a s σ H D I h) fun f b q=>?_);cases f with
 | next=>exact wpAny_execs_nil q
 | ret v=>exact q
 | brk=>exact q
 | cont=>exact q
theorem Inv.quiet (I:Inv X pins σ H s):interactive X.env=false:=by simp [interactive,I.ok.kind]
def tDrop (te:TE):TS:=fun D σ H=>te σ H fun _ H1=>D.nx σ H1
theorem JaW (he:PE X e te) (hs:swapsWith e none pos.line X.env=pure false:=by rfl):PS X (.Expr e pos) (tDrop te):=by
 intro a s σ H D I h;exact wpAny_Expr_any (thn (he a s σ H _ I h) fun v f ζ=>by obtain ⟨x,c,I1,d,b⟩:=ζ;exact ⟨σ,c,I1,b⟩) I.quiet hs
def tRet (te:TE):TS:=fun D σ H=>te σ H D.rt
theorem Jal (he:PE X e te):PS X (.Return (some e) pos) (tRet te):=by
 intro a s σ H D I h;exact wpAny_Return_some (thn (he a s σ H _ I h) fun v f ζ=>by obtain ⟨x,d,I1,b,c⟩:=ζ;exact ⟨x,σ,d,I1,b,c⟩)
def tRetN:TS:=fun D _ H=>D.rt .non H
def tIfS (c:TT) (t u:TS):TS:=fun D σ H=>c σ H fun b H1=>if b=true then t D σ H1 else u D σ H1
variable {c:Expr} {tc:TT}
theorem ps_if {a b:List Stmt} (hc:PT X c tc) (ha:PSs X a t) (hb:PSs X b u):PS X (.If c a b pos) (tIfS tc t u):=by
 intro e s σ H D I h;refine wpAny_If (thn (hc e s σ H _ I h) fun d g ⟨i,I1,f⟩=>?_);cases d with
 | true=>exact ha e g σ i D I1 f
 | false=>exact hb e g σ i D I1 f
end
abbrev TG:=V->St->Hp->(St->Hp->Prop)->Prop
abbrev TGs:=List V->St->Hp->(St->Hp->Prop)->Prop
def PG (X:Cx) (target:Expr) (t:TG):Prop :=
 ∀ (pins:List (Addr × Obj)) (s:Shared) (σ : St) (H:Hp) (v:V) (u:Value) (Q:St->Hp->Prop),Inv X pins σ H s->RelV v u->t v σ H Q ->
  wpAny (model X.prog X.w) X.A (assign target X.env u) (fun _ s'=>∃ σ' H',Inv X pins σ' H' s'/\Q σ' H') X.xe s
def PGs (X:Cx) (ts:List Expr) (t:TGs):Prop :=
 ∀ (pins:List (Addr × Obj)) (s:Shared) (σ : St) (H:Hp) (vs:List V) (us:List Value) (Q:St->Hp->Prop),Inv X pins σ H s->Vals vs us->t vs σ H Q ->
  wpAny (model X.prog X.w) X.A (assignInOrder ((assignEach ts X.env).map (·.2)) us) (fun _ s'=>∃ σ' H',Inv X pins σ' H' s'/\Q σ' H') X.xe s
abbrev TSet:=V->V->V->Hp->(Hp->Prop)->Prop
def PSet (X:Cx) (t:TSet):Prop :=
 ∀ (pins:List (Addr × Obj)) (s:Shared) (σ : St) (H:Hp) (o i v:V) (ov iv u:Value) (Q:Hp->Prop),Inv X pins σ H s->RelV o ov->RelV i iv->RelV v u->t o i v H Q ->
  wpAny (model X.prog X.w) X.A (setItem ov iv u) (fun _ s'=>∃ H',Inv X pins σ H' s'/\Q H') X.xe s
variable {pos:Pos}
def gName (i:Nat):TG:=fun v σ H Q=>Q (σ.set i (some v)) H
variable {x:Str}
theorem Jat (i:Nat) (hN:X.N.Nodup) (hi:X.N[i]?=some x:=by exact rfl) (hx:Loc X.env.scope x:=by exact Or.inl rfl) (hf:X.fn x=true\/X.env.scope.names.lookup x=some .local:=by first | exact .inl rfl | exact .inr rfl | assumption):PG X (.Name x pos) (gName i):=by
 intro a s σ H v u Q I r h;exact wpAny_assign_Name (JdO I hN hi hx r (fun b I'=>⟨_,H,I',h⟩) hf)
def gNil:TGs:=fun vs σ H Q=>vs=[]/\Q σ H
def gCons (t:TG) (u:TGs):TGs:=fun vs σ H Q=>∃ v r,vs=v::r/\t v σ H fun σ' H'=>u r σ' H' Q
theorem Jdq:PGs X [] gNil:=by
 intro a s σ H c b Q I r h;obtain ⟨e,h⟩:=h;subst e;cases r;exact assignInOrder_nil ⟨σ,H,I,h⟩
variable {es:List Expr}
theorem JaT {t:TG} {u:TGs} (h1:PG X e t) (h2:PGs X es u)
  (hs:(assignEach (e::es) X.env).map (·.2)=assign e X.env::(assignEach es X.env).map (·.2):=by rfl):PGs X (e::es) (gCons t u):=by
 intro a s σ H j i Q I r h;obtain ⟨v,g,b,h⟩:=h;subst b;cases r with
 | cons r rr=>
  rw [hs];refine assignInOrder_cons (thn (h1 a s σ H _ _ _ I r h) fun _ d ⟨σ1,f,I1,c⟩=>?_);exact h2 a d σ1 f _ _ Q I1 rr c
def gTup (K:W.Frag) (n:Nat) (t:TGs):TG:=fun v σ H Q=>∃ a xs,v=.ref a/\SqT K H a xs/\xs.length=n/\t xs σ H Q
theorem Jf3 {k:Nat} {t:TGs} {n:Nat} (hc:X.calm=true) (h:PGs X es t)
  (hn:(assignEach es X.env).length=n:=by rfl) (hst:(assignEach es X.env).findIdx? (·.1)=none:=by rfl):PG X (.Tuple es k pos) (gTup X.K n t):=by
 intro c s σ H v u Q I r d;obtain ⟨a,p,j,i,l,d⟩:=d;subst j;cases r;obtain ⟨g,f,m,x⟩:=I.tuple i;refine assign_Tuple_tuple (I.ok.hd hc) m (by simp [hn, <- l,f.length]) hst fun w q=>?_;have I1:Inv X c σ H { s with heap:=w }:=I.kept (t':=s.toks) fun b o e=>q b o (Nat.ne_of_lt (Heap.lt_size e)) e;exact h c _ σ H p _ Q I1 (by simpa using f) d
def gSub (to ti:TE) (t:TSet):TG:=fun v σ H Q=>to σ H fun o H1=>ti σ H1 fun i H2=>t o i v H2 fun H3=>Q σ H3
theorem JlY {o i:Expr} {to ti:TE} {t:TSet} (ho:PE X o to) (hi:PE X i ti) (hs:PSet X t)
  (ha:∀ v,assign (.Subscript o i pos) X.env v=(do
   let ov <- holding [v] (eval o X.env)
   let iv <- holding [v,ov] (eval i X.env)
   standAt pos
   holding [v,ov,iv] (setItem ov iv v)
   release [v,ov,iv] []):=by intro _;rfl):PG X (.Subscript o i pos) (gSub to ti t):=by
 intro a s σ H v u Q I r h;rw [ha];refine wpAny_bind (wpAny_holding (thn (ho a s σ H _ I h) fun ov l ζ=>?_));obtain ⟨x,m,I1,g,b⟩:=ζ;refine wpAny_bind (wpAny_holding (thn (hi a l σ m _ I1 b) fun iv f ζ=>?_));obtain ⟨y,j,I2,k,e⟩:=ζ;refine wpAny_bind (wpAny_standAt (wpAny_bind (wpAny_holding (thn (hs a f σ j x y v ov iv u _ I2 g k r e) fun _ n ⟨c,I3,d⟩=>?_))));exact wpAny_release ⟨σ,c,I3,d⟩
def tAsg (te:TE) (g:TG):TS:=fun D σ H=>te σ H fun x H1=>g x σ H1 D.nx
variable {tg:Expr} {te:TE}
theorem JiP {g:TG} (he:PE X e te) (hg:PG X tg g) (hs:swapsWithSole [tg] e pos.line X.env=pure false:=by rfl) (hw:swappedStores [tg] e X.env=pure none:=by rfl)
  (h1:(assignEach [tg] X.env).map (·.2)=[assign tg X.env]:=by rfl):PS X (.Assign [tg] e pos) (tAsg te g):=by
 intro a s σ H D I h;refine wpAny_Assign_stores (thn (he a s σ H _ I h) fun v d ζ=>?_) hs hw;obtain ⟨x,f,I1,b,c⟩:=ζ;rw [h1];exact thn (hg a d σ f x v _ I1 b c) fun _ i q=>q
variable {pos':Pos}
theorem Jaj (i:Nat) (hN:X.N.Nodup) (he:PE X e te) (hi:X.N[i]?=some x:=by exact rfl) (hx:Loc X.env.scope x:=by exact Or.inl rfl) (hs:swapsWith e (some (.Name x pos')) pos.line X.env=pure false:=by rfl) (hf:X.fn x=true\/X.env.scope.names.lookup x=some .local:=by first | exact .inl rfl | exact .inr rfl | assumption) :
  PS X (.Assign [.Name x pos'] e pos) (tAsg te (gName i)):=by
 intro a s σ H D I h;refine wpAny_Assign_Name (thn (he a s σ H _ I h) fun v g ζ=>?_) hs;obtain ⟨y,d,I1,b,c⟩:=ζ;exact JdO I1 hN hi hx b (fun f I2=>⟨_,d,I2,c⟩) hf
def Jmd (c:TT) (tb:TS):TS:=fun D σ H=>∃ W:Nat->St->Hp->Prop,(∃ m,W m σ H)/\∀ m σ H,W m σ H ->
 c σ H fun b H1=>if b=true then ∃ N:St->Hp->Prop,(∀ σ' H',N σ' H'->∃ m',m'<m/\W m' σ' H')/\tb { D with nx:=N,ct:=N,bk:=D.nx } σ H1 else D.nx σ H1
variable {c:Expr} {body:List Stmt} {tb:TS}
theorem JdN {tc:TT} (hp:PassesOwn (model X.prog X.w) X.A X.env X.xe) (hc:PT X c tc) (hb:PSs X body tb):PS X (.While c body [] pos) (Jmd tc tb):=by
 intro a s σ H D I h;obtain ⟨W,⟨y,x⟩,e⟩:=h;refine wpAny_While (codeAny_whileLoop (fun n r=>∃ σ' H',Inv X a σ' H' r/\W n σ' H') ?_ y ⟨σ,H,I,x⟩);rintro n z ⟨σ1,q,I1,t⟩;refine wpAny_passesOwn hp (thn (hc a z σ1 q _ I1 (e n σ1 q t)) fun b u ζ=>?_);obtain ⟨p,I2,i⟩:=ζ;cases b with
 | true=>
  obtain ⟨N,o,i⟩:=i;rw [if_pos rfl];refine wpAny_passesOwn hp (thn (hb a u σ1 p _ I2 i) fun f B g=>?_);cases f with
  | next=>
   obtain ⟨σ3,d,I3,l⟩:=g;obtain ⟨m,k,j⟩:=o σ3 d l;exact ⟨m,k,σ3,d,I3,j⟩
  | cont=>
   obtain ⟨σ3,d,I3,l⟩:=g;obtain ⟨m,k,j⟩:=o σ3 d l;exact ⟨m,k,σ3,d,I3,j⟩
  | brk=>exact g
  | ret v=>exact g
 | false=>
  rw [if_neg Bool.false_ne_true];exact wpAny_execs_nil ⟨σ1,p,I2,i⟩
structure It where
 go:Nat->Hp->Prop
 yld:Nat->Hp->V->Hp->Prop
 stop:Nat->Hp->Prop
def FpOk (X:Cx) (pins:List (Addr × Obj)) (H:Hp) (b:Addr):Prop :=
 H b=none/\b≠X.env.locals/\b∉X.fs/\(b∈X.ex\/X.s₀.heap.objs.size<=b)/\(∀ x c,X.env.cells.lookup x=some c->c≠b)/\∀ p∈X.pn++pins,p.1≠b
theorem Inv.fpOk (I:Inv X pins σ H s) (hb:s.heap.objs.size<=b) (hn:H' b=none):FpOk X pins H' b:=by
 refine ⟨hn,Nat.ne_of_gt (Nat.lt_of_lt_of_le I.lt hb),I.nofs hb, .inr (Nat.le_trans I.sz hb),fun x c e z=>?_,fun p a z=>?_⟩
 ·obtain ⟨v,q⟩:=I.cell x c e;exact absurd (Nat.lt_of_lt_of_le q.lt (by rw [z];exact hb)) (Nat.lt_irrefl _)
 ·exact absurd (Nat.lt_of_lt_of_le (Heap.lt_size (I.pin p a).1) (by rw [z];exact hb)) (Nat.lt_irrefl _)
structure Turn (P:Program) (w:World) (K:W.Frag) (tg:Expr) (J:It) (fp:List Addr) (it:Addr) (tn:Nat->Heap->Prop):Prop where
 mem:it∈fp
 obj:∀ i h,tn i h->∀ b∈fp, ∃ o,h.get? b=some o/\∀ v,o.data≠.cell v
 keep:∀ i h h',tn i h->(∀ b∈fp, ∀ o,h.get? b=some o->h'.get? b=some o)->tn i h'
 item:∀ (X:Cx),X.prog=P->X.w=w->X.K=K->X.calm=true->∀ (i:Nat) (pins:List (Addr × Obj)) (s:Shared) (σ : St) (H:Hp) (E:Value->Shared->Prop),Inv X pins σ H s->(∀ b∈fp,FpOk X pins H b)->tn i s.heap->J.go i H ->
  wpAny (model P w) X.A (pyNext (.ref it)) (fun r s1=>∃ u,r=some u /\
   wpAny (model P w) X.A (letOwnedTupleGo tg (.ref it) u) (fun _ s2=>∃ x H',Inv X pins σ H' s2/\RelV x u/\J.yld i H x H'/\tn (i+1) s2.heap/\∀ b∈fp,H' b=none) E s1) E s
 done:∀ (X:Cx),X.prog=P->X.w=w->X.K=K->X.calm=true->∀ (i:Nat) (pins:List (Addr × Obj)) (s:Shared) (σ : St) (H:Hp) (E:Value->Shared->Prop),Inv X pins σ H s->(∀ b∈fp,FpOk X pins H b)->tn i s.heap->J.stop i H ->
  wpAny (model P w) X.A (pyNext (.ref it)) (fun r s1=>r=none/\Inv X pins σ H s1) E s
 self:∀ (A:Around) (i:Nat) (s:Shared) (Q:Value->Shared->Prop) (E:Value->Shared->Prop),tn i s.heap->Q (.ref it) s->wpAny (model P w) A (pyIter (.ref it)) Q E s
abbrev TI:=St->Hp->(It->Hp->Prop)->Prop
def PIE (X:Cx) (pins:List (Addr × Obj)) (σ : St) (tg:Expr) (R:It->Hp->Prop) (itv:Value) (s2:Shared):Prop :=
 ∃ (it:Addr) (fp:List Addr) (tn:Nat->Heap->Prop) (J:It) (H':Hp),itv=.ref it/\Inv X pins σ H' s2/\Turn X.prog X.w X.K tg J fp it tn/\tn 0 s2.heap/\(∀ b∈fp,FpOk X pins H' b)/\R J H'
def PI (X:Cx) (tg iter:Expr) (wi:TI):Prop :=
 ∀ (pins:List (Addr × Obj)) (s:Shared) (σ : St) (H:Hp) (R:It->Hp->Prop),Inv X pins σ H s->wi σ H R ->
  wpAny (model X.prog X.w) X.A (eval iter X.env) (fun v s1=>wpAny (model X.prog X.w) X.A (pyIter v) (PIE X pins σ tg R) X.xe s1) X.xe s
variable {o:Obj}
theorem go_of {n:String} {vs:Array Value} (ho:s.heap.get? it=some o) (hc:o.cls=.type n) (hd:o.data=.fields vs)
    (hn:["enumerate","zip","dict_itemiterator","dict_reverseitemiterator","odict_iterator","itertools.zip_longest","itertools.pairwise"].contains n=false) (hQ:Q () s):wpAny M A (letOwnedTupleGo tg (.ref it) u) Q E s:=by
  unfold letOwnedTupleGo;cases tg <;> first
    | exact wpAny_pure hQ
    | (cases u <;> first
        | exact wpAny_pure hQ
        | (refine wpAny_bind (wpAny_load ho ?_)
           rw [hc,hd];show wpAny M A (if (["enumerate","zip","dict_itemiterator","dict_reverseitemiterator","odict_iterator","itertools.zip_longest","itertools.pairwise"].contains n&&vs[0]? == some (rawInt _))=true then _ else _) Q E s;rw [if_neg (by intro h;rw [hn,Bool.false_and] at h;cases h)];exact wpAny_pure hQ))
def Itl (K:W.Frag) (a:Addr):It :=
 ⟨fun i H=>∃ xs x,SqL K H a xs/\xs[i]?=some x,fun i H x H'=>H'=H/\∀ xs,SqL K H a xs->xs[i]?=some x,fun i H=>∃ xs,SqL K H a xs/\xs.length<=i⟩
def Itt (K:W.Frag) (a:Addr):It :=
 ⟨fun i H=>∃ xs x,SqT K H a xs/\xs[i]?=some x,fun i H x H'=>H'=H/\∀ xs,SqT K H a xs->xs[i]?=some x,fun i H=>∃ xs,SqT K H a xs/\xs.length<=i⟩
def Itr (lo:Int) (n:Nat):It:=⟨fun i _=>i<n,fun i H x H'=>H'=H/\x=.int (lo+i),fun i _=>n<=i⟩
theorem Ji7 {K:W.Frag} (a it:Addr):Turn P w K tg (Itl K a) [it] it (fun i h=>h.IsListIter it a i) where
 mem:=by simp
 obj:=fun i h f b j=>by
  have e:b=it:=by simpa using j
  subst e;obtain ⟨o,e,c,d⟩:=f;exact ⟨o,e,fun v z=>by rw [d] at z;cases z⟩
 keep:=fun i h n f k=>f.at fun o e=>k it (by simp) o e
 item:=by
  intro X D L C N i g s σ H E I q f B;subst D L C;obtain ⟨U,x,m,M⟩:=B;obtain ⟨t,J,p,V⟩:=I.list m;obtain ⟨u,S,O⟩:=J.get M;obtain ⟨y,r,Q,A,G,F⟩:=q it (by simp);refine wpAny_pyNext_list_item f p.isList (x:=u) (by simpa using S) fun n l T=>?_;have I1:Inv X g σ H { s with heap:=n }:=I.turned (t':=s.toks) (fun b o j e=>(T.2 b j).trans e) y r A G F;obtain ⟨o,e,c,d⟩:=id l;exact ⟨u,rfl,go_of (s:={ s with heap:=n }) e c d ⋯ ⟨x,H,I1,O,⟨rfl,fun ys Y=>by rw [I.list_inj Y m];exact M⟩,l,fun b j=>(q b j).1⟩⟩
 done:=by
  intro X D L C N i g s σ H E I q f B;subst D L C;obtain ⟨U,m,M⟩:=B;obtain ⟨t,J,p,V⟩:=I.list m;obtain ⟨y,r,Q,A,G,F⟩:=q it (by simp);have Z:=J.length;exact wpAny_pyNext_list_end (I.ok.hd N) f p.isList (by simp;ac_nf) fun n R=>⟨rfl,I.turned (t':=s.toks) (fun b o j e=>R b o j e) y r A G F⟩
 self:=fun _ _ _ _ _ f h=>wpAny_pyIter_listiter f h
theorem JhQ {K:W.Frag} (a it:Addr):Turn P w K tg (Itt K a) [it] it (fun i h=>h.IsTupleIter it a i) where
 mem:=by simp
 obj:=fun i h f b l=>by
  have e:b=it:=by simpa using l
  subst e;obtain ⟨o,e,c,d⟩:=f;exact ⟨o,e,fun v z=>by rw [d] at z;cases z⟩
 keep:=fun i h q f k=>f.at fun o e=>k it (by simp) o e
 item:=by
  intro X D L C N i g s σ H E I r f B;subst D L C;obtain ⟨U,x,n,M⟩:=B;obtain ⟨j,J,p,V⟩:=I.tuple n;obtain ⟨u,S,O⟩:=J.get M;obtain ⟨y,t,Q,A,G,F⟩:=r it (by simp);refine wpAny_pyNext_tuple_item f (show s.heap.IsTuple a j.toArray from p) (x:=u) (by simpa using S) fun q m T=>?_;have I1:Inv X g σ H { s with heap:=q }:=I.turned (t':=s.toks) (fun b o l e=>(T.2 b l).trans e) y t A G F;obtain ⟨o,e,c,d⟩:=id m;exact ⟨u,rfl,go_of (s:={ s with heap:=q }) e c d ⋯ ⟨x,H,I1,O,⟨rfl,fun ys Y=>by rw [I.tuple_inj Y n];exact M⟩,m,fun b l=>(r b l).1⟩⟩
 done:=by
  intro X D L C N i g s σ H E I r f B;subst D L C;obtain ⟨U,n,M⟩:=B;obtain ⟨j,J,p,V⟩:=I.tuple n;obtain ⟨y,t,Q,A,G,F⟩:=r it (by simp);have Z:=J.length;exact wpAny_pyNext_tuple_end (I.ok.hd N) f (show s.heap.IsTuple a j.toArray from p) (by simp;ac_nf) fun q R=>⟨rfl,I.turned (t':=s.toks) (fun b o l e=>R b o l e) y t A G F⟩
 self:=fun _ _ _ _ _ f h=>wpAny_pyIter_tupleiter f h
theorem JhP {K:W.Frag} (it:Addr) (lo:Int) (n:Nat):Turn P w K tg (Itr lo n) [it] it (fun i h=>IsRangeIter h it (lo+(i:Nat)*1) ((n:Int)-(i:Nat)) 1) where
 mem:=by simp
 obj:=fun i h a b d=>by
  have e:b=it:=by simpa using d
  subst e;exact ⟨_,a,fun v z=>by
   have G:Data.fields _=Data.cell v:=z;cases G⟩
 keep:=fun i h g a k=>k it (by simp) _ a
 item:=by
  intro X u A r B i c s σ H E I j a q;subst u A r;obtain ⟨m,l,F,p,y,x⟩:=j it (by simp);have W:=Walks.range (prog:=X.prog) (w:=X.w) (I.ok.hd B) it lo 1 n;refine W.item i s _ _ q a fun v g C D f L=>?_;obtain ⟨t,rfl⟩:=D;have I1:Inv X c σ H { s with heap:=g,toks:=C }:=I.turned (fun b o d e=>L b o (by simpa using d) e) m l p y x;refine ⟨_,rfl,go_of (s:={ s with heap:=g,toks:=C }) (n:="range_iterator") f rfl rfl ⋯ ⟨.int (lo+i),H,I1,⟨t,?_⟩,⟨rfl,rfl⟩,f,fun b d=>(j b d).1⟩⟩;rw [Int.mul_one]
 done:=by
  intro X u A r B i c s σ H E I j a q;subst u A r;obtain ⟨m,l,F,p,y,x⟩:=j it (by simp);exact wpAny_pyNext_range_end (I.ok.hd B) a (by have : n<=i:=q;ac_nf) fun g J=>⟨rfl,I.turned (t':=s.toks) (fun b o d e=>J b o d e) m l p y x⟩
 self:=fun _ _ _ _ _ a h=>wpAny_pyIter_rangeiter a h
theorem JjR {R:It->Hp->Prop} {lo hi:Int} {t u v:Tok} {tk:Nat} (I:Inv X pins σ H s) (h1 : -(2 ^ 62)<=lo) (h2:lo<2 ^ 62) (h3 : -(2 ^ 62)<=hi) (h4:hi<2 ^ 62)
  (q:R (Itr lo (hi-lo).toNat) H):wpAny (model X.prog X.w) X.A (pyIter (.ref s.heap.objs.size)) (PIE X pins σ tg R) E { s with heap:=s.heap.push { cls:=.type "range",data:=.fields #[.int lo t, .int hi u, .int 1 v] },toks:=tk }:=by
 refine wpAny_pyIter_range (IsRange.new ..) (small_one h1 h2 h3 h4) ?_;have I1:Inv X pins σ H { s with heap:=s.heap.push { cls:=.type "range",data:=.fields #[.int lo t, .int hi u, .int 1 v] },toks:=tk }:=I.kept fun b o e=>Heap.get?_push_of_some _ e;refine ⟨(s.heap.push { cls:=.type "range",data:=.fields #[.int lo t, .int hi u, .int 1 v] }).objs.size,[(s.heap.push { cls:=.type "range",data:=.fields #[.int lo t, .int hi u, .int 1 v] }).objs.size],_,_,H,rfl,
  I1.kept (t':=tk) fun b o e=>Heap.get?_push_of_some _ e,JhP _ lo (hi-lo).toNat,?_,fun b c=>?_,q⟩
 ·have d:lo+((0:Nat):Int)*1=lo:=by simp
  have a:(((hi-lo).toNat:Nat):Int)-((0:Nat):Int)=Builtin.Range.rangeSize lo hi 1:=by rw [rangeSize_one];split <;> ac_nf
  show IsRangeIter _ _ (lo+((0:Nat):Int)*1) ((((hi-lo).toNat:Nat):Int)-((0:Nat):Int)) 1;rw [d,a];exact Heap.get?_push_size _ rfl
 ·have e:b=(s.heap.push { cls:=.type "range",data:=.fields #[.int lo t, .int hi u, .int 1 v] }).objs.size:=by simpa using c
  subst e;exact I1.fpOk (Nat.le_refl _) (I1.hok.fresh (Nat.le_refl _))
def iRng1 (ta:TA):TI:=fun σ H R=>ta σ H fun vs H1=>∃ j:Int,vs=[.int j]/\-(2 ^ 62)<=j/\j<2 ^ 62/\R (Itr 0 j.toNat) H1
def iRng2 (ta:TA):TI:=fun σ H R=>ta σ H fun vs H1=>∃ i j:Int,vs=[.int i, .int j]/\(-(2 ^ 62)<=i/\i<2 ^ 62/\-(2 ^ 62)<=j/\j<2 ^ 62)/\R (Itr i (j-i).toNat) H1
variable {a:Expr}
theorem Jee {ta:TA} {p:Pos} (hg:Gl X "range") (hm:X.mg "range"=none) (ha:PA X [a] ta) (hs:starEach [a] X.env=[(false,eval a X.env)]:=by rfl):PI X tg (.Call (.Name "range" p) [a] [] pos) (iRng1 ta):=by
 intro b s σ H R I h;refine Call_ (JcT I hg hm boot_range (PyProof.Rows.callWith_type1 (thn (ha pos b s σ H _ I h) fun g i ζ=>?_) hs rfl));obtain ⟨l,k,I1,d,c⟩:=ζ;obtain ⟨j,e,c,f,q⟩:=c;subst e;cases d with
 | cons r rr=>
  cases rr;obtain ⟨t,rfl⟩:=r;exact call_range_1 (JjR I1 ∅ ∅ c f (by simpa using q))
def tFor (wi:TI) (g:TG) (tb:TS):TS:=fun D σ H=>wi σ H fun J H1=>∃ W:Nat->Nat->St->Hp->Prop,(∃ m,W 0 m σ H1)/\∀ i m σ H,W i m σ H ->
 (J.stop i H/\D.nx σ H)\/(J.go i H/\∃ N:St->Hp->Prop,(∀ σ' H',N σ' H'->∃ m',m'<m/\W (i+1) m' σ' H')/\∀ x H',J.yld i H x H'->g x σ H' fun σ2 H2=>tb { D with nx:=N,ct:=N,bk:=D.nx } σ2 H2)
def Jhj (fp:List Addr) (h:Heap):List (Addr × Obj):=fp.filterMap fun b=>(h.get? b).map fun o=>(b,o)
variable {fp:List Addr}
theorem Jcc (hb:b∈fp) (e:h.get? b=some o):(b,o)∈Jhj fp h:=List.mem_filterMap.mpr ⟨b,hb,by rw [e];rfl⟩
theorem JiC {p:Addr × Obj} (hp:p∈Jhj fp h):p.1∈fp/\h.get? p.1=some p.2:=by
 obtain ⟨b,c,e⟩:=List.mem_filterMap.mp hp;cases q:h.get? b with
 | none=>rw [q] at e;cases e
 | some o=>
  rw [q] at e;have a:(b,o)=p:=Option.some.inj e;subst a;exact ⟨c,q⟩
theorem Inv.pinned (I:Inv X pins σ H s) (hf:∀ b∈fp,FpOk X pins H b) (ho:∀ b∈fp, ∃ o,s.heap.get? b=some o/\∀ v,o.data≠.cell v):Inv X (pins++Jhj fp s.heap) σ H s :=
 I.pins_of fun p i=>(mem_append.mp i).elim (fun z=>I.pin p (mem_append_right _ z)) fun z=>by
  obtain ⟨c,e⟩:=JiC z;obtain ⟨h,g,f,_⟩:=hf p.1 c;obtain ⟨o,a,d⟩:=ho p.1 c;rw [e] at a;cases a;exact ⟨e,h,g,f,d⟩
theorem Inv.unpinned {pl:List (Addr × Obj)} (I:Inv X (pins++pl) σ H s):Inv X pins σ H s:=I.pins_of fun p a=>I.pin p (mem_append_right _ (mem_append_left _ a))
theorem Jbg {iter:Expr} {wi:TI} {g:TG} (hp:PassesOwn (model X.prog X.w) X.A X.env X.xe) (hc:X.calm=true) (hi:PI X tg iter wi) (hg:PG X tg g) (hb:PSs X body tb)
  (hs:∀ x,foldedSetIterable iter X.env x=pure x:=by intro _;rfl):PS X (.For tg iter body [] pos) (tFor wi g tb):=by
 intro a s σ H D I h;refine wpAny_For (thn (hi a s σ H _ I h) fun v s1 h1=>thn h1 fun a0 s2 h2=>?_) hs;obtain ⟨it,z,R,J,H2,e,I2,T,E,O,W,⟨m0,w0⟩,y⟩:=h2;subst e;have j:∀ {H':Hp},(∀ b∈z,H' b=none)->∀ b∈z,FpOk X a H' b:=fun V b hb=>⟨V b hb,(O b hb).2⟩;refine codeAny_forLoop_any (fun n P=>∃ i σ' H',Inv X a σ' H' P/\R i P.heap/\(∀ b∈z,H' b=none)/\W i n σ' H') ?_ m0 ⟨0,σ,H2,I2,E,fun b hb=>(O b hb).1,w0⟩;rintro n M ⟨i,σ3,C,I3,q,B,Z⟩;rcases y i n σ3 C Z with ⟨stop,qn⟩ | ⟨go,N,hN,step⟩
 ·refine wpAny_passesOwn hp (thn (T.done X rfl rfl rfl hc i a M σ3 C X.xe I3 (j B) q stop) fun r s4 ⟨F,I4⟩=>?_);subst F;exact wpAny_execs_nil ⟨σ3,C,I4,qn⟩
 ·refine wpAny_passesOwn hp (thn (T.item X rfl rfl rfl hc i a M σ3 C X.xe I3 (j B) q go) fun r s4 ζ=>?_);obtain ⟨u,F,h4⟩:=ζ;subst F;refine wpAny_passesOwn hp (thn h4 fun _ L ζ=>?_);obtain ⟨x,Q,I5,Y,y5,p,G⟩:=ζ;have I5':=I5.pinned (j G) (T.obj _ _ p);refine wpAny_passesOwn hp (thn (hg _ L σ3 Q x u _ I5' Y (step x Q y5)) fun _ s6 ζ=>?_);obtain ⟨σ6,H6,I6,q6⟩:=ζ;refine wpAny_passesOwn hp (thn (hb _ s6 σ6 H6 _ I6 q6) fun f K l=>?_);have c:∀ {σ7:St} {k:Hp},Inv X (a++Jhj z L.heap) σ7 k K->N σ7 k->∃ m,m<n/\∃ i σ' H',Inv X a σ' H' K/\R i K.heap/\(∀ b∈z,H' b=none)/\W i m σ' H':=fun {σ7 k} I7 t=>by
   obtain ⟨m',hm,S⟩:=hN σ7 k t;refine ⟨m',hm,i+1,σ7,k,I7.unpinned,T.keep _ _ _ p fun b hb o e=>(I7.pin (b,o) (mem_append_right _ (mem_append_right _ (Jcc hb e)))).1,fun b hb=>?_,S⟩;obtain ⟨o,e,d⟩:=T.obj _ _ p b hb;exact (I7.pin (b,o) (mem_append_right _ (mem_append_right _ (Jcc hb e)))).2.1
  cases f with
  | next=>obtain ⟨σ7,k,I7,t⟩:=l;exact c I7 t
  | cont=>obtain ⟨σ7,k,I7,t⟩:=l;exact c I7 t
  | brk=>obtain ⟨σ7,k,I7,l⟩:=l;exact ⟨σ7,k,I7.unpinned,l⟩
  | ret v=>obtain ⟨U,σ7,k,I7,r7,l⟩:=l;exact ⟨U,σ7,k,I7.unpinned,r7,l⟩
variable {n:Nat}
theorem Jil {lo:Int} {g:TG} {D:Ends} (Pv:Nat->St->Hp->Prop) (h0:Pv 0 σ H)
  (hs:∀ i σ H,i<n->Pv i σ H->g (.int (lo+i)) σ H fun σ2 H2=>tb { D with nx:=Pv (i+1),ct:=Pv (i+1),bk:=D.nx } σ2 H2) (hd:∀ σ H,Pv n σ H->D.nx σ H) :
  ∃ W:Nat->Nat->St->Hp->Prop,(∃ m,W 0 m σ H)/\∀ i m σ H,W i m σ H ->
   ((Itr lo n).stop i H/\D.nx σ H)\/((Itr lo n).go i H/\∃ N:St->Hp->Prop,(∀ σ' H',N σ' H'->∃ m',m'<m/\W (i+1) m' σ' H')/\∀ x H',(Itr lo n).yld i H x H'->g x σ H' fun σ2 H2=>tb { D with nx:=N,ct:=N,bk:=D.nx } σ2 H2):=by
 refine ⟨fun i m σ H=>m=n-i/\i<=n/\Pv i σ H,⟨n,by simp,Nat.zero_le _,h0⟩,?_⟩;rintro i m σ H ⟨rfl,c,p⟩;by_cases a:i<n
 ·refine .inr ⟨a,Pv (i+1),fun σ' H' b=>⟨n-(i+1),by ac_nf,rfl,a,b⟩,fun x H' y=>?_⟩;obtain ⟨e,y⟩:=y;subst e y;exact hs i σ _ a p
 ·have e:i=n:=by ac_nf
  subst e;exact .inl ⟨Nat.le_refl _,hd σ H p⟩
abbrev R2:=V->V->Hp->VK->Prop
def OpR (X:Cx) (f:Value->Value->Sem Value) (r:R2):Prop :=
 ∀ (pins:List (Addr × Obj)) (s:Shared) (σ : St) (H:Hp) (x y:V) (v u:Value) (Q:VK),Inv X pins σ H s->RelV x v->RelV y u->r x y H Q ->
  wpAny (model X.prog X.w) X.A (f v u) (EP X pins σ Q) X.xe s
def UnR (X:Cx) (f:Value->Sem Value) (r:V->Hp->VK->Prop):Prop :=
 ∀ (pins:List (Addr × Obj)) (s:Shared) (σ : St) (H:Hp) (x:V) (v:Value) (Q:VK),Inv X pins σ H s->RelV x v->r x H Q ->
  wpAny (model X.prog X.w) X.A (f v) (EP X pins σ Q) X.xe s
def CallR (X:Cx) (f:Value) (r:List V->Hp->VK->Prop):Prop :=
 ∀ (pins:List (Addr × Obj)) (s:Shared) (σ : St) (H:Hp) (xs:List V) (us:List Value) (Q:VK),Inv X pins σ H s->Vals xs us->r xs H Q ->
  wpAny (model X.prog X.w) X.A (call f us) (EP X pins σ Q) X.xe s
def tOp (r:R2) (ta tb:TE):TE:=fun σ H Q=>ta σ H fun x H1=>tb σ H1 fun y H2=>r x y H2 Q
def tUn (r:V->Hp->VK->Prop) (ta:TE):TE:=fun σ H Q=>ta σ H fun x H1=>r x H1 Q
def rI (C:Int->Int->Prop) (g:Int->Int->V):R2:=fun x y H Q=>∃ i j,x=.int i/\y=.int j/\C i j/\Q (g i j) H
def rI0 (g:Int->Int->V):R2:=fun x y H Q=>∃ i j,x=.int i/\y=.int j/\Q (g i j) H
def rU (g:Int->V):V->Hp->VK->Prop:=fun x H Q=>∃ i,x=.int i/\Q (g i) H
variable {b:Expr} {ta tb tc:TE}
theorem binT (ha:PE X a ta) (hb:PE X b tb) {pins:List (Addr × Obj)} {s:Shared} {σ : St} {H:Hp} {R:V->V->Hp->Prop} (I:Inv X pins σ H s)
  (h:ta σ H fun x H1=>tb σ H1 fun y H2=>R x y H2) {Q:Value->Shared->Prop} {f:Value->Value->Sem Value}
  (hf:∀ v u s2 x y H2,Inv X pins σ H2 s2->RelV x v->RelV y u->R x y H2->wpAny (model X.prog X.w) X.A (f v u) Q X.xe s2) :
  wpAny (model X.prog X.w) X.A (eval a X.env) (fun v s₁=>wpAny (model X.prog X.w) X.A (eval b X.env) (fun u s₂=>wpAny (model X.prog X.w) X.A (f v u) Q X.xe s₂) X.xe s₁) X.xe s:=by
 refine thn (ha pins s σ H _ I h) fun v g ζ=>?_;obtain ⟨x,H1,I1,c,e⟩:=ζ;refine thn (hb pins g σ H1 _ I1 e) fun u s2 ζ=>?_;obtain ⟨y,H2,I2,d,i⟩:=ζ;exact hf v u s2 x y H2 I2 c d i
theorem pe_op {op:Operator} {r:R2} (ho:OpR X (binaryOp op) r) (ha:PE X a ta) (hb:PE X b tb):PE X (.BinOp a op b pos) (tOp r ta tb):=by
 intro c s σ H Q I h;exact wpAny_BinOp (binT ha hb I h fun v u d x y f I2 g e q=>ho c d σ f x y v u Q I2 g e q)
theorem pe_un {op:UnaryOp} {r:V->Hp->VK->Prop} (ho:UnR X (unaryOp op) r) (ha:PE X a ta):PE X (.UnaryOp op a pos) (tUn r ta):=by
 intro b s σ H Q I h;exact UnaryOp_ (thn (ha b s σ H _ I h) fun v e ζ=>by obtain ⟨x,f,I1,c,d⟩:=ζ;exact ho b e σ f x v Q I1 c d)
theorem opI {f:Value->Value->Sem Value} {C:Int->Int->Prop} {g:Int->Int->Int}
  (rule:∀ (i j:Int) (t u:Tok) (s:Shared) (Q:Value->Shared->Prop) (E:Value->Shared->Prop),C i j->Q (.int (g i j) s.toks) { s with toks:=s.toks+1 }->wpAny (model X.prog X.w) X.A (f (.int i t) (.int j u)) Q E s) :
  OpR X f (rI C fun i j=>.int (g i j)):=by
 intro a s σ H x y v u Q I d c h;obtain ⟨i,j,rfl,rfl,e,q⟩:=h;obtain ⟨t,rfl⟩:=d;obtain ⟨b,rfl⟩:=c;exact rule i j t b s _ _ e ⟨.int (g i j),H,I.tok _,⟨_,rfl⟩,q⟩
theorem opI0 {f:Value->Value->Sem Value} {g:Int->Int->Int}
  (rule:∀ (i j:Int) (t u:Tok) (s:Shared) (Q:Value->Shared->Prop) (E:Value->Shared->Prop),Q (.int (g i j) s.toks) { s with toks:=s.toks+1 }->wpAny (model X.prog X.w) X.A (f (.int i t) (.int j u)) Q E s) :
  OpR X f (rI0 fun i j=>.int (g i j)):=by
 intro a s σ H x y v u Q I d c h;obtain ⟨i,j,rfl,rfl,q⟩:=h;obtain ⟨t,rfl⟩:=d;obtain ⟨b,rfl⟩:=c;exact rule i j t b s _ _ ⟨.int (g i j),H,I.tok _,⟨_,rfl⟩,q⟩
theorem opB0 {f:Value->Value->Sem Value} {g:Int->Int->Bool}
  (rule:∀ (i j:Int) (t u:Tok) (s:Shared) (Q:Value->Shared->Prop) (E:Value->Shared->Prop),Q (.bool (g i j)) s->wpAny (model X.prog X.w) X.A (f (.int i t) (.int j u)) Q E s) :
  OpR X f (rI0 fun i j=>.bl (g i j)):=by
 intro a s σ H x y v u Q I d c h;obtain ⟨i,j,rfl,rfl,q⟩:=h;obtain ⟨t,rfl⟩:=d;obtain ⟨b,rfl⟩:=c;exact rule i j t b s _ _ ⟨.bl (g i j),H,I,rfl,q⟩
def CPow (i j:Int):Prop:=0<=j/\j<=1000000/\i.natAbs<2 ^ 64
theorem JlT:OpR X (binaryOp .Add) (rI0 fun i j=>.int (i+j)):=opI0 fun _ _ _ _ _ _ _ q=>add_int q
theorem JcU:OpR X (binaryOp .Sub) (rI0 fun i j=>.int (i-j)):=opI0 fun _ _ _ _ _ _ _ q=>sub_int q
theorem Jk0:OpR X (binaryOp .Mod) (rI (fun _ j=>j≠0) fun i j=>.int (i.fmod j)):=opI fun _ _ _ _ _ _ _ a q=>mod_int' a q
theorem unI {f:Value->Sem Value} {g:Int->Int}
  (rule:∀ (i:Int) (t:Tok) (s:Shared) (Q:Value->Shared->Prop) (E:Value->Shared->Prop),Q (.int (g i) s.toks) { s with toks:=s.toks+1 }->wpAny (model X.prog X.w) X.A (f (.int i t)) Q E s) :
  UnR X f (rU fun i=>.int (g i)):=by
 intro a s σ H x v Q I b h;obtain ⟨i,rfl,q⟩:=h;obtain ⟨t,rfl⟩:=b;exact rule i t s _ _ ⟨.int (g i),H,I.tok _,⟨_,rfl⟩,q⟩
theorem Jgf:UnR X (unaryOp .USub) (rU fun i=>.int (-i)):=unI fun _ _ _ _ _ q=>neg_int q
def scal:V->V->Bool
 | .non, .non=>true | .non, .int _=>true | .int _, .non=>true | .non, .bl _=>true | .bl _, .non=>true | .non, .str _=>true | .str _, .non=>true
 | .int _, .int _=>true | .bl _, .bl _=>true | .str _, .str _=>true | .byt _, .byt _=>true
 | .int _, .str _=>true | .str _, .int _=>true | .bl _, .str _=>true | .str _, .bl _=>true
 | _,_=>false
def rEq:R2:=fun x y H Q=>scal x y=true/\Q (.bl (decide (x=y))) H
def rNe:R2:=fun x y H Q=>scal x y=true/\Q (.bl (!decide (x=y))) H
theorem Jh8 {i j:Int}:decide (V.int i=V.int j)=(i == j):=by
 rw [Bool.eq_iff_iff];simp
theorem Jkd {i j:Bool}:decide (V.bl i=V.bl j)=(i == j):=by
 rw [Bool.eq_iff_iff];simp
theorem Jh9 {i j:Str}:decide (V.str i=V.str j)=(i == j):=by
 rw [Bool.eq_iff_iff];simp
theorem Jh7 {i j:Array UInt8}:decide (V.byt i=V.byt j)=(i.toList == j.toList):=by
 rw [Bool.eq_iff_iff];cases i;cases j;simp
theorem JaK {Q:VK} {k k':Bool} (I:Inv X pins σ H s) (q:Q (.bl k) H) (e:k=k'):EP X pins σ Q (.bool k') s:=by
 subst e;exact ⟨.bl k,H,I,rfl,q⟩
theorem op_eq:OpR X (compareOp .Eq) rEq:=by
 intro e s σ H x y v u Q I d a h;obtain ⟨c,q⟩:=h;cases x with
 | non=>
  cases d;cases y with
  | non=>cases a;exact PySem.EqNone.eq_none_none (JaK I q (by simp))
  | bl j=>cases a;exact PySem.EqNone.eq_none_bool (JaK I q (by simp))
  | int j=>obtain ⟨b,rfl⟩:=a;exact PySem.EqNone.eq_none_int (JaK I q (by simp))
  | str j=>obtain ⟨b,rfl⟩:=a;exact PySem.EqNone.eq_none_str (JaK I q (by simp))
  | _=>exact absurd (show false=true from c) Bool.false_ne_true
 | bl i=>
  cases d;cases y with
  | non=>cases a;exact PySem.EqNone.eq_bool_none (JaK I q (by simp))
  | bl j=>cases a;exact eq_bool (JaK I q Jkd)
  | str j=>obtain ⟨b,rfl⟩:=a;exact PySem.EqMixed.eq_bool_str (JaK I q (by simp))
  | _=>exact absurd (show false=true from c) Bool.false_ne_true
 | int i=>
  obtain ⟨t,rfl⟩:=d;cases y with
  | non=>cases a;exact PySem.EqNone.eq_int_none (JaK I q (by simp))
  | int j=>obtain ⟨b,rfl⟩:=a;exact eq_int (JaK I q Jh8)
  | str j=>obtain ⟨b,rfl⟩:=a;exact PySem.EqMixed.eq_int_str (JaK I q (by simp))
  | _=>exact absurd (show false=true from c) Bool.false_ne_true
 | str i=>
  obtain ⟨t,rfl⟩:=d;cases y with
  | non=>cases a;exact PySem.EqNone.eq_str_none (JaK I q (by simp))
  | bl j=>cases a;exact PySem.EqMixed.eq_str_bool (JaK I q (by simp))
  | int j=>obtain ⟨b,rfl⟩:=a;exact PySem.EqMixed.eq_str_int (JaK I q (by simp))
  | str j=>obtain ⟨b,rfl⟩:=a;exact eq_str (JaK I q Jh9)
  | _=>exact absurd (show false=true from c) Bool.false_ne_true
 | byt i=>
  obtain ⟨t,rfl⟩:=d;cases y with
  | byt j=>obtain ⟨b,rfl⟩:=a;exact W.eq_bytes (JaK I q Jh7)
  | _=>exact absurd (show false=true from c) Bool.false_ne_true
 | _=>cases y <;> exact absurd (show false=true from c) Bool.false_ne_true
theorem op_ne:OpR X (compareOp .NotEq) rNe:=by
 intro e s σ H x y v u Q I d a h;obtain ⟨c,q⟩:=h;cases x with
 | non=>
  cases d;cases y with
  | non=>cases a;exact PySem.EqNone.ne_none_none (JaK I q (by simp))
  | bl j=>cases a;exact PySem.EqNone.ne_none_bool (JaK I q (by simp))
  | int j=>obtain ⟨b,rfl⟩:=a;exact PySem.EqNone.ne_none_int (JaK I q (by simp))
  | str j=>obtain ⟨b,rfl⟩:=a;exact PySem.EqNone.ne_none_str (JaK I q (by simp))
  | _=>exact absurd (show false=true from c) Bool.false_ne_true
 | bl i=>
  cases d;cases y with
  | non=>cases a;exact PySem.EqNone.ne_bool_none (JaK I q (by simp))
  | bl j=>cases a;exact ne_bool (JaK I q (congrArg not Jkd))
  | str j=>obtain ⟨b,rfl⟩:=a;exact PySem.EqMixed.ne_bool_str (JaK I q (by simp))
  | _=>exact absurd (show false=true from c) Bool.false_ne_true
 | int i=>
  obtain ⟨t,rfl⟩:=d;cases y with
  | non=>cases a;exact PySem.EqNone.ne_int_none (JaK I q (by simp))
  | int j=>obtain ⟨b,rfl⟩:=a;exact ne_int (JaK I q (congrArg not Jh8))
  | str j=>obtain ⟨b,rfl⟩:=a;exact PySem.EqMixed.ne_int_str (JaK I q (by simp))
  | _=>exact absurd (show false=true from c) Bool.false_ne_true
 | str i=>
  obtain ⟨t,rfl⟩:=d;cases y with
  | non=>cases a;exact PySem.EqNone.ne_str_none (JaK I q (by simp))
  | bl j=>cases a;exact PySem.EqMixed.ne_str_bool (JaK I q (by simp))
  | int j=>obtain ⟨b,rfl⟩:=a;exact PySem.EqMixed.ne_str_int (JaK I q (by simp))
  | str j=>obtain ⟨b,rfl⟩:=a;exact ne_str (JaK I q (congrArg not Jh9))
  | _=>exact absurd (show false=true from c) Bool.false_ne_true
 | byt i=>
  obtain ⟨t,rfl⟩:=d;cases y with
  | byt j=>obtain ⟨b,rfl⟩:=a;exact W.ne_bytes (JaK I q (congrArg not Jh7))
  | _=>exact absurd (show false=true from c) Bool.false_ne_true
 | _=>cases y <;> exact absurd (show false=true from c) Bool.false_ne_true
theorem op_lt:OpR X (compareOp .Lt) (rI0 fun i j=>.bl (decide (i<j))):=opB0 fun _ _ _ _ _ _ _ q=>lt_int q
theorem op_gt:OpR X (compareOp .Gt) (rI0 fun i j=>.bl (decide (j<i))):=opB0 fun _ _ _ _ _ _ _ q=>gt_int q
theorem op_ge:OpR X (compareOp .GtE) (rI0 fun i j=>.bl (decide (j<=i))):=opB0 fun _ _ _ _ _ _ _ q=>ge_int q
theorem JiH:OpR X (compareOp .In) (fun x y H Q=>∃ i j,x=.str i/\y=.str j/\Q (.bl (!(Builtin.Str.occurrences j i 0 j.length 1).isEmpty)) H):=by
 intro a s σ H x y v u Q I c b h;obtain ⟨i,j,rfl,rfl,q⟩:=h;obtain ⟨t,rfl⟩:=c;obtain ⟨d,rfl⟩:=b;exact in_str (JaK I q rfl)
theorem JlW:OpR X (compareOp .Is) (fun x y H Q=>y=.non/\Q (.bl (decide (x=.non))) H):=by
 intro b s σ H x y v u Q I a c h;obtain ⟨rfl,q⟩:=h;cases c;refine is_none_gen (JaK I q ?_);cases x <;> first
  | (cases a;rfl)
  | (obtain ⟨t,rfl⟩:=a;rfl)
theorem Jk3:OpR X (compareOp .IsNot) (fun x y H Q=>y=.non/\Q (.bl (!decide (x=.non))) H):=by
 intro b s σ H x y v u Q I a c h;obtain ⟨rfl,q⟩:=h;cases c;refine isnot_none_gen (JaK I q ?_);cases x <;> first
  | (cases a;rfl)
  | (obtain ⟨t,rfl⟩:=a;rfl)
theorem Jar (b:Expr) {op:CmpOp} (h:op≠.In:=by decide) (h2:op≠.NotIn:=by decide):behindInMarks op b=false:=by
 have c:(op == CmpOp.In)=false:=by cases op <;> first | rfl | exact absurd rfl h
 have a:(op == CmpOp.NotIn)=false:=by cases op <;> first | rfl | exact absurd rfl h2
 cases b <;> simp [behindInMarks,c,a]
variable {op:CmpOp} {r:R2}
theorem Ja4 (ho:OpR X (compareOp op) r) (ha:PE X a ta) (hb:PE X b tb) (hm:behindInMarks op b=false):PE X (.Compare a [op] [b] pos) (tOp r ta tb):=by
 intro c s σ H Q I h;exact wpAny_Compare1 (binT ha hb I h fun v u d x y f I2 g e q=>ho c d σ f x y v u Q I2 g e q) hm
def tTest (t:TE):TT:=fun σ H Q=>t σ H fun x H'=>∃ k,x=.bl k/\Q k H'
theorem Jan (ho:OpR X (compareOp op) r) (ha:PE X a ta) (hb:PE X b tb) (hm:behindInMarks op b=false):PT X (.Compare a [op] [b] pos) (tTest (tOp r ta tb)):=by
 intro d s σ H Q I h;refine wpAny_isTrue_Compare1 (thn (ha d s σ H _ I h) fun v p ζ=>?_) hm;obtain ⟨x,q,I1,m,f⟩:=ζ;refine thn (hb d p σ q _ I1 f) fun u l ζ=>?_;obtain ⟨y,n,I2,o,j⟩:=ζ;refine thn (ho d l σ n x y v u _ I2 m o j) fun c w ζ=>?_;obtain ⟨z,g,I3,t,k,e,i⟩:=ζ
 subst e;cases t;exact wpAny_truthy_bool ⟨g,I3,i⟩
theorem JeO:(sizeLine:Nat)<2 ^ 63:=by rw [sizeLine_eq];decide
theorem JhH:OpR X (binaryOp .Add) (fun x y H Q=>∃ i j,x=.str i/\y=.str j/\i.length+j.length<=sizeLine/\Q (.str (i++j)) H):=by
 intro a s σ H x y v u Q I d c h;obtain ⟨i,j,rfl,rfl,e,q⟩:=h;obtain ⟨t,rfl⟩:=d;obtain ⟨b,rfl⟩:=c;exact add_str (fun b f=>⟨.str (i++j),H,I.tok _,⟨_,rfl⟩,q⟩) e
variable {x:V}
theorem vals1 (r:Vals [x] us):∃ u,us=[u]/\RelV x u:=by
 cases r with
 | cons r1 r2=>cases r2;exact ⟨_,rfl,r1⟩
theorem vals2 (r:Vals [x,y] us):∃ u w',us=[u,w']/\RelV x u/\RelV y w':=by
 cases r with
 | cons r1 r2=>
  cases r2 with
  | cons r3 r4=>cases r4;exact ⟨_,_,rfl,r1,r3⟩
theorem Jjf:CallR X (.builtin "abs") (fun xs H Q=>∃ i,xs=[.int i]/\Q (.int (if i<0 then -i else i)) H):=by
 intro a s σ H xs b Q I r h;obtain ⟨i,rfl,q⟩:=h;obtain ⟨u,rfl,t,rfl⟩:=vals1 r;exact call_abs_int fun u c=>⟨.int (if i<0 then -i else i),H,I.tok _,⟨_,rfl⟩,q⟩
theorem JfD:CallR X (.type "int") (fun xs H Q=>(∃ i,xs=[.int i]/\Q (.int i) H)\/∃ k,xs=[.bl k]/\Q (.int (if k then 1 else 0)) H):=by
 intro a s σ H xs c Q I r h;rcases h with ⟨i,rfl,q⟩ | ⟨k,rfl,q⟩
 ·obtain ⟨u,rfl,t,rfl⟩:=vals1 r;exact call_int_int ⟨.int i,H,I,⟨_,rfl⟩,q⟩
 ·obtain ⟨u,rfl,b⟩:=vals1 r;cases b;exact call_int_bool ⟨.int (if k then 1 else 0),H,I.tok _,⟨_,rfl⟩,q⟩
structure ObjM (h:Heap) (x dx C:Addr) (mA:Str->Option Value):Prop where
 obj:h.get? x=some (W.instObj C dx)
 ns:h.Ns1 dx mA
 ne:dx≠x
variable {dx:Addr} {mA:Str->Option Value}
theorem Jd3 (n:h.Ns1 dx mA):∃ od,h.get? dx=some od/\∀ name,W.lookIn name od=some (mA name):=by
 obtain ⟨o,c,l,i,k,d,_,j⟩:=n;refine ⟨o,i,fun name=>?_⟩;have e:=j name;unfold nsFind findBy at e;rw [<- Array.find?_toList] at e;unfold W.lookIn;rw [k];dsimp only;split
 ·rename_i y q;rw [q] at e;exact congrArg some e
 ·rename_i q;rw [q] at e;have a:c.toList.any (·.refKey)=false:=by
   rw [List.any_eq_false];intro y f;obtain ⟨z,t,b⟩:=d y (Array.mem_toList_iff.mp f);simp [DictEntry.refKey,b]
  have g:¬ c.toList.any (·.refKey)=true:=by rw [a];exact Bool.false_ne_true
  rw [if_neg g];exact congrArg some e
variable {x C:Addr}
theorem ObjM.look (I:ObjM h x dx C mA):∃ od,W.InstAt h x (W.instObj C dx) C (some od)/\∀ name,W.lookIn name od=some (mA name) :=
 let ⟨od,ho,hl⟩:=Jd3 I.ns
 ⟨od,⟨I.obj,rfl,rfl,ho⟩,hl⟩
section
variable {name:Str} {v:Value} {K:W.Frag} {f:Addr}
theorem get_map {expr:Bool} {Q:Value->Shared->Prop} (X:K.In s.heap) (I:ObjM s.heap x dx C mA) (hg:W.plainGet K C name=true) (hh:W.hasDictIn K C=true)
  (ha:W.findIn K (.ref C) name=some none) (hv:mA name=some v) (hv':W.handedIn v=true) (h:Q v { s with toks:=s.toks+1 }) :
  wpAny (model prog w) A (getAttr (.ref x) name expr) Q E s:=by
 obtain ⟨b,J,a⟩:=I.look;exact W.get_value X J (W.plainGet_of hg).1 (W.findObj_own hh ha rfl (by rw [a,hv])) hv' h
variable {pl:Sem Bool}
theorem Jjo {Q:Value × List Value->Shared->Prop} (X:K.In s.heap) (I:ObjM s.heap x dx C mA) (hg:W.plainGet K C name=true)
  (hf:W.findIn K (.ref C) name=some (some (.ref f))) (ht:W.isFn K (.ref f)=true) (hv:mA name=none) (h:Q (.ref f,[.ref x]) s) :
  wpAny (model prog w) A (getMethod (.ref x) name pl) Q E s:=by
 obtain ⟨b,J,a⟩:=I.look;exact W.method_fn X J (W.plainGet_of hg).1 (W.plainGet_of hg).2 hf (beq_iff_eq.mp ht) (by show (W.lookIn name b).map (·.isSome)=some false;rw [a,hv];rfl) h
theorem Jlk {ns:List Str} (X:K.In s.heap) (I:ObjM s.heap x dx C mA)
  (hs:W.findIn K (.ref C) "__setattr__"=some (some (.builtin "object.__setattr__"))) (hp:W.plainOver K C=true) (ht:W.takerIn K C name=some none) (hh:W.hasDictIn K C=true)
  (hw:PySem.Within mA ns) (hsz:ns.length<=sizeLine)
  (h:∀ h',ObjM h' x dx C (fun y=>if y=name then some v else mA y)->Heap.SameBut dx s.heap h'->Q () { s with heap:=h',toks:=s.toks+2 }) :
  wpAny (model prog w) A (setAttr (.ref x) name v) Q E s:=by
 obtain ⟨o,J,n⟩:=I.look;refine W.set_plain X J hs (W.osa_open (s:={ s with toks:=s.toks+1 }) (r:=none) X J hp ht fun b=>?_);obtain ⟨q,l,g⟩:=W.any_some hh;have k:s.heap.get? x=some ⟨.ref C,some dx, .plain, #[]⟩:=I.obj;refine wpAny_bind (wpAny_pure (wpAny_bind (wpAny_bind (wpAny_loadPart k (wpAny_bind (W.Looks.here (s:={ s with toks:=s.toks+1 }) (W.looks_clsIn X l) ?_))))));rw [g];refine wpAny_pure (a:=some dx) (wpAny_bind (wpAny_pure (wpAny_bind ?_)));refine wpAny_nsSet1 (s:={ s with toks:=s.toks+1 }) I.ns fun h' d c=>?_;obtain ⟨p,j,m,e,i,f⟩:=d.count (PySem.Within.cons name v hw);refine wpAny_bind (wpAny_lookBehind e (by rw [i];exact pastItsLine_dict (Nat.le_trans f (by rw [length_cons];ac_nf))) ?_);exact wpAny_pure (h _ ⟨(c.2 _ (Ne.symm I.ne)).trans I.obj,d,I.ne⟩ c)
variable {kw:List (Str × Value)}
theorem Jjw {R:Result->Shared->Prop} {vs:List Value} (X:K.In s.heap) (hm:W.makesIn K C=true)
  (hi:W.findIn K (.ref C) "__init__"=some (some (.ref f))) (hf:W.typeIn K (.ref f)=some (.type "function"))
  (h:codeAny (model prog w) (A.under (.builtin "type.__call__" ⟨.ref C::vs,kw⟩)) (.call (.ref f) ⟨.ref (s.heap.objs.size+1)::vs,kw⟩) (W.InitBack (s.heap.objs.size+1) R)
   { s with heap:=(s.heap.push W.emptyDict).push (W.instObj C s.heap.objs.size) }) :
  codeAny (model prog w) A (.call (.ref C) ⟨vs,kw⟩) R s:=by
 obtain ⟨b,g,d,t,c⟩:=s;exact W.make_core (W.makes_of X hm) (W.looks_findIn X hi) (fun a=>W.bind_fn X a hf) (.inl rfl) h
end
def putF (f:Str) (v:V):List (Str × V)->List (Str × V)
 | []=>[(f,v)]
 | (g,x)::r=>if g=f then (g,v)::r else (g,x)::putF f v r
theorem Jd4 (f g:Str) (v:V):∀ fs:List (Str × V),(putF f v fs).lookup g=if g=f then some v else fs.lookup g
 | []=>by
  show List.lookup g [(f,v)]=_;by_cases h:g=f
  ·have hb:(g == f)=true:=beq_iff_eq.mpr h;simp only [List.lookup,hb,if_pos h]
  ·have hb:(g == f)=false:=beq_eq_false_iff_ne.mpr h;simp only [List.lookup,hb,if_neg h]
 | (k,x)::r=>by
  have ih:=Jd4 f g v r;rw [show putF f v ((k,x)::r)=(if k=f then (k,v)::r else (k,x)::putF f v r) from rfl];by_cases hk:k=f
  ·rw [if_pos hk];by_cases h:g=k
   ·have hb:(g == k)=true:=beq_iff_eq.mpr h;simp only [List.lookup,hb,if_pos (h.trans hk)]
   ·have hb:(g == k)=false:=beq_eq_false_iff_ne.mpr h;simp only [List.lookup,hb,if_neg (fun e:g=f=>h (e.trans hk.symm))]
  ·rw [if_neg hk];by_cases h:g=k
   ·have hb:(g == k)=true:=beq_iff_eq.mpr h;simp only [List.lookup,hb,if_neg (fun e:g=f=>hk (h.symm.trans e))]
   ·have hb:(g == k)=false:=beq_eq_false_iff_ne.mpr h;simp only [List.lookup,hb];exact ih
theorem Jd0 (f:Str) (v:V):∀ fs:List (Str × V),f∈(putF f v fs).map (·.1)/\∀ g,g∈fs.map (·.1)->g∈(putF f v fs).map (·.1)
 | []=>⟨by simp [putF],fun g h=>by simp at h⟩
 | (k,x)::r=>by
  obtain ⟨i1,i2⟩:=Jd0 f v r;rw [show putF f v ((k,x)::r)=(if k=f then (k,v)::r else (k,x)::putF f v r) from rfl];by_cases hk:k=f
  ·rw [if_pos hk];subst hk;exact ⟨by simp,fun g h=>by simpa using h⟩
  ·rw [if_neg hk];refine ⟨?_,fun g h=>?_⟩
   ·rw [map_cons];exact mem_cons_of_mem _ i1
   ·rw [map_cons] at h ⊢;rcases mem_cons.mp h with e | e
    ·exact mem_cons.mpr (.inl e)
    ·exact mem_cons_of_mem _ (i2 g e)
theorem Jd1 (f:Str) (v:V):∀ fs:List (Str × V),(putF f v fs).length<=fs.length+1
 | []=>by simp [putF]
 | (k,x)::r=>by
  have ih:=Jd1 f v r;rw [show putF f v ((k,x)::r)=(if k=f then (k,v)::r else (k,x)::putF f v r) from rfl];by_cases hk:k=f
  ·rw [if_pos hk,length_cons,length_cons];ac_nf
  ·rw [if_neg hk,length_cons,length_cons];ac_nf
variable {o:Option Value}
theorem RelO.some_of (r:RelO (some v) o):∃ u,o=some u/\RelV v u:=by
 cases o with
 | none=>exact (show False from r).elim
 | some u=>exact ⟨u,rfl,r⟩
theorem RelO.none_of (r:RelO none o):o=none:=by
 cases o with
 | none=>rfl
 | some u=>exact (show False from r).elim
theorem JfJ (r:RelV v u):W.handedIn u=true:=by
 cases v with
 | non=>cases (show u=Value.none from r);rfl
 | bl b=>cases (show u=Value.bool b from r);rfl
 | int i=>obtain ⟨t,e⟩:=(show ∃ t,u=Value.int i t from r);cases e;rfl
 | str x=>obtain ⟨t,e⟩:=(show ∃ t,u=Value.str x t from r);cases e;rfl
 | byt b=>obtain ⟨t,e⟩:=(show ∃ t,u=Value.bytes b t from r);cases e;rfl
 | flt b=>obtain ⟨t,e⟩:=(show ∃ t,u=Value.float b t from r);cases e;rfl
 | ref a=>cases (show u=Value.ref a from r);rfl
 | ty n=>cases (show u=Value.type n from r);rfl
section
variable {a:Addr} {fs':List (Str × V)} {fs:List (Str × V)}
theorem Jgv (hok:HOk P w H h) (e:H a=some (.ins C dx fs)):∃ mA,ObjM h a dx C mA/\(∀ f,RelO (fs.lookup f) (mA f))/\PySem.Within mA (fs.map (·.1))/\fs.length<=1000/\H dx=some (.own a):=by
 obtain ⟨d,z,b,c,mA,n,r,q⟩:=(show ObjOk P w H h a (.ins C dx fs) from hok a _ e);exact ⟨mA,⟨c,n,b⟩,r,q,z,d⟩
end
structure Cls (K:W.Frag) (C:Addr):Prop where
 pg:W.plainGet K C Str.empty=true
 hd:W.hasDictIn K C=true
 po:W.plainOver K C=true
 sa:W.findIn K (.ref C) "__setattr__"=some (some (.builtin "object.__setattr__"))
theorem Cls.get {K:W.Frag} (c:Cls K C) (f:Str):W.plainGet K C f=true:=c.pg
def Jbd (K:W.Frag) (C:Addr) (f:Str):Prop:=W.findIn K (.ref C) f=some none
theorem Jbd.taker {K:W.Frag} {f:Str} (n:Jbd K C f):W.takerIn K C f=some none:=by
 unfold W.takerIn;rw [show W.findIn K (.ref C) f=some none from n];rfl
structure Meth (K:W.Frag) (C:Addr) (m:Str) (f:Addr):Prop where
 at_:W.findIn K (.ref C) m=some (some (.ref f))
 fn:W.isFn K (.ref f)=true
 kp:W.keepIn K (.ref f)=true
section
variable {a:Addr} {fs:List (Str × V)} {f:Str} {b:Bool}
theorem Jhv {Q:Value->Shared->Prop} (I:Inv X pins σ H s) (e:H a=some (.ins C dx fs)) (c:Cls X.K C) (n:Jbd X.K C f) (l:fs.lookup f=some v)
  (h:∀ u s',Inv X pins σ H s'->RelV v u->Q u s'):wpAny (model X.prog X.w) A (getAttr (.ref a) f b) Q E s:=by
 obtain ⟨i,O,r,_,_,_⟩:=Jgv I.hok e;obtain ⟨u,g,d⟩:=RelO.some_of (v:=v) (o:=i f) (by rw [<- l];exact r f);exact get_map I.kIn O (c.get f) c.hd n g (JfJ d) (h u _ (I.tok _) d)
theorem Jcb {m:Str} {g:Addr} {pl:Sem Bool} {Q:Value × List Value->Shared->Prop} (I:Inv X pins σ H s) (e:H a=some (.ins C dx fs)) (c:Cls X.K C) (k:Meth X.K C m g) (l:fs.lookup m=none)
  (h:Q (.ref g,[.ref a]) s):wpAny (model X.prog X.w) A (getMethod (.ref a) m pl) Q E s:=by
 obtain ⟨d,O,r,_,_,_⟩:=Jgv I.hok e;have b:d m=none:=RelO.none_of (by rw [<- l];exact r m);exact Jjo I.kIn O (c.get m) k.at_ k.fn b h
theorem JhL (I:Inv X pins σ H s) (e:H a=some (.ins C dx fs)) (c:Cls X.K C) (n:Jbd X.K C f) (hl:fs.length<1000) (ry:RelV y u)
  (h:∀ s',Inv X pins σ (upd H a (.ins C dx (putF f y fs))) s'->Q () s'):wpAny (model X.prog X.w) A (setAttr (.ref a) f u) Q E s:=by
 obtain ⟨d,O,r,j,_,i⟩:=Jgv I.hok e;have p:(fs.map (·.1)).length<=sizeLine:=by rw [length_map,sizeLine_eq];ac_nf
 refine Jlk I.kIn O c.sa c.po n.taker c.hd j p fun m O' v=>h _ ?_;have l:∃ o,m.get? dx=some o:=let ⟨o,_,_,e',_⟩:=O'.ns;⟨o,e'⟩;refine I.write (x:=a) (e:=dx) (by rw [e];exact True.intro) (.inr i) (fun b q k z=>(v.2 b k).trans z) l ?_;refine ⟨by rw [Jah O.ne];exact i,?_,O.ne,O'.obj,_,O'.ns,fun g=>?_,fun g t=>?_⟩
 ·have:=Jd1 f y fs;ac_nf
 ·show RelO ((putF f y fs).lookup g) (if g=f then some u else d g);rw [Jd4];by_cases q:g=f
  ·rw [if_pos q,if_pos q];exact ry
  ·rw [if_neg q,if_neg q];exact r g
 ·by_cases q:g=f
  ·rw [q];exact (Jd0 f y fs).1
  ·refine (Jd0 f y fs).2 g (j g fun z=>t ?_);show (if g=f then some u else d g)=none;rw [if_neg q];exact z
theorem Inv.made (I:Inv X pins σ H s):Inv X pins σ (upd (upd H s.heap.objs.size (.own (s.heap.objs.size+1))) (s.heap.objs.size+1) (.ins C s.heap.objs.size []))
  { s with heap:=(s.heap.push W.emptyDict).push (W.instObj C s.heap.objs.size) }:=by
 have c:(s.heap.push W.emptyDict).get? s.heap.objs.size=some W.emptyDict:=Heap.get?_push_size s.heap rfl;have f:((s.heap.push W.emptyDict).push (W.instObj C s.heap.objs.size)).get? (s.heap.objs.size+1)=some (W.instObj C s.heap.objs.size):=by
  have:=Heap.get?_push_size (s.heap.push W.emptyDict) (o:=W.instObj C s.heap.objs.size) rfl
  rwa [Heap.size_push] at this
 have i:(s.heap.push W.emptyDict).Ns s.heap.objs.size (fun _=>none):=⟨W.emptyDict, #[],_,c,rfl,(fun e g=>absurd g (by simp)),fun _=>rfl⟩;have I1:=I.laid (a:=s.heap.objs.size) (o:=.own (s.heap.objs.size+1)) (h':=s.heap.push W.emptyDict) (t':=s.toks) (fun b u q=>Heap.get?_push_of_some _ q) (Nat.le_refl _) ⟨_,c⟩;refine I1.laid (a:=s.heap.objs.size+1) (o:=.ins C s.heap.objs.size []) (t':=s.toks) (fun b u q=>Heap.get?_push_of_some _ q) (Nat.le_of_eq (Heap.size_push _ _)) ?_;have d:s.heap.objs.size≠s.heap.objs.size+1:=Nat.ne_of_lt (Nat.lt_succ_self _);refine ⟨by rw [Jah d,Jas],Nat.zero_le _,d,f,fun _=>none,(Heap.Ns1.of_empty i).at fun o q=>Heap.get?_push_of_some _ q,fun _=>True.intro,fun y h=>absurd rfl h⟩
variable {Q:Value->Shared->Prop}
theorem JhV {env:Env} {f:Str} (hb:attributeBase e f env (eval e env)=eval e env)
  (h:wpAny (model prog w) A (eval e env) (fun o s₁=>wpAny (model prog w) A (getAttr o f true) Q E s₁) E s):wpAny (model prog w) A (eval (.Attribute e f pos) env) Q E s :=
 Attribute_any_ h (by rw [arm_eval_Attribute,hb])
end
def tFld (K:W.Frag) (ta:TE) (f:Str):TE:=fun σ H Q=>ta σ H fun x H1=>∃ a C dx fs v,x=.ref a/\H1 a=some (.ins C dx fs)/\Cls K C/\Jbd K C f/\fs.lookup f=some v/\Q v H1
def sFld (K:W.Frag) (ta tv:TE) (f:Str):TS:=fun D σ H=>tv σ H fun y H1=>ta σ H1 fun x H2=>∃ a C dx fs,x=.ref a/\H2 a=some (.ins C dx fs)/\Cls K C/\Jbd K C f/\fs.length<1000 /\
 D.nx σ (upd H2 a (.ins C dx (putF f y fs)))
section
variable {o value:Expr} {tpos:Pos} {tv:TE} {f:Str}
theorem Jau (he:PE X e ta) (hb:attributeBase e f X.env (eval e X.env)=eval e X.env):PE X (.Attribute e f pos) (tFld X.K ta f):=by
 intro b s σ H Q I h;refine JhV hb (thn (he b s σ H _ I h) fun u t ζ=>?_);obtain ⟨x,k,I1,j,a,C,r,m,v,i,g,c,n,l,q⟩:=ζ;subst i;obtain rfl:u=Value.ref a:=j;exact Jhv I1 g c n l fun o p I2 d=>⟨v,k,I2,d,q⟩
theorem JbW (ha:PE X o ta) (hv:PE X value tv) (hs:swapsWith value (some (.Attribute o f pos')) pos.line X.env=pure false):PS X (.Assign [.Attribute o f pos'] value pos) (sFld X.K ta tv f):=by
 intro b s σ H D I h;refine plainObj_wpAny_Assign_Attribute (thn (hv b s σ H _ I h) fun u m ζ=>?_) hs;obtain ⟨y,p,I1,d,q⟩:=ζ;refine thn (ha b m σ p _ I1 q) fun k v ζ=>?_;obtain ⟨x,w,I2,j,a,C,z,r,g,e,c,n,l,i⟩:=ζ;subst g;obtain rfl:k=Value.ref a:=j;exact JhL I2 e c n l d fun t I3=>⟨σ,_,I3,i⟩
end
variable {Q:Value->Shared->Prop} {c:Value} {b:Bool}
structure Room (k:Nat) (A:Around):Prop where
 hd:A.handled=none
 dp:A.depth+3*k+5<recursionLimit
 un:A.units+16*k+200<cLine
theorem Room.mono {j k:Nat} (r:Room k A) (h:j<=k):Room j A:=⟨r.hd,by have:=r.dp;ac_nf,by have:=r.un;ac_nf⟩
theorem Room.deeper {k:Nat} (r:Room (k+1) A) (env:Env):Room k (A.deeper env) :=
 ⟨r.hd,by have:=r.dp;show A.depth+1+3*k+5<_;ac_nf,by have:=r.un;show A.units+3+16*k+200<_;ac_nf⟩
variable {kw:List (Str × Value)}
theorem JhA:(A.under (.builtin "type.__call__" ⟨.ref C::us,kw⟩)).depth=A.depth+1:=by
 first | rfl | simp [Around.under,Code.weight,Code.isCreation,Code.isGuard,Code.isCaller,Code.frames,Code.isFrame,guardIds]
theorem JhB:(A.under (.builtin "type.__call__" ⟨.ref C::us,kw⟩)).units=A.units+1:=by
 first | rfl | simp [Around.under,Code.cUnits,Code.frames,Code.isFrame]
theorem Room.make {k:Nat} (r:Room (k+1) A) (C:Addr) (us:List Value) (kw:List (Str × Value)):Room k (A.under (.builtin "type.__call__" ⟨.ref C::us,kw⟩)) :=
 ⟨r.hd,by have:=r.dp;rw [JhA];ac_nf,by have:=r.un;rw [JhB];ac_nf⟩
theorem Room.depth {k:Nat} (r:Room k A):A.depth<recursionLimit:=by have:=r.dp;ac_nf
theorem Room.units {k:Nat} (r:Room k A):A.units+64<cLine:=by have:=r.un;ac_nf
def tNil:TA:=fun _ H Q=>Q [] H
def tCons (ta:TE) (tr:TA):TA:=fun σ H Q=>ta σ H fun x H1=>tr σ H1 fun xs H2=>Q (x::xs) H2
section
variable {t:TA}
theorem Jag:PA X [] tNil:=fun _ _ _ _ H Q I h=>Calls.spliced_nil ⟨[],H,I, .nil,h⟩
theorem Jk4 (ha:PE X e te) (hr:PA X es t) (hs:starEach (e::es) X.env=(false,eval e X.env)::starEach es X.env:=by rfl):PA X (e::es) (tCons te t):=by
 intro b a s σ H Q I h;rw [hs];show wpAny _ _ (spliced ((false,eval e X.env)::backTo b (starEach es X.env))) _ _ s;refine Calls.spliced_cons (thn (ha a s σ H _ I h) fun u k ζ=>?_);obtain ⟨x,l,I1,g,c⟩:=ζ;exact thn (hr b a k σ l _ I1 c) fun m n ζ=>by obtain ⟨f,i,I2,j,d⟩:=ζ;exact ⟨x::f,i,I2, .cons g j,d⟩
def tTup (t:TA):TE:=fun σ H Q=>t σ H fun xs H1=>xs.length<=sizeLine/\∀ p,H1 p=none->Q (.ref p) (upd H1 p (.tup xs))
def tLst (t:TA):TE:=fun σ H Q=>t σ H fun xs H1=>xs.length<=sizeLine/\∀ p,H1 p=none->Q (.ref p) (upd H1 p (.lst xs))
theorem JaP {x1} (h:PA X es t):PE X (.Tuple es x1 pos) (tTup t):=by
 intro a s σ H Q I i;refine wpAny_Tuple_spliced (thn (h pos a s σ H _ I i) fun g c ζ=>?_);obtain ⟨f,d,I1,r,z,q⟩:=ζ;refine ⟨by rw [<- r.length];exact z,?_⟩;have j:d c.heap.objs.size=none:=I1.hok.fresh (Nat.le_refl _);refine ⟨.ref c.heap.objs.size,upd d c.heap.objs.size (.tup f),I1.laid (t':=c.toks) (fun b u e=>Heap.get?_push_of_some _ e) (Nat.le_refl _) ?_,rfl,q _ j⟩;exact ⟨z,g,r,⟨_,Heap.get?_push_size _ rfl,rfl,_,rfl⟩⟩
theorem Jbp (h:PA X es t):PE X (.List es pos) (tLst t):=by
 intro a s σ H Q I i;refine wpAny_List_spliced (thn (h pos a s σ H _ I i) fun g c ζ=>?_);obtain ⟨f,d,I1,r,z,q⟩:=ζ;refine ⟨by rw [<- r.length];exact z,?_⟩;have j:d c.heap.objs.size=none:=I1.hok.fresh (Nat.le_refl _);refine ⟨.ref c.heap.objs.size,upd d c.heap.objs.size (.lst f),I1.laid (t':=c.toks) (fun b u e=>Heap.get?_push_of_some _ e) (Nat.le_refl _) ?_,rfl,q _ j⟩;exact ⟨z,g,0,r,Heap.get?_push_size _ rfl⟩
end
abbrev Sp:=List V->Hp->VK->XK->Prop
abbrev CXT:=List Env->Hp->Shared->XK->Value->Shared->Prop
structure Env0 (P:Program) (w:World) (K:W.Frag) (mg:Str->Option Value) (base:Heap) (A:Around) (outer:List Env) (s:Shared) (H:Hp):Prop where
 frames:A.frames=some outer
 mod:Mod K mg base
 bs:∀ b o,base.get? b=some o->s.heap.get? b=some o/\H b=none
 bsz:base.objs.size<=s.heap.objs.size
 funs:s.heap.FunFrames base outer
 frf:∀ b∈frs outer,H b=none
 hok:HOk P w H s.heap
 bare:AllBare s.gens
def CE (outer:List Env) (P:Program) (w:World) (H:Hp) (s:Shared) (Q:VK) (u:Value) (s':Shared):Prop :=
 ∃ v H',s'.os=s.os/\AllBare s'.gens/\Un (frs outer) [] H H' s.heap s'.heap/\HOk P w H' s'.heap/\RelV v u/\Q v H'
def CR (CX:CXT) (outer:List Env) (P:Program) (w:World) (H:Hp) (s:Shared) (Q:VK) (E:XK) (r:Result) (s':Shared):Prop :=
 match r with
 | .ok (.ret u)=>CE outer P w H s Q u s'
 | .ok _=>False
 | .error e=>CX outer H s E e s'
structure FnOk (P:Program) (w:World) (K:W.Frag) (mg:Str->Option Value) (base:Heap) (CX:CXT) (k:Nat) (f:Addr) (fd:FuncData) (ps:List Str) (sp:Sp):Prop where
 len:∀ vs H Q E,sp vs H Q E->vs.length=ps.length
 run:∀ (A:Around) (outer:List Env) (s:Shared) (H:Hp) (args:Args) (us:List Value) (vs:List V) (Q:VK) (E:XK),Room k A->Env0 P w K mg base A outer s H->BindsTo s fd args (ps.zip us)->Vals vs us->sp vs H Q E ->
  codeAny (model P w) A (.call (.ref f) args) (CR CX outer P w H s Q E) s
variable {mg:Str->Option Value} {outer:List Env}
theorem Env0.make {K:W.Frag} {base:Heap} (e:Env0 P w K mg base A outer s H) (C:Addr) (us:List Value) (kw:List (Str × Value)) :
  Env0 P w K mg base (A.under (.builtin "type.__call__" ⟨.ref C::us,kw⟩)) outer s H:=⟨by first | exact e.frames | (simpa [Around.under,Code.envs,Code.isFrame,pushEnvs] using e.frames),e.mod,e.bs,e.bsz,e.funs,e.frf,e.hok,e.bare⟩
theorem Inv.env0 (I:Inv X pins σ H s):Env0 X.prog X.w X.K X.mg X.base X.A X.stack s H :=
 ⟨I.ok.frames,I.ok.mod,I.bs,Nat.le_trans I.ok.bsz I.sz,I.stack,I.stkFree,I.hok,I.bare⟩
variable {Q:VK}
theorem Inv.after (I:Inv X pins σ H s) (h:CE X.stack X.prog X.w H s Q u s'):EP X pins σ Q u s':=by
 obtain ⟨v,j,i,a,k,e,r,q⟩:=h;obtain ⟨f,g,d,t,c⟩:=s';obtain rfl:c=s.os:=i;exact ⟨v,j,I.call (h':=f) (g':=g) (d':=d) (t':=t) (ch:=[]) k e a (fun b z=>absurd z (by simp)),r,q⟩
def tCall (sp:Sp) (dvs:List V) (E:XK) (t:TA):TE:=fun σ H Q=>t σ H fun vs H1=>sp (vs++dvs) H1 Q E
def tMake (C:Addr) (sp:Sp) (dvs:List V) (E:XK) (t:TA):TE:=fun σ H Q=>t σ H fun vs H1=>∀ x dx,H1 x=none->H1 dx=none->dx≠x ->
 sp (.ref x::(vs++dvs)) (upd (upd H1 dx (.own x)) x (.ins C dx [])) (fun v H2=>v=.non/\Q (.ref x) H2) E
def Binds (K:W.Frag) (fd:FuncData) (ps:List Str) (ds:List Value):Prop :=
 ∀ (s:Shared) (us:List Value),K.In s.heap->(us++ds).length=ps.length->BindsTo s fd ⟨us,[]⟩ (ps.zip (us++ds))
variable {fd:FuncData} {ps:List Str}
theorem Binds.all {K:W.Frag} (h:∀ us:List Value,us.length=ps.length->bindArgs fd ⟨us,[]⟩=pure (ps.zip us)):Binds K fd ps []:=fun s us _ a=>by
 rw [append_nil] at a ⊢;exact .of_eq (h us a)
def JbS (CX:CXT) (X:Cx) (E:XK):Prop:=∀ (pins:List (Addr × Obj)) (σ : St) (H:Hp) (s:Shared) (e:Value) (s':Shared),Inv X pins σ H s->CX X.stack H s E e s'->X.xe e s'
section
variable {CX:CXT} {sp:Sp} {dvs:List V} {ds:List Value} {E:XK} {x:Str} {p apos:Pos} {o:Expr} {k:Nat} {f:Addr} {m:Str} {t:TA} {vs:List V}
theorem Jhl (F:FnOk X.prog X.w X.K X.mg X.base CX k f fd ps sp) (hr:Room k X.A) (hb:Binds X.K fd ps ds) (hd:Vals dvs ds) (hx:JbS CX X E)
  (I:Inv X pins σ H s) (r:Vals vs us) (h:sp (vs++dvs) H Q E):wpAny (model X.prog X.w) X.A (call (.ref f) us) (EP X pins σ Q) X.xe s:=by
 have b:Vals (vs++dvs) (us++ds):=r.append hd;have c:(us++ds).length=ps.length:=by rw [<- b.length];exact F.len _ _ _ _ h
 refine wpAny_call (codeAny_mono (F.run X.A X.stack s H ⟨us,[]⟩ (us++ds) (vs++dvs) Q E hr I.env0 (hb s us I.kIn c) b h) fun r d a=>?_);cases r with
 | error e=>exact hx pins σ H s e d I a
 | ok fl=>
  cases fl with
  | ret u=>exact I.after a
  | next=>exact False.elim a
  | brk=>exact False.elim a
  | cont=>exact False.elim a
theorem Jk5 (F:FnOk X.prog X.w X.K X.mg X.base CX k f fd ps sp) (hr:Room k X.A) (hg:Gl X x) (hm:X.mg x=some (.ref f)) (hk:W.keepIn X.K (.ref f)=true) (hb:Binds X.K fd ps ds) (hd:Vals dvs ds) (hx:JbS CX X E)
  (ha:PA X (e::es) t) (hdb:(x == ("__debug__" : Str))=false:=by decide) (he:starEach (e::es) X.env=(false,eval e X.env)::starEach es X.env:=by rfl) (hpl:(backTo pos (starEach es X.env)).any (·.1)=false:=by rfl) :
  PE X (.Call (.Name x p) (e::es) [] pos) (tCall sp dvs E t):=by
 intro a s σ H Q I h;refine wpAny_Call_Name_kw (Jb0 I hg hm ?_ hdb);refine W.callWith_K (h₀:=X.base) I.ok.mod.kin hk (thn (ha pos a s σ H _ I h) fun b c ζ=>?_) he hpl;obtain ⟨g,d,I1,r,q⟩:=ζ;refine ⟨I1.kIn,?_⟩;exact Jhl F hr hb hd hx I1 r q
structure Mk (K:W.Frag) (C f:Addr):Prop where
 makes:W.makesIn K C=true
 init:W.findIn K (.ref C) "__init__"=some (some (.ref f))
 fn:W.isFn K (.ref f)=true
 kp:W.keepIn K (.ref C)=true
theorem JjS (M:Mk X.K C f) (F:FnOk X.prog X.w X.K X.mg X.base CX k f fd ps sp) (hr:Room (k+1) X.A) (hb:Binds X.K fd ps ds) (hd:Vals dvs ds)
  (hx:JbS CX X E) (I:Inv X pins σ H s) (r:Vals vs us)
  (h:∀ x dx,H x=none->H dx=none->dx≠x->sp (.ref x::(vs++dvs)) (upd (upd H dx (.own x)) x (.ins C dx [])) (fun v H2=>v=.non/\Q (.ref x) H2) E) :
  wpAny (model X.prog X.w) X.A (call (.ref C) us) (EP X pins σ Q) X.xe s:=by
 have c:=h (s.heap.objs.size+1) s.heap.objs.size (I.hok.fresh (Nat.le_succ _)) (I.hok.fresh (Nat.le_refl _)) (Nat.ne_of_lt (Nat.lt_succ_self _));have I2:=Inv.made (C:=C) I;have b:Vals (V.ref (s.heap.objs.size+1)::(vs++dvs)) (Value.ref (s.heap.objs.size+1)::(us++ds)):=.cons rfl (r.append hd);have g:(Value.ref (s.heap.objs.size+1)::us++ds).length=ps.length:=by
  have e:=b.length;rw [F.len _ _ _ _ c] at e;exact e.symm
 refine wpAny_call (Jjw (f:=f) I.kIn M.makes M.init (beq_iff_eq.mp M.fn) (codeAny_mono (F.run _ X.stack _ _ ⟨Value.ref (s.heap.objs.size+1)::us,[]⟩ (Value.ref (s.heap.objs.size+1)::(us++ds)) _ _ E (hr.make C us [])
  (I2.env0.make C us []) (hb _ (Value.ref (s.heap.objs.size+1)::us) I2.kIn g) b c) fun r m a=>?_))
 cases r with
 | error e=>exact hx pins σ _ _ e m I2 a
 | ok fl=>
  cases fl with
  | ret u=>
   obtain ⟨v,i,I3,d,j,l⟩:=I2.after a;subst j;exact ⟨d,⟨V.ref (s.heap.objs.size+1),i,I3,rfl,l⟩⟩
  | next=>exact False.elim a
  | brk=>exact False.elim a
  | cont=>exact False.elim a
theorem Jk8 (M:Mk X.K C f) (F:FnOk X.prog X.w X.K X.mg X.base CX k f fd ps sp) (hr:Room (k+1) X.A) (hg:Gl X x) (hm:X.mg x=some (.ref C)) (hb:Binds X.K fd ps ds) (hd:Vals dvs ds) (hx:JbS CX X E)
  (ha:PA X (e::es) t) (hdb:(x == ("__debug__" : Str))=false:=by decide) (he:starEach (e::es) X.env=(false,eval e X.env)::starEach es X.env:=by rfl) (hpl:(backTo pos (starEach es X.env)).any (·.1)=false:=by rfl) :
  PE X (.Call (.Name x p) (e::es) [] pos) (tMake C sp dvs E t):=by
 intro a s σ H Q I h;refine wpAny_Call_Name_kw (Jb0 I hg hm ?_ hdb);refine W.callWith_K (h₀:=X.base) I.ok.mod.kin M.kp (thn (ha pos a s σ H _ I h) fun b c ζ=>?_) he hpl;obtain ⟨g,d,I1,r,q⟩:=ζ;refine ⟨I1.kIn,?_⟩;exact JjS M F hr hb hd hx I1 r q
end
section
variable {CX:CXT} {ks:List Str} {sp:Sp} {E:XK} {x:Str} {p apos kpos:Pos} {o:Expr} {kws:List Keyword} {tk:TA} {nm:Option Str} {k:Nat} {f:Addr} {m:Str} {t:TA} {gV:List V->List V->List V} {g:List Value->List Value->List Value}
end
structure Jao (N P:List Str) (sc:Scope):Prop where
 kind:sc.kind=.function
 co:sc.isCoroutine=false
 gen:sc.isGenerator=false
 nd:N.Nodup
 pre:N.take P.length=P
 par:∀ x∈P,sc.names.lookup x=some .local\/sc.names.lookup x=some .cell
 nofree:∀ y∈sc.names,y.2≠.free
variable {kindOf:Str->Option NameKind} {x:Str}
theorem JfB:∀ {binds:List (Str × Value)} {m:Str->Option Value},(∀ v,(x,v)∉binds)->bindL kindOf binds m x=m x
 | [],_,_=>rfl
 | (n,v)::r,m,h=>by
  unfold bindL;rw [JfB fun w hw=>h w (mem_cons_of_mem _ hw)];split
  ·have : x≠n:=by rintro rfl;exact h v mem_cons_self
   simp [this]
  ·rfl
theorem Jfz:∀ {binds:List (Str × Value)} {m:Str->Option Value},(∀ v,(x,v)∉binds)->bindC kindOf binds m x=m x
 | [],_,_=>rfl
 | (n,v)::r,m,h=>by
  unfold bindC;rw [Jfz fun w hw=>h w (mem_cons_of_mem _ hw)];split
  ·rfl
  ·have : x≠n:=by rintro rfl;exact h v mem_cons_self
   simp [this]
variable {v:Value}
theorem JfA:∀ {P:List Str} {vs:List Value} {i:Nat} {m:Str->Option Value},P.Nodup->P[i]?=some x->vs[i]?=some v->kindOf x=some .local ->
  bindL kindOf (P.zip vs) m x=some v
 | [],_,_,_,_,h,_,_=>by simp at h
 | _::_,[],_,_,_,_,h,_=>by simp at h
 | p::P,w::vs,0,m,nd,h1,h2,hk=>by
  simp at h1 h2;subst h1;subst h2;show bindL kindOf ((p,w)::P.zip vs) m p=_;unfold bindL;rw [JfB fun v hv=>(nodup_cons.mp nd).1 (List.of_mem_zip hv).1,if_pos hk];simp
 | p::P,w::vs,i+1,m,nd,h1,h2,hk=>by
  show bindL kindOf ((p,w)::P.zip vs) m x=_;unfold bindL;exact JfA (i:=i) (nodup_cons.mp nd).2 (by simpa using h1) (by simpa using h2) hk
theorem Jfy:∀ {P:List Str} {vs:List Value} {i:Nat} {m:Str->Option Value},P.Nodup->P[i]?=some x->vs[i]?=some v->kindOf x≠some .local ->
  bindC kindOf (P.zip vs) m x=some v
 | [],_,_,_,_,h,_,_=>by simp at h
 | _::_,[],_,_,_,_,h,_=>by simp at h
 | p::P,w::vs,0,m,nd,h1,h2,hk=>by
  simp at h1 h2;subst h1;subst h2;show bindC kindOf ((p,w)::P.zip vs) m p=_;unfold bindC;rw [Jfz fun v hv=>(nodup_cons.mp nd).1 (List.of_mem_zip hv).1,if_neg hk];simp
 | p::P,w::vs,i+1,m,nd,h1,h2,hk=>by
  show bindC kindOf ((p,w)::P.zip vs) m x=_;unfold bindC;exact Jfy (i:=i) (nodup_cons.mp nd).2 (by simpa using h1) (by simpa using h2) hk
def start (N:List Str) (vs:List V):St:=vs.map some++List.replicate (N.length-vs.length) none
def cxOf (CX:CXT) (P:Program) (w:World) (K:W.Frag) (mg:Str->Option Value) (base:Heap) (N:List Str) (qual:Str) (scope:Scope) (f:Addr) (cd:Value) (A:Around) (outer:List Env) (s:Shared) (H:Hp) (E:XK):Cx where
 prog:=P
 w:=w
 K:=K
 mg:=mg
 base:=base
 A:=A.deeper (envOfC qual scope s.heap.objs.size f cd)
 N:=N
 s₀:=s
 H₀:=H
 env:=envOfC qual scope s.heap.objs.size f cd
 outer:=outer
 stack:=envOfC qual scope s.heap.objs.size f cd::outer
 ex:=[]
 calm:=true
 fn:=fun _=>true
 pn:=[]
 xe:=fun e s'=>wpAny (model P w) (A.deeper (envOfC qual scope s.heap.objs.size f cd)) (leaving (envOfC qual scope s.heap.objs.size f cd) e) (fun _ s''=>CX outer H s E e s'') (fun e' s''=>CX outer H s E e' s'') s'
theorem Jg1 {sc:Scope} (h:sc.names.lookup x=some .cell):∃ c,(cellsFrom n sc.names []).lookup x=some c:=by
 have q:=W.cellsFrom_some sc.names n [] (.inl h);exact Option.isSome_iff_exists.mp q
variable {CX:CXT} {qual:Str} {scope:Scope}
theorem Jin {K:W.Frag} {base:Heap} {f:Addr} {cd:Value} {s1:Shared} {E:XK} {vs:List V}
  (S:Jao N ps scope) (hd:A.handled=none) (e0:Env0 P w K mg base A outer s H) (hl:vs.length=ps.length) (r:Vals vs us)
  (x:InCallC s s.heap.objs.size (bindL (envOfC qual scope s.heap.objs.size f cd).kindOf (ps.zip us) fun _=>none) (cellsFrom (s.heap.objs.size+1) scope.names []) (bindC (envOfC qual scope s.heap.objs.size f cd).kindOf (ps.zip us) fun _=>none) s1) :
  Inv (cxOf CX P w K mg base N qual scope f cd A outer s H E) [] (start N vs) H s1:=by
 have G:ps.length<=N.length:=by have:=congrArg List.length S.pre;rw [length_take] at this;ac_nf
 obtain ⟨t,J,rfl,B⟩:=x.done;have g:∀ b:Addr,b∉(cxOf CX P w K mg base N qual scope f cd A outer s H E).ex:=fun b z=>absurd (show b∈([]:List Addr) from z) (by simp);refine ⟨⟨e0.mod,S.kind,rfl,rfl,Nat.le_refl _,fun y z c t d=>?_,fun y j=>?_,fun y c _ h=>?_,fun _=>hd,Around.frames_deeper e0.frames, .inr ⟨rfl,rfl⟩,fun b z=>absurd z (g b),e0.bs,e0.bsz,fun b _ _=>g b,fun b z=>absurd z (g b),e0.funs,e0.frf⟩,
  rfl,e0.bare,Un.kept B,⟨_,x.toInCall.ns,fun i y v t d I=>?_⟩,fun y c h=>⟨_,x.cell y c h⟩,e0.hok.fresh (Nat.le_refl _),fun y c h=>?_,fun p l=>absurd (show p∈([]:List (Addr × Obj)) from l) (by simp),e0.hok.kept B,?_⟩
 ·exact name_of_addr x.apart (PySem.mem_of_lookup t) (PySem.mem_of_lookup d)
 ·have j:scope.names.lookup y=some .cell\/scope.names.lookup y=some .free:=j;rcases j with j | j
  ·exact Jg1 j
  ·exact absurd rfl (S.nofree _ (PySem.mem_of_lookup j))
 ·exact Nat.le_of_lt (x.above y c (PySem.mem_of_lookup h))
 ·have o:i<vs.length:=by
   unfold start at d;by_cases o:i<vs.length
   ·exact o
   ·rw [List.getElem?_append_right (by simpa using o)] at d;rw [List.getElem?_replicate] at d;split at d <;> cases d
  have D:vs[i]?=some v:=by
   unfold start at d;rw [List.getElem?_append_left (by simpa using o),List.getElem?_map] at d;cases e:vs[i]? with
   | none=>rw [e] at d;cases d
   | some a=>rw [e] at d;cases d;rfl
  obtain ⟨u,C,F⟩:=r.get D;have l:ps[i]?=some y:=by
   rw [<- S.pre,List.getElem?_take_of_lt ∅];exact t
  have m:ps.Nodup:=by rw [<- S.pre];exact S.nd.sublist (List.take_sublist _ _)
  refine ⟨u,F,?_⟩;rcases S.par y (List.mem_of_getElem? l) with k | k
  ·exact .inl ⟨k,JfA m l C k⟩
  ·obtain ⟨c,e⟩:=Jg1 (n:=s.heap.objs.size+1) k;refine .inr ⟨.inl k,c,e,?_⟩;have q:=x.cell y c e;rw [Jfy m l C (by show scope.names.lookup y≠_;rw [k];decide)] at q;exact q
 ·exact e0.hok.fresh (Nat.le_of_lt (x.above y c (PySem.mem_of_lookup h)))
 ·unfold start;show _=N.length;rw [length_append,length_map,List.length_replicate];ac_nf
theorem fn_of {K:W.Frag} {base:Heap} {k:Nat} {f:Addr} {name:Str} {params:Arguments} {dV kV doc pm cdv ct oc:Value} {an od:Option Addr}
  {osl:Array (Option Value)} {N ps:List Str} {sp:Sp} (lk:K.lookup f=some ⟨oc,od, .func (W.fnOf name qual params body scope dV kV doc pm an cdv ct),osl⟩) (hcd:W.codeIn K cdv qual=true) (S:Jao N ps scope)
  (len:∀ vs H Q E,sp vs H Q E->vs.length=ps.length)
  (hbody:∀ (A:Around) (outer:List Env) (s:Shared) (H:Hp) (vs:List V) (Q:VK) (E:XK),Room k (A.deeper (envOfC qual scope s.heap.objs.size f cdv))->sp vs H Q E ->
   ∃ t,PSs (cxOf CX P w K mg base N qual scope f cdv A outer s H E) body t/\t { nx:=fun _ H'=>Q .non H',rt:=Q } (start N vs) H) :
  FnOk P w K mg base CX (k+1) f (W.fnOf name qual params body scope dV kV doc pm an cdv ct) ps sp:=by
 refine ⟨len,fun A outer s H p G vs Q E j d O r g=>?_⟩;have F:=len _ _ _ _ g;have KX:K.In s.heap:=d.mod.kin.keeps fun b o e=>(d.bs b o e).1;have i:s.heap.NoLimit:=d.mod.nolimit.keeps fun b o e=>(d.bs b o e).1;have a:∀ y∈ps.zip G,scope.names.lookup y.1=some .local\/(scope.names.lookup y.1=some .cell/\((cellsFrom (s.heap.objs.size+1) scope.names []).lookup y.1).isSome=true):=fun ⟨n,v⟩ R=>by
  rcases S.par n (List.of_mem_zip R).1 with q | q
  ·exact .inl q
  ·exact .inr ⟨q,W.cellsFrom_some _ _ _ (.inl q)⟩
 refine codeAny_call_function j.depth (KX _ _ lk) rfl S.co S.gen rfl (W.codeRec_of KX hcd) (O _ _ _ _ ?_);refine wpAny_newFunctionEnv_cells S.kind a fun B L z x=>?_;subst L;refine ⟨i.keeps x.toInCall.keep,codeAny_func ?_⟩;obtain ⟨t,M,C⟩:=hbody A outer s H vs Q E (j.deeper _) g;have I:Inv (cxOf CX P w K mg base N qual scope f cdv A outer s H E) [] (start N vs) H z:=Jin S j.hd d F r x;refine wpAny_mono (M [] z (start N vs) H _ I C) (fun D l c=>?_) fun e l c=>c;have h:∀ {σ':St} {H':Hp} {v:V} {u:Value},Inv (cxOf CX P w K mg base N qual scope f cdv A outer s H E) [] σ' H' l->RelV v u->Q v H'->CE outer P w H s Q u l :=
  fun {σ' H' v u} J m q=>⟨v,H',J.os,J.bare,J.base,J.hok,m,q⟩
 cases D with
 | ret u=>
  obtain ⟨v,σ',H',J,m,q⟩:=c;exact h J m q
 | next=>
  obtain ⟨σ',H',J,q⟩:=c;exact h (v:=V.non) (u:=Value.none) J rfl q
 | brk=>
  obtain ⟨_,_,_,q⟩:=c;exact False.elim q
 | cont=>
  obtain ⟨_,_,_,q⟩:=c;exact False.elim q
section
variable {p:Pos} {id T:String} {r:List V->Hp->VK->Prop} {t:TA}
def tCB (r:List V->Hp->VK->Prop) (t:TA):TE:=fun σ H Q=>t σ H fun vs H1=>r vs H1 Q
theorem Jav (hc:CallR X (.builtin id) r) (hg:Gl X x) (hm:X.mg x=none) (hv:bootBuiltins x=some (.builtin id)) (ha:PA X (e::es) t) (hn:x≠"__name__":=by decide) (hdb:(x == ("__debug__" : Str))=false:=by decide)
  (he:starEach (e::es) X.env=(false,eval e X.env)::starEach es X.env:=by rfl) (hpl:(backTo pos (starEach es X.env)).any (·.1)=false:=by rfl):PE X (.Call (.Name x p) (e::es) [] pos) (tCB r t):=by
 intro a s σ H Q I h;refine wpAny_Call_Name_kw (JcT I hg hm hv ?_ hn hdb);exact PyProof.Rows.callWith_builtin1 (thn (ha pos a s σ H _ I h) fun c f ζ=>by obtain ⟨i,g,I1,b,d⟩:=ζ;exact hc a f σ g i c Q I1 b d) he hpl
theorem Jcy (hc:CallR X (.type T) r) (hg:Gl X x) (hm:X.mg x=none) (hv:bootBuiltins x=some (.type T)) (ha:PA X (e::es) t) (hn:x≠"__name__":=by decide) (hdb:(x == ("__debug__" : Str))=false:=by decide)
  (he:starEach (e::es) X.env=(false,eval e X.env)::starEach es X.env:=by rfl) (hpl:(backTo pos (starEach es X.env)).any (·.1)=false:=by rfl):PE X (.Call (.Name x p) (e::es) [] pos) (tCB r t):=by
 intro a s σ H Q I h;refine wpAny_Call_Name_kw (JcT I hg hm hv ?_ hn hdb);exact PyProof.Rows.callWith_type1 (thn (ha pos a s σ H _ I h) fun c f ⟨i,g,I1,b,d⟩=>hc a f σ g i c Q I1 b d) he hpl
end
end L2
namespace HT
open PySem PyProof.Rows
section
open PySem.SeqAt
open PySem.AutoSeq1 (wpAny_loadPart')
open PySem.MeetsSeq PySem.MeetsSeq2 PySem.MeetsSeq3
end
variable {prog:Program} {w:World} {A:Around} {E:Value->Shared->Prop} {s:Shared}
theorem cat_tup {t b:Addr} {vs ws:List Value} {Q:Value->Shared->Prop} (ht:IsTup s.heap t vs.toArray) (hb:IsTup s.heap b ws.toArray) (hv:vs≠[])
  (h1:ws=[]->Q (.ref t) s) (h2:ws≠[]->Q (.ref s.heap.objs.size) { s with heap:=s.heap.push { cls:=.type "tuple",data:=.seq (vs++ws).toArray } })
  (hsz:vs.length+ws.length<=sizeLine):wpAny (model prog w) A (binaryOp .Add (.ref t) (.ref b)) Q E s:=by
 obtain ⟨⟨cls,m,data,o⟩,i,p,n,q⟩:=id ht;obtain ⟨⟨k,f,j,g⟩,a,c,l,d⟩:=id hb;simp only at p q c d;subst p q c d;have e:vs.toArray++ws.toArray=(vs++ws).toArray:=by simp
 by_cases h:ws=[]
 ·exact concat_meets ⟨_,i,rfl⟩ ⟨_,a,rfl⟩ noFill_tuple_add seq_tuple_add PySem.F.slot_tuple_add PySem.F.entry_tuple_add (PySem.F.args_tuple_add_2 _ _)
   (tuple_addW1 t b vs.toArray ws.toArray n l m f o g (by simpa using hv) (by simp [h])) ⟨i,a,h1 h⟩
 ·refine concat_meets ⟨_,i,rfl⟩ ⟨_,a,rfl⟩ noFill_tuple_add seq_tuple_add PySem.F.slot_tuple_add PySem.F.entry_tuple_add (PySem.F.args_tuple_add_2 _ _)
   (tuple_addW2 t b vs.toArray ws.toArray n l m f o g (by simpa using hv) (by simpa using h) (by rw [size_toArray,size_toArray];exact hsz)) ⟨i,a,?_⟩
  rw [e];exact h2 h
def sIx (n d:Nat):Option Int->Nat
 | none=>d
 | some v=>if v<0 then (v+(n:Int)).toNat else min v.toNat n
theorem Jl7 (n d:Nat) (hd:d<=n) (o:Option Int):sIx n d o<=n:=by
 cases o with
 | none=>exact hd
 | some v=>
  show (if v<0 then (v+(n:Int)).toNat else min v.toNat n)<=n;by_cases a:v<0
  ·rw [if_pos a];ac_nf
  ·rw [if_neg a];exact Nat.min_le_right _ _
theorem Jh2 (v:Int) (n d:Nat):(if v<0 then max (v+(n:Int)) 0 else min v (n:Int))=((sIx n d (some v):Nat):Int):=by
 show (if v<0 then max (v+(n:Int)) 0 else min v (n:Int))=(((if v<0 then (v+(n:Int)).toNat else min v.toNat n):Nat):Int);by_cases a:v<0
 ·simp only [if_pos a];ac_nf
 ·simp only [if_neg a];ac_nf
theorem Jhs (lo hi:Option Int) (n:Nat):Builtin.Slice.sliceAdjust lo hi 1 (n:Int)=(((sIx n 0 lo:Nat):Int),((sIx n n hi:Nat):Int)):=by
 have a:¬ ((1:Int)<0):=by ac_nf
 unfold Builtin.Slice.sliceAdjust;simp only [a,if_false];refine Prod.ext ?_ ?_
 ·cases lo with
  | none=>rfl
  | some v=>exact Jh2 v n 0
 ·cases hi with
  | none=>rfl
  | some v=>exact Jh2 v n n
theorem JhI (i j:Nat):Builtin.Slice.slicePlaces (i:Int) (j:Int) 1=j-i:=by
 unfold Builtin.Slice.slicePlaces;have a:(1:Int) > 0:=by ac_nf
 simp only [a,if_true,Int.ediv_one];split <;> ac_nf
theorem JeT {v:Value} {o:Option Int} {Q:Option Int->Shared->Prop} (p:IsPart v o) (h:Q o s):wpAny (model prog w) A (Builtin.Slice.slicePartIndex v) Q E s:=by
 cases p with
 | none=>exact slicePart_none h
 | int i t=>exact slicePart_int h
variable {vu:Value} {hi:Option Int}
theorem JdH {sl:Addr} {vl:Value} {lo:Option Int} {n:Nat} {Q:Int × Int × Nat->Shared->Prop} (hs:s.heap.IsSliceOf sl vl vu .none) (pl:IsPart vl lo) (pu:IsPart vu hi)
  (h:Q (((sIx n 0 lo:Nat):Int),1,sIx n n hi-sIx n 0 lo) s):wpAny (model prog w) A (Builtin.Slice.sliceApplied (.ref sl) (pure (n:Int))) Q E s:=by
 obtain ⟨d,a,c,b⟩:=id hs;unfold Builtin.Slice.sliceApplied Builtin.Slice.sliceFields;refine wpAny_bind (wpAny_bind (wpAny_field a b (x:=vl) rfl (wpAny_bind (wpAny_field a b (x:=vu) rfl (wpAny_bind (wpAny_field a b (x:=.none) rfl (wpAny_pure ?_)))))));refine wpAny_bind (slicePart_none ?_);show wpAny _ _ (if ((1:Int) == 0)=true then _ else _) _ _ s;rw [if_neg ⋯];refine wpAny_bind (JeT pl (wpAny_bind (JeT pu (wpAny_bind (wpAny_pure ?_)))));show wpAny _ _ (match Builtin.Slice.sliceAdjust lo hi 1 (n:Int) with | (lo,hi)=>pure (lo,(1:Int),Builtin.Slice.slicePlaces lo hi 1)) _ _ s;rw [Jhs lo hi n];show wpAny _ _ (pure (((sIx n 0 lo:Nat):Int),(1:Int),Builtin.Slice.slicePlaces ((sIx n 0 lo:Nat):Int) ((sIx n n hi:Nat):Int) 1)) _ _ s;rw [JhI];exact wpAny_pure h
theorem JjL (xs:Array Value) (i k:Nat):((List.range k).filterMap fun (m:Nat)=>xs[((i:Int)+(m:Int)*1).toNat]?).toArray=((xs.toList.drop i).take k).toArray:=by
 have e:(fun (m:Nat)=>xs[((i:Int)+(m:Int)*1).toNat]?)=fun m=>xs[i+m]?:=by
  funext m
  have : ((i:Int)+(m:Int)*1).toNat=i+m:=by ac_nf
  rw [this]
 rw [e];have:=pick_run xs i k;rw [List.filterMap_map] at this;have a:((fun x=>xs[x]?) ∘ fun x=>i+x)=fun m=>xs[i+m]?:=rfl;rw [a] at this;rw [this]
theorem getItem_tuple_cut {t sl:Addr} {items:Array Value} {vl:Value} {lo:Option Int} {Q:Value->Shared->Prop} (ht:IsTup s.heap t items) (hs:s.heap.IsSliceOf sl vl vu .none) (pl:IsPart vl lo) (pu:IsPart vu hi)
  (hw:¬ (sIx items.size 0 lo=0/\sIx items.size items.size hi=items.size))
  (h:Q (.ref s.heap.objs.size) { s with heap:=s.heap.push { cls:=.type "tuple",data:=.seq ((items.toList.drop (sIx items.size 0 lo)).take (sIx items.size items.size hi-sIx items.size 0 lo)).toArray } })
  (hsz:items.size<=sizeLine):wpAny (model prog w) A (getItem (.ref t) (.ref sl)) Q E s:=by
 have a:sizeOk (.seq ((items.toList.drop (sIx items.size 0 lo)).take (sIx items.size items.size hi-sIx items.size 0 lo)).toArray):=by
  show ((items.toList.drop (sIx items.size 0 lo)).take (sIx items.size items.size hi-sIx items.size 0 lo)).toArray.size<=sizeLine;rw [size_toArray,length_take,List.length_drop,Array.length_toList];ac_nf
 have j:sIx items.size items.size hi<=items.size:=Jl7 _ _ (Nat.le_refl _) hi;obtain ⟨g,d,c,f⟩:=id hs;have e:s.TypeIs (.ref sl) "slice":=⟨g,d,c⟩;unfold getItem;try with_reducible refine wpAny_holding ?_
 first | refine wpAny_bind (wpAny_pure ?_) | skip
 refine wpAny_bind (wpAny_sequenceKey ht.typeIs ⋯ ?_);refine wpAny_bind (wpAny_callSpecial?_slot (name:=Str.ofString "__getitem__") ht.typeIs PyProof.Rows.slot_tuple_getitem
  (wpAny_call_entry PyProof.Rows.slot_tuple_getitem ht.typeIs entry_tuple_getitem ?_ (args_tuple_getitem _ _)))
 show wpAny _ _ (Builtin.Tuple.tupleItemsOf (.ref t) >>= _) _ _ s;refine wpAny_bind (tupleItemsOf_ ht ?_);refine wpAny_bind (wpAny_typeOf e ?_);rw [if_pos ⋯];refine wpAny_bind (JdH hs pl pu ?_);have b:¬ ((((sIx items.size 0 lo:Nat):Int) == 0&&(1:Int) == 1&&(sIx items.size items.size hi-sIx items.size 0 lo) == items.size)=true):=by
  intro q;rw [Bool.and_eq_true,Bool.and_eq_true] at q;have i:((sIx items.size 0 lo:Nat):Int)=0:=eq_of_beq q.1.1;have k:sIx items.size items.size hi-sIx items.size 0 lo=items.size:=eq_of_beq q.2;exact hw ⟨by ac_nf,by ac_nf⟩
 show wpAny _ _ (if (((sIx items.size 0 lo:Nat):Int) == 0&&(1:Int) == 1&&(sIx items.size items.size hi-sIx items.size 0 lo) == items.size)=true then _ else _) _ _ s;rw [if_neg b,JjL];first
  | exact wpAny_bind (m:=Builtin.Tuple.tupleExact _) (wpAny_newObj_type (wpAny_pure ⟨_,rfl,wpAny_pure h⟩) a)
  | exact wpAny_bind (m:=Builtin.Tuple.tupleExact _) (wpAny_newObj_type (wpAny_bind (wpAny_pure (wpAny_pure ⟨_,rfl,wpAny_pure h⟩))) a)
  | exact wpAny_bind (wpAny_bind (m:=Builtin.Tuple.tupleExact _) (wpAny_newObj_type (wpAny_pure (wpAny_pure ⟨_,rfl,wpAny_pure h⟩)) a))
  | exact wpAny_bind (wpAny_bind (m:=Builtin.Tuple.tupleExact _) (wpAny_newObj_type (wpAny_pure ⟨_,rfl,wpAny_pure h⟩) a))
end HT
namespace L2
open PySem PySem.Spec PyProof.Rows
abbrev TO:=St->Hp->(Option Int->Hp->Prop)->Prop
def PO (X:Cx) (e:Option Expr) (t:TO):Prop :=
 ∀ (pins:List (Addr × Obj)) (s:Shared) (σ : St) (H:Hp) (Q:Option Int->Hp->Prop),Inv X pins σ H s->t σ H Q ->
  wpAny (model X.prog X.w) X.A (evalPart e X.env) (fun u s'=>∃ o H',Inv X pins σ H' s'/\IsPart u o/\Q o H') X.xe s
def Ji4:TO:=fun _ H Q=>Q none H
def tPart (t:TE):TO:=fun σ H Q=>t σ H fun x H1=>∃ i,x=.int i/\Q (some i) H1
section
variable {X:Cx} {e:Expr} {te:TE} {hi:Option Expr} {tl th:TO} {pos p2:Pos} {lo:Option Expr}
theorem JgK:PO X none Ji4:=by
 intro a s σ H Q I h;rw [evalPart_none];exact wpAny_pure ⟨none,H,I, .none,h⟩
theorem Jef (h:PE X e te):PO X (some e) (tPart te):=by
 intro a s σ H Q I b;rw [evalPart_some];refine thn (h a s σ H _ I b) fun u g ζ=>?_;obtain ⟨x,f,I1,c,d⟩:=ζ;obtain ⟨i,rfl,q⟩:=d;obtain ⟨t,rfl⟩:=c;exact ⟨some i,f,I1, .int i t,q⟩
def SlR (X:Cx) (r:V->Option Int->Option Int->Hp->VK->Prop):Prop :=
 ∀ (pins:List (Addr × Obj)) (s:Shared) (σ : St) (H:Hp) (x:V) (v vl vu:Value) (lo hi:Option Int) (sl:Addr) (Q:VK),Inv X pins σ H s->RelV x v->s.heap.IsSliceOf sl vl vu .none->IsPart vl lo->IsPart vu hi->r x lo hi H Q ->
  ∃ T id,typeLookup (.type T) "__getitem__"=pure (some (.builtin id))/\s.TypeIs v T/\wpAny (model X.prog X.w) X.A (getItem v (.ref sl)) (EP X pins σ Q) X.xe s
variable {r:V->Option Int->Option Int->Hp->VK->Prop}
theorem SlR.or {r':V->Option Int->Option Int->Hp->VK->Prop} (h:SlR X r) (h':SlR X r'):SlR X (fun x lo hi H Q=>r x lo hi H Q\/r' x lo hi H Q):=by
 intro a s σ H x v vl c lo hi d Q I e f b pu q;rcases q with q | q
 ·exact h a s σ H x v vl c lo hi d Q I e f b pu q
 ·exact h' a s σ H x v vl c lo hi d Q I e f b pu q
def tSl (r:V->Option Int->Option Int->Hp->VK->Prop) (te:TE) (tl th:TO):TE:=fun σ H Q=>te σ H fun x H1=>tl σ H1 fun l H2=>th σ H2 fun u H3=>r x l u H3 Q
theorem JdM (hr:SlR X r) (he:PE X e te) (hl:PO X lo tl) (hu:PO X hi th):PE X (.Subscript e (.Slice lo hi none p2) pos) (tSl r te tl th):=by
 intro a s σ H Q I h;refine Subscript_ (thn (he a s σ H _ I h) fun v z ζ=>?_);obtain ⟨x,B,I1,t,j⟩:=ζ;refine wpAny_Slice (thn (hl a z σ B _ I1 j) fun vl p ζ=>?_);obtain ⟨l,y,I2,g,n⟩:=ζ;refine thn (hu a p σ y _ I2 n) fun d c ζ=>?_;obtain ⟨u,f,I3,pu,m⟩:=ζ;rw [evalPart_none];refine wpAny_pure ?_;have I4:Inv X a σ f { c with heap:=c.heap.push { cls:=.type "slice",data:=.fields #[vl,d, .none] } }:=I3.kept (t':=c.toks) fun b C q=>Heap.get?_push_of_some _ q;obtain ⟨T,id,i,o,k⟩:=hr a { c with heap:=c.heap.push { cls:=.type "slice",data:=.fields #[vl,d, .none] } } σ f x v vl d l u c.heap.objs.size Q I4 t (Heap.IsSliceOf.new ..) g pu m;show wpAny (model X.prog X.w) X.A (subscriptTail e (.Slice lo hi none p2) v (.ref c.heap.objs.size)) (EP X a σ Q) X.xe { c with heap:=c.heap.push { cls:=.type "slice",data:=.fields #[vl,d, .none] } };exact tail_any (ops:=[.ref c.heap.objs.size,v]) o i k (by with_unfolding_all rfl)
def cutV (xs:List V) (lo hi:Option Int):List V:=(xs.drop (HT.sIx xs.length 0 lo)).take (HT.sIx xs.length xs.length hi-HT.sIx xs.length 0 lo)
theorem JdV (xs:List V) (lo hi:Option Int):(cutV xs lo hi).length<=xs.length:=by
 unfold cutV;rw [length_take,List.length_drop];ac_nf
def rSlT (K:W.Frag):V->Option Int->Option Int->Hp->VK->Prop:=fun x lo hi H Q=>∃ a xs,x=.ref a/\SqT K H a xs /\
 ¬ (HT.sIx xs.length 0 lo=0/\HT.sIx xs.length xs.length hi=xs.length)/\∀ p,H p=none->Q (.ref p) (upd H p (.tup (cutV xs lo hi)))
theorem Jl9:SlR X (rSlT X.K):=by
 intro j s σ H x v vl y e g w Q I n m l pu h;obtain ⟨a,d,rfl,t,p,q⟩:=h;cases n;obtain ⟨f,r,i,k⟩:=I.tuple t;have c:f.toArray.size=d.length:=by rw [size_toArray];exact r.length.symm
 refine ⟨"tuple",_,PyProof.Rows.slot_tuple_getitem.lookup,i.typeIs,?_⟩;refine HT.getItem_tuple_cut i m l pu (by rw [c];exact p) ?_ (by rw [c];exact k);rw [c];refine ⟨.ref s.heap.objs.size,_,I.laid (t':=s.toks) (o:=.tup (cutV d e g)) (fun b u q=>Heap.get?_push_of_some _ q) (Nat.le_refl _) ?_,rfl,q _ (I.hok.fresh (Nat.le_refl _))⟩;exact ⟨Nat.le_trans (JdV d e g) k,_,(r.drop (HT.sIx d.length 0 e)).take (HT.sIx d.length d.length g-HT.sIx d.length 0 e),IsTup.new _ _⟩
def rCatT (K:W.Frag):R2:=fun x y H Q=>∃ a b xs ys,x=.ref a/\y=.ref b/\SqT K H a xs/\SqT K H b ys/\xs≠[]/\xs.length+ys.length<=sizeLine /\
 (ys=[]->Q (.ref a) H)/\(ys≠[]->∀ p,H p=none->Q (.ref p) (upd H p (.tup (xs++ys))))
variable {xs:List V}
theorem Vals.nil_iff {us:List Value} (r:Vals xs us):us=[]↔xs=[]:=by
 cases r with
 | nil=>simp
 | cons _ _=>simp
theorem JkZ:OpR X (binaryOp .Add) (rCatT X.K):=by
 intro e s σ H x y v u Q I r i h;obtain ⟨a,b,A,t,rfl,rfl,m,B,C,f,l,p⟩:=h;cases r;cases i;obtain ⟨k,d,j,_⟩:=I.tuple m;obtain ⟨g,c,n,_⟩:=I.tuple B;refine HT.cat_tup j n (fun z=>C (d.nil_iff.mp z)) (fun z=>⟨.ref a,H,I,rfl,l (c.nil_iff.mp z)⟩) (fun z=>?_) (by rw [<- d.length, <- c.length];exact f);refine ⟨.ref s.heap.objs.size,_,I.laid (t':=s.toks) (o:=.tup (A++t)) (fun b D q=>Heap.get?_push_of_some _ q) (Nat.le_refl _) ?_,rfl,p (fun w=>z (c.nil_iff.mpr w)) _ (I.hok.fresh (Nat.le_refl _))⟩;exact ⟨by rw [length_append];exact f,_,d.append c,IsTup.new _ _⟩
end
def ixN (n:Nat) (i:Int):Option Nat:=if 0<=i then (if i<n then some i.toNat else none) else if -(n:Int)<=i then some (i+n).toNat else none
variable {α:Type}
def atI (xs:List α) (i:Int):Option α:=(ixN xs.length i).bind fun j=>xs[j]?
variable {n j:Nat} {i:Int}
theorem Jiq (h:ixN n i=some j):seqIndex? i n=some j/\j<n/\-(n:Int)<=i/\i<n:=by
 unfold ixN at h;by_cases b:0<=i
 ·rw [if_pos b] at h;by_cases a:i<n
  ·rw [if_pos a] at h;have e:i.toNat=j:=Option.some.inj h;exact ⟨by rw [seqIndex_of b a,e],by ac_nf,by ac_nf,a⟩
  ·rw [if_neg a] at h;cases h
 ·rw [if_neg b] at h;by_cases a : -(n:Int)<=i
  ·rw [if_pos a] at h;have e:(i+n).toNat=j:=Option.some.inj h;exact ⟨by rw [seqIndex_neg ∅ a,e],by ac_nf,a,by ac_nf⟩
  ·rw [if_neg a] at h;cases h
theorem Jgj {xs:List α} {v : α} (h:atI xs i=some v):∃ j,seqIndex? i xs.length=some j/\xs[j]?=some v/\j<xs.length/\-(xs.length:Int)<=i/\i<xs.length:=by
 unfold atI at h;cases e:ixN xs.length i with
 | none=>rw [e] at h;cases h
 | some j=>
  rw [e] at h;obtain ⟨b,d,c,a⟩:=Jiq e;exact ⟨j,b,h,d,c,a⟩
theorem JdQ {xs:List α} {v : α} (h:xs[j]?=some v):atI xs (j:Int)=some v:=by
 have a:j<xs.length:=(List.getElem?_eq_some_iff.mp h).1;have e:ixN xs.length (j:Int)=some j:=by
  unfold ixN;rw [if_pos ∅,if_pos ∅];simp
 unfold atI;rw [e];exact h
theorem Jje (xs:List α) (v : α):atI (xs++[v]) (-1)=some v:=by
 have a:(xs++[v]).length=xs.length+1:=by simp
 have e:ixN (xs++[v]).length (-1)=some xs.length:=by
  unfold ixN;rw [a,if_neg ⋯,if_pos ∅]
  congr 1
  ac_nf
 unfold atI;rw [e];show (xs++[v])[xs.length]?=some v;simp
def Jkz (b:Expr):Prop:=∀ o i,subscripted b false o i=operate [o,i] (getItem o i)
def IxR (X:Cx) (r:R2):Prop :=
 ∀ (value slice:Expr) (pins:List (Addr × Obj)) (s:Shared) (σ : St) (H:Hp) (x y:V) (v u:Value) (Q:VK),Inv X pins σ H s->RelV x v->RelV y u->r x y H Q ->
  subscripted slice false v u=operate [v,u] (getItem v u)->wpAny (model X.prog X.w) X.A (subscriptTail value slice v u) (EP X pins σ Q) X.xe s
def MtR (X:Cx) (id:String) (r:V->List V->Hp->VK->Prop):Prop :=
 ∀ (pins:List (Addr × Obj)) (s:Shared) (σ : St) (H:Hp) (x:V) (xs:List V) (v:Value) (us:List Value) (Q:VK),Inv X pins σ H s->RelV x v->Vals xs us->r x xs H Q ->
  wpAny (model X.prog X.w) X.A (call (.builtin id) (v::us)) (EP X pins σ Q) X.xe s
section
variable {X:Cx} {a b:Expr} {ta tb:TE} {pos:Pos}
theorem pe_ix {r:R2} (hr:IxR X r) (ha:PE X a ta) (hb:PE X b tb) (hs:Jkz b:=by exact fun _ _=>rfl):PE X (.Subscript a b pos) (tOp r ta tb):=by
 intro c s σ H Q I h;exact Subscript_ (binT ha hb I h fun v u d x y f I2 g e q=>hr a b c d σ f x y v u Q I2 g e q (hs _ _))
def rIxL (K:W.Frag):R2:=fun x y H Q=>∃ p xs i v,x=.ref p/\y=.int i/\SqL K H p xs/\atI xs i=some v/\Q v H
def rIxT (K:W.Frag):R2:=fun x y H Q=>∃ p xs i v,x=.ref p/\y=.int i/\SqT K H p xs/\atI xs i=some v/\Q v H
def rIxS:R2:=fun x y H Q=>∃ z i c,x=.str z/\y=.int i/\z.length<=sizeLine/\atI z.cps.toList i=some c/\Q (.str ⟨#[c]⟩) H
theorem JkN:IxR X (rIxL X.K):=by
 intro k d a s σ H x y v u Q I J A h m;obtain ⟨p,O,i,z,rfl,rfl,B,E,q⟩:=h;cases J;obtain ⟨t,rfl⟩:=A;obtain ⟨f,r,e,P⟩:=I.list B;obtain ⟨j,c,L,N,G,D⟩:=Jgj E;obtain ⟨w,n,l⟩:=r.get L;have C:=r.length;have M:=JeO;have b:EP X a σ Q w s:=⟨z,H,I,l,q⟩;by_cases o:0<=i
 ·have g:i.toNat=j:=by
   rw [seqIndex_of o D] at c;exact Option.some.inj c
  exact item_listR e.isList o ∅ (by rw [g];simpa using n) b m
 ·have g:(i+(f.toArray.size:Int)).toNat=j:=by
   rw [seqIndex_neg ∅ G] at c;rw [size_toArray, <- C];exact Option.some.inj c
  exact subscriptTail_builtinR (x:=w) e.isList.typeIs slot_list_getitem.lookup
   (wpAny_getItem_list_neg (Q:=fun r F=>r=w/\EP X a σ Q r F) e.isList ∅ (by rw [size_toArray] <;> ac_nf) ∅ (by rw [g];simpa using n) ⟨rfl,b⟩) m
theorem JlF:IxR X (rIxT X.K):=by
 intro d b a s σ H x y v u Q I C g h m;obtain ⟨p,M,i,z,rfl,rfl,k,o,q⟩:=h;cases C;obtain ⟨t,rfl⟩:=g;obtain ⟨l,r,f,N⟩:=I.tuple k;obtain ⟨j,B,E,J,L,G⟩:=Jgj o;obtain ⟨w,D,e⟩:=r.get E;have n:=r.length;have F:=JeO;have c:EP X a σ Q w s:=⟨z,H,I,e,q⟩;exact subscriptTail_builtinR (x:=w) f.typeIs slot_tuple_getitem.lookup
  (getItem_tuple (j:=j) (Q:=fun r A=>r=w/\EP X a σ Q r A) f ∅ ∅ (by rw [size_toArray, <- n];exact B) (by simpa using D) ⟨rfl,c⟩) m
theorem JlE:IxR X rIxS:=by
 intro b a e s σ H x y v u Q I r f h k;obtain ⟨z,i,c,rfl,rfl,D,o,q⟩:=h;obtain ⟨t,rfl⟩:=r;obtain ⟨A,rfl⟩:=f;obtain ⟨j,d,w,C,p,n⟩:=Jgj o;have m:z.cps.toList.length=z.length:=by simp [Str.length]
 rw [m] at d p n;have B:=JeO;exact tail_any (typeIs_str s z t) slot_str_getitem.lookup (getItem_str (c:=c) (by
  have g:decide (i < -(2 ^ 63:Int))=false:=decide_eq_false ∅;have l:decide (i ≥ 2 ^ 63)=false:=decide_eq_false ∅;rw [g,l,Bool.or_false]) (by rw [d];simpa using w) ⟨.str ⟨#[c]⟩,H,I.tok _,⟨_,rfl⟩,q⟩) k
theorem JhC (its:List Value) (n j:Nat) (u:Value):Obj.mapSeq (·.setIfInBounds j u) { cls:=.type "list",data:=.seq its.toArray n }={ cls:=.type "list",data:=.seq (its.set j u).toArray n }:=by
 simp [Obj.mapSeq]
variable {pins:List (Addr × Obj)} {σ:St} {H:Hp} {s:Shared} {p:Addr} {xs:List V}
theorem Inv.lst (I:Inv X pins σ H s) (h:H p=some (.lst xs)) :
  ∃ (its:List Value) (n:Nat),Vals xs its/\s.heap.get? p=some { cls:=.type "list",data:=.seq its.toArray n }/\xs.length<=sizeLine:=by
 obtain ⟨z,its,n,r,e⟩:=I.hok p _ h;exact ⟨its,n,r,e,z⟩
variable {ys:List V} {its its':List Value}
theorem Inv.lstUpd {n':Nat} {f:Obj->Obj} (I:Inv X pins σ H s) (h:H p=some (.lst xs))
  (ho:s.heap.get? p=some { cls:=.type "list",data:=.seq its.toArray n }) (hf:f { cls:=.type "list",data:=.seq its.toArray n }={ cls:=.type "list",data:=.seq its'.toArray n' }) (r:Vals ys its') (hz:ys.length<=sizeLine) (t:Nat) :
  Inv X pins σ (upd H p (.lst ys)) { s with heap:=s.heap.update p f,toks:=t }:=by
 have e:(s.heap.update p f).get? p=some { cls:=.type "list",data:=.seq its'.toArray n' }:=by
  rw [Heap.get?_update_self f ho (by rw [hf] <;> rfl),hf]
 refine I.write (x:=p) (e:=p) (by rw [h];trivial) (.inl rfl) (fun b u a q=>(Heap.get?_update_other _ _ (Ne.symm a)).trans q) ⟨_,e⟩ ?_;exact ⟨hz,its',n',r,e⟩
def rSetL:V->V->V->Hp->(Hp->Prop)->Prop:=fun o i v H Q=>∃ p xs k j,o=.ref p/\i=.int k/\H p=some (.lst xs)/\ixN xs.length k=some j/\Q (upd H p (.lst (xs.set j v)))
theorem set_list:PSet X rSetL:=by
 intro b s σ H o i v F E u Q I z x B h;obtain ⟨p,A,k,j,rfl,rfl,g,y,q⟩:=h;cases z;obtain ⟨t,rfl⟩:=x;obtain ⟨a,n,r,e,C⟩:=I.lst g;obtain ⟨c,G,l,m⟩:=Jiq y;have f:=r.length;have D:=JeO;have I':Inv X b σ (upd H p (.lst (A.set j v))) { s with heap:=s.heap.update p (Obj.mapSeq (·.setIfInBounds j u)) } :=
  I.lstUpd g e (JhC a n j u) (r.set B j) (by rw [List.length_set];exact C) s.toks
 by_cases w:0<=k
 ·have d:k.toNat=j:=by
   rw [seqIndex_of w m] at c;exact Option.some.inj c
  exact W.ki_setAt e w ∅ (by rw [size_toArray, <- f];exact m) (by rw [d];exact ⟨_,I',q⟩)
 ·have d:(k+(a.toArray.size:Int)).toNat=j:=by
   rw [seqIndex_neg ∅ l] at c;rw [size_toArray, <- f];exact Option.some.inj c
  exact W.ki_setBack e ∅ (by rw [size_toArray, <- f];exact l) ∅ (by rw [d];exact ⟨_,I',q⟩)
theorem Jgb (lo hi:Option Int) (n:Nat):(sliceBounds lo hi none n).1=((HT.sIx n 0 lo:Nat):Int)/\(sliceBounds lo hi none n).2.1=((HT.sIx n n hi:Nat):Int)/\(sliceBounds lo hi none n).2.2=1:=by
 refine ⟨?_,?_,rfl⟩
 ·cases lo with
  | none=>simp [sliceBounds,HT.sIx]
  | some i=>
   simp only [sliceBounds,HT.sIx,Option.getD_none,show (1:Int) > 0 by decide,if_true];by_cases h:i<0
   ·simp only [h,if_true] <;> ac_nf
   ·simp only [h,if_false] <;> ac_nf
 ·cases hi with
  | none=>simp [sliceBounds,HT.sIx]
  | some i=>
   simp only [sliceBounds,HT.sIx,Option.getD_none,show (1:Int) > 0 by decide,if_true];by_cases h:i<0
   ·simp only [h,if_true] <;> ac_nf
   ·simp only [h,if_false] <;> ac_nf
theorem Jfp (its:List Value) (lo hi:Option Int):slicePick its.toArray lo hi none=((its.drop (HT.sIx its.length 0 lo)).take (HT.sIx its.length its.length hi-HT.sIx its.length 0 lo)).toArray:=by
 obtain ⟨a,c,b⟩:=Jgb lo hi its.toArray.size;unfold slicePick;rw [a,c,b];simp only [sliceRange_one,pick_run,size_toArray] <;> rfl
def rSlL (K:W.Frag):V->Option Int->Option Int->Hp->VK->Prop:=fun x lo hi H Q=>∃ a xs,x=.ref a/\SqL K H a xs/\∀ p,H p=none->Q (.ref p) (upd H p (.lst (cutV xs lo hi)))
theorem Jll:SlR X (rSlL X.K):=by
 intro i s σ H x v vl w e f u Q I m l j pu h;obtain ⟨a,c,rfl,n,q⟩:=h;cases m;obtain ⟨k,r,g,p⟩:=I.list n;have d:=r.length;refine ⟨"list",_,slot_list_getitem.lookup,g.isList.typeIs,?_⟩;refine wpAny_getItem_list_slice g.isList l j pu .none (by simp) ?_ (by rw [size_toArray] <;> ac_nf);rw [Jfp, <- d];refine ⟨.ref s.heap.objs.size,_,I.laid (t':=s.toks) (o:=.lst (cutV c e f)) (fun b t q=>Heap.get?_push_of_some _ q) (Nat.le_refl _) ?_,rfl,q _ (I.hok.fresh (Nat.le_refl _))⟩;exact ⟨Nat.le_trans (JdV c e f) p,_,0,(r.drop (HT.sIx c.length 0 e)).take (HT.sIx c.length c.length f-HT.sIx c.length 0 e),Heap.get?_push_size _ rfl⟩
def flatV:V->Bool
 | .non=>true
 | .bl _=>true
 | .int _=>true
 | .str _=>true
 | _=>false
def eqV:V->V->Bool
 | .non, .non=>true
 | .bl a, .bl b=>a == b
 | .bl a, .int b=>(if a then 1 else 0) == b
 | .int a, .bl b=>a == (if b then 1 else 0)
 | .int a, .int b=>a == b
 | .str a, .str b=>a == b
 | _,_=>false
variable {A:Around} {y x:V} {u v:Value}
theorem Jki (ry:RelV y u) (rx:RelV x v) (fy:flatV y=true) (fx:flatV x=true):SeqAt.EqAt A s u v (eqV y x):=by
 cases y with
 | non=>
  cases ry;cases x with
  | non=>cases rx;exact SeqAt.EqAt.same _
  | bl b=>cases rx;exact SeqAt.EqAt.none_bool b
  | int b=>obtain ⟨t,rfl⟩:=rx;exact SeqAt.EqAt.none_int b t
  | str b=>obtain ⟨t,rfl⟩:=rx;exact SeqAt.EqAt.none_str b t
  | _=>exact absurd (show false=true from fx) Bool.false_ne_true
 | bl a=>
  cases ry;cases x with
  | non=>cases rx;exact SeqAt.EqAt.bool_none a
  | bl b=>cases rx;exact SeqAt.EqAt.bool_bool a b
  | int b=>obtain ⟨t,rfl⟩:=rx;exact SeqAt.EqAt.bool_int a b t
  | str b=>obtain ⟨t,rfl⟩:=rx;exact SeqAt.EqAt.bool_str a b t
  | _=>exact absurd (show false=true from fx) Bool.false_ne_true
 | int a=>
  obtain ⟨c,rfl⟩:=ry;cases x with
  | non=>cases rx;exact SeqAt.EqAt.int_none a c
  | bl b=>cases rx;exact SeqAt.EqAt.int_bool a c b
  | int b=>obtain ⟨t,rfl⟩:=rx;exact SeqAt.EqAt.int_int a c b t
  | str b=>obtain ⟨t,rfl⟩:=rx;exact SeqAt.EqAt.int_str a c b t
  | _=>exact absurd (show false=true from fx) Bool.false_ne_true
 | str a=>
  obtain ⟨c,rfl⟩:=ry;cases x with
  | non=>cases rx;exact SeqAt.EqAt.str_none a c
  | bl b=>cases rx;exact SeqAt.EqAt.str_bool a c b
  | int b=>obtain ⟨t,rfl⟩:=rx;exact SeqAt.EqAt.str_int a c b t
  | str b=>obtain ⟨t,rfl⟩:=rx;exact SeqAt.EqAt.str_str a c b t
  | _=>exact absurd (show false=true from fx) Bool.false_ne_true
 | _=>exact absurd (show false=true from fy) Bool.false_ne_true
def eqU (x:V) (u:Value):Bool:=match u with
 | .none=>eqV .non x
 | .bool b=>eqV (.bl b) x
 | .int i _=>eqV (.int i) x
 | .str z _=>eqV (.str z) x
 | _=>false
theorem Jkj (r:RelV y u) (f:flatV y=true):eqU x u=eqV y x:=by
 cases y with
 | non=>cases r;rfl
 | bl b=>cases r;rfl
 | int i=>obtain ⟨t,rfl⟩:=r;rfl
 | str z=>obtain ⟨t,rfl⟩:=r;rfl
 | _=>exact absurd (show false=true from f) Bool.false_ne_true
theorem JdP:∀ {xs:List V} {us:List Value},Vals xs us->xs.all flatV=true->us.any (eqU x)=xs.any fun y=>eqV y x
 | _,_, .nil,_=>rfl
 | y::xs,u::us, .cons r t,f=>by
  rw [List.all_cons,Bool.and_eq_true] at f;rw [any_cons,any_cons,Jkj r f.1,JdP t f.2]
theorem Jc9 (rx:RelV x v) (fx:flatV x=true):∀ {xs:List V} {us:List Value},Vals xs us->xs.all flatV=true->∀ u∈us,SeqAt.EqAt A s u v (eqU x u)
 | _,_, .nil,_=>fun u hu=>by cases hu
 | y::xs,u::us, .cons r t,f=>fun u' hu=>by
  rw [List.all_cons,Bool.and_eq_true] at f;rcases mem_cons.mp hu with rfl | hu
  ·rw [Jkj r f.1];exact Jki r rx f.1 fx
  ·exact Jc9 rx fx t f.2 u' hu
def inV (x:V) (xs:List V):Bool:=xs.any fun y=>eqV y x
def rIn (K:W.Frag) (neg:Bool):R2:=fun x y H Q=>∃ p xs,y=.ref p/\(SqL K H p xs\/SqT K H p xs)/\flatV x=true/\xs.all flatV=true/\Q (.bl (if neg then !inV x xs else inV x xs)) H
theorem JiG:OpR X (compareOp .In) (rIn X.K false):=by
 intro i s σ H x y v u Q I g j h;obtain ⟨p,l,rfl,b,f,c,q⟩:=h;cases j;rcases b with b | b
 ·obtain ⟨a,r,d,k⟩:=I.list b;refine SeqAt.in_listAt (eqU x) d.isList (fun w e=>Jc9 g f r c w (by simpa using e)) ⟨.bl _,H,I,rfl,?_⟩;rw [show a.toArray.any (eqU x)=a.any (eqU x) by simp,JdP r c];exact q
 ·obtain ⟨a,r,d,k⟩:=I.tuple b;refine SeqAt.in_tupleAt (eqU x) d (fun w e=>Jc9 g f r c w (by simpa using e)) ⟨.bl _,H,I,rfl,?_⟩;rw [show a.toArray.any (eqU x)=a.any (eqU x) by simp,JdP r c];exact q
theorem Jf2:OpR X (compareOp .NotIn) (rIn X.K true):=by
 intro i s σ H x y v u Q I g j h;obtain ⟨p,l,rfl,b,f,c,q⟩:=h;cases j;rcases b with b | b
 ·obtain ⟨a,r,d,k⟩:=I.list b;refine SeqAt.notIn_listAt (eqU x) d.isList (fun w e=>Jc9 g f r c w (by simpa using e)) ⟨.bl _,H,I,rfl,?_⟩;rw [show a.toArray.any (eqU x)=a.any (eqU x) by simp,JdP r c];exact q
 ·obtain ⟨a,r,d,k⟩:=I.tuple b;refine SeqAt.notIn_tupleAt (eqU x) d (fun w e=>Jc9 g f r c w (by simpa using e)) ⟨.bl _,H,I,rfl,?_⟩;rw [show a.toArray.any (eqU x)=a.any (eqU x) by simp,JdP r c];exact q
theorem JfE:CallR X (.builtin "len") (fun xs H Q=>∃ p ys,xs=[.ref p]/\(SqL X.K H p ys\/SqT X.K H p ys)/\Q (.int ys.length) H):=by
 intro f s σ H xs k Q I r h;obtain ⟨p,ys,rfl,b,q⟩:=h;obtain ⟨u,rfl,g⟩:=vals1 r;cases g;have j:=JeO;rcases b with b | b
 ·obtain ⟨d,e,c,i⟩:=I.list b;have a:=e.length;exact Calls.call_len_list c.isList (by simp only [size_toArray] <;> ac_nf) ⟨.int ys.length,H,I.tok _,⟨s.toks+1,by rw [size_toArray,a]⟩,q⟩
 ·obtain ⟨d,e,c,i⟩:=I.tuple b;have a:=e.length;exact len_tuple c (by simp only [size_toArray] <;> ac_nf) ⟨.int ys.length,H,I.tok _,⟨s.toks+1,by rw [size_toArray,a]⟩,q⟩
theorem JfF:CallR X (.builtin "len") (fun xs H Q=>∃ z,xs=[.str z]/\z.length<=sizeLine/\Q (.int z.length) H):=by
 intro a s σ H xs b Q I r h;obtain ⟨z,rfl,d,q⟩:=h;obtain ⟨u,rfl,t,rfl⟩:=vals1 r;have c:=JeO;exact len_str ∅ ⟨.int z.length,H,I.tok _,⟨_,rfl⟩,q⟩
theorem JfG:CallR X (.type "list") (fun xs H Q=>∃ p ys,xs=[.ref p]/\(SqL X.K H p ys\/SqT X.K H p ys)/\∀ l,H l=none->Q (.ref l) (upd H l (.lst ys))):=by
 intro m s σ H xs B Q I r h;obtain ⟨p,ys,rfl,g,q⟩:=h;obtain ⟨u,rfl,A⟩:=vals1 r;cases A;have i:∀ (a:List Value),Vals ys a->ys.length<=sizeLine->∀ (c:Heap) (f:Nat),(∀ b o',s.heap.get? b=some o'->c.get? b=some o') ->
   c.get? s.heap.objs.size=some { cls:=.type "list",dict:=none,data:=.seq a.toArray f,slots:=#[] }->EP X m σ Q (.ref s.heap.objs.size) { s with heap:=c }:=fun a d t c f j e=>
  ⟨.ref s.heap.objs.size,_,I.laid (t':=s.toks) j (Nat.le_refl _) (show ObjOk X.prog X.w _ c _ (.lst ys) from ⟨t,a,f,d,e⟩),rfl,q _ (I.hok.fresh (Nat.le_refl _))⟩
 rcases g with g | g
 ·obtain ⟨a,d,v,t⟩:=I.list g;have k:=d.length;obtain ⟨o,x,y,n,z⟩:=v.isList;exact call_list_seq p (.inl rfl) x y z (fun c f j e=>i a d t c f j e) (by simp only [size_toArray] <;> ac_nf)
 ·obtain ⟨a,d,v,t⟩:=I.tuple g;have k:=d.length;obtain ⟨o,x,y,n,z⟩:=v;exact call_list_seq p (.inr rfl) x y z (fun c f j e=>i a d t c f j e) (by simp only [size_toArray] <;> ac_nf)
def tyV (K:W.Frag) (T:String) (x:V) (H:Hp):Prop:=match x with
 | .str _=>T="str"
 | .int _=>T="int"
 | .ref p=>(T="list"/\∃ xs,SqL K H p xs)\/(T="tuple"/\∃ o,K.lookup p=some o/\o.cls=.type "tuple"/\o.dict=none) \/
   (T="dict"/\((∃ kvs,H p=some (.dK kvs))\/∃ kvs,H p=some (.dT kvs)))\/(T="set"/\∃ S n,H p=some (.set S n))
 | _=>False
variable {T:String}
theorem Jmg (I:Inv X pins σ H s) (r:RelV x v) (ty:tyV X.K T x H) :
  s.TypeIs v T/\∀ a,v=.ref a->∃ ob,s.heap.get? a=some ob/\ob.dict=none:=by
 cases x with
 | str z=>
  obtain ⟨t,rfl⟩:=r;cases (show T="str" from ty);exact ⟨typeIs_str s z t,fun _ e=>nomatch e⟩
 | int i=>
  obtain ⟨t,rfl⟩:=r;cases (show T="int" from ty);exact ⟨typeIs_int s i t,fun _ e=>nomatch e⟩
 | ref p=>
  cases r;rcases ty with ⟨rfl,xs,hq⟩ | ⟨rfl,o,hk,hc,f⟩ | ⟨rfl,hk⟩ | ⟨rfl,S,n,hk⟩
  ·obtain ⟨h,_,g,_⟩:=I.list hq;refine ⟨g.isList.typeIs,fun a e=>?_⟩;cases e;obtain ⟨o,n,e,c,f,_⟩:=g;exact ⟨o,e,f⟩
  ·refine ⟨⟨o,I.kIn p o hk,hc⟩,fun a e=>?_⟩;cases e;exact ⟨o,I.kIn _ o hk,f⟩
  ·have z:∃ o,s.heap.get? p=some o/\o.ExactDict:=by
    rcases hk with ⟨kvs,hk⟩ | ⟨kvs,hk⟩
    ·obtain ⟨_,_,_,_,o,_,_,e,b,_⟩:=I.hok p _ hk;exact ⟨o,e,b⟩
    ·obtain ⟨_,_,_,_,o,_,_,e,b,_⟩:=I.hok p _ hk;exact ⟨o,e,b⟩
   obtain ⟨o,e,b⟩:=z;refine ⟨⟨o,e,b.1⟩,fun a d=>?_⟩;cases d;exact ⟨o,e,b.2.1⟩
  ·obtain ⟨o,_,_,_,e,b,_⟩:=I.hok p _ hk;refine ⟨⟨o,e,b.1⟩,fun a d=>?_⟩;cases d;exact ⟨o,e,b.2.1⟩
 | _=>exact False.elim ty
def tBM0 (K:W.Frag) (T:String) (r:V->List V->Hp->VK->Prop) (to:TE):TE:=fun σ H Q=>to σ H fun x H1=>tyV K T x H1/\r x [] H1 Q
def tBM (K:W.Frag) (T:String) (r:V->List V->Hp->VK->Prop) (to:TE) (t:TA):TE:=fun σ H Q=>to σ H fun x H1=>tyV K T x H1/\t σ H1 fun xs H2=>r x xs H2 Q
variable {o e:Expr} {es:List Expr} {to:TE} {name:Str} {apos cpos:Pos} {id:String} {r:V->List V->Hp->VK->Prop} {t:TA}
theorem pe_bm (pa:PlainAttrs T) (slot:Slot T name id) (hty:typeOf (.builtin id)=pure (.type "method_descriptor")) (hm:MtR X id r) (ho:PE X o to) (ha:PA X (e::es) t)
  (hbase:attributeBase o name X.env (eval o X.env)=eval o X.env:=by rfl)
  (hfew:((backTo cpos (starEach (e::es) X.env)).all (fun x=>!x.1)&&(backToKw cpos (keywordEach [] X.env)).all (fun x=>x.1.isSome)
   && decide ((e::es).length+([]:List Keyword).length+(if ([]:List Keyword).isEmpty then 0 else 1)<30))=true:=by rfl)
  (hline:(apos.endLine == cpos.line)=true:=by rfl) (hs:starEach (e::es) X.env=(false,eval e X.env)::starEach es X.env:=by rfl) (hplain:(backTo cpos (starEach es X.env)).any (·.1)=false:=by rfl) :
  PE X (.Call (.Attribute o name apos) (e::es) [] cpos) (tBM X.K T r to t):=by
 intro a s σ H Q I h;refine wpAny_Call_method_late hbase hfew hline rfl (thn (ho a s σ H _ I h) fun v q ζ=>?_);obtain ⟨x,u,I1,c,g,d⟩:=ζ;obtain ⟨k,n⟩:=Jmg I1 c g;refine ⟨T,id,pa,slot,hty,k,n,?_⟩;have b:=ha cpos a q σ u _ I1 d;rw [hs] at b ⊢;refine Calls.callWith_builtin (by show (false||(backTo cpos (starEach es X.env)).any (·.1))=false;rw [hplain] <;> rfl) (Calls.evalArgs_plain ?_);exact thn b fun i l ζ=>by obtain ⟨f,m,I2,p,j⟩:=ζ;exact hm a l σ m x f v i Q I2 c p j
end
def MtM (X:Cx) (id:String) (r:V->List V->Hp->VK->Prop):Prop :=
 ∀ (pins:List (Addr × Obj)) (s:Shared) (σ : St) (H:Hp) (x:V) (xs:List V) (v:Value) (us:List Value) (Q:VK),Inv X pins σ H s->RelV x v->Vals xs us->r x xs H Q ->
  wpAny (model X.prog X.w) X.A (call (.builtin id) (v::us)) (EP X pins σ Q) X.xe s
theorem Vals.one:∀ {x:V} {us:List Value},Vals [x] us->∃ u,us=[u]/\RelV x u
 | _,_, .cons r .nil=>⟨_,rfl,r⟩
theorem Vals.eraseIdx:∀ {xs:List V} {us:List Value} (i:Nat),Vals xs us->Vals (xs.eraseIdx i) (us.eraseIdx i)
 | _,_,_, .nil=>.nil
 | _,_,0, .cons _ t=>t
 | _,_,i+1, .cons r t=>.cons r (Vals.eraseIdx i t)
theorem JfM:∀ (l:List α) (i:Nat),(l.eraseIdx i).length<=l.length
 | [],_=>Nat.le_refl _
 | _::_,0=>Nat.le_succ _
 | _::r,i+1=>Nat.succ_le_succ (JfM r i)
variable {X:Cx} {pins:List (Addr × Obj)} {σ:St} {H:Hp} {s:Shared} {l b:Addr} {xs ys zs:List V} {its:List Value} {t':Nat}
theorem Inv.lset {its':List Value} {f:Array Value->Array Value} (I:Inv X pins σ H s) (hH:H l=some (.lst xs))
  (e:s.heap.get? l=some { cls:=.type "list",data:=.seq its.toArray n }) (hf:f its.toArray=its'.toArray) (hv:Vals ys its') (hz:ys.length<=sizeLine) :
  Inv X pins σ (upd H l (.lst ys)) { s with heap:=s.heap.update l (Obj.mapSeq f),toks:=t' }:=by
 have q:=PySem.IsL.update e f;rw [hf] at q;refine I.write (x:=l) (e:=l) (by rw [hH];exact trivial) (.inl rfl) (fun c u b a=>(Heap.get?_update_other s.heap (Obj.mapSeq f) (Ne.symm b)).trans a) ⟨_,q⟩ ?_;exact ⟨hz,its',_,hv,q⟩
theorem Inv.lnew (I:Inv X pins σ H s) (hv:Vals ys its) (hz:ys.length<=sizeLine) :
  Inv X pins σ (upd H s.heap.objs.size (.lst ys)) { s with heap:=s.heap.push { cls:=.type "list",data:=.seq its.toArray },toks:=t' } :=
 I.laid (fun _ _ q=>Heap.get?_push_of_some _ q) (Nat.le_refl _) ⟨hz,its,0,hv,Heap.get?_push_size _ rfl⟩
theorem Inv.fresh (I:Inv X pins σ H s):H s.heap.objs.size=none:=I.hok.fresh (Nat.le_refl _)
theorem Inv.lstM (I:Inv X pins σ H s) (hH:H l=some (.lst xs)):xs.length<=sizeLine/\∃ (its:List Value) (n:Nat),Vals xs its/\xs.length=its.length/\s.heap.get? l=some { cls:=.type "list",data:=.seq its.toArray n }:=by
 obtain ⟨z,its,n,r,e⟩:=I.hok l _ hH;exact ⟨z,its,n,r,r.length,e⟩
theorem JjA (h:n<=sizeLine):Builtin.List.listTooLong n=false:=by
 unfold Builtin.List.listTooLong;exact decide_eq_false ∅
def Jlf:V->List V->Hp->VK->Prop:=fun x vs H Q=>∃ l xs y,x=.ref l/\vs=[y]/\H l=some (.lst xs)/\xs.length<sizeLine/\Q .non (upd H l (.lst (xs++[y])))
theorem Jbe:MtM X "list.append" Jlf:=by
 intro c s σ H x i v j Q I f g h;obtain ⟨l,m,y,rfl,rfl,b,o,q⟩:=h;cases f;obtain ⟨u,rfl,d⟩:=g.one;obtain ⟨z,a,n,r,k,e⟩:=I.lstM b;refine call_meets F.slot_list_append ⟨_,e,rfl⟩ F.entry_list_append (F.args_list_append_2 _ _) (PySem.list_append l a.toArray n u (by rw [size_toArray];ac_nf)) ⟨e,?_⟩;refine ⟨.non,_,I.lset (its':=a++[u]) b e (by simp) (r.append (.cons d .nil)) ?_,rfl,q⟩;rw [length_append,length_singleton];ac_nf
def Jlg:V->List V->Hp->VK->Prop:=fun x vs H Q=>∃ l b xs zs,x=.ref l/\vs=[.ref b]/\H l=some (.lst xs)/\H b=some (.lst zs)/\xs.length+zs.length<=sizeLine/\Q .non (upd H l (.lst (xs++zs)))
theorem Jix:MtM X "list.extend" Jlg:=by
 intro i s σ H x A v C Q I o t h;obtain ⟨l,b,E,G,rfl,rfl,g,k,J,q⟩:=h;cases o;obtain ⟨u,rfl,j⟩:=t.one;cases j;obtain ⟨z,c,n,r,D,e⟩:=I.lstM g;obtain ⟨B,a,w,y,p,m⟩:=I.lstM k;have f:c.toArray.size+a.toArray.size<=sizeLine:=by rw [size_toArray,size_toArray];ac_nf
 have d:¬ (!c.toArray.isEmpty&&Builtin.List.listTooLong (c.toArray.size+a.toArray.size))=true:=by
  rw [JjA f,Bool.and_false];exact Bool.false_ne_true
 refine call_meets F.slot_list_extend ⟨_,e,rfl⟩ F.entry_list_extend (F.args_list_extend_2 _ _)
  (AutoSeq1.list_extend_list_list_0 l c.toArray n b a.toArray w d (by rw [size_toArray];ac_nf) ∅) ⟨e,m,?_⟩
 refine ⟨.non,_,I.lset (its':=c++a) g e (by simp) (r.append y) ?_,rfl,q⟩;rw [length_append];ac_nf
def Jl4:V->List V->Hp->VK->Prop:=fun x vs H Q=>∃ l xs i k y,x=.ref l/\vs=[.int i]/\H l=some (.lst xs)/\-(2 ^ 63)<=i/\i<2 ^ 63/\seqIndex? i xs.length=some k/\xs[k]?=some y/\Q y (upd H l (.lst (xs.eraseIdx k)))
theorem Jjx:MtM X "list.pop" Jl4:=by
 intro d s σ H x E v G Q I o A h;obtain ⟨l,p,i,k,y,rfl,rfl,c,m,C,f,D,q⟩:=h;cases o;obtain ⟨u,rfl,g⟩:=A.one;obtain ⟨t,rfl⟩:=g;obtain ⟨z,a,n,r,j,e⟩:=I.lstM c;obtain ⟨w,B,b⟩:=r.get D;refine call_meets F.slot_list_pop ⟨_,e,rfl⟩ F.entry_list_pop (F.args_list_pop_2 _ _)
  (MeetsSeq.list_pop_at l a.toArray n i t k w (fitsIndex_both m C) (by rw [size_toArray, <- j];exact f) (by rw [<- Array.getElem?_toList];exact B) (by rw [size_toArray];ac_nf)) ⟨e,?_⟩
 refine ⟨y,_,I.lset (its':=a.eraseIdx k) c e ?_ (r.eraseIdx k) ?_,b,q⟩
 ·show a.toArray.eraseIdxIfInBounds k=(a.eraseIdx k).toArray;rw [List.eraseIdxIfInBounds_toArray]
 ·have:=JfM p k;ac_nf
def rCat:R2:=fun x y H Q=>∃ l b xs zs,x=.ref l/\y=.ref b/\H l=some (.lst xs)/\H b=some (.lst zs)/\xs.length+zs.length<=sizeLine/\∀ p,H p=none->Q (.ref p) (upd H p (.lst (xs++zs)))
theorem JlU:OpR X (binaryOp .Add) rCat:=by
 intro d s σ H x y v u Q I m f h;obtain ⟨l,b,A,B,rfl,rfl,k,g,D,q⟩:=h;cases m;cases f;obtain ⟨z,c,n,r,w,e⟩:=I.lstM k;obtain ⟨t,a,C,p,o,i⟩:=I.lstM g;refine PySem.P.add_list e i ?_ (by rw [size_toArray,size_toArray];ac_nf);have j:c.toArray++a.toArray=(c++a).toArray:=by simp
 rw [j];exact ⟨.ref _,_,I.lnew (t':=s.toks) (r.append p) (by rw [length_append];ac_nf),rfl,q _ I.fresh⟩
variable {prog:Program} {w:World} {A:Around} {E:Value->Shared->Prop}
end L2
namespace Att
open PySem PySem.W PySem.Calls PyProof.Rows
theorem JdZ {P:Params} {h:Heap}:∀ (ns:List Int) (vs:List Value),WellAll P h vs (ns.map WData.int)->IntsAre vs ns:=by
 intro ns;induction ns with
 | nil=>
  intro vs w;rw [map_nil] at w;cases w;exact .nil
 | cons n ns ih=>
  intro vs w;rw [map_cons] at w;cases w with
  | cons a b=>
   cases a;exact .cons _ _ (ih _ b)
variable {l:OpenLaw} {n:Nat}
theorem JiY (hn:l.most=some n) {P:Params} {h:Heap} {args:List WData} {vals:List Value}
  (hpre:l.row.toRowW.claim.pre args=true) (hwl:WellAll P h vals args) :
  ∃ a vs ns,vals=[Value.ref a]/\args=[WData.list (ns.map WData.int)]/\h.get? a=some { cls:=.type "list",data:=.seq vs.toArray }/\IntsAre vs ns/\ns.length<=n:=by
 have f:WShape.hasAll [] args [.list .int]=true:=(pre_splitW hpre).1;have g:l.pre.holds [] { args:=args }=true:=(pre_splitW hpre).2;obtain ⟨d,r,rfl,i,j⟩:=hasAllW_cons f;obtain rfl:=hasAllW_nil j;obtain ⟨o,rfl,m⟩:=hasW_list i;obtain ⟨ns,rfl⟩:=items_int m;have b:ns.length<=n:=by
  unfold OpenLaw.pre at g;have c:(WTm.not (.lt (.lit (.int (n:Int))) (.len (.arg 0)))).holds [] { args:=[.list (ns.map .int)] }=true:=by
   have c:=(holds_andW g).1;rw [hn] at c;exact c
  have e:=condW_of c (w_not (w_lt w_lit (w_len_list (w_arg rfl))));rw [length_map] at e;refine Nat.le_of_not_lt fun q=>?_;have k:(n:Int)<((ns.length:Nat):Int):=by ac_nf
  first
   | (rw [decide_eq_true k] at e;exact absurd e ⋯)
   | (simp at e;ac_nf)
 cases hwl with
 | cons w1 w2=>
  cases w2;cases w1 with
  | list ho hall=>exact ⟨_,_,ns,rfl,rfl,ho,JdZ ns _ hall,b⟩
theorem JiO (l:OpenLaw) (args:List WData):l.row.toRowW.claim.post args (.bool true) args=true :=
 postW_of (r:=l.row.toRowW) (X:=(true == true))
  (show WShape.has [] (.bool true) .bool=true by first | rfl | decide | simp [WShape.has,WShape.arms,WShape.armsAll])
  (show (WTm.eq .res (.lit (.bool true))).value [] { args:=args,res:=some (.bool true),after:=args }=some (.bool (true == true)) from w_eq_bool (w_res rfl) w_lit) rfl
theorem attach_call {q:Program} {loose:List Str} {XP:(Str->Option Value)->Heap->Prop} {YP:World->Heap->Prop} {d:DefRec}
  (hn:l.most=some n) (hdf:d.params.defaults=[])
  (call:∀ (w:World) (s₀ s₁ : Shared) (mg mb:Str->Option Value) (fa:Addr) (o:Obj) (pm cd doc:Value) (a:Addr) (vs:List Value) (ns:List Int),
   Ground q loose [] XP w s₀ mg mb s₁.heap->YP w s₁.heap ->
   s₁.heap.get? fa=some o->o.data=.func (docDef d.name d.params d.body d.scope pm cd doc)->s₁.heap.CodeRec cd d.name->mg d.name=some (.ref fa) ->
   s₁.heap.get? a=some { cls:=.type "list",data:=.seq vs.toArray }->IntsAre vs ns->ns.length<=n->s₁.gens=#[] ->
   codeAny (model l.prog w) callerA (.call (.ref fa) ⟨[.ref a],[]⟩) (fun r s'=>r=.ok (.ret (.bool true))/\OldK s₁.heap s'.heap/\s'.os=s₁.os/\AllBare s'.gens) s₁) :
  WalkO q loose XP YP l.row.toRowW d [] (fun f vs=>PySem.call f vs):=by
 intro w s₀ s₁ mg mb G Y fa o pm cd doc v kV x F i m h z t p H c k D j y;obtain rfl:v=.none:=Dflts.none m hdf;obtain rfl:kV=.none:=Dflts.noKw m;obtain ⟨a,vs,ns,rfl,rfl,e,b,g⟩:=JiY hn c j;refine enter_call (codeAny_mono (call w s₀ s₁ mg mb fa o pm cd doc a vs ns G Y x (fd_plain F) i h e b g z) fun r s' u=>?_);obtain ⟨rfl,E,B,C⟩:=u;exact ⟨.inl ⟨.bool true, .bool true,[],rfl,fun _=>rfl, .bool true,JiO l _,fun _=>⟨List.Pairwise.nil,fun _ A=>(nomatch A)⟩⟩,E,B,C⟩
variable {prog:Program} {w:World} {A:Around} {E:Value->Shared->Prop} {s:Shared} {K:Frag}
end Att
namespace L2
open PySem PySem.Spec PyProof.Rows
theorem Jgg:∀ {vs:List Value} {ns:List Int},IntsAre vs ns->Vals (ns.map V.int) vs
 | _,_, .nil=>.nil
 | _,_, .cons n t h=>.cons ⟨t,rfl⟩ (Jgg h)
def Only (H:Hp):Prop:=∀ b,H b=none\/∃ o xs,H b=some (.frz o (.lst xs))
variable {P:Program} {w:World} {mg:Str->Option Value} {a:Addr} {fd:FuncData} {x:Str}
theorem Jju {K:W.Frag} {mb:Str->Option Value} {CX:CXT} {k:Nat} {fa:Addr} {sp:Sp} {s₁:Shared} {vs:List Value} {ns:List Int}
  (KX:K.In s₁.heap) (hns:s₁.heap.Ns mainGlobals mg) (hb:s₁.heap.Ns builtinsNs mb) (hbb:∀ x:Str,x≠"__name__"->mb x=bootBuiltins x) (hlim:s₁.heap.NoLimit) (hg:s₁.gens=#[])
  (ha:s₁.heap.get? a=some { cls:=.type "list",data:=.seq vs.toArray }) (hi:IntsAre vs ns) (hl:ns.length<=sizeLine) (hr:Room k callerA)
  (F:∀ base:Heap,K.In base->base.Ns mainGlobals mg->FnOk P w K mg base CX k fa fd [x] sp) (hbind:∀ (s:Shared) (u:Value),BindsTo s fd ⟨[u],[]⟩ [(x,u)])
  (hsp:∀ H:Hp,Only H->SqL K H a (ns.map V.int)->sp [.ref a] H (fun v _=>v=.bl true) fun _ _ _=>False)
  (hCX:∀ H e s',CX [] H s₁ (fun _ _ _=>False) e s'->False) :
  codeAny (model P w) callerA (.call (.ref fa) ⟨[.ref a],[]⟩) (fun r s'=>r=.ok (.ret (.bool true))/\OldK s₁.heap s'.heap/\s'.os=s₁.os/\AllBare s'.gens) s₁:=by
 have G:=Jgg hi;have p:=hi.length;have g:∀ H:Hp,Only H->SqL K H a (ns.map V.int)->HOk P w H s₁.heap->(∀ b,H b≠none->b=a)->(H a≠none->K.lookup a=none) ->
   codeAny (model P w) callerA (.call (.ref fa) ⟨[.ref a],[]⟩) (fun r s'=>r=.ok (.ret (.bool true))/\OldK s₁.heap s'.heap/\s'.os=s₁.os/\AllBare s'.gens) s₁:=by
  intro H E L t D S;have c:∀ {b:Addr} {o:Obj},s₁.heap.get? b=some o->H b=none->(hidT s₁.heap H).get? b=some o:=fun e n=>Jjp e n;have B:∀ {b:Addr} {o:Obj} {es:Array DictEntry} {ep:Nat},s₁.heap.get? b=some o->o.data=.dict es ep->H b=none:=fun {b o es ep} e d=>by
   cases q:H b with
   | none=>rfl
   | some u=>
    have A:b=a:=D b (by rw [q];simp);subst A;rw [ha] at e;cases e;have T:Data.seq vs.toArray _=Data.dict es ep:=d;cases T
  have f:∀ {b:Addr} {m:Str->Option Value},s₁.heap.Ns b m->(hidT s₁.heap H).Ns b m:=fun {b m} ⟨o,es,ep,e,d,r⟩=>⟨o,es,ep,c e (B e d),d,r⟩;have j:K.In (hidT s₁.heap H):=fun b o e=>c (KX b o e) (by
   cases q:H b with
   | none=>rfl
   | some u=>
    have A:b=a:=D b (by rw [q];simp);subst A;rw [S (by rw [q];simp)] at e;cases e)
  have Q:Mod K mg (hidT s₁.heap H):=⟨j,f hns,⟨mb,f hb,hbb⟩,let ⟨mc,h1,h2⟩:=hlim;⟨mc,f h1,h2⟩⟩;have J:Env0 P w K mg (hidT s₁.heap H) callerA [] s₁ H:=⟨rfl,Q,fun b o e=>JkX e,Nat.le_of_eq (Jim _ _),trivial,fun b hb=>absurd (show b∈([]:List Addr) from hb) (by simp),t, .of_eq hg⟩;refine codeAny_mono ((F _ j (f hns)).run callerA [] s₁ H ⟨[.ref a],[]⟩ [.ref a] [.ref a] _ _ hr J (hbind s₁ (.ref a)) (.cons rfl .nil) (hsp H E L)) fun r s' h=>?_;cases r with
  | error e=>exact (hCX H e s' h).elim
  | ok fl=>
   cases fl with
   | next=>exact False.elim h
   | brk=>exact False.elim h
   | cont=>exact False.elim h
   | ret u=>
    obtain ⟨v,U,os,y,I,i,R,q⟩:=h;have M:v=.bl true:=q;subst M;obtain rfl:u=Value.bool true:=R;refine ⟨rfl,OldK.of_keep fun b o e=>?_,os,y⟩;cases q:H b with
    | none=>exact I.keep b o e q (by intro z;exact absurd (show b∈([]:List Addr) from z) (by simp)) (by simp)
    | some u=>
     rcases E b with z | ⟨ob,xs,z⟩
     ·rw [q] at z;cases z
     ·have N:=I.frzs b ob _ z;obtain ⟨C,_⟩:=t b _ z;obtain ⟨O,_⟩:=i b _ N;rw [e] at C;cases C;exact O
 cases hk:K.lookup a with
 | some o=>
  have e:=KX a o hk;rw [ha] at e;cases e;refine g (fun _=>none) (fun _=>.inl rfl) (.inr ⟨_,vs.toArray,_,hk,rfl,rfl,rfl,by rw [size_toArray,p];exact hl,by simpa using G⟩) (fun b u z=>by have l:(none:Option HO)=some u:=z;cases l) (fun b z=>absurd rfl z) fun z=>absurd rfl z
 | none=>
  refine g (fun b=>if b=a then some (.frz { cls:=.type "list",data:=.seq vs.toArray } (.lst (ns.map V.int))) else none) (fun b=>?_) (.inl (.inr ⟨{ cls:=.type "list",data:=.seq vs.toArray },if_pos rfl⟩)) (fun b u z=>?_) (fun b z=>?_) fun _=>hk
  ·by_cases hb:b=a
   ·exact .inr ⟨_,_,if_pos hb⟩
   ·exact .inl (if_neg hb)
  ·by_cases hb:b=a
   ·have l:=(if_pos hb).symm.trans z;cases l;subst hb;exact ⟨ha,by rw [length_map];exact hl,vs,_,G,ha⟩
   ·have l:=(if_neg hb).symm.trans z;cases l
  ·by_cases hb:b=a
   ·exact hb
   ·exact absurd (if_neg hb) z
abbrev KOf {K:W.Frag} {h:Heap} (_:K.In h):W.Frag:=K
theorem Ji9 {l:W.OpenLaw} {n k:Nat} {q:Program} {loose:List Str} {XP:(Str->Option Value)->Heap->Prop} {YP:World->Heap->Prop} {d:DefRec} {K:Params->W.Frag} {CX:World->CXT} {sp:World->Sp}
  (hn:l.most=some n) (hn2:n<=sizeLine) (hdf:d.params.defaults=[]) (hr:Room k callerA)
  (hY:∀ (w:World) (h:Heap),YP w h->(K w.params).In h)
  (F:∀ (w:World) (mg:Str->Option Value) (fa:Addr) (h:Heap),(K w.params).In h->h.Ns mainGlobals mg->mg d.name=some (.ref fa) ->
   ∃ fd:FuncData,(∀ (s:Shared) (u:Value),BindsTo s fd ⟨[u],[]⟩ [(x,u)]) /\
    ∀ base:Heap,(K w.params).In base->base.Ns mainGlobals mg->FnOk l.prog w (K w.params) mg base (CX w) k fa fd [x] (sp w))
  (hsp:∀ (w:World) (H:Hp) (a:Addr) (ns:List Int),ns.length<=n->Only H->SqL (K w.params) H a (ns.map V.int)->sp w [.ref a] H (fun v _=>v=.bl true) fun _ _ _=>False)
  (hCX:∀ (w:World) (H:Hp) (s:Shared) (e:Value) (s':Shared),CX w [] H s (fun _ _ _=>False) e s'->False) :
  W.WalkO q loose XP YP l.row.toRowW d [] (fun f vs=>PySem.call f vs):=by
 refine Att.attach_call hn hdf fun w s₀ s₁ mg E fa o D I z a vs ns G Y C J A m j i c r=>?_;have KX:=hY w _ Y;obtain ⟨fd,y,t⟩:=F w mg fa _ KX G.T.g m;exact Jju KX G.T.g G.T.b G.T.builtins G.T.nolimit r j i (Nat.le_trans c hn2) hr t y (fun H B p=>hsp w H a ns c B p) fun H e s'=>hCX w H s₁ e s'
def inClass (s:Stmt) (j:Nat):Stmt:=match s with
 | .ClassDef _ _ _ body _ _ _ _ _ _ _=>body.getD j (.Pass ⟨0,0,0,0⟩)
 | _=>.Pass ⟨0,0,0,0⟩
def Jam (s:Stmt):Arguments:=match s with
 | .FunctionDef _ a _ _ _ _ _ _ _ _=>a
 | _=>{ posonlyargs:=[],args:=[],vararg:=none,kwonlyargs:=[],kw_defaults:=[],kwarg:=none,defaults:=[] }
def Jak (s:Stmt):List Stmt:=match s with
 | .FunctionDef _ _ b _ _ _ _ _ _ _=>b
 | _=>[]
def Jac (s:Stmt):Scope:=match s with
 | .FunctionDef _ _ _ _ _ _ sc _ _ _=>sc
 | _=>{ kind:=.function,names:=[],isGenerator:=false,isCoroutine:=false }
abbrev E0:XK:=fun _ _ _=>False
structure Fun (K:W.Frag) (x qual:Str) (st:Stmt) (f:Addr) (fd:FuncData):Prop where
 ex:∃ (oc:Value) (od:Option Addr) (kV doc pm:Value) (an:Option Addr) (cdv ct:Value) (osl:Array (Option Value)),
  fd=W.fnOf x qual (Jam st) (Jak st) (Jac st) .none kV doc pm an cdv ct/\K.lookup f=some ⟨oc,od, .func fd,osl⟩/\W.codeIn K cdv qual=true
 kp:W.keepIn K (.ref f)=true
section
variable {K:W.Frag} {base:Heap}
theorem Fun.binds {qual:Str} {st:Stmt} {f:Addr} {ps:List Str} (F:Fun K x qual st f fd)
  (h:∀ (kV doc pm:Value) (an:Option Addr) (cdv ct:Value) (us:List Value),us.length=ps.length->bindArgs (W.fnOf x qual (Jam st) (Jak st) (Jac st) .none kV doc pm an cdv ct) ⟨us,[]⟩=pure (ps.zip us)):Binds K fd ps []:=by
 obtain ⟨c,d,kV,doc,pm,an,cdv,ct,a,rfl,lk,b⟩:=F.ex;exact .all (h kV doc pm an cdv ct)
end
variable {X:Cx}
theorem pv (i:Nat) {x:Str} {pos:Pos} (hN:X.N[i]?=some x:=by rfl) (hv:Vis X.env.scope x:=by first | exact Or.inl rfl | exact Or.inr (Or.inl rfl) | exact Or.inr (Or.inr rfl)) (hd:(x == ("__debug__" : Str))=false:=by decide)
  (hcd:(x == ("__classdict__" : Str))=false:=by decide):PE X (.Name x pos) (tVar i):=JlX hN hv hd hcd
def Same (H H':Hp):Prop:=∀ b o,H b=some o->H' b=some o
theorem Same.refl (H:Hp):Same H H:=fun _ _ h=>h
variable {H:Hp}
theorem Same.trans {H1 H2:Hp} (a:Same H H1) (b:Same H1 H2):Same H H2:=fun c o h=>b c o (a c o h)
theorem Same.seq {K:W.Frag} {H':Hp} {xs:List V} (e:Same H H') (h:SqL K H a xs):SqL K H' a xs:=by
 rcases h with (h | ⟨o,h⟩) | h
 ·exact .inl (.inl (e _ _ h))
 ·exact .inl (.inr ⟨o,e _ _ h⟩)
 ·exact .inr h
end L2
set_option maxHeartbeats 4000000
namespace L2
open PySem PySem.Spec PyProof.Rows
section
variable {κ:Type} [DecidableEq κ]
def valV (kvs:List (κ × V)) (k : κ):Option V:=(kvs.find? fun kv=>decide (kv.1=k)).map (·.2)
def putK (kvs:List (κ × V)) (k : κ) (v:V):List (κ × V) :=
 if (kvs.any fun kv=>decide (kv.1=k))=true then kvs.map (fun kv=>if kv.1=k then (kv.1,v) else kv) else kvs++[(k,v)]
def dropK (kvs:List (κ × V)) (k : κ):List (κ × V):=kvs.filter fun kv=>decide (kv.1≠k)
theorem Jdi {p : κ × V} {r:List (κ × V)} {k : κ} (e:p.1=k):valV (p::r) k=some p.2:=by simp [valV,List.find?_cons,e]
theorem Jdh {p : κ × V} {r:List (κ × V)} {k : κ} (e:¬ p.1=k):valV (p::r) k=valV r k:=by simp [valV,List.find?_cons,e]
theorem Jhq (k : κ):∀ kvs:List (κ × V),(kvs.any fun kv=>decide (kv.1=k))=(valV kvs k).isSome
 | []=>rfl
 | p::r=>by
  rw [any_cons];by_cases e:p.1=k
  ·simp only [Jdi e,decide_eq_true e,Bool.true_or,Option.isSome_some]
  ·rw [Jdh e,decide_eq_false e,Bool.false_or];exact Jhq k r
theorem Jd2 (kvs:List (κ × V)) (k : κ) (v:V):(putK kvs k v).length<=kvs.length+1:=by
 unfold putK;split
 ·rw [length_map];ac_nf
 ·rw [length_append,length_cons,length_nil];ac_nf
variable {o:Option V}
theorem RelO.isSome_eq {u:Option Value} (r:RelO o u):o.isSome=u.isSome:=by
 cases o with
 | none=>cases u with
  | none=>rfl
  | some _=>exact (show False from r).elim
 | some _=>cases u with
  | none=>exact (show False from r).elim
  | some _=>rfl
theorem KV.val {kvs:List (κ × V)} {vs:List (κ × Value)} (r:KV kvs vs) (k : κ):RelO (valV kvs k) (valueAt vs k):=by
 unfold KV at r;induction r with
 | nil=>exact True.intro
 | @cons p q ps qs h t ih=>
  obtain ⟨c,d⟩:=h;by_cases e:p.1=k
  ·have a:q.1=k:=c.symm.trans e;have b:valueAt (q::qs) k=some q.2:=by simp [valueAt,List.find?_cons,a]
   rw [Jdi e,b];exact d
  ·have a:¬ q.1=k:=fun z=>e (c.trans z);have b:valueAt (q::qs) k=valueAt qs k:=by simp [valueAt,List.find?_cons,a]
   rw [Jdh e,b];exact ih
theorem KV.any {kvs:List (κ × V)} {vs:List (κ × Value)} (r:KV kvs vs) (k : κ):(kvs.any fun kv=>decide (kv.1=k))=vs.any fun kv=>decide (kv.1=k):=by
 unfold KV at r;induction r with
 | nil=>rfl
 | cons h t ih=>rw [any_cons,any_cons,ih,h.1]
theorem KV.repl {kvs:List (κ × V)} {vs:List (κ × Value)} (r:KV kvs vs) (k : κ) {y:V} {u:Value} (ry:RelV y u) :
  KV (kvs.map fun kv=>if kv.1=k then (kv.1,y) else kv) (vs.map fun kv=>if kv.1=k then (kv.1,u) else kv):=by
 unfold KV at r ⊢;induction r with
 | nil=>exact .nil
 | @cons p q ps qs h t ih=>
  rw [map_cons,map_cons];refine .cons ?_ ih;obtain ⟨a,b⟩:=h;by_cases e:p.1=k
  ·rw [if_pos e,if_pos (a.symm.trans e)];exact ⟨a,ry⟩
  ·rw [if_neg e,if_neg (fun z=>e (a.trans z))];exact ⟨a,b⟩
theorem KV.put {kvs:List (κ × V)} {vs:List (κ × Value)} (r:KV kvs vs) (k : κ) {y:V} {u:Value} (ry:RelV y u):KV (putK kvs k y) (stored vs k u):=by
 unfold putK stored;rw [r.any k];by_cases e:(vs.any fun a=>decide (a.1=k))=true
 ·rw [if_pos e,if_pos e];exact r.repl k ry
 ·rw [if_neg e,if_neg e];exact Paired.snoc r ⟨rfl,ry⟩
theorem KV.drop {kvs:List (κ × V)} {vs:List (κ × Value)} (r:KV kvs vs) (k : κ):KV (dropK kvs k) (without vs k):=by
 unfold KV at r ⊢;unfold dropK without;induction r with
 | nil=>exact .nil
 | @cons p q ps qs h t ih=>
  obtain ⟨c,f⟩:=h;rw [List.filter_cons,List.filter_cons];by_cases e:p.1=k
  ·have a:¬ decide (p.1≠k)=true:=by simp [e]
   have b:¬ decide (q.1≠k)=true:=by simp [c.symm.trans e]
   rw [if_neg a,if_neg b];exact ih
  ·have d:¬ q.1=k:=fun z=>e (c.trans z);have a:decide (p.1≠k)=true:=by simp [e]
   have b:decide (q.1≠k)=true:=by simp [d]
   rw [if_pos a,if_pos b];exact .cons ⟨c,f⟩ ih
theorem KV.length {kvs:List (κ × V)} {vs:List (κ × Value)} (r:KV kvs vs):kvs.length=vs.length:=Paired.length r
theorem Jji (kvs:List (κ × V)) (k : κ):(dropK kvs k).length<=kvs.length:=List.length_filter_le _ _
end
variable {P:Program} {w:World}
theorem kV_is {k:Key} {u:Value} (r:RelV (kV k) u):(JaE P w).is k u=true:=by
 cases k with
 | inl i=>have e:=(show u=Value.bool i from r);subst e;exact JfO P w i
 | inr x=>obtain ⟨t,e⟩:=(show ∃ t,u=Value.str x t from r);subst e;exact Jgy P w x t
theorem JfK:∀ {ks:List Key} {us:List Value},Vals (ks.map kV) us->ItemsAre (JaE P w) ks us
 | [],_,r=>by rw [map_nil] at r;cases r;exact .nil
 | k::ks,_,r=>by
  rw [map_cons] at r;cases r with
  | cons h t=>exact .cons (kV_is h) (JfK t)
abbrev KT (H:Hp):List (List Key × V)->List (List Key × Addr × Value)->Prop:=Paired fun p q=>p.1=q.1/\H q.2.1=some (.tup (p.1.map kV))/\RelV p.2 q.2.2
variable {H:Hp} {kvs:List (List Key × V)} {xs:List (List Key × Addr × Value)}
theorem KT.val (r:KT H kvs xs) (k:List Key):RelO (valV kvs k) ((atKey xs k).map (·.2)):=by
 induction r with
 | nil=>exact True.intro
 | @cons p q ps qs h t ih=>
  obtain ⟨c,_,d⟩:=h;by_cases e:p.1=k
  ·have a:q.1=k:=c.symm.trans e;have b:atKey (q::qs) k=some q.2:=by simp [atKey,List.find?_cons,a]
   rw [Jdi e,b];exact d
  ·have a:¬ q.1=k:=fun z=>e (c.trans z);have b:atKey (q::qs) k=atKey qs k:=by simp [atKey,List.find?_cons,a]
   rw [Jdh e,b];exact ih
theorem KT.repl (r:KT H kvs xs) (k:List Key) {y:V} {u:Value} (ry:RelV y u) :
  KT H (kvs.map fun kv=>if kv.1=k then (kv.1,y) else kv) (xs.map (putAt k u)):=by
 induction r with
 | nil=>exact .nil
 | @cons p q ps qs h t ih=>
  rw [map_cons,map_cons];refine .cons ?_ ih;obtain ⟨a,b,c⟩:=h;unfold putAt;by_cases e:p.1=k
  ·rw [if_pos e,if_pos (a.symm.trans e)];exact ⟨a,b,ry⟩
  ·rw [if_neg e,if_neg (fun z=>e (a.trans z))];exact ⟨a,b,c⟩
theorem KT.put (r:KT H kvs xs) (k:List Key) {b:Addr} {y:V} {u:Value} (hb:H b=some (.tup (k.map kV))) (ry:RelV y u) :
  KT H (putK kvs k y) (storedH xs k b u):=by
 have e:(kvs.any fun a=>decide (a.1=k))=(atKey xs k).isSome:=by
  rw [Jhq,(r.val k).isSome_eq,Option.isSome_map]
 unfold putK storedH;rw [e];by_cases q:(atKey xs k).isSome=true
 ·rw [if_pos q,if_pos q];exact r.repl k ry
 ·rw [if_neg q,if_neg q];exact Paired.snoc r ⟨rfl,hb,ry⟩
variable {H':Hp}
theorem KT.keeps (r:KT H kvs xs) (ht:∀ b ys,H b=some (.tup ys)->H' b=some (.tup ys)):KT H' kvs xs :=
 Paired.mapP r fun _ _ z=>⟨z.1,ht _ _ z.2.1,z.2.2⟩
variable {h:Heap} {a:Addr}
theorem y7ey {u:HO} (ok:HOk P w H h) (e:Rd H a u):ObjOk P w H h a u:=e.ok ok
variable {kvs:List (Key × V)}
theorem dk_rd (ok:HOk P w H h) (e:Rd H a (.dK kvs)):kvs.length<=sizeLine/\(a == sysModules)=false/\∃ vs,KV kvs vs/\h.DictOf (JaE P w) a vs :=
 show ObjOk P w H h a (.dK kvs) from y7ey ok e
theorem dk_of (ok:HOk P w H h) (e:H a=some (.dK kvs)):kvs.length<=sizeLine/\(a == sysModules)=false/\∃ vs,KV kvs vs/\h.DictOf (JaE P w) a vs:=dk_rd ok (.inl e)
theorem JfL {ks:List Key} (ok:HOk P w H h) (e:H a=some (.tup (ks.map kV))):(tupleKind (JaE P w)).is h ks a:=by
 obtain ⟨_,b,r,o,c,d,n,f⟩:=(show ObjOk P w H h a (.tup (ks.map kV)) from ok a _ e);exact ⟨o,b.toArray,n,c,d,f,by simpa using JfK r⟩
variable {kvs:List (List Key × V)}
theorem dt_rd (ok:HOk P w H h) (e:Rd H a (.dT kvs)):kvs.length<=sizeLine/\(a == sysModules)=false /\
  ∃ xs,KT H kvs xs/\h.DictOfH (tupleKind (JaE P w)) a xs:=by
 obtain ⟨z,y,xs,r,o,j,c,f,i,k,d,g⟩:=(show ObjOk P w H h a (.dT kvs) from y7ey ok e);refine ⟨z,y,xs,r,o,j,c,f,i,k,d,fun x b=>?_,g⟩;have all:∀ {l:List (List Key × V)} {m:List (List Key × Addr × Value)},KT H l m->∀ x∈m,(tupleKind (JaE P w)).is h x.1 x.2.1:=by
  intro l m q;induction q with
  | nil=>intro x b;exact nomatch b
  | @cons p q ps qs hq t ih=>
   intro x b;rcases mem_cons.mp b with e | b
   ·subst e;exact JfL ok (by rw [<- hq.1];exact hq.2.1)
   ·exact ih x b
 exact all r x b
theorem dt_of (ok:HOk P w H h) (e:H a=some (.dT kvs)):kvs.length<=sizeLine/\(a == sysModules)=false /\
  ∃ xs,KT H kvs xs/\h.DictOfH (tupleKind (JaE P w)) a xs:=dt_rd ok (.inl e)
def DGet (H:Hp) (a:Addr) (y:V) (r:Option V):Prop :=
 (∃ kvs k,Rd H a (.dK kvs)/\y=kV k/\r=valV kvs k)\/∃ kvs k b,Rd H a (.dT kvs)/\y=.ref b/\H b=some (.tup (k.map kV))/\r=valV kvs k
def DPut (H:Hp) (a:Addr) (y v:V) (H':Hp):Prop :=
 (∃ kvs k,H a=some (.dK kvs)/\y=kV k/\kvs.length<sizeLine/\H'=upd H a (.dK (putK kvs k v))) \/
 ∃ kvs k b,H a=some (.dT kvs)/\y=.ref b/\H b=some (.tup (k.map kV))/\kvs.length<sizeLine/\H'=upd H a (.dT (putK kvs k v))
variable {kvs:List (Key × V)}
theorem DGet.k {k:Key} (e:H a=some (.dK kvs)):DGet H a (kV k) (valV kvs k):=.inl ⟨kvs,k, .inl e,rfl,rfl⟩
variable {v:V}
theorem DPut.k {k:Key} (e:H a=some (.dK kvs)) (hl:kvs.length<sizeLine):DPut H a (kV k) v (upd H a (.dK (putK kvs k v))):=.inl ⟨kvs,k,e,rfl,hl,rfl⟩
variable {X:Cx} {pins:List (Addr × Obj)} {σ:St} {s:Shared} {y:V} {u r:Value} {o:Option V} {A:Around} {E:Value->Shared->Prop}
theorem Inv.big (I:Inv X pins σ H s):sysModules<s.heap.objs.size:=by
 have h:mainGlobals<s.heap.objs.size:=(I.mod.glob.keeps I.bk).lt;exact Nat.lt_trans ⋯ h
variable {Q:Value->Shared->Prop}
theorem Jh5 (hu:A.units+1<cLine) (I:Inv X pins σ H s) (g:DGet H a y (some v)) (ry:RelV y u) (h:∀ w' s',Inv X pins σ H s'->RelV v w'->Q w' s') :
  wpAny (model X.prog X.w) A (getItem (.ref a) u) Q E s:=by
 rcases g with ⟨kvs,k,e,ey,l⟩ | ⟨kvs,k,b,e,ey,eb,l⟩
 ·subst ey;obtain ⟨z,n,r,c,j⟩:=dk_rd I.hok e;obtain ⟨w',i,d⟩:=RelO.some_of (v:=v) (o:=valueAt r k) (by rw [l];exact c.val k);exact wpAny_getItem_of (kV_is ry) j.mapOf i (h w' _ (I.tok _) d)
 ·subst ey;cases (show u=Value.ref b from ry);obtain ⟨z,n,m,c,j⟩:=dt_rd I.hok e;obtain ⟨w',i,d⟩:=RelO.some_of (v:=v) (o:=(atKey m k).map (·.2)) (by rw [l];exact c.val k);obtain ⟨p,q,f⟩:=Option.map_eq_some_iff.mp i;refine wpAny_getItem_heap (tupleKind_room_in1 hu) (JfL I.hok eb) j q ?_;rw [f];exact h w' _ (I.tok _) d
theorem d_in (hu:A.units+1<cLine) (I:Inv X pins σ H s) (g:DGet H a y o) (ry:RelV y u) (h:∀ s',Inv X pins σ H s'->Q (.bool o.isSome) s') :
  wpAny (model X.prog X.w) A (compareOp .In u (.ref a)) Q E s:=by
 rcases g with ⟨kvs,k,e,ey,l⟩ | ⟨kvs,k,b,e,ey,eb,l⟩
 ·subst ey;obtain ⟨z,f,j,c,d⟩:=dk_rd I.hok e;refine wpAny_in_of (kV_is ry) f d.mapOf ?_;rw [<- (c.val k).isSome_eq, <- l];exact h _ (I.tok _)
 ·subst ey;cases (show u=Value.ref b from ry);obtain ⟨z,f,i,c,d⟩:=dt_rd I.hok e;refine wpAny_in_heap (tupleKind_room_in1 hu) (JfL I.hok eb) f d ?_;have q:=(c.val k).isSome_eq;rw [Option.isSome_map] at q;rw [<- q, <- l];exact h _ (I.tok _)
theorem JkH (hu:A.units+1<cLine) (I:Inv X pins σ H s) (g:DGet H a y o) (ry:RelV y u) (h:∀ s',Inv X pins σ H s'->Q (.bool (!o.isSome)) s') :
  wpAny (model X.prog X.w) A (compareOp .NotIn u (.ref a)) Q E s:=by
 rcases g with ⟨kvs,k,e,ey,l⟩ | ⟨kvs,k,b,e,ey,eb,l⟩
 ·subst ey;obtain ⟨z,f,j,c,d⟩:=dk_rd I.hok e;refine wpAny_notIn_of (kV_is ry) f d.mapOf ?_;rw [<- (c.val k).isSome_eq, <- l];exact h _ (I.tok _)
 ·subst ey;cases (show u=Value.ref b from ry);obtain ⟨z,f,i,c,d⟩:=dt_rd I.hok e;refine wpAny_notIn_heap (tupleKind_room_in1 hu) (JfL I.hok eb) f d ?_;have q:=(c.val k).isSome_eq;rw [Option.isSome_map] at q;rw [<- q, <- l];exact h _ (I.tok _)
variable {h':Heap} {t':Nat}
theorem Jgo {ob:HO} (I:Inv X pins σ H s) (mu:Mut (H a)) (hs:Heap.SameBut a s.heap h') (he:∃ q,h'.get? a=some q) (new:ObjOk X.prog X.w (upd H a ob) h' a ob) :
  Inv X pins σ (upd H a ob) { s with heap:=h',toks:=t' } :=
 I.write (x:=a) (e:=a) mu (.inl rfl) (fun b q c z=>(hs.2 b c).trans z) he new
theorem Jic {vs:List (Key × Value)} (z:kvs.length<=sizeLine) (hd:(a == sysModules)=false) (rel:KV kvs vs) (dd:h'.DictOf (JaE P w) a vs) :
  ObjOk P w H' h' a (.dK kvs):=⟨z,hd,vs,rel,dd⟩
theorem Jh6 {Q:Unit->Shared->Prop} (hu:A.units+1<cLine) (I:Inv X pins σ H s) (g:DPut H a y v H') (ry:RelV y u) (rv:RelV v r) (h:∀ s',Inv X pins σ H' s'->Q () s') :
  wpAny (model X.prog X.w) A (setItem (.ref a) u r) Q E s:=by
 rcases g with ⟨kvs,k,e,ey,l,eH⟩ | ⟨kvs,k,b,e,ey,eb,l,eH⟩
 ·subst ey eH;obtain ⟨z,p,B,d,n⟩:=dk_of I.hok e;have o:B.length<=sizeLine:=by rw [<- d.length];exact z
  have m:(putK kvs k v).length<=sizeLine:=by have:=Jd2 kvs k v;ac_nf
  refine wpAny_setItem_pairs (hsz:=o) (kV_is ry) n fun x f j=>h _ ?_;have D:∃ q,x.get? a=some q:=let ⟨q,_,_,i,_⟩:=f;⟨q,i⟩;exact Jgo I (by rw [e];exact True.intro) j D (Jic m p (d.put k rv) f)
 ·subst ey eH;cases (show u=Value.ref b from ry);obtain ⟨z,p,K,d,n⟩:=dt_of I.hok e;have o:K.length<=sizeLine:=by rw [<- Paired.length d];exact z
  have m:(putK kvs k v).length<=sizeLine:=by have:=Jd2 kvs k v;ac_nf
  refine wpAny_setItem_heap (hsz:=o) (tupleKind_room_in1 hu) (JfL I.hok eb) n fun x f j=>h _ ?_;obtain ⟨q,M,G,i,L,F,J,_,C⟩:=f;refine Jgo I (by rw [e];exact True.intro) j ⟨q,i⟩ ⟨m,p,_,(d.put k eb rv).keeps fun c N t=>?_,q,M,G,i,L,F,J,C⟩;rw [Jah (ne_of t e (fun z=>nomatch z))];exact t
section
variable {k:Key}
theorem d_pop {more:List Value} (I:Inv X pins σ H s) (e:H a=some (.dK kvs)) (ry:RelV (kV k) u) (l:valV kvs k=some v) (hm:more=[]\/∃ x,more=[x])
  (h:∀ w' s',Inv X pins σ (upd H a (.dK (dropK kvs k))) s'->RelV v w'->Q w' s'):wpAny (model X.prog X.w) A (call (.builtin "dict.pop") (.ref a::u::more)) Q E s:=by
 obtain ⟨z,r,g,b,f⟩:=dk_of I.hok e;obtain ⟨w',m,d⟩:=RelO.some_of (v:=v) (o:=valueAt g k) (by rw [<- l];exact b.val k);have y:(keyPart u).isSome=true:=by
  cases k with
  | inl i=>have q:=(show u=Value.bool i from ry);subst q;cases i <;> rfl
  | inr x=>obtain ⟨t,q⟩:=(show ∃ t,u=Value.str x t from ry);subst q;rfl
 have j:argsOk "dict.pop" ⟨.ref a::u::more,[]⟩:=by
  rcases hm with q | ⟨x,q⟩
  ·subst q;exact PySem.F.args_dict_pop_2 _ _
  ·subst q;exact PySem.F.args_dict_pop_3 _ _ _
 refine call_meetsIn PySem.F.slot_dict_pop f.typeIs PySem.F.entry_dict_pop j (meets_dict_pop_there (JaE X.prog X.w) a (kV_is ry) more hm y)
  ⟨g,w',f,by rw [<- b.length];exact z,m,fun n c B=>h w' _ ?_ d⟩
 have p:∃ q,n.get? a=some q:=let ⟨q,_,_,hq,_⟩:=c;⟨q,hq⟩;exact Jgo I (by rw [e];exact True.intro) B p (Jic (Nat.le_trans (Jji kvs k) z) r (b.drop k) c)
end
def NoSl (i:Expr):Prop:=∀ ov iv,subscripted i false ov iv=operate [ov,iv] (getItem ov iv)
variable {env:Env} {value:Expr} {pos:Pos}
theorem Jln {prog:Program} {slice:Expr} {T id:String}
  (hl:typeLookup (.type T) "__getitem__"=pure (some (.builtin id))) (hs:NoSl slice)
  (h:wpAny (model prog w) A (eval value env) (fun o s₁=>wpAny (model prog w) A (eval slice env) (fun i s₂=>s₂.TypeIs o T/\wpAny (model prog w) A (getItem o i) Q E s₂) E s₁) E s) :
  wpAny (model prog w) A (eval (.Subscript value slice pos) env) Q E s:=by
 refine Subscript_ (wpAny_mono h (fun o s₁ h₁=>wpAny_mono h₁ (fun i s₂ h₂=>?_) fun _ _ x=>x) fun _ _ x=>x);obtain ⟨b,h₂⟩:=h₂;unfold subscriptTail;refine wpAny_bind ?_;rw [getitemInPython_of_ne b.not_modules];refine wpAny_bind (wpAny_specialOf b hl ?_);have a:wpAny (model prog w) A (subscripted slice false o i) (fun r s₃=>wpAny (model prog w) A (letTemporaryGo value o r >>= fun _=>pure r) Q E s₃) E s₂:=by
  rw [hs o i];exact wpAny_operating (wpAny_mono h₂ (fun r s₃ h₃=>wpAny_bind (wpAny_letTemporaryGo (wpAny_pure h₃))) fun _ _ x=>x)
 first
  | exact wpAny_pure (wpAny_bind a)
  | exact wpAny_bind (wpAny_pure (wpAny_bind a))
  | exact wpAny_bind a
theorem Jgp (I:Inv X pins σ H s) (g:DGet H a y o):s.TypeIs (.ref a) "dict":=by
 rcases g with ⟨kvs,k,e,_,_⟩ | ⟨kvs,k,b,e,_,_,_⟩
 ·obtain ⟨_,_,f,_,c⟩:=dk_rd I.hok e;exact c.typeIs
 ·obtain ⟨_,_,d,_,c⟩:=dt_rd I.hok e;exact c.typeIs
def tDGet (td ty:TE):TE:=fun σ H Q=>td σ H fun x H1=>ty σ H1 fun y H2=>∃ a v,x=.ref a/\DGet H2 a y (some v)/\Q v H2
def tDIn (ty td:TE):TE:=fun σ H Q=>ty σ H fun y H1=>td σ H1 fun x H2=>∃ a o,x=.ref a/\DGet H2 a y o/\Q (.bl o.isSome) H2
def Ji2 (ty td:TE):TE:=fun σ H Q=>ty σ H fun y H1=>td σ H1 fun x H2=>∃ a o,x=.ref a/\DGet H2 a y o/\Q (.bl (!o.isSome)) H2
def sDPut (td ty tv:TE):TS:=fun D σ H=>tv σ H fun v H1=>td σ H1 fun x H2=>ty σ H2 fun y H3=>∃ a H4,x=.ref a/\DPut H3 a y v H4/\D.nx σ H4
variable {o i e:Expr} {pos' tpos:Pos} {td ty tv:TE}
theorem JaA (hu:X.A.units+1<cLine) (ho:PE X o td) (hi:PE X i ty) (hs:NoSl i):PE X (.Subscript o i pos) (tDGet td ty):=by
 intro b s σ H Q I h;refine Jln PySem.F.slot_dict_getitem.lookup hs (thn (ho b s σ H _ I h) fun u m ζ=>?_);obtain ⟨x,n,I1,k,e⟩:=ζ;refine thn (hi b m σ n _ I1 e) fun t r ζ=>?_;obtain ⟨y,l,I2,d,a,v,f,g,j⟩:=ζ;subst f;obtain rfl:u=Value.ref a:=k;exact ⟨Jgp I2 g,Jh5 hu I2 g d fun q p I3 c=>⟨v,l,I3,c,j⟩⟩
theorem JeQ (hu:X.A.units+1<cLine) (hi:PE X i ty) (ho:PE X o td):PC X .In i o (tDIn ty td):=by
 intro b s σ H Q I h;refine thn (hi b s σ H _ I h) fun r m ζ=>?_;obtain ⟨y,n,I1,c,d⟩:=ζ;refine thn (ho b m σ n _ I1 d) fun u q ζ=>?_;obtain ⟨x,l,I2,j,a,k,e,g,f⟩:=ζ;subst e;obtain rfl:u=Value.ref a:=j;exact d_in hu I2 g c fun p I3=>⟨.bl k.isSome,l,I3,rfl,f⟩
theorem JbL (hu:X.A.units+1<cLine) (hi:PE X i ty) (ho:PE X o td):PC X .NotIn i o (Ji2 ty td):=by
 intro b s σ H Q I h;refine thn (hi b s σ H _ I h) fun r m ζ=>?_;obtain ⟨y,n,I1,c,d⟩:=ζ;refine thn (ho b m σ n _ I1 d) fun u q ζ=>?_;obtain ⟨x,l,I2,j,a,k,e,g,f⟩:=ζ;subst e;obtain rfl:u=Value.ref a:=j;exact JkH hu I2 g c fun p I3=>⟨.bl (!k.isSome),l,I3,rfl,f⟩
theorem JbD (hu:X.A.units+1<cLine) (ho:PE X o td) (hi:PE X i ty) (hv:PE X value tv) (hs:swapsWith value (some (.Subscript o i pos')) pos.line X.env=pure false) :
  PS X (.Assign [.Subscript o i pos'] value pos) (sDPut td ty tv):=by
 intro b s σ H D I h;refine wpAny_Assign_Subscript (thn (hv b s σ H _ I h) fun r e ζ=>?_) hs;obtain ⟨v,t,I1,n,d⟩:=ζ;refine thn (ho b e σ t _ I1 d) fun u l ζ=>?_;obtain ⟨x,p,I2,m,k⟩:=ζ;refine thn (hi b l σ p _ I2 k) fun B w ζ=>?_;obtain ⟨y,z,I3,c,a,q,j,g,f⟩:=ζ;subst j;obtain rfl:u=Value.ref a:=m;exact Jh6 hu I3 g c n fun C I4=>⟨σ,q,I4,f⟩
theorem Jjh (h:Heap) (hb:sysModules<h.objs.size):ObjOk P w H (h.push { cls:=.type "dict",data:=.dict #[] }) h.objs.size (.dK []) :=
 ⟨Nat.zero_le _,beq_eq_false_iff_ne.mpr (Ne.symm (Nat.ne_of_lt hb)),[], .nil,Heap.DictOf.new h⟩
def Jku:TE:=fun _ H Q=>∀ p,H p=none->Q (.ref p) (upd H p (.dK []))
theorem JbV:PE X (.Dict [] [] pos) Jku:=fun b s σ H Q I h=>
 wpAny_Dict_empty ⟨.ref s.heap.objs.size,_,I.laid (a:=s.heap.objs.size) (o:=.dK []) (t':=s.toks) (fun _ _ q=>Heap.get?_push_of_some _ q) (Nat.le_refl _) (Jjh s.heap I.big),rfl,h _ (I.hok.fresh (Nat.le_refl _))⟩
def Jho:List (TE × TE)->St->Hp->(List (V × V)->Hp->Prop)->Prop
 | [],_,H,Q=>Q [] H
 | (tk,tv)::r,σ,H,Q=>tk σ H fun x H1=>tv σ H1 fun y H2=>Jho r σ H2 fun ps H3=>Q ((x,y)::ps) H3
def Jko (kvs more:List (Key × V)):List (Key × V):=more.foldl (fun acc kv=>putK acc kv.1 kv.2) kvs
def tDisp (trs:List (TE × TE)):TE:=fun σ H Q=>∀ p,H p=none->Jho trs σ (upd H p (.dK [])) fun ps H2=>H2 p=some (.dK [])/\∃ kvs:List (Key × V),ps=kvs.map (fun kv=>(kV kv.1,kv.2))/\kvs.length<=15/\Q (.ref p) (upd H2 p (.dK (Jko [] kvs)))
structure M1 (X:Cx) (o:Expr) (m:Str) (apos:Pos) (e:Expr) (cpos:Pos):Prop where
 base:attributeBase o m X.env (eval o X.env)=eval o X.env
 few:((backTo cpos (starEach [e] X.env)).all (fun x=>!x.1)&&(backToKw cpos (keywordEach [] X.env)).all (fun x=>x.1.isSome)
  && decide (([e]:List Expr).length+([]:List Keyword).length+(if ([]:List Keyword).isEmpty then 0 else 1)<30))=true
 line:(apos.endLine == cpos.line)=true
 trees:backTo cpos (starEach [e] X.env)=[(false,eval e X.env)]
def IsD (H:Hp) (a:Addr):Prop:=(∃ kvs,Rd H a (.dK kvs))\/∃ kvs,Rd H a (.dT kvs)
theorem Jkl (I:Inv X pins σ H s) (d:IsD H a) :
  s.TypeIs (.ref a) "dict"/\(∀ b,Value.ref a=.ref b->∃ ob,s.heap.get? b=some ob/\ob.dict=none)/\(a == sysModules)=false:=by
 rcases d with ⟨kvs,e⟩ | ⟨kvs,e⟩
 ·obtain ⟨_,h,j,_,c⟩:=dk_rd I.hok e;refine ⟨c.typeIs,fun b q=>?_,h⟩;cases q;obtain ⟨ob,_,_,f,g,_⟩:=c;exact ⟨ob,f,g.2.1⟩
 ·obtain ⟨_,h,i,_,c⟩:=dt_rd I.hok e;refine ⟨c.typeIs,fun b q=>?_,h⟩;cases q;obtain ⟨ob,_,_,f,g,_⟩:=c;exact ⟨ob,f,g.2.1⟩
variable {d:V} {o:Option V}
def Jkv (td ty:TE):TE:=fun σ H Q=>td σ H fun x H1=>∃ a,x=.ref a/\IsD H1 a/\ty σ H1 fun y H2=>∃ kvs k v,H2 a=some (.dK kvs)/\y=kV k/\valV kvs k=some v/\Q v (upd H2 a (.dK (dropK kvs k)))
section
variable {o:Expr} {apos cpos:Pos} {tx:TE} {f:Expr}
theorem JjF (ho:PE X o td) (he:PE X e ty) (m:M1 X o "pop" apos e cpos):PE X (.Call (.Attribute o "pop" apos) [e] [] cpos) (Jkv td ty):=by
 intro b s σ H Q I h;refine wpAny_Call_method m.base m.few m.line PySem.F.plainAttrs_dict PySem.F.slot_dict_pop PySem.F.type_dict_pop (thn (ho b s σ H _ I h) fun u z ζ=>?_);obtain ⟨x,A,I1,w,a,q,d,g⟩:=ζ;subst q;obtain rfl:u=Value.ref a:=w;obtain ⟨n,j,_⟩:=Jkl I1 d;refine ⟨n,j,?_⟩;rw [m.trees];refine Calls.callWith_builtin rfl (Calls.evalArgs_plain (Calls.spliced_cons (thn (he b z σ A _ I1 g) fun E D ζ=>?_)));obtain ⟨y,G,I2,f,t,k,v,p,i,l,r⟩:=ζ;refine Calls.spliced_nil ?_;subst i;exact d_pop I2 p f l (.inl rfl) fun C B I3 c=>⟨v,_,I3,c,r⟩
end
section
variable {κ:Type} [DecidableEq κ]
end
def DictAt (h:Heap) (e:Addr) (od:Option Addr):Prop:=∃ o,h.get? e=some o/\o.dict=od
theorem Jib (o:Obj) (f):(o.mapFields f).dict=o.dict:=by
 obtain ⟨c,d,a,b⟩:=o;cases a <;> rfl
section
variable {M:Model} {outer l:List Env} {L e:Addr} {oe:Obj} {vs:Array Value} {head a0 fl:Value} {od:Option Addr} {Q:Unit->Shared->Prop} {base:Heap} {cls:Value}
theorem Jkh {hadNext:Bool} (hfr:A.frames=some (env::outer)) (hl:s.heap.FunFrames base (env::outer)) (hf:env.frame=some L)
  (he:s.heap.get? e=some oe) (hkb:base.StaysIn s.heap) (hen:base.get? e=none) (hd:oe.data=.fields vs) (hsz:1<vs.size) (h0:vs[0]?=some a0)
  (h:∀ h',Heap.NotedW base (env::outer) e oe.cls a0 (rawInt L) s.heap h'->DictAt h' e oe.dict->Q () { s with heap:=h' }) :
  wpAny M A (do let a <- frameOf env;let pl <- entryPlaceOf L hadNext;let b <- EntryCells.newEntry head a .none (rawInt L) .none pl;setField (.ref e) 1 b) Q E s:=by
 have C:e∉(env::outer).filterMap (·.frame):=fun t=>by
  obtain ⟨_,o,x,f⟩:=hl.mem t;rw [he] at x;cases x;exact f vs hd
 refine wpAny_bind (wpAny_frameOf_fun hfr hl hf fun h₁ p=>wpAny_bind (wpAny_entryPlaceOf fun pl m=>?_));unfold EntryCells.newEntry newFields;refine wpAny_bind (wpAny_newObj_type ?_ (m.sizeOk5 _ _ _ _ _));have i:h₁.get? e=some oe:=(p.2.1 e C).trans he;have k:base.StaysIn h₁:=fun b o c=>(p.2.1 b fun t=>by rw [(hl.mem t).1] at c;cases c).trans (hkb b o c);generalize v:({ cls:=.type "traceback",dict:=none,data:=.fields ([head, .ref L, .none,rawInt L, .none]++(if pl.isEmpty then List.replicate 6 Value.none else pl)).toArray }:Obj)=r;have l:=Heap.get?_push_of_some (h:=h₁) r i;refine wpAny_setField l hd hsz ?_;have w:h₁.objs.size≠e:=Nat.ne_of_gt (Heap.lt_size i);have g:=Obj.data_mapFields hd (·.setIfInBounds 1 (Value.ref h₁.objs.size));have j:=Heap.get?_update_self (Obj.mapFields (·.setIfInBounds 1 (Value.ref h₁.objs.size))) l (Obj.isFreed_of_fields g);have u:=(Heap.get?_update_other (h₁.push r) (Obj.mapFields (·.setIfInBounds 1 (Value.ref h₁.objs.size))) (Ne.symm w)).trans (Heap.get?_push_size h₁ (by rw [<- v];rfl));have d:∀ b o,b≠e->h₁.get? b=some o->((h₁.push r).update e (Obj.mapFields (·.setIfInBounds 1 (Value.ref h₁.objs.size)))).get? b=some o:=fun b o n c=>by
  rw [Heap.get?_update_other _ _ (Ne.symm n)];exact Heap.get?_push_of_some _ c
 have y:∀ b o,s.heap.get? b=some o->(∀ vs,o.data≠.fields vs)->b≠e:=fun b o c f q=>by
  rw [q,he] at c;cases c;exact f vs hd
 refine h _ ⟨fun b o c=>d b o (fun q=>by rw [q,hen] at c;cases c) (k b o c),hl.of_keeps fun b o c f=>?_,?_,fun b o c f=>?_⟩ ⟨_,j,Jib _ _⟩
 ·obtain ⟨B,z⟩:=p.2.2 b o c;exact ⟨_,d b _ (y b o c f) z,rfl⟩
 ·refine ⟨_,_,h₁.objs.size,r,_,j,⟨Obj.cls_mapFields _ _,by rw [Array.getElem?_setIfInBounds_ne ⋯];exact h0⟩,g,by simp [hsz],k.fresh,w,u,by rw [<- v],?_⟩;first | (simp;done) | (rcases m with rfl | ⟨_,_,_,_,_,_,_,rfl⟩ <;> simp)
 ·obtain ⟨B,z⟩:=p.2.2 b o c;exact ⟨B,d b _ (y b o c f) z⟩
theorem noteD (hfr:A.frames=some (env::outer)) (hf:env.frame=some L) (hfl:Heap.FlyingW base (env::outer) e cls a0 s.heap) (hdc:DictAt s.heap e od)
  (h:∀ h',Heap.HeldW base (env::outer) e cls a0 L h'->s.heap.UpToSlots h'->DictAt h' e od->Q () { s with heap:=h' }):wpAny M A (noteFrame (.ref e) env) Q E s:=by
 obtain ⟨r,j,C,K,u,T,J,H,m,⟨g,G⟩,x,w,n,p,k,d,v⟩:=hfl;subst g;obtain ⟨I,i,l⟩:=hdc;rw [m] at i;cases i;unfold noteFrame;simp only [hf];refine wpAny_bind (wpAny_field m x w ?_);rw [if_pos (show (Value.ref T != Value.none)=true from by simp)];refine wpAny_bind (wpAny_field k d v ?_);rw [if_neg (show ¬ ((Value.none == rawInt L)=true) from by simp [rawInt])];refine wpAny_bind (wpAny_setField k d (Array.getElem?_eq_some_iff.mp v).1 ?_);have a:∀ b,b≠T->(s.heap.update T (Obj.mapFields (·.setIfInBounds 3 Value.none))).get? b=s.heap.get? b:=fun b c=>Heap.get?_update_other _ _ (Ne.symm c);have t:∀ b o,s.heap.get? b=some o->(∀ u,o.data≠.fields u)->b≠T:=fun b o c f q=>by
  rw [q,k] at c;cases c;exact f H d
 refine Jkh hfr (C.of_keeps fun b o c f=>⟨o,(a b (t b o c f)).trans c,rfl⟩) hf ((a e (Ne.symm p)).trans m)
  (fun b o c=>(a b fun q=>by rw [q,n] at c;cases c).trans (r b o c)) j x (Array.getElem?_eq_some_iff.mp w).1 G fun h' ⟨D,B,y,z⟩ F=>?_
 exact h h' ⟨D,j,B,y⟩ (fun b o c f=>z b o ((a b (t b o c f)).trans c) f) (l ▸ F)
theorem Je6 (hkb:base.StaysIn s.heap) (hl:s.heap.FunFrames base l) (ht:s.heap.TracedAtW base e cls a0 fl) (hdc:DictAt s.heap e od)
  (h:∀ h',base.StaysIn h'->h'.FunFrames base l->h'.TracedW base e cls a0->s.heap.UpToSlots h'->DictAt h' e od->Q () { s with heap:=h' }):wpAny M A (setFlight (.ref e) none) Q E s:=by
 obtain ⟨w,r,T,B,y,u,k,v,n,m,g,p,d,x⟩:=ht;have i:=(Array.getElem?_eq_some_iff.mp x).1;have a:∀ b,b≠T->(s.heap.update T (Obj.mapFields (·.setIfInBounds 3 ((none:Option Addr).elim Value.none fun f=>rawInt f)))).get? b=s.heap.get? b:=fun b c=>Heap.get?_update_other _ _ (Ne.symm c);have t:∀ b o,s.heap.get? b=some o->(∀ r,o.data≠.fields r)->b≠T:=fun b o c j q=>by
  rw [q,p] at c;cases c;exact j y d
 unfold setFlight;refine wpAny_bind (wpAny_field u v n ?_);rw [if_pos (show (Value.ref T != Value.none)=true from by simp)];refine wpAny_setField p d i (h _ (fun b o c=>(a b fun q=>by rw [q,m] at c;cases c).trans (hkb b o c)) (hl.of_keeps fun b o c j=>⟨o,(a b (t b o c j)).trans c,rfl⟩) ?_ (fun b o c j=>⟨o.slots,(a b (t b o c j)).trans c⟩) ?_)
 ·exact ⟨w,r,T,_,_,(a e (Ne.symm g)).trans u,k,v,n,m,g,Heap.get?_update_self _ p (Obj.isFreed_of_fields (Obj.data_mapFields d _)),Obj.data_mapFields d _,by simp [i]⟩
 ·obtain ⟨o,n,z⟩:=hdc;exact ⟨o,(a e (Ne.symm g)).trans n,z⟩
theorem JkT (hfr:A.frames=some (env::outer)) (hf:env.frame=some L) (hfl:Heap.FlyingW base (env::outer) e cls a0 s.heap) (hdc:DictAt s.heap e od)
  (hQ:∀ h',Heap.FlyingW base outer e cls a0 h'->s.heap.UpToSlots h'->DictAt h' e od->Q () { s with heap:=h' }):wpAny M A (leaving env (.ref e)) Q E s:=by
 unfold leaving;refine wpAny_bind (noteD hfr hf hfl hdc fun f d j n=>?_);obtain ⟨k,l,c,a⟩:=d;refine Je6 (s:={ s with heap:=f }) k c a n fun i m ⟨_,_,b⟩ g o h=>hQ i ⟨m,l,b,g⟩ (j.trans o) h
theorem Jis (hh:Heap.HeldW base l e cls a0 L s.heap) (hdc:DictAt s.heap e od) (hQ:∀ h',Heap.FlyingW base l e cls a0 h'->s.heap.UpToSlots h'->DictAt h' e od->Q () { s with heap:=h' }):wpAny M A (setFlight (.ref e) none) Q E s:=by
 obtain ⟨h,i,c,a⟩:=hh;exact Je6 h c a hdc fun g j b d k f=>hQ g ⟨j,i,b,d⟩ k f
theorem JhT (hh:Heap.FlyingW base l e cls a0 s.heap) (hdc:DictAt s.heap e od) (hQ:∀ h',Heap.FlyingW base l e cls a0 h'->s.heap.UpToSlots h'->DictAt h' e od->Q () { s with heap:=h' }):wpAny M A (setFlight (.ref e) none) Q E s:=by
 obtain ⟨h,i,c,a⟩:=hh;exact Je6 h c a.at hdc fun g j b d k f=>hQ g ⟨j,i,b,d⟩ k f
theorem Jkk (hfr:A.frames=some (env::outer)) (hl:s.heap.FunFrames base (env::outer)) (hf:env.frame=some L) (he:s.heap.get? e=some oe) (hkb:base.StaysIn s.heap) (hen:base.get? e=none) (hd:oe.data=.fields vs) (h1:vs[1]?=some .none) (h0:vs[0]?=some a0)
  (hQ:∀ h',Heap.FlyingW base outer e oe.cls a0 h'->s.heap.UpToSlots h'->DictAt h' e oe.dict->Q () { s with heap:=h' }):wpAny M A (leaving env (.ref e)) Q E s:=by
 unfold leaving noteFrame;simp only [hf];refine wpAny_bind (wpAny_bind (wpAny_field he hd h1 ?_));rw [if_neg ⋯];refine Jkh hfr hl hf he hkb hen hd (Array.getElem?_eq_some_iff.mp h1).1 h0 fun h ⟨m,j,a,c⟩ g=>?_;refine Je6 (s:={ s with heap:=h }) m j a g fun k i ⟨_,_,b⟩ d l f=>hQ k ⟨i,hen,b,d⟩ (Heap.UpToSlots.trans c l) f
end
theorem ObjOk.is_there {o:HO} (x:ObjOk P w H h a o):∃ ob,h.get? a=some ob:=by
 cases o with
 | lst xs=>obtain ⟨_,_,_,_,e⟩:=x;exact ⟨_,e⟩
 | tup xs=>obtain ⟨_,_,_,p⟩:=x;obtain ⟨o,e,_⟩:=p;exact ⟨_,e⟩
 | dK kvs=>obtain ⟨_,_,_,_,o,_,_,e,_⟩:=x;exact ⟨_,e⟩
 | dT kvs=>obtain ⟨_,_,_,_,o,_,_,e,_⟩:=x;exact ⟨_,e⟩
 | set S n=>
  obtain ⟨o,_,_,_,e,_⟩:=x;exact ⟨_,e⟩
 | ins C dx fs=>obtain ⟨_,_,_,e,_⟩:=x;exact ⟨_,e⟩
 | own y=>exact x
 | xd fs=>obtain ⟨b,n,_⟩:=x;obtain ⟨c,e,_⟩:=Jd3 n;exact ⟨_,e⟩
 | rng lo hi=>obtain ⟨_,_,_,e⟩:=x;exact ⟨_,e⟩
 | frz ob u=>exact ⟨_,x.1⟩
 | tbl ps=>exact ⟨_,x⟩
 | met f y=>exact ⟨_,x⟩
 | ext φ=>exact x.2.1
theorem HOk.isnone (x:HOk P w H h) (e:h.get? a=none):H a=none:=by
 cases q:H a with
 | none=>rfl
 | some u=>
  obtain ⟨b,z⟩:=(x a u q).is_there;rw [e] at z;cases z
structure Fly (l:List Env) (H':Hp) (h0:Heap) (ea:Addr) (od:Option Addr) (cls a0:Value) (B h:Heap):Prop where
 fly:Heap.FlyingW B l ea cls a0 h
 free:H' ea=none
 new:h0.get? ea=none
 dct:DictAt h ea od
 kept:∀ b o,h.get? b=some o->((∃ o',h0.get? b=some o')\/∃ u,H' b=some u)->b∉frs l->B.get? b=some o
def CX1 (P:Program) (w:World):CXT:=fun outer H s E e s'=>
 ∃ (ea:Addr) (od:Option Addr) (cls a0:Value) (B:Heap) (H':Hp),e=.ref ea/\s'.os=s.os/\AllBare s'.gens/\Un (frs outer) [] H H' s.heap s'.heap/\HOk P w H' s'.heap /\
  Fly outer H' s.heap ea od cls a0 B s'.heap/\E cls od H'
section
variable {l l':List Env} {h0 B:Heap} {ea:Addr} {od:Option Addr} {a0:Value} {cls:Value}
theorem Fly.next (u:Un (frs l) [] H H' h0 h) (hok:HOk P w H' h) (F:Fly l H' h0 ea od cls a0 B h) (fr:∀ b∈frs l,H' b=none) (k:B.StaysIn h') (sl:h.UpToSlots h') :
  HOk P w H' h'/\Un (frs l) [] H H' h0 h'/\∀ b o,h.get? b=some o->((∃ o',h0.get? b=some o')\/∃ u,H' b=some u)->b∉frs l->h'.get? b=some o:=by
 have c:∀ b o,h.get? b=some o->((∃ o',h0.get? b=some o')\/∃ u,H' b=some u)->b∉frs l->h'.get? b=some o:=fun b o q r n=>k b o (F.kept b o q r n);have d:∀ b o,b∈frs l->h.get? b=some o->∃ g,h'.get? b=some { o with slots:=g }:=fun b o m q=>by
  obtain ⟨_,o',p,x⟩:=F.fly.2.2.1.mem m;rw [q] at p;cases p;exact sl b o q x
 refine ⟨fun a o e=>?_,⟨fun b o q n t _=>?_,fun b o q n m _=>?_,u.free,fun b o q y=>?_,u.tups,u.frzs,u.tbls⟩,c⟩
 ·have s:∀ b u,H' b=some u->b∉frs l:=fun b u q m=>by
   rw [fr b m] at q;cases q
  refine (hok a o e).stay (fun b v i q=>?_) (fun _ r=>r) (fun _ _ r=>r);rcases i with rfl | i
  ·exact c _ _ q (.inr ⟨_,e⟩) (s _ _ e)
  ·exact c _ _ q (.inr ⟨_,i⟩) (s _ _ i)
 ·exact c b o (u.keep b o q n t (by simp)) (.inl ⟨o,q⟩) t
 ·obtain ⟨z,f⟩:=u.slot b o q n m (by simp);obtain ⟨g,j⟩:=d b _ m f;exact ⟨g,j⟩
 ·obtain ⟨o',f⟩:=u.there b o q (by simp);by_cases m:b∈frs l
  ·obtain ⟨g,j⟩:=d b _ m f;exact ⟨_,j⟩
  ·exact ⟨o',c b o' f (.inl ⟨o,q⟩) m⟩
end
section
variable {B:Heap} {ea:Addr} {od:Option Addr} {a0:Value} {cls:Value}
theorem Inv.out (I:Inv X pins σ H s) (hex:X.ex=[]) (u:Un (frs X.stack) [] H H' s.heap h'):Un X.fs [] X.H₀ H' X.s₀.heap h':=by
 have J:=I.base;rw [hex] at J;have i:∀ b o,X.s₀.heap.get? b=some o->b≠X.env.locals:=fun b o q z=>by
  have f:=Heap.lt_size q;have r:=I.ok.above;rw [z] at f;exact absurd (Nat.lt_of_lt_of_le f r) (Nat.lt_irrefl _)
 have p:∀ b o,X.s₀.heap.get? b=some o->b∉X.fs->b∉frs X.stack:=fun b o q c m=>by
  rcases mem_cons.mp (I.stkSub b m) with z | z
  ·exact i b o q z
  ·exact c z
 refine ⟨fun b o q n c _=>?_,fun b o q n m _=>?_,fun b o q n _=>?_,fun b o q _=>?_,fun b g q=>u.tups b g (J.tups b g q),fun b o v q=>u.frzs b o v (J.frzs b o v q),fun b j q=>?_⟩
 ·exact u.keep b o (J.keep b o q n c (by simp)) (J.free b o q n (by simp)) (p b o q c) (by simp)
 ·obtain ⟨t,a⟩:=J.slot b o q n m (by simp);obtain ⟨l,e⟩:=u.any a (J.free b o q n (by simp)) (by simp);exact ⟨l,e⟩
 ·obtain ⟨d,a⟩:=J.there b o q (by simp);exact u.free b d a (J.free b o q n (by simp)) (by simp)
 ·obtain ⟨d,a⟩:=J.there b o q (by simp);exact u.there b d a (by simp)
 ·obtain ⟨k,a⟩:=J.tbls b j q;obtain ⟨h,e⟩:=u.tbls b _ a;exact ⟨k++h,by rw [e,Array.append_assoc]⟩
theorem Inv.stkFree' (I:Inv X pins σ H s) (u:Un (frs X.stack) [] H H' s.heap h):∀ b∈frs X.stack,H' b=none:=fun b m=>by
 obtain ⟨_,o,q,_⟩:=I.stack.mem m;exact u.free b o q (I.stkFree b m) (by simp)
end
section
variable {mg:Str->Option Value} {N:List Str} {qual:Str} {scope:Scope} {cdv:Value} {outer:List Env} {s0:Shared} {H0:Hp} {E:XK} {K:W.Frag} {base:Heap} {f:Addr}
theorem pass1:JbS (CX1 P w) (cxOf (CX1 P w) P w K mg base N qual scope f cdv A outer s0 H0 E) E:=by
 intro J σ H s e C I X;obtain ⟨i,O,cls,a0,B,G,rfl,n,T,u,l,F,U⟩:=X;have x:=I.stkFree' u;show wpAny (model P w) (A.deeper (envOfC qual scope s0.heap.objs.size f cdv)) (leaving (envOfC qual scope s0.heap.objs.size f cdv) (.ref i)) (fun _ g=>CX1 P w outer H0 s0 E (.ref i) g) (fun L g=>CX1 P w outer H0 s0 E L g) C;refine JkT (base:=B) (cls:=cls) (a0:=a0) I.ok.frames rfl F.fly F.dct fun Y h t p=>?_;obtain ⟨j,S,Z⟩:=F.next u l x h.1 t;have k:s0.heap.get? i=none:=by
  cases q:s0.heap.get? i with
  | none=>rfl
  | some o=>
   obtain ⟨c,R⟩:=I.base.there i o q (by intro z;cases z);have:=F.new;rw [R] at this;cases this
 refine ⟨i,O,cls,a0,B,G,rfl,n.trans I.os,T,I.out rfl S,j,⟨h,F.free,k,p,fun b o q r V=>?_⟩,U⟩;have Q:b≠s0.heap.objs.size:=fun z=>by
  rcases r with ⟨c,a⟩ | ⟨v,a⟩
  ·have:=Heap.lt_size a;rw [z] at this;exact absurd this (Nat.lt_irrefl _)
  ·have M:=x s0.heap.objs.size (by
    show s0.heap.objs.size∈frs (envOfC qual scope s0.heap.objs.size f cdv::outer);exact List.mem_filterMap.mpr ⟨_,mem_cons_self ..,rfl⟩)
   rw [z,M] at a;cases a
 have W:b∉frs (envOfC qual scope s0.heap.objs.size f cdv::outer):=fun m=>by
  rcases mem_cons.mp (I.stkSub b m) with z | z
  ·exact Q z
  ·exact V z
 have D:(∃ c,s.heap.get? b=some c)\/∃ v,G b=some v:=by
  rcases r with ⟨c,a⟩ | r
  ·exact .inl (I.base.there b c a (by intro z;cases z))
  ·exact .inr r
 have d:∃ c,C.heap.get? b=some c:=by
  rcases D with ⟨c,a⟩ | ⟨v,a⟩
  ·exact u.there b c a (by simp)
  ·exact (l b v a).is_there
 obtain ⟨c,a⟩:=d;have z:=F.kept b c a D W;have y:=h.1 b c z;rw [show Y.get? b=some o from q] at y;cases y;exact z
end
theorem passF:JbS (CX1 P w) X E0:=fun _ _ _ _ _ _ _ h=>by
 obtain ⟨_,_,_,_,_,_,_,_,_,_,_,_,z⟩:=h;exact False.elim z
def unt (H:Hp) (a:Addr):Hp:=fun b=>if b=a then none else H b
theorem Jhp:unt H a a=none:=if_pos rfl
theorem JcV {b:Addr} (h:b≠a):unt H a b=H b:=if_neg h
variable {C:Addr} {bmB:List Value} {newId:String}
theorem Jih {K:W.Frag} (X:K.In h) (q:W.excIn K C bmB newId=true) :
  ∃ (bm:List Value) (N:Addr) (nm qn:Str) (bs:List Value) (hdct:Bool) (sn:List Str) (sub:List Value) (ab:Bool) (col:Option Bool) (dd:Option Addr) (k0 k1 k2 k3 k5:Option Value) (mN:Str->Option Value),
   h.get? C=some (excClassObj nm qn C N bs bm hdct sn sub ab col dd k0 k1 k2 k3 k5 newId)/\h.Ns N mN/\mN "__init__"=none/\OwnTail h bmB bm:=by
 unfold W.excIn at q;split at q
 next dd cd sl ho=>
  split at q
  next C' bm k0 k1 k2 k3 n k5 hm hs=>
   have f:((((C'=C/\n=newId)/\cd.hasDel=false)/\W.tailIn K bmB bm=true)/\W.nsOkIn K cd.ns=true)/\W.nsIn K cd.ns "__init__"=some none:=by simpa using q
   obtain ⟨⟨⟨⟨⟨i,j⟩,g⟩,o⟩,e⟩,m⟩:=f;obtain ⟨nm,bs,b,l,qn,p,sn,sub,ab,col,c⟩:=cd;have k:sl=#[k0,k1,k2,k3,some (.builtin n),k5]:=by
    cases sl;exact congrArg Array.mk hs
   subst i;subst j;subst k;have d:b=.ref C'::bm:=hm;subst d;have a:c=false:=g;subst a;exact ⟨bm,l,nm,qn,bs,p,sn,sub,ab,col,dd,k0,k1,k2,k3,k5,_,X _ _ ho, .of_isNs (W.isNs_of_in X e),W.nsMap_none_of_in X e m,W.tail_of_in X o⟩
  next=>cases q
 next=>cases q
section
variable {mg:Str->Option Value} {N:List Str} {qual:Str} {scope:Scope} {cdv:Value} {outer:List Env} {s0:Shared} {H0:Hp} {E:XK} {K:W.Frag} {base:Heap} {f:Addr} {e:Addr} {us:List Value}
theorem JlK {cls:Value}
  (I:Inv (cxOf (CX1 P w) P w K mg base N qual scope f cdv A outer s0 H0 E) pins σ H s) (hm:Heap.MadeExcOf s.heap h' e cls us) (q:E cls none H) :
  (cxOf (CX1 P w) P w K mg base N qual scope f cdv A outer s0 H0 E).xe (.ref e) { s with heap:=h' }:=by
 show wpAny (model P w) (A.deeper (envOfC qual scope s0.heap.objs.size f cdv)) (leaving (envOfC qual scope s0.heap.objs.size f cdv) (.ref e)) (fun _ i=>CX1 P w outer H0 s0 E (.ref e) i) (fun S i=>CX1 P w outer H0 s0 E S i) { s with heap:=h' };have U:=I.stkFree;have L:∀ h∈(envOfC qual scope s0.heap.objs.size f cdv::outer), ∀ b,h.frame=some b->b∈frs (envOfC qual scope s0.heap.objs.size f cdv::outer):=fun h G b k=>List.mem_filterMap.mpr ⟨h,G,k⟩;obtain ⟨t,G,_,_⟩:=hm.there;refine Jkk (s:={ s with heap:=h' }) (base:=W.hideAll s.heap (frs (envOfC qual scope s0.heap.objs.size f cdv::outer))) I.ok.frames ((W.funFrames_hide I.stack L).of_keeps fun b o k Z=>⟨o,hm.keeps b o k,rfl⟩) rfl G (fun b o z=>hm.keeps b o (W.of_hideAll _ z)) ?_ rfl rfl rfl fun C x B J=>?_
 ·cases z:(W.hideAll s.heap (frs (envOfC qual scope s0.heap.objs.size f cdv::outer))).get? e with
  | none=>rfl
  | some o=>
   have O:=W.of_hideAll _ z;rw [hm.new] at O;cases O
 have j:H e=none:=I.hok.isnone hm.new;have c:∀ b o,s.heap.get? b=some o->b∉frs (envOfC qual scope s0.heap.objs.size f cdv::outer)->C.get? b=some o:=fun b o z n=>x.1 b o (W.hideAll_get _ z n);have u:Un (frs (envOfC qual scope s0.heap.objs.size f cdv::outer)) [] H H s.heap C:=by
  refine ⟨fun b o z _ n _=>c b o z n,fun b o z _ m _=>?_,fun _ _ _ n _=>n,fun b o z _=>?_,fun _ _ z=>z,fun _ _ _ z=>z,fun _ ps z=>⟨#[],by rw [z];simp⟩⟩
  ·obtain ⟨_,g,d,D⟩:=I.stack.mem m;rw [z] at d;cases d;exact B b o (hm.keeps b o z) D
  ·by_cases m:b∈frs (envOfC qual scope s0.heap.objs.size f cdv::outer)
   ·obtain ⟨_,g,d,D⟩:=I.stack.mem m;rw [z] at d;cases d;obtain ⟨s2,V⟩:=B b o (hm.keeps b o z) D;exact ⟨_,V⟩
   ·exact ⟨o,c b o z m⟩
 have F:∀ b v,H b=some v->b∉frs (envOfC qual scope s0.heap.objs.size f cdv::outer):=fun b v z m=>by
  rw [U b m] at z;cases z
 have M:HOk P w H C:=fun a o z=>by
  refine (I.hok a o z).stay (fun b v k l=>?_) (fun _ r=>r) (fun _ _ r=>r);rcases k with rfl | k
  ·exact c _ _ l (F _ _ z)
  ·exact c _ _ l (F _ _ k)
 have p:s0.heap.get? e=none:=by
  cases z:s0.heap.get? e with
  | none=>rfl
  | some o=>
   obtain ⟨g,T⟩:=I.base.there e o z (by intro z;cases z);have:=hm.new;rw [T] at this;cases this
 refine ⟨e,none,cls, .ref t,_,H,rfl,I.os,I.bare,I.out rfl u,M,⟨x,j,p,J,fun b o z r Y=>?_⟩,q⟩;have X:∃ g,s.heap.get? b=some g:=by
  rcases r with ⟨g,d⟩ | ⟨v,d⟩
  ·exact I.base.there b g d (by intro z;cases z)
  ·exact (I.hok b v d).is_there
 have R:b∉frs (envOfC qual scope s0.heap.objs.size f cdv::outer):=fun m=>by
  rcases mem_cons.mp (I.stkSub b m) with y | y
  ·rcases r with ⟨g,d⟩ | ⟨v,d⟩
   ·have Q:=Heap.lt_size d;rw [y] at Q;exact absurd Q (Nat.lt_irrefl _)
   ·exact F b v d m
  ·exact Y y
 obtain ⟨g,d⟩:=X;have l:=c b g d R;rw [show C.get? b=some o from z] at l;cases l;exact W.hideAll_get _ d R
variable {oe:Obj} {a0:Value}
theorem JlL {vs:Array Value} {φ:Heap->Prop}
  (I:Inv (cxOf (CX1 P w) P w K mg base N qual scope f cdv A outer s0 H0 E) pins σ H s) (ht:H e=some (.ext φ)) (he:s.heap.get? e=some oe) (hd:oe.data=.fields vs) (h1:vs[1]?=some .none) (h0:vs[0]?=some a0) (new0:s0.heap.get? e=none) (q:E oe.cls oe.dict (unt H e)) :
  (cxOf (CX1 P w) P w K mg base N qual scope f cdv A outer s0 H0 E).xe (.ref e) s:=by
 show wpAny (model P w) (A.deeper (envOfC qual scope s0.heap.objs.size f cdv)) (leaving (envOfC qual scope s0.heap.objs.size f cdv) (.ref e)) (fun _ j=>CX1 P w outer H0 s0 E (.ref e) j) (fun O j=>CX1 P w outer H0 s0 E O j) s;have R:=I.stkFree;have G:∀ i∈(envOfC qual scope s0.heap.objs.size f cdv::outer), ∀ b,i.frame=some b->b∈e::frs (envOfC qual scope s0.heap.objs.size f cdv::outer):=fun i he b l=>.tail _ (List.mem_filterMap.mpr ⟨i,he,l⟩);refine Jkk (base:=W.hideAll s.heap (e::frs (envOfC qual scope s0.heap.objs.size f cdv::outer))) I.ok.frames (W.funFrames_hide I.stack G) rfl he (fun b o z=>W.of_hideAll _ z) (W.hideAll_none _ (.head _)) hd h1 h0 fun C B L x=>?_;have c:∀ b o,s.heap.get? b=some o->b≠e->b∉frs (envOfC qual scope s0.heap.objs.size f cdv::outer)->C.get? b=some o:=fun b o z p n=>B.1 b o (W.hideAll_get _ z fun m=>(mem_cons.mp m).elim p n);have t:∀ b,H b=none->b≠e:=fun b z y=>by rw [y,ht] at z;cases z
 have g:∀ b o,s.heap.get? b=some o->b∈frs (envOfC qual scope s0.heap.objs.size f cdv::outer)->∃ sl,C.get? b=some { o with slots:=sl }:=fun b o z m=>by
  obtain ⟨_,h,d,Q⟩:=I.stack.mem m;rw [z] at d;cases d;exact L b o z Q
 have u:Un (frs (envOfC qual scope s0.heap.objs.size f cdv::outer)) [] H (unt H e) s.heap C:=by
  refine ⟨fun b o z n m _=>c b o z (t b n) m,fun b o z _ m _=>g b o z m,fun b _ _ n _=>by rw [JcV (t b n)];exact n,fun b o z _=>?_,fun b Z z=>?_,fun b o v z=>?_,fun b X z=>⟨#[],?_⟩⟩
  ·by_cases y:b=e
   ·obtain ⟨T,k,_⟩:=x;exact ⟨T,y ▸ k⟩
   ·by_cases m:b∈frs (envOfC qual scope s0.heap.objs.size f cdv::outer)
    ·obtain ⟨Y,S⟩:=g b o z m;exact ⟨_,S⟩
    ·exact ⟨o,c b o z y m⟩
  ·rw [JcV (fun y=>by rw [y,ht] at z;cases z)];exact z
  ·rw [JcV (fun y=>by rw [y,ht] at z;cases z)];exact z
  ·rw [JcV (fun y=>by rw [y,ht] at z;cases z),z];simp
 have F:∀ b v,H b=some v->b∉frs (envOfC qual scope s0.heap.objs.size f cdv::outer):=fun b v z m=>by
  rw [R b m] at z;cases z
 have D:∀ b v,unt H e b=some v->b≠e/\H b=some v:=fun b v z=>by
  by_cases y:b=e
  ·rw [y,Jhp] at z;cases z
  ·exact ⟨y,(JcV y).symm.trans z⟩
 have J:HOk P w (unt H e) C:=fun a o z=>by
  obtain ⟨p,z⟩:=D a o z;refine (I.hok a o z).stay (fun b v l k=>?_) (fun b r=>by rw [JcV (fun y=>by rw [y,ht] at r;cases r)];exact r) (fun b _ r=>by rw [JcV (fun y=>by rw [y,ht] at r;cases r)];exact r);rcases l with rfl | l
  ·exact c _ _ k p (F _ _ z)
  ·exact c _ _ k (fun y=>by rw [y,ht] at l;cases l) (F _ _ l)
 refine ⟨e,oe.dict,oe.cls,a0,_,unt H e,rfl,I.os,I.bare,I.out rfl u,J,⟨B,Jhp,new0,x,fun b o z r V=>?_⟩,q⟩;have p:b≠e:=fun y=>by
  rcases r with ⟨h,d⟩ | ⟨v,d⟩
  ·rw [y,new0] at d;cases d
  ·exact (D _ _ d).1 y
 have U:∃ h,s.heap.get? b=some h:=by
  rcases r with ⟨h,d⟩ | ⟨v,d⟩
  ·exact I.base.there b h d (by intro z;cases z)
  ·exact (I.hok b v (D _ _ d).2).is_there
 have M:b∉frs (envOfC qual scope s0.heap.objs.size f cdv::outer):=fun m=>by
  rcases mem_cons.mp (I.stkSub b m) with y | y
  ·rcases r with ⟨h,d⟩ | ⟨v,d⟩
   ·have h1:=Heap.lt_size d;rw [y] at h1;exact absurd h1 (Nat.lt_irrefl _)
   ·exact F b v (D _ _ d).2 m
  ·exact V y
 obtain ⟨h,d⟩:=U;have k:=c b h d p M;rw [show C.get? b=some o from z] at k;cases k;exact W.hideAll_get _ d fun m=>(mem_cons.mp m).elim p M
def Jkw (E:XK) (C:Addr) (ta:TA):TS:=fun _ σ H=>ta σ H fun vs H1=>vs.length<=sizeLine/\E (.ref C) none H1
variable {x:Str} {np:Pos} {e:Expr} {es:List Expr}
theorem Jfi {cpos:Pos} {B initId:String} {ta:TA} (FB:ExcBaseFacts B newId initId bmB) (hx:W.excIn K C bmB newId=true)
  (hg:Gl (cxOf (CX1 P w) P w K mg base N qual scope f cdv A outer s0 H0 E) x) (hm:mg x=some (.ref C)) (ha:PA (cxOf (CX1 P w) P w K mg base N qual scope f cdv A outer s0 H0 E) (e::es) ta)
  (he:starEach (e::es) (envOfC qual scope s0.heap.objs.size f cdv)=(false,eval e (envOfC qual scope s0.heap.objs.size f cdv))::starEach es (envOfC qual scope s0.heap.objs.size f cdv):=by rfl)
  (hpl:(backTo cpos (starEach es (envOfC qual scope s0.heap.objs.size f cdv))).any (·.1)=false:=by rfl) (hdb:(x == ("__debug__" : Str))=false:=by decide) :
  PS (cxOf (CX1 P w) P w K mg base N qual scope f cdv A outer s0 H0 E) (.Raise (some (.Call (.Name x np) (e::es) [] cpos)) none pos) (Jkw E C ta):=by
 intro a s σ H D I h;obtain ⟨bm,g,nm,m,bs,hdct,sn,sub,ab,col,dd,k0,k1,k2,k3,k5,mN,k,l,b,T⟩:=Jih I.mod.kin hx;have d:(A.deeper (envOfC qual scope s0.heap.objs.size f cdv)).handled=none:=I.ok.hd rfl;refine wpAny_Raise_call_subT (C:=C) (nm:=nm) (q:=m) (N:=g) (bs:=bs) (bm:=bm) (hdct:=hdct) (sn:=sn) (sub:=sub) (ab:=ab) (col:=col) (dd:=dd) (k0:=k0) (k1:=k1) (k2:=k2) (k3:=k3) (k5:=k5)
  FB (mN:=mN) (T.hasType FB.hasBase) d ?_ b (Jb0 I hg hm ⟨rfl,?_⟩ hdb)
 ·show (backTo cpos (starEach (e::es) (envOfC qual scope s0.heap.objs.size f cdv))).any (·.1)=false;rw [he];show (false||(backTo cpos (starEach es (envOfC qual scope s0.heap.objs.size f cdv))).any (·.1))=false;rw [hpl];rfl
 ·have z:=ha cpos a s σ H _ I h;show wpAny _ _ (evalArgs (.ref C) true (backTo cpos (starEach (e::es) (envOfC qual scope s0.heap.objs.size f cdv))) []) _ _ _;have j:=he;rw [he];refine Calls.evalArgs_plain ?_;have c:wpAny (model P w) (A.deeper (envOfC qual scope s0.heap.objs.size f cdv)) (spliced (backTo cpos (starEach (e::es) (envOfC qual scope s0.heap.objs.size f cdv)))) _ _ s:=z;rw [he] at c;refine thn c fun o p ζ=>?_;obtain ⟨n,u,I1,r,i,q⟩:=ζ;exact ⟨rfl,by rw [<- r.length];exact i,I1.bk _ _ k,l.keeps I1.bk,T.keeps I1.bk,fun t e hm=>JlK I1 hm q⟩
end
def PEx (X:Cx) (e:Expr) (t:St->Hp->VK->XK->Prop):Prop :=
 ∀ (pins:List (Addr × Obj)) (s:Shared) (σ : St) (H:Hp) (Q:VK) (E:XK),Inv X pins σ H s->t σ H Q E ->
  wpAny (model X.prog X.w) X.A (eval e X.env) (EP X pins σ Q) (fun ev s'=>∃ H1 s1,Inv X pins σ H1 s1/\CX1 X.prog X.w X.stack H1 s1 E ev s') s
def xCall (sp:Sp) (dvs:List V) (t:TA):St->Hp->VK->XK->Prop:=fun σ H Q E=>t σ H fun vs H1=>sp (vs++dvs) H1 Q E
section
variable {fd:FuncData} {ps:List Str} {sp:Sp} {dvs:List V} {ds:List Value} {E:XK} {x:Str} {p apos:Pos} {o:Expr} {es:List Expr} {ta:TE} {k:Nat} {f:Addr} {m:Str} {t:TA}
theorem JgO {Q:VK} {us:List Value} {vs:List V} (F:FnOk X.prog X.w X.K X.mg X.base (CX1 X.prog X.w) k f fd ps sp) (hr:Room k X.A) (hb:Binds X.K fd ps ds) (hd:Vals dvs ds)
  (I:Inv X pins σ H s) (r:Vals vs us) (h:sp (vs++dvs) H Q E):wpAny (model X.prog X.w) X.A (call (.ref f) us) (EP X pins σ Q) (fun ev s'=>∃ H1 s1,Inv X pins σ H1 s1/\CX1 X.prog X.w X.stack H1 s1 E ev s') s:=by
 have c:Vals (vs++dvs) (us++ds):=r.append hd;have g:(us++ds).length=ps.length:=(c.length.symm).trans (F.len _ _ _ _ h);have d:=F.run X.A X.stack s H ⟨us,[]⟩ (us++ds) (vs++dvs) Q E hr I.env0 (hb s us I.kIn g) c h;refine wpAny_call (codeAny_mono d fun b s' a=>?_);match b,a with
 | .error e,a=>exact ⟨H,s,I,a⟩
 | .ok (.ret u),a=>exact I.after a
 | .ok .next,a=>exact a.elim
 | .ok .brk,a=>exact a.elim
 | .ok .cont,a=>exact a.elim
theorem JjJ (F:FnOk X.prog X.w X.K X.mg X.base (CX1 X.prog X.w) k f fd ps sp) (hr:Room k X.A) (hg:Gl X x) (hm:X.mg x=some (.ref f)) (hk:W.keepIn X.K (.ref f)=true) (hb:Binds X.K fd ps ds) (hd:Vals dvs ds)
  (ha:PA X.nox (e::es) t) (hdb:(x == ("__debug__" : Str))=false:=by decide) (he:starEach (e::es) X.env=(false,eval e X.env)::starEach es X.env:=by rfl) (hpl:(backTo pos (starEach es X.env)).any (·.1)=false:=by rfl) :
  PEx X (.Call (.Name x p) (e::es) [] pos) (xCall sp dvs t):=by
 intro a s σ H Q E I h;refine wpAny_Call_Name_kw (Jb0 I hg hm ?_ hdb);have z:=ha pos a s σ H _ (I.wish _) h;refine W.callWith_K (h₀:=X.base) I.ok.mod.kin hk (wpAny_mono z (fun b c ζ=>?_) fun _ _ y=>y.elim) he hpl;obtain ⟨g,d,I1,r,q⟩:=ζ;refine ⟨I1.unwish.kIn,?_⟩;exact JgO F hr hb hd I1.unwish r q
end
section
variable {s':Shared} {B:Heap} {ea:Addr} {od:Option Addr} {a0:Value} {cls:Value}
theorem Inv.track {o:HO} (I:Inv X pins σ H s) (hn:H a=none) (h1:X.s₀.heap.get? a=none) (h2:a≠X.env.locals) (h3:∀ x c,X.env.cells.lookup x=some c->c≠a) (h4:∀ p∈X.pn++pins,p.1≠a)
  (ok:ObjOk X.prog X.w (upd H a o) s.heap a o):Inv X pins σ (upd H a o) s:=by
 have d:∀ b u,H b=some u->b≠a:=fun b u q=>Jae q hn;refine ⟨I.ok,I.os,I.bare,⟨I.base.keep,I.base.slot,fun b f q n j=>?_,I.base.there,fun b g q=>?_,fun b f u q=>?_,fun b k q=>?_⟩,I.loc,I.cell,?_,fun x c e=>?_,fun p i=>?_,fun b u q=>?_,I.len⟩
 ·have : b≠a:=fun z=>by rw [z,h1] at q;cases q
  rw [Jah this];exact I.base.free b f q n j
 ·have z:=I.base.tups b g q;rw [Jah (d _ _ z)];exact z
 ·have z:=I.base.frzs b f u q;rw [Jah (d _ _ z)];exact z
 ·obtain ⟨l,z⟩:=I.base.tbls b k q;exact ⟨l,by rw [Jah (d _ _ z)];exact z⟩
 ·rw [Jah (Ne.symm h2)];exact I.free
 ·rw [Jah (h3 x c e)];exact I.freeC x c e
 ·obtain ⟨e,n,r⟩:=I.pin p i;exact ⟨e,by rw [Jah (h4 p i)];exact n,r⟩
 ·by_cases h:b=a
  ·subst h;rw [Jas] at q;cases q;exact ok
  ·rw [Jah h] at q;exact (I.hok b u q).stay (fun _ _ _ z=>z) (fun c z=>by rw [Jah (d _ _ z)];exact z) (fun c g z=>by rw [Jah (d _ _ z)];exact z)
def ExcO (e C:Addr) (od:Option Addr:=none):HO:=.ext fun h=>∃ ox vs,h.get? e=some ox/\ox.cls=.ref C/\ox.data=.fields vs/\ox.dict=od
theorem Inv.landed {sF:Shared} (I:Inv X pins σ H s) (hex:X.ex=[]) (u:Un (frs X.stack) [] H H' s.heap s'.heap) (hok:HOk X.prog X.w H' s'.heap) (F:Fly X.stack H' s.heap ea od (.ref C) a0 B s'.heap) (hos:s'.os=s.os) (hg:AllBare s'.gens)
  (hfl:Heap.FlyingW B X.stack ea (.ref C) a0 h') (hup:s'.heap.UpToSlots h') (hdc:DictAt h' ea od) (hs:sF={ s' with heap:=h' }):Inv X pins σ (upd H' ea (ExcO ea C od)) sF:=by
 subst hs;obtain ⟨d,G,_⟩:=F.next u hok (I.stkFree' u) hfl.1 hup;have I2:Inv X pins σ H' { s' with heap:=h' }:=I.call' (s':={ s' with heap:=h' }) hos G d hg (fun b z=>absurd z (by simp));have a:∀ b o,s.heap.get? b=some o->b≠ea:=fun b o q z=>by
  have:=F.new;rw [<- z,q] at this;cases this
 obtain ⟨m,y,_⟩:=I.loc;obtain ⟨Q,_,_,n,_⟩:=y;refine I2.track F.free ?_ (Ne.symm (a _ _ n)) (fun x c e z=>?_) (fun p A z=>?_) ?_
 ·cases q:X.s₀.heap.get? ea with
  | none=>rfl
  | some o=>
   obtain ⟨N,h⟩:=I.base.there ea o q (by rw [hex];simp);exact absurd rfl (a _ _ h)
 ·obtain ⟨v,l⟩:=I.cell x c e;obtain ⟨O,g,_⟩:=l;exact a _ _ g z
 ·obtain ⟨e,_⟩:=I.pin p A;exact a _ _ e z
 ·obtain ⟨r,D,j,l,M,_⟩:=hfl.first;obtain ⟨L,f,i⟩:=hdc;rw [show h'.get? ea=some r from j] at f;cases f;exact ⟨⟨r,D,j,l,M,i⟩,⟨_,j⟩,fun P R ⟨K,t,h,J,E⟩ k=>⟨K,t,k _ h,J,E⟩⟩
abbrev Cx.inx (X:Cx) (e:Addr):Cx:={ X with A:=X.A.mark (some (.ref e)),calm:=false,xe:=fun _ _=>False }
theorem Cx.Ok.inx (ok:X.Ok) (e:Addr):(X.inx e).Ok :=
 ⟨ok.mod,ok.kind,ok.glob,ok.blt,ok.above,ok.inj,ok.has,ok.cab,fun z=>(by cases z),ok.frames,ok.stk,ok.exf,ok.bs,ok.bsz,ok.noex,ok.exfs,ok.funs,ok.frf⟩
theorem Inv.inx (I:Inv X pins σ H s) (e:Addr):Inv (X.inx e) pins σ H s :=
 ⟨I.ok.inx e,I.os,I.bare,I.base,I.loc,I.cell,I.free,I.freeC,I.pin,I.hok,I.len⟩
variable {e:Addr}
theorem Inv.outx (I:Inv (X.inx e) pins σ H s) (ok:X.Ok):Inv X pins σ H s :=
 ⟨ok,I.os,I.bare,I.base,I.loc,I.cell,I.free,I.freeC,I.pin,I.hok,I.len⟩
variable {i:Nat} {x:Str}
theorem Inv.goes {m m':Str->Option Value} (I:Inv X pins σ H s) (hN:X.N.Nodup) (hi:X.N[i]?=some x) (hs:Heap.SameBut X.env.locals s.heap h')
  (hn:s.heap.Ns X.env.locals m) (hn':h'.Ns X.env.locals m') (hm:∀ y,y≠x->m' y=m y):Inv X pins (σ.set i none) H { s with heap:=h',toks:=t' }:=by
 obtain ⟨M,A,w⟩:=I.loc;have K:M=m:=(Heap.Ns.eq_nsMap A).trans (Heap.Ns.eq_nsMap hn).symm;subst K;have t:∀ b o,X.s₀.heap.get? b=some o->b≠X.env.locals:=fun b o e=>Nat.ne_of_lt (Nat.lt_of_lt_of_le (Heap.lt_size e) I.ok.above);refine ⟨I.ok,I.os,I.bare,⟨fun b o e n B h=>?_,fun b o e n B h=>?_,I.base.free,fun b o e h=>?_,I.base.tups,I.base.frzs,I.base.tbls⟩,⟨m',hn',fun j y v f g F=>?_⟩,fun y c e=>?_,I.free,I.freeC,fun p J=>?_,fun a o e=>?_,by rw [List.length_set];exact I.len⟩
 ·exact (hs.2 b (t b o e)).trans (I.base.keep b o e n B h)
 ·obtain ⟨L,f⟩:=I.base.slot b o e n B h;exact ⟨L,(hs.2 b (t b o e)).trans f⟩
 ·obtain ⟨E,f⟩:=I.base.there b o e h;exact ⟨E,(hs.2 b (t b o e)).trans f⟩
 ·have D:j≠i:=fun z=>by
   subst z;by_cases w:j<σ.length
   ·rw [List.getElem?_set_self w] at g;cases g
   ·rw [List.getElem?_eq_none (by rw [List.length_set];ac_nf)] at g;cases g
  rw [List.getElem?_set_ne (Ne.symm D)] at g;obtain ⟨u,r,q⟩:=w j y v f g F;have O:y≠x:=fun z=>D (Jfd hN f (z ▸ hi));refine ⟨u,r,?_⟩;rcases q with ⟨k,e⟩ | ⟨k,c,e,z⟩
  ·exact .inl ⟨k,(hm y O).trans e⟩
  ·exact .inr ⟨k,c,e,z.sameBut hs (I.cne y c e)⟩
 ·obtain ⟨v,z⟩:=I.cell y c e;exact ⟨v,z.sameBut hs (I.cne y c e)⟩
 ·obtain ⟨e,n,C,G,d⟩:=I.pin p J;exact ⟨(hs.2 p.1 C).trans e,n,C,G,d⟩
 ·refine (I.hok a o e).stay (fun c v l q=>(hs.2 c ?_).trans q) (fun _ q=>q) fun _ _ q=>q;rintro rfl;rcases l with z | l
  ·rw [<- z] at e;rw [I.free] at e;cases e
  ·rw [I.free] at l;cases l
end
structure Jcf (K:W.Frag) (C D:Addr):Prop where
 cl:W.hasDictIn K D=true
 ty:W.typeIn K (.ref D)=some (.type "type")
 ex:W.mroIn K D (.type "BaseException")=some true
 ab:W.mroIn K C (.ref D)=some true
variable {M:Model}
theorem Jio {K:W.Frag} {D:Addr} (X:K.In h) (c:W.hasDictIn K D=true):W.Looks M h (isType (.ref D)) true:=by
 obtain ⟨d,a,_⟩:=W.any_some c;unfold W.clsIn at a;split at a
 next c' d' cd' sl' ho=>
  intro A' Q' E' b k q;unfold isType loadHead;exact wpAny_bind (wpAny_loadPart (k _ _ (X _ _ ho)) (wpAny_pure q))
 next=>cases a
variable {e:Addr}
theorem Jcw {K:W.Frag} {D:Addr} {oe:Obj} {Q:Bool->Shared->Prop} (X:K.In s.heap) (he:s.heap.get? e=some oe) (hc:oe.cls=.ref C) (c:Jcf K C D) (h:Q true s) :
  wpAny M A (excMatches (.ref e) (.ref D)) Q E s:=by
 obtain ⟨a,g,d,t,b⟩:=s;have L0:W.Looks M a (typeOf (.ref e)) (.ref C):=hc ▸ (W.Looks.ld he).andThen .now;have L1:=W.looks_typeIn (M:=M) X c.ty;have L2:=W.looks_mroIn (M:=M) X c.ex;have L3:=W.looks_mroIn (M:=M) X c.ab;have L4:=Jio (M:=M) X c.cl;have f:=tc_notTuple;unfold excMatches isInstance isExcClass;repeat (first | lk | wp_step)
 exact h
theorem SP.outx {D:Ends} {f:Flow} (ok:X.Ok) (h:SP (X.inx e) pins D f s):SP X pins D f s:=by
 cases f with
 | next=>obtain ⟨σ',a,J,q⟩:=h;exact ⟨σ',a,J.outx ok,q⟩
 | brk=>obtain ⟨σ',a,J,q⟩:=h;exact ⟨σ',a,J.outx ok,q⟩
 | cont=>obtain ⟨σ',a,J,q⟩:=h;exact ⟨σ',a,J.outx ok,q⟩
 | ret u=>obtain ⟨v,σ',a,J,q⟩:=h;exact ⟨v,σ',a,J.outx ok,q⟩
section
variable {ce:Expr} {epos hpos np:Pos} {x n:Str} {b0:Stmt} {suite:List Stmt} {ts:TS} {D:Addr} {t:St->Hp->VK->XK->Prop}
def tTry (K:W.Frag) (D:Addr) (t:St->Hp->VK->XK->Prop) (ts:TS):TS:=fun Dn σ H=>t σ H (fun _ H1=>Dn.nx σ H1) fun cls od H1=>∃ C,cls=.ref C/\Jcf K C D/\∀ ea,H1 ea=none->ts Dn σ (upd H1 ea (ExcO ea C od))
theorem Jl0 (hcall:PEx X ce t) (hg:Gl X x) (hm:X.mg x=some (.ref D)) (hsu:∀ e,PSs (X.inx e) (b0::suite) ts) (hex:X.ex=[]:=by rfl) (hst:X.stack=X.env::X.outer:=by rfl) (hfl:X.env.frame=some X.env.locals:=by rfl)
  (hs:swapsWith ce none epos.line X.env=pure false:=by rfl) (hdb:(x == ("__debug__" : Str))=false:=by decide) :
  PS X (.Try [.Expr ce epos] [.ExceptHandler (some (.Name x np)) none (b0::suite) hpos] [] [] pos) (tTry X.K D t ts):=by
 intro d s σ H Dn I h;refine wpAny_Try_except (wpAny_execs_cons (wpAny_Expr_any (wpAny_mono (hcall d s σ H _ _ I h) (fun v S ⟨y,L,I1,r1,N⟩=>?_) (fun ev S P=>?_)) I.quiet hs))
 ·exact wpAny_execs_nil (wpAny_execs_nil ⟨σ,L,I1,N⟩)
 ·obtain ⟨L,V,I1,j,T,R,a0,B,H',rfl,i,J,u,q,F,C,rfl,k,M⟩:=P;have E:X.A.frames=some (X.env::X.outer):=by rw [<- hst];exact I.ok.frames
  have F':=F.fly;rw [hst] at F';refine noteD E hfl F' F.dct fun Z g o G=>?_;refine Jis g G fun W a n m=>?_;have r:=o.trans n;have c:=a;rw [<- hst] at c;have I5:=I1.landed hex u q F i J c r m rfl;obtain ⟨Y,U,O,Q,_,_⟩:=a.first;refine wpAny_handleBy_cons (codeAny_handlers_test (Jb0 (X:=X.inx j) (I5.inx j) hg hm ?_ hdb)) (by intro z;cases z);refine Jcw I5.kIn O Q k (codeAny_handlers_suite ?_);refine JhT a m fun h6 l p w=>?_;have b:=l;rw [<- hst] at b;have I6:=I1.landed hex u q F i J b (r.trans p) w rfl;exact wpAny_mono (hsu j d _ σ _ Dn (I6.inx j) (M j F.free)) (fun f s2 z=>z.outx I.ok) (fun _ _ z=>z.elim)
def Jkx (K:W.Frag) (D:Addr) (i:Nat) (t:St->Hp->VK->XK->Prop) (ts:TS):TS:=fun Dn σ H=>t σ H (fun _ H1=>Dn.nx σ H1) fun cls od H1=>∃ C,cls=.ref C/\Jcf K C D /\
 ∀ ea,H1 ea=none->ts { nx:=fun σ' H'=>Dn.nx (σ'.set i none) H',rt:=Dn.rt,bk:=fun σ' H'=>Dn.bk (σ'.set i none) H',ct:=fun σ' H'=>Dn.ct (σ'.set i none) H' } (σ.set i (some (.ref ea))) (upd H1 ea (ExcO ea C od))
theorem JjN {i:Nat} (hN:X.N.Nodup) (hi:X.N[i]?=some n) (hl:X.env.scope.names.lookup n=some .local) (hcall:PEx X ce t) (hg:Gl X x) (hm:X.mg x=some (.ref D)) (hsu:∀ e,PSs (X.inx e) (b0::suite) ts)
  (hex:X.ex=[]:=by rfl) (hst:X.stack=X.env::X.outer:=by rfl) (hfl:X.env.frame=some X.env.locals:=by rfl)
  (hs:swapsWith ce none epos.line X.env=pure false:=by rfl) (hdb:(x == ("__debug__" : Str))=false:=by decide) :
  PS X (.Try [.Expr ce epos] [.ExceptHandler (some (.Name x np)) (some n) (b0::suite) hpos] [] [] pos) (Jkx X.K D i t ts):=by
 intro b s σ H Dn I h;refine wpAny_Try_except (wpAny_execs_cons (wpAny_Expr_any (wpAny_mono (hcall b s σ H _ _ I h) (fun v s1 ⟨y,H1,I1,r1,q1⟩=>?_) (fun ev s1 hx=>?_)) I.quiet hs))
 ·exact wpAny_execs_nil (wpAny_execs_nil ⟨σ,H1,I1,q1⟩)
 ·obtain ⟨H1,s0,I1,l,od,a1,a0,B,H',rfl,E,hb,u,S,F,C,rfl,G,hq⟩:=hx;have W:X.A.frames=some (X.env::X.outer):=by rw [<- hst];exact I.ok.frames
  have F':=F.fly;rw [hst] at F';refine noteD W hfl F' F.dct fun h4 o P Y=>?_;refine Jis o Y fun h5 c O M=>?_;have T:=P.trans O;have g:=c;rw [<- hst] at g;have I5:=I1.landed hex u S F E hb g T M rfl;obtain ⟨oe,vs,he,hc,_,_⟩:=c.first;refine wpAny_handleBy_cons (codeAny_handlers_test (Jb0 (X:=X.inx l) (I5.inx l) hg hm ?_ hdb)) (by intro z;cases z);refine Jcw I5.kIn he hc G (codeAny_handlers_suite_as ?_);refine JhT c M fun h6 L Q V=>?_;have d:=L;rw [<- hst] at d;have I6:=I1.landed hex u S F E hb d (T.trans Q) V rfl;refine JdO (X:=X) (v:=.ref l) I6 hN hi (.inl hl) rfl (fun s7 I7=>?_) (.inr hl);refine wpAny_mono (hsu l b s7 _ _ _ (I7.inx l) (hq l F.free)) (fun f s2 z=>?_) (fun _ _ z=>z.elim);have a:∀ {σ':St} {p:Hp} {R:Flow->Shared->Prop} {E2:Value->Shared->Prop},Inv (X.inx l) b σ' p s2->(∀ j,Inv X b (σ'.set i none) p j->R f j) ->
    wpAny (model X.prog X.w) X.A (do bindName X.env n .none;unbindBehindTheSuite X.env n hpos) (fun _ j=>R f j) E2 s2:=fun {σ' p R E2} J k=>by
   have J':=J.outx I.ok;obtain ⟨m,hn,_⟩:=J'.loc;refine wpAny_nameGoes_keeps hl hn (by rw [I.ok.kind];rfl) fun h' v U Z=>k _ (J'.goes hN hi Z hn U fun y hy=>if_neg hy)
  cases f with
  | next=>obtain ⟨σ',p,J,q⟩:=z;exact a J fun j J3=>⟨_,_,J3,q⟩
  | brk=>obtain ⟨σ',p,J,q⟩:=z;exact a J fun j J3=>⟨_,_,J3,q⟩
  | cont=>obtain ⟨σ',p,J,q⟩:=z;exact a J fun j J3=>⟨_,_,J3,q⟩
  | ret v=>obtain ⟨y,σ',p,J,r,q⟩:=z;exact a J fun j J3=>⟨y,_,_,J3,r,q⟩
end
inductive D where
 | non | bl (b:Bool) | int (i:Int) | str (x:Str) | tup (xs:List D) | lst (xs:List D)
mutual
def Rep (K:W.Frag) (H:Hp):D->V->Prop
 | .non,v=>v=.non
 | .bl b,v=>v=.bl b
 | .int i,v=>v=.int i
 | .str x,v=>v=.str x
 | .tup ds,v=>∃ a xs,v=.ref a/\SqT K H a xs/\RepL K H ds xs
 | .lst ds,v=>∃ a xs,v=.ref a/\SqL K H a xs/\RepL K H ds xs
def RepL (K:W.Frag) (H:Hp):List D->List V->Prop
 | [],vs=>vs=[]
 | d::ds,vs=>∃ v r,vs=v::r/\Rep K H d v/\RepL K H ds r
end
mutual
def eqD:D->D->Bool
 | .non, .non=>true
 | .bl a, .bl b=>a == b
 | .int a, .int b=>a == b
 | .bl a, .int b=>(if a then 1 else 0) == b
 | .int a, .bl b=>a == (if b then 1 else 0)
 | .str a, .str b=>a == b
 | .tup xs, .tup ys=>eqL xs ys
 | .lst xs, .lst ys=>eqL xs ys
 | _,_=>false
def eqL:List D->List D->Bool
 | [],[]=>true
 | x::xs,y::ys=>eqD x y&&eqL xs ys
 | _,_=>false
end
mutual
def depD:D->Nat
 | .tup xs=>depL xs+1
 | .lst xs=>depL xs+1
 | _=>0
def depL:List D->Nat
 | []=>0
 | x::xs=>max (depD x) (depL xs)
end
theorem JeL:∀ {xs ys:List D},eqL xs ys=true->xs.length=ys.length
 | [],[],_=>rfl
 | [],_::_,h=>by simp [eqL] at h
 | _::_,[],h=>by simp [eqL] at h
 | x::xs,y::ys,h=>by
  simp only [eqL,Bool.and_eq_true] at h;simp only [length_cons,JeL h.2]
mutual
theorem JbT:∀ d:D,eqD d d=true
 | .non=>by simp [eqD]
 | .bl b=>by simp [eqD]
 | .int i=>by simp [eqD]
 | .str x=>by simp [eqD]
 | .tup xs=>by simp only [eqD];exact Je4 xs
 | .lst xs=>by simp only [eqD];exact Je4 xs
theorem Je4:∀ d:List D,eqL d d=true
 | []=>by simp [eqL]
 | x::xs=>by simp only [eqL,Bool.and_eq_true];exact ⟨JbT x,Je4 xs⟩
end
theorem RepL.length {K:W.Frag}:∀ {ds:List D} {vs:List V},RepL K H ds vs->ds.length=vs.length
 | [],vs,h=>by
  simp only [RepL] at h;rw [h];rfl
 | d::ds,vs,h=>by
  simp only [RepL] at h;obtain ⟨v,r,rfl,_,h2⟩:=h;simp only [length_cons,RepL.length h2]
theorem RepL.get {K:W.Frag}:∀ {ds:List D} {vs:List V} {i:Nat} {d:D},RepL K H ds vs->ds[i]?=some d->∃ v,vs[i]?=some v/\Rep K H d v
 | [],_,_,_,_,e=>by simp at e
 | d::ds,vs,i,d',h,e=>by
  simp only [RepL] at h;obtain ⟨v,r,rfl,h1,h2⟩:=h;cases i with
  | zero=>simp at e;subst e;exact ⟨v,rfl,h1⟩
  | succ i=>
   obtain ⟨v',e',h'⟩:=RepL.get h2 (by simpa using e);exact ⟨v',by simpa using e',h'⟩
variable {xs:List V}
theorem SqL.same {K:W.Frag} (e:Same H H') (h:SqL K H a xs):SqL K H' a xs:=e.seq h
theorem SqT.same {K:W.Frag} (e:Same H H') (h:SqT K H a xs):SqT K H' a xs:=by
 rcases h with (h | ⟨o,h⟩) | h
 ·exact .inl (.inl (e _ _ h))
 ·exact .inl (.inr ⟨o,e _ _ h⟩)
 ·exact .inr h
mutual
theorem Rep.same {K:W.Frag} (e:Same H H'):∀ {d:D} {v:V},Rep K H d v->Rep K H' d v
 | .non,_,h=>by simpa only [Rep] using h
 | .bl _,_,h=>by simpa only [Rep] using h
 | .int _,_,h=>by simpa only [Rep] using h
 | .str _,_,h=>by simpa only [Rep] using h
 | .tup ds,_,h=>by
  simp only [Rep] at h ⊢;obtain ⟨a,xs,h1,h2,h3⟩:=h;exact ⟨a,xs,h1,h2.same e,RepL.same e h3⟩
 | .lst ds,_,h=>by
  simp only [Rep] at h ⊢;obtain ⟨a,xs,h1,h2,h3⟩:=h;exact ⟨a,xs,h1,h2.same e,RepL.same e h3⟩
theorem RepL.same {K:W.Frag} (e:Same H H'):∀ {d:List D} {v:List V},RepL K H d v->RepL K H' d v
 | [],_,h=>by simpa only [RepL] using h
 | x::xs,_,h=>by
  simp only [RepL] at h ⊢;obtain ⟨v,r,h1,h2,h3⟩:=h;exact ⟨v,r,h1,Rep.same e h2,RepL.same e h3⟩
end
theorem Inv.list_tuple (I:Inv X pins σ H s) {a:Addr} {xs ys:List V} (h:SqL X.K H a xs) (h':SqT X.K H a ys):False:=by
 obtain ⟨_,_,p,_⟩:=I.list h;obtain ⟨_,_,q,_⟩:=I.tuple h';obtain ⟨o,_,e,d,_⟩:=p;obtain ⟨f,b,c,_⟩:=q;rw [e] at b;cases b;rw [d] at c;exact absurd c ⋯
mutual
theorem Inv.rep_inj (I:Inv X pins σ H s):∀ {d e:D} {v:V},Rep X.K H d v->Rep X.K H e v->d=e
 | .non,e,v,h,h'=>by
  simp only [Rep] at h;subst h;cases e <;> simp [Rep] at h' ⊢
 | .bl _,e,v,h,h'=>by
  simp only [Rep] at h;subst h;cases e <;> simp [Rep] at h' ⊢
  exact h'
 | .int _,e,v,h,h'=>by
  simp only [Rep] at h;subst h;cases e <;> simp [Rep] at h' ⊢
  exact h'
 | .str _,e,v,h,h'=>by
  simp only [Rep] at h;subst h;cases e <;> simp [Rep] at h' ⊢
  exact h'
 | .tup ds,e,v,h,h'=>by
  simp only [Rep] at h;obtain ⟨a,xs,rfl,h2,h3⟩:=h;cases e with
  | tup es=>
   simp only [Rep] at h';obtain ⟨a',ys,q,g2,g3⟩:=h';cases q;have:=I.tuple_inj h2 g2;subst this;rw [Inv.repL_inj I h3 g3]
  | lst es=>
   simp only [Rep] at h';obtain ⟨a',ys,q,g2,g3⟩:=h';cases q;exact (I.list_tuple g2 h2).elim
  | _=>simp [Rep] at h'
 | .lst ds,e,v,h,h'=>by
  simp only [Rep] at h;obtain ⟨a,xs,rfl,h2,h3⟩:=h;cases e with
  | lst es=>
   simp only [Rep] at h';obtain ⟨a',ys,q,g2,g3⟩:=h';cases q;have:=I.list_inj h2 g2;subst this;rw [Inv.repL_inj I h3 g3]
  | tup es=>
   simp only [Rep] at h';obtain ⟨a',ys,q,g2,g3⟩:=h';cases q;exact (I.list_tuple h2 g2).elim
  | _=>simp [Rep] at h'
theorem Inv.repL_inj (I:Inv X pins σ H s):∀ {d e:List D} {v:List V},RepL X.K H d v->RepL X.K H e v->d=e
 | [],e,v,h,h'=>by
  simp only [RepL] at h;subst h;cases e <;> simp [RepL] at h' ⊢
 | x::xs,e,v,h,h'=>by
  simp only [RepL] at h;obtain ⟨u,r,rfl,h1,h2⟩:=h;cases e with
  | nil=>simp [RepL] at h'
  | cons y ys=>
   simp only [RepL] at h';obtain ⟨u',r',q,g1,g2⟩:=h';cases q;rw [Inv.rep_inj I h1 g1,Inv.repL_inj I h2 g2]
end
variable {α β:Type}
def JcN (f : α->β->Bool):List α->List β->Bool
 | [],[]=>true
 | x::xs,y::ys=>f x y&&JcN f xs ys
 | _,_=>false
def atB (f : α->β->Bool) (xs:List α) (ys:List β) (j:Nat):Bool:=match xs[j]?,ys[j]? with
 | some x,some y=>f x y
 | _,_=>true
theorem JcO (f : α->β->Bool):∀ (xs:List α) (ys:List β),
  ((List.range (min xs.length ys.length)).all (atB f xs ys)&&(xs.length == ys.length))=JcN f xs ys
 | [],[]=>by simp [JcN]
 | [],_::_=>by simp [JcN]
 | _::_,[]=>by simp [JcN]
 | x::xs,y::ys=>by
  have ih:=JcO f xs ys;simp only [JcN,length_cons];rw [<- ih,Nat.succ_min_succ,List.range_succ_eq_map,List.all_cons,List.all_map];have e:((List.range (min xs.length ys.length)).all (atB f (x::xs) (y::ys) ∘ Nat.succ))=(List.range (min xs.length ys.length)).all (atB f xs ys):=by
   congr 1
  rw [e];have e0:atB f (x::xs) (y::ys) 0=f x y:=by unfold atB;simp
  rw [e0,Bool.and_assoc]
  congr 2
  simp
theorem Jgs:∀ xs ys:List D,eqL xs ys=JcN eqD xs ys
 | [],[]=>by simp [eqL,JcN]
 | [],_::_=>by simp [eqL,JcN]
 | _::_,[]=>by simp [eqL,JcN]
 | x::xs,y::ys=>by simp only [eqL,JcN,Jgs xs ys]
theorem Jg3:∀ {ds:List D} {d:D},d∈ds->depD d<=depL ds
 | [],_,h=>by simp at h
 | x::xs,d,h=>by
  simp only [depL];rcases mem_cons.mp h with rfl | h
  ·exact Nat.le_max_left ..
  ·exact Nat.le_trans (Jg3 h) (Nat.le_max_right ..)
def flatD:D->Bool
 | .tup _=>false
 | .lst _=>false
 | _=>true
def valD:D->V
 | .bl b=>.bl b
 | .int i=>.int i
 | .str x=>.str x
 | _=>.non
variable {d:D}
theorem Jfj {K:W.Frag} (f:flatD d=true) (h:Rep K H d v):v=valD d:=by
 cases d <;> simp_all [flatD,Rep,valD]
theorem Jg6 (f:flatD d=true):flatV (valD d)=true:=by
 cases d <;> simp_all [flatD,valD,flatV]
theorem JkJ {e:D} (f:flatD d=true) (g:flatD e=true):eqV (valD d) (valD e)=eqD d e:=by
 cases d <;> cases e <;> simp_all [flatD,valD,eqV,eqD]
theorem in1_units (A:Around):A.in1.units=A.units+1:=rfl
def EqP (X:Cx) (H:Hp) (s:Shared) (n:Nat):Prop:=∀ (d e:D) (A:Around) (x y:V) (u v:Value),depD d<=n->Rep X.K H d x->Rep X.K H e y->RelV x u->RelV y v->A.units+n<cLine->SeqAt.EqAt A s u v (eqD d e)
variable {n:Nat}
theorem Jha (ih:EqP X H s n) {ds es:List D} {xs ys:List V} {its jts:List Value} (h3:RepL X.K H ds xs) (g3:RepL X.K H es ys) (vi:Vals xs its) (vj:Vals ys jts) (hds:depL ds<=n) {A:Around} (hA:A.units+n<cLine) :
  ∀ j (p1:j<its.toArray.size) (p2:j<jts.toArray.size),SeqAt.EqAt A s its.toArray[j] jts.toArray[j] (atB eqD ds es j):=by
 intro j p1 p2;have h:its.length=ds.length:=by rw [h3.length,vi.length]
 have p:jts.length=es.length:=by rw [g3.length,vj.length]
 have a:j<ds.length:=by rw [<- h];simpa using p1
 have b:j<es.length:=by rw [<- p];simpa using p2
 obtain ⟨u,f,q⟩:=h3.get (List.getElem?_eq_getElem a);obtain ⟨v,i,r⟩:=g3.get (List.getElem?_eq_getElem b);obtain ⟨e,d,t⟩:=vi.get f;obtain ⟨l,g,o⟩:=vj.get i;have c:its.toArray[j]=e:=by
  have:=d;rw [List.getElem?_eq_getElem (by simpa using p1)] at this;simpa using this
 have k:jts.toArray[j]=l:=by
  have:=g;rw [List.getElem?_eq_getElem (by simpa using p2)] at this;simpa using this
 rw [c,k];have m:atB eqD ds es j=eqD ds[j] es[j]:=by
  unfold atB;rw [List.getElem?_eq_getElem a,List.getElem?_eq_getElem b]
 rw [m];exact ih _ _ _ _ _ _ _ (Nat.le_trans (Jg3 (List.getElem_mem a)) hds) q r t o hA
theorem Jmf (I:Inv X pins σ H s) {n:Nat} (ih:EqP X H s n) {ds es:List D} {a b:Addr} {xs ys:List V} (h2:SqT X.K H a xs) (h3:RepL X.K H ds xs) (g2:SqT X.K H b ys) (g3:RepL X.K H es ys) (hds:depL ds<=n) {A:Around} (hA:A.units+(n+1)<cLine) :
  SeqAt.RcAt A s (.ref a) (.ref b) (eqD (.tup ds) (.tup es))/\SeqAt.RcNeAt A s (.ref a) (.ref b) (!eqD (.tup ds) (.tup es)):=by
 obtain ⟨d,h,e,_⟩:=I.tuple h2;obtain ⟨c,i,f,_⟩:=I.tuple g2;have j:d.length=ds.length:=by rw [h3.length,h.length]
 have k:c.length=es.length:=by rw [g3.length,i.length]
 have g:=Jha ih h3 g3 h i hds (A:=A.in1) (by rw [in1_units];ac_nf);have l:eqD (.tup ds) (.tup es)=((List.range (min d.toArray.size c.toArray.size)).all (atB eqD ds es)&&d.toArray.size == c.toArray.size):=by
  simp only [eqD,Jgs];rw [<- JcO];simp only [size_toArray,j,k]
 rw [l];exact ⟨SeqAt.RcAt.tuples e f ∅ g,SeqAt.RcNeAt.tuples e f ∅ g⟩
theorem JlO (I:Inv X pins σ H s) {n:Nat} (ih:EqP X H s n) {ds es:List D} {a b:Addr} {xs ys:List V} (h2:SqL X.K H a xs) (h3:RepL X.K H ds xs) (g2:SqL X.K H b ys) (g3:RepL X.K H es ys) (hds:depL ds<=n) {A:Around} (hA:A.units+(n+1)<cLine) :
  SeqAt.RcAt A s (.ref a) (.ref b) (eqD (.lst ds) (.lst es))/\SeqAt.RcNeAt A s (.ref a) (.ref b) (!eqD (.lst ds) (.lst es)):=by
 obtain ⟨e,l,f,_⟩:=I.list h2;obtain ⟨i,m,g,_⟩:=I.list g2;have d:e.length=ds.length:=by rw [h3.length,l.length]
 have h:i.length=es.length:=by rw [g3.length,m.length]
 have k:=Jha ih h3 g3 l m hds (A:=A.in1) (by rw [in1_units];ac_nf);by_cases c:ds.length=es.length
 ·have j:eqD (.lst ds) (.lst es)=(List.range e.toArray.size).all (atB eqD ds es):=by
   simp only [eqD,Jgs];rw [<- JcO];simp [d,c]
  rw [j];exact ⟨SeqAt.RcAt.lists f.isList g.isList (by simp [d,h,c]) ∅ k,SeqAt.RcNeAt.lists f.isList g.isList (by simp [d,h,c]) ∅ k⟩
 ·have j:eqD (.lst ds) (.lst es)=false:=by
   cases q:eqD (.lst ds) (.lst es) with
   | false=>rfl
   | true=>simp only [eqD] at q;exact absurd (JeL q) c
  rw [j];exact ⟨SeqAt.RcAt.lists_lengths f.isList g.isList (by simp [d,h,c]) ∅,SeqAt.RcNeAt.lists_lengths f.isList g.isList (by simp [d,h,c]) ∅⟩
theorem JcY {K:W.Frag} {x:V} (h:Rep K H d x):(flatD d=true/\x=valD d)\/(∃ ds a xs,d=.tup ds/\x=.ref a/\SqT K H a xs/\RepL K H ds xs)\/∃ ds a xs,d=.lst ds/\x=.ref a/\SqL K H a xs/\RepL K H ds xs:=by
 cases d with
 | tup ds=>simp only [Rep] at h;obtain ⟨a,xs,b,c,e⟩:=h;exact .inr (.inl ⟨ds,a,xs,rfl,b,c,e⟩)
 | lst ds=>simp only [Rep] at h;obtain ⟨a,xs,b,c,e⟩:=h;exact .inr (.inr ⟨ds,a,xs,rfl,b,c,e⟩)
 | _=>exact .inl ⟨rfl,Jfj rfl h⟩
theorem JcP (I:Inv X pins σ H s) {d e:D} {x y:V} {u v:Value} (hd:Rep X.K H d x) (he:Rep X.K H e y) (ru:RelV x u) (rv:RelV y v) (m:flatD d=!flatD e) {A:Around} (hA:A.units<cLine) :
  eqD d e=false/\SeqAt.EqAt A s u v false/\SeqAt.RcAt A s u v false/\SeqAt.RcNeAt A s u v true:=by
 rcases JcY hd with ⟨fd,rfl⟩ | ⟨ds,a,xs,rfl,rfl,h2,h3⟩ | ⟨ds,a,xs,rfl,rfl,h2,h3⟩
 ·rcases JcY he with ⟨fe,rfl⟩ | ⟨es,b,ys,rfl,rfl,g2,g3⟩ | ⟨es,b,ys,rfl,rfl,g2,g3⟩
  ·rw [fd,fe] at m;cases m
  ·obtain rfl:v=Value.ref b:=rv;obtain ⟨f,g,c,_⟩:=I.tuple g2;refine ⟨by cases d <;> simp [eqD,flatD] at fd ⊢,?_⟩;cases d <;> simp only [valD,RelV] at ru <;> first | (simp [flatD] at fd;done) | skip
   ·subst ru;exact ⟨SeqAt.EqAt.none_tuple c hA,SeqAt.RcAt.none_tuple c hA,SeqAt.RcNeAt.none_tuple c hA⟩
   ·subst ru;exact ⟨SeqAt.EqAt.bool_tuple _ c hA,SeqAt.RcAt.bool_tuple _ c hA,SeqAt.RcNeAt.bool_tuple _ c hA⟩
   ·obtain ⟨t,rfl⟩:=ru;exact ⟨SeqAt.EqAt.int_tuple _ _ c hA,SeqAt.RcAt.int_tuple _ _ c hA,SeqAt.RcNeAt.int_tuple _ _ c hA⟩
   ·obtain ⟨t,rfl⟩:=ru;exact ⟨SeqAt.EqAt.str_tuple _ _ c hA,SeqAt.RcAt.str_tuple _ _ c hA,SeqAt.RcNeAt.str_tuple _ _ c hA⟩
  ·obtain rfl:v=Value.ref b:=rv;obtain ⟨f,g,c,_⟩:=I.list g2;have c:=c.isList;refine ⟨by cases d <;> simp [eqD,flatD] at fd ⊢,?_⟩;cases d <;> simp only [valD,RelV] at ru <;> first | (simp [flatD] at fd;done) | skip
   ·subst ru;exact ⟨SeqAt.EqAt.none_list c hA,SeqAt.RcAt.none_list c hA,SeqAt.RcNeAt.none_list c hA⟩
   ·subst ru;exact ⟨SeqAt.EqAt.bool_list _ c hA,SeqAt.RcAt.bool_list _ c hA,SeqAt.RcNeAt.bool_list _ c hA⟩
   ·obtain ⟨t,rfl⟩:=ru;exact ⟨SeqAt.EqAt.int_list _ _ c hA,SeqAt.RcAt.int_list _ _ c hA,SeqAt.RcNeAt.int_list _ _ c hA⟩
   ·obtain ⟨t,rfl⟩:=ru;exact ⟨SeqAt.EqAt.str_list _ _ c hA,SeqAt.RcAt.str_list _ _ c hA,SeqAt.RcNeAt.str_list _ _ c hA⟩
 ·rcases JcY he with ⟨fe,rfl⟩ | ⟨es,b,ys,rfl,rfl,g2,g3⟩ | ⟨es,b,ys,rfl,rfl,g2,g3⟩
  ·obtain rfl:u=Value.ref a:=ru;obtain ⟨f,g,c,_⟩:=I.tuple h2;refine ⟨by cases e <;> simp [eqD,flatD] at fe ⊢,?_⟩;cases e <;> simp only [valD,RelV] at rv <;> first | (simp [flatD] at fe;done) | skip
   ·subst rv;exact ⟨SeqAt.EqAt.tuple_none c hA,SeqAt.RcAt.tuple_none c hA,SeqAt.RcNeAt.tuple_none c hA⟩
   ·subst rv;exact ⟨SeqAt.EqAt.tuple_bool _ c hA,SeqAt.RcAt.tuple_bool _ c hA,SeqAt.RcNeAt.tuple_bool _ c hA⟩
   ·obtain ⟨t,rfl⟩:=rv;exact ⟨SeqAt.EqAt.tuple_int _ _ c hA,SeqAt.RcAt.tuple_int _ _ c hA,SeqAt.RcNeAt.tuple_int _ _ c hA⟩
   ·obtain ⟨t,rfl⟩:=rv;exact ⟨SeqAt.EqAt.tuple_str _ _ c hA,SeqAt.RcAt.tuple_str _ _ c hA,SeqAt.RcNeAt.tuple_str _ _ c hA⟩
  ·simp [flatD] at m
  ·simp [flatD] at m
 ·rcases JcY he with ⟨fe,rfl⟩ | ⟨es,b,ys,rfl,rfl,g2,g3⟩ | ⟨es,b,ys,rfl,rfl,g2,g3⟩
  ·obtain rfl:u=Value.ref a:=ru;obtain ⟨f,g,c,_⟩:=I.list h2;have c:=c.isList;refine ⟨by cases e <;> simp [eqD,flatD] at fe ⊢,?_⟩;cases e <;> simp only [valD,RelV] at rv <;> first | (simp [flatD] at fe;done) | skip
   ·subst rv;exact ⟨SeqAt.EqAt.list_none c hA,SeqAt.RcAt.list_none c hA,SeqAt.RcNeAt.list_none c hA⟩
   ·subst rv;exact ⟨SeqAt.EqAt.list_bool _ c hA,SeqAt.RcAt.list_bool _ c hA,SeqAt.RcNeAt.list_bool _ c hA⟩
   ·obtain ⟨t,rfl⟩:=rv;exact ⟨SeqAt.EqAt.list_int _ _ c hA,SeqAt.RcAt.list_int _ _ c hA,SeqAt.RcNeAt.list_int _ _ c hA⟩
   ·obtain ⟨t,rfl⟩:=rv;exact ⟨SeqAt.EqAt.list_str _ _ c hA,SeqAt.RcAt.list_str _ _ c hA,SeqAt.RcNeAt.list_str _ _ c hA⟩
  ·simp [flatD] at m
  ·simp [flatD] at m
theorem seq_eq (I:Inv X pins σ H s) {n:Nat} (ih:EqP X H s n) {d e:D} {x y:V} {u v:Value} (hn:depD d<=n+1) (hd:Rep X.K H d x) (he:Rep X.K H e y) (ru:RelV x u) (rv:RelV y v) (fd:flatD d=false) (fe:flatD e=false) {A:Around} (hA:A.units+(n+1)<cLine) :
  SeqAt.EqAt A s u v (eqD d e)/\SeqAt.RcAt A s u v (eqD d e)/\SeqAt.RcNeAt A s u v (!eqD d e):=by
 have j:=hd;have k:=he;rcases JcY hd with ⟨f,_⟩ | ⟨ds,a,xs,rfl,rfl,h2,h3⟩ | ⟨ds,a,xs,rfl,rfl,h2,h3⟩
 ·rw [f] at fd;cases fd
 ·obtain rfl:u=Value.ref a:=ru;have h:depL ds<=n:=by simp only [depD] at hn;ac_nf
  rcases JcY he with ⟨f,_⟩ | ⟨es,b,ys,rfl,rfl,g2,g3⟩ | ⟨es,b,ys,rfl,rfl,g2,g3⟩
  ·rw [f] at fe;cases fe
  ·obtain rfl:v=Value.ref b:=rv;have R:=Jmf I ih h2 h3 g2 g3 h hA;refine ⟨?_,R.1,R.2⟩;by_cases c:a=b
   ·subst c;rw [I.rep_inj j k,JbT];exact SeqAt.EqAt.same _
   ·exact SeqAt.EqAt.of_refs c R.1
  ·obtain rfl:v=Value.ref b:=rv;obtain ⟨m,_,g,_⟩:=I.tuple h2;obtain ⟨l,_,i,_⟩:=I.list g2;exact ⟨SeqAt.EqAt.tuple_list g i.isList ∅,SeqAt.RcAt.tuple_list g i.isList ∅,SeqAt.RcNeAt.tuple_list g i.isList ∅⟩
 ·obtain rfl:u=Value.ref a:=ru;have h:depL ds<=n:=by simp only [depD] at hn;ac_nf
  rcases JcY he with ⟨f,_⟩ | ⟨es,b,ys,rfl,rfl,g2,g3⟩ | ⟨es,b,ys,rfl,rfl,g2,g3⟩
  ·rw [f] at fe;cases fe
  ·obtain rfl:v=Value.ref b:=rv;obtain ⟨m,_,g,_⟩:=I.list h2;obtain ⟨l,_,i,_⟩:=I.tuple g2;exact ⟨SeqAt.EqAt.list_tuple g.isList i ∅,SeqAt.RcAt.list_tuple g.isList i ∅,SeqAt.RcNeAt.list_tuple g.isList i ∅⟩
  ·obtain rfl:v=Value.ref b:=rv;have R:=JlO I ih h2 h3 g2 g3 h hA;refine ⟨?_,R.1,R.2⟩;by_cases c:a=b
   ·subst c;rw [I.rep_inj j k,JbT];exact SeqAt.EqAt.same _
   ·exact SeqAt.EqAt.of_refs c R.1
theorem Inv.eqP (I:Inv X pins σ H s):∀ n,EqP X H s n
 | 0=>fun d e A x y u v hn hd he ru rv hA=>by
  have fd:flatD d=true:=by
   cases d <;> simp [depD,flatD] at hn ⊢
  cases fe:flatD e with
  | true=>
   have ex:=Jfj fd hd;have ey:=Jfj fe he;subst ex ey;rw [<- JkJ fd fe];exact Jki ru rv (Jg6 fd) (Jg6 fe)
  | false=>
   obtain ⟨e1,e2,_⟩:=JcP I hd he ru rv (by rw [fd,fe];rfl) (A:=A) ∅;rw [e1];exact e2
 | n+1=>fun d e A x y u v hn hd he ru rv hA=>by
  cases fd:flatD d with
  | true=>
   have h0:depD d<=n:=by cases d <;> simp [depD,flatD] at fd ⊢
   exact Inv.eqP I n d e A x y u v h0 hd he ru rv ∅
  | false=>
   cases fe:flatD e with
   | true=>
    obtain ⟨e1,e2,_⟩:=JcP I hd he ru rv (by rw [fd,fe];rfl) (A:=A) ∅;rw [e1];exact e2
   | false=>exact (seq_eq I (Inv.eqP I n) hn hd he ru rv fd fe hA).1
def rEqU (K:W.Frag):R2:=fun x y H Q=>match x,y with
 | .int i, .int j=>Q (.bl (decide (i=j))) H
 | .str i, .str j=>Q (.bl (decide (i=j))) H
 | .bl i, .bl j=>Q (.bl (decide (i=j))) H
 | .non, .non=>Q (.bl true) H
 | x,y=>∃ d e,Rep K H d x/\Rep K H e y/\depD d<=50/\(flatD d&&flatD e)=false/\Q (.bl (eqD d e)) H
def rNeU (K:W.Frag):R2:=fun x y H Q=>match x,y with
 | .int i, .int j=>Q (.bl (!decide (i=j))) H
 | .str i, .str j=>Q (.bl (!decide (i=j))) H
 | .bl i, .bl j=>Q (.bl (!decide (i=j))) H
 | .non, .non=>Q (.bl false) H
 | x,y=>∃ d e,Rep K H d x/\Rep K H e y/\depD d<=50/\(flatD d&&flatD e)=false/\Q (.bl (!eqD d e)) H
theorem JaX (hu:X.A.units+64<cLine):OpR X (compareOp .Eq) (rEqU X.K):=fun a s σ H x y v u Q I c b q=>by
 unfold rEqU at q;split at q
 ·rename_i i j;exact op_eq a s σ H _ _ v u Q I c b ⟨rfl,by rw [show decide (V.int i=V.int j)=decide (i=j) from by simp];exact q⟩
 ·rename_i i j;exact op_eq a s σ H _ _ v u Q I c b ⟨rfl,by rw [show decide (V.str i=V.str j)=decide (i=j) from by simp];exact q⟩
 ·rename_i i j;exact op_eq a s σ H _ _ v u Q I c b ⟨rfl,by rw [show decide (V.bl i=V.bl j)=decide (i=j) from by simp];exact q⟩
 ·exact op_eq a s σ H _ _ v u Q I c b ⟨rfl,by simpa using q⟩
 ·obtain ⟨d,e,k,h,m,l,q⟩:=q;show wpAny (model X.prog X.w) X.A (richCompare .Eq v u) (EP X a σ Q) X.xe s;cases fd:flatD d with
  | true=>
   cases fe:flatD e with
   | true=>rw [fd,fe] at l;cases l
   | false=>
    obtain ⟨g,_,f,_⟩:=JcP I k h c b (by rw [fd,fe];rfl) (A:=X.A) ∅;rw [g] at q;exact f _ _ _ _ ⟨V.bl _,H,I,rfl,q⟩
  | false=>
   cases fe:flatD e with
   | true=>
    obtain ⟨g,_,f,_⟩:=JcP I k h c b (by rw [fd,fe];rfl) (A:=X.A) ∅;rw [g] at q;exact f _ _ _ _ ⟨V.bl _,H,I,rfl,q⟩
   | false=>exact (seq_eq I (I.eqP 49) m k h c b fd fe ∅).2.1 _ _ _ _ ⟨V.bl _,H,I,rfl,q⟩
theorem Jcx (hu:X.A.units+64<cLine):OpR X (compareOp .NotEq) (rNeU X.K):=fun a s σ H x y v u Q I c b q=>by
 unfold rNeU at q;split at q
 ·rename_i i j;exact op_ne a s σ H _ _ v u Q I c b ⟨rfl,by rw [show decide (V.int i=V.int j)=decide (i=j) from by simp];exact q⟩
 ·rename_i i j;exact op_ne a s σ H _ _ v u Q I c b ⟨rfl,by rw [show decide (V.str i=V.str j)=decide (i=j) from by simp];exact q⟩
 ·rename_i i j;exact op_ne a s σ H _ _ v u Q I c b ⟨rfl,by rw [show decide (V.bl i=V.bl j)=decide (i=j) from by simp];exact q⟩
 ·exact op_ne a s σ H _ _ v u Q I c b ⟨rfl,by simpa using q⟩
 ·obtain ⟨d,e,k,h,m,l,q⟩:=q;show wpAny (model X.prog X.w) X.A (richCompare .NotEq v u) (EP X a σ Q) X.xe s;cases fd:flatD d with
  | true=>
   cases fe:flatD e with
   | true=>rw [fd,fe] at l;cases l
   | false=>
    obtain ⟨g,_,_,f⟩:=JcP I k h c b (by rw [fd,fe];rfl) (A:=X.A) ∅;rw [g] at q;exact f _ _ _ _ ⟨V.bl _,H,I,rfl,q⟩
  | false=>
   cases fe:flatD e with
   | true=>
    obtain ⟨g,_,_,f⟩:=JcP I k h c b (by rw [fd,fe];rfl) (A:=X.A) ∅;rw [g] at q;exact f _ _ _ _ ⟨V.bl _,H,I,rfl,q⟩
   | false=>exact (seq_eq I (I.eqP 49) m k h c b fd fe ∅).2.2 _ _ _ _ ⟨V.bl _,H,I,rfl,q⟩
def DivOk (j:Int):Prop:=j≠0/\j.natAbs.log2<9000
def rAddU (K:W.Frag):R2:=fun x y H Q=>match x,y with
 | .int i, .int j=>Q (.int (i+j)) H
 | .str i, .str j=>i.length+j.length<=sizeLine/\Q (.str (i++j)) H
 | .ref a, .ref b=>rCat (.ref a) (.ref b) H Q\/rCatT K (.ref a) (.ref b) H Q
 | _,_=>False
theorem Jbx:OpR X (binaryOp .Add) (rAddU X.K):=fun a s σ H x y v u Q I c b q=>by
 unfold rAddU at q;split at q
 ·exact JlT a s σ H _ _ v u Q I c b ⟨_,_,rfl,rfl,q⟩
 ·exact JhH a s σ H _ _ v u Q I c b ⟨_,_,rfl,rfl,q.1,q.2⟩
 ·rcases q with q | q
  ·exact JlU a s σ H _ _ v u Q I c b q
  ·exact JkZ a s σ H _ _ v u Q I c b q
 ·exact q.elim
def rMulU:R2:=fun x y H Q=>match x,y with
 | .int i, .int j=>IntMulOk i j/\Q (.int (i*j)) H
 | _,_=>False
theorem Jk1:OpR X (binaryOp .Mult) (rI IntMulOk fun i j=>.int (i*j)):=opI fun _ _ _ _ _ _ _ a q=>mul_int q a
theorem Jk2:OpR X (binaryOp .Mult) rMulU:=fun a s σ H x y v u Q I c b q=>by
 unfold rMulU at q;split at q
 ·exact Jk1 a s σ H _ _ v u Q I c b ⟨_,_,rfl,rfl,q.1,q.2⟩
 ·exact q.elim
def JiR:R2:=fun x y H Q=>match x,y with
 | .int i, .int j=>DivOk j/\Q (.int (i.fdiv j)) H
 | _,_=>False
theorem JjD:OpR X (binaryOp .FloorDiv) (rI (fun _ j=>DivOk j) fun i j=>.int (i.fdiv j)):=opI fun _ _ _ _ _ _ _ a q=>floordiv_int a.1 q (.inl (PyProof.noPylong_of_log2 a.2))
theorem Jaw:OpR X (binaryOp .FloorDiv) JiR:=fun a s σ H x y v u Q I c b q=>by
 unfold JiR at q;split at q
 ·exact JjD a s σ H _ _ v u Q I c b ⟨_,_,rfl,rfl,q.1,q.2⟩
 ·exact q.elim
def rModU:R2:=fun x y H Q=>match x,y with
 | .int i, .int j=>j≠0/\Q (.int (i.fmod j)) H
 | _,_=>False
theorem JaR:OpR X (binaryOp .Mod) rModU:=fun a s σ H x y v u Q I c b q=>by
 unfold rModU at q;split at q
 ·exact Jk0 a s σ H _ _ v u Q I c b ⟨_,_,rfl,rfl,q.1,q.2⟩
 ·exact q.elim
def rPowU:R2:=fun x y H Q=>match x,y with
 | .int i, .int j=>CPow i j/\Q (.int (i ^ j.toNat)) H
 | _,_=>False
def rCmpU (p:Int->Int->Bool):R2:=fun x y H Q=>match x,y with
 | .int i, .int j=>Q (.bl (p i j)) H
 | _,_=>False
theorem JgH {op:CmpOp} {p:Int->Int->Bool} (h:OpR X (compareOp op) (rI0 fun i j=>.bl (p i j))):OpR X (compareOp op) (rCmpU p):=fun a s σ H x y v u Q I c b q=>by
 unfold rCmpU at q;split at q
 ·exact h a s σ H _ _ v u Q I c b ⟨_,_,rfl,rfl,q⟩
 ·exact q.elim
theorem Jd9:OpR X (compareOp .Lt) (rCmpU fun i j=>decide (i<j)):=JgH op_lt
theorem JiF:OpR X (compareOp .Gt) (rCmpU fun i j=>decide (j<i)):=JgH op_gt
theorem JlV:OpR X (compareOp .GtE) (rCmpU fun i j=>decide (j<=i)):=JgH op_ge
def SqA (K:W.Frag) (H:Hp) (a:Addr) (xs:List V):Prop:=SqL K H a xs\/SqT K H a xs
def rIxU (K:W.Frag):R2:=fun x y H Q=>match x,y with
 | .ref p, .int i=>∃ xs v,SqA K H p xs/\atI xs i=some v/\Q v H
 | .str z, .int i=>∃ c,z.length<=sizeLine/\atI z.cps.toList i=some c/\Q (.str ⟨#[c]⟩) H
 | _,_=>False
theorem ix_U:IxR X (rIxU X.K):=fun b a d s σ H x y v u Q I i f q g=>by
 unfold rIxU at q;split at q
 ·obtain ⟨l,w,h | h,e,q⟩:=q
  ·exact JkN b a d s σ H _ _ v u Q I i f ⟨_,_,_,_,rfl,rfl,h,e,q⟩ g
  ·exact JlF b a d s σ H _ _ v u Q I i f ⟨_,_,_,_,rfl,rfl,h,e,q⟩ g
 ·obtain ⟨c,j,k,q⟩:=q;exact JlE b a d s σ H _ _ v u Q I i f ⟨_,_,_,rfl,rfl,j,k,q⟩ g
 ·exact q.elim
def rLen (K:W.Frag):List V->Hp->VK->Prop:=fun xs H Q=>match xs with
 | [.ref p]=>∃ ys,SqA K H p ys/\Q (.int ys.length) H
 | [.str z]=>z.length<=sizeLine/\Q (.int z.length) H
 | _=>False
theorem JaF:CallR X (.builtin "len") (rLen X.K):=fun a s σ H c b Q I r q=>by
 unfold rLen at q;split at q
 ·obtain ⟨d,h,q⟩:=q;exact JfE a s σ H _ b Q I r ⟨_,_,rfl,h,q⟩
 ·exact JfF a s σ H _ b Q I r ⟨_,rfl,q.1,q.2⟩
 ·exact q.elim
def rAbs:List V->Hp->VK->Prop:=fun xs H Q=>match xs with
 | [.int i]=>Q (.int (if i<0 then -i else i)) H
 | _=>False
theorem JfC:CallR X (.builtin "abs") rAbs:=fun a s σ H c b Q I r q=>by
 unfold rAbs at q;split at q
 ·exact Jjf a s σ H _ b Q I r ⟨_,rfl,q⟩
 ·exact q.elim
def rMin:List V->Hp->VK->Prop:=fun xs H Q=>match xs with
 | [.int i, .int j]=>Q (.int (if j<i then j else i)) H
 | _=>False
def rSlU (K:W.Frag):V->Option Int->Option Int->Hp->VK->Prop:=fun x lo hi H Q=>rSlL K x lo hi H Q\/rSlT K x lo hi H Q
theorem sl_U:SlR X (rSlU X.K):=SlR.or Jll Jl9
def isiB (t T:String):Bool:=t == T||(t == "bool"&&T == "int")
def tyN (K:W.Frag) (H:Hp) (x:V) (t:String):Prop:=match x with
 | .int _=>t="int"
 | .str _=>t="str"
 | .bl _=>t="bool"
 | .non=>t="NoneType"
 | .ref a=>(t="list"/\∃ xs,SqL K H a xs)\/(t="tuple"/\∃ xs,SqT K H a xs)
 | _=>False
theorem kit_b (K:W.Frag) {t T:String} (ht:t∈["int","str","bool","NoneType","list","tuple"]) (hT:T∈["int","str","bool","list","tuple"]):W.kitOne K (.type t) (.type T)=some (isiB t T):=by
 simp only [mem_cons,not_mem_nil,or_false] at ht hT;rcases ht with rfl | rfl | rfl | rfl | rfl | rfl <;> rcases hT with rfl | rfl | rfl | rfl | rfl <;> with_unfolding_all rfl
def rIsi (K:W.Frag):List V->Hp->VK->Prop:=fun xs H Q=>match xs with
 | [x, .ty T]=>T∈["int","str","bool","list","tuple"]/\∃ t,tyN K H x t/\Q (.bl (isiB t T)) H
 | _=>False
theorem Ja2:CallR X (.builtin "isinstance") (rIsi X.K):=fun g s σ H v n Q I r q=>by
 unfold rIsi at q;split at q
 ·rename_i x T;obtain ⟨e,t,d,q⟩:=q;obtain ⟨u,c,rfl,f,m⟩:=vals2 r;obtain rfl:c=Value.type T:=m;have b:∀ l,EP X g σ Q (.bool (isiB t T)) { s with toks:=l }:=fun l=>⟨V.bl _,H,I.tok l,rfl,q⟩;unfold tyN at d;split at d
  ·subst d;obtain ⟨_,rfl⟩:=f;exact W.kia_one W.kitx_int I.kIn True.intro (kit_b _ ⋯ e) (fun z=>nomatch z) b
  ·subst d;obtain ⟨_,rfl⟩:=f;exact W.kia_one W.kitx_str I.kIn True.intro (kit_b _ ⋯ e) (fun z=>nomatch z) b
  ·subst d;cases (show u=Value.bool _ from f);exact W.kia_one W.kitx_bool I.kIn True.intro (kit_b _ ⋯ e) (fun z=>nomatch z) b
  ·subst d;cases (show u=Value.none from f);exact W.kia_one W.kitx_none I.kIn True.intro (kit_b _ ⋯ e) (fun z=>nomatch z) b
  ·rename_i a;cases (show u=Value.ref a from f);rcases d with ⟨rfl,ys,h⟩ | ⟨rfl,ys,h⟩
   ·obtain ⟨i,_,p,_⟩:=I.list h;obtain ⟨o,_,j,k,_⟩:=p;exact W.kia_one W.kitx_list I.kIn ⟨o,j,k⟩ (kit_b _ ⋯ e) (fun z=>nomatch z) b
   ·obtain ⟨i,_,p,_⟩:=I.tuple h;obtain ⟨o,j,k,_⟩:=p;exact W.kia_one W.kitx_tuple I.kIn ⟨o,j,k⟩ (kit_b _ ⋯ e) (fun z=>nomatch z) b
  ·exact d.elim
 ·exact q.elim
variable {tg:Expr}
def iAny (K:W.Frag) (tl:TE):TI:=fun σ H R=>tl σ H fun x H1=>∃ a,x=.ref a/\(((∃ xs,SqL K H1 a xs)/\R (Itl K a) H1)\/((∃ xs,SqT K H1 a xs)/\R (Itt K a) H1))
theorem pi_U {l:Expr} {tl:TE} (hl:PE X l tl):PI X tg l (iAny X.K tl):=fun f s σ H R I h=>by
 refine thn (hl f s σ H _ I h) fun v c ζ=>?_;obtain ⟨x,i,I1,m,a,j,q⟩:=ζ;subst j;cases m;rcases q with ⟨⟨xs,hq⟩,q⟩ | ⟨⟨xs,hq⟩,q⟩
 ·obtain ⟨d,k,p,n⟩:=I1.list hq;refine wpAny_pyIter_list p.isList ?_;refine ⟨c.heap.objs.size,[c.heap.objs.size],_,_,i,rfl,I1.kept (t':=c.toks) fun b o e=>Heap.get?_push_of_some _ e,Ji7 a _,⟨_,Heap.get?_push_size _ rfl,rfl,rfl⟩,fun b g=>?_,q⟩;have e:b=c.heap.objs.size:=by simpa using g
  subst e;exact I1.fpOk (Nat.le_refl _) (I1.hok.fresh (Nat.le_refl _))
 ·obtain ⟨d,k,p,n⟩:=I1.tuple hq;refine wpAny_pyIter_tuple (show c.heap.IsTuple a d.toArray from p) ?_;refine ⟨c.heap.objs.size,[c.heap.objs.size],_,_,i,rfl,I1.kept (t':=c.toks) fun b o e=>Heap.get?_push_of_some _ e,JhQ a _,⟨_,Heap.get?_push_size _ rfl,rfl,rfl⟩,fun b g=>?_,q⟩;have e:b=c.heap.objs.size:=by simpa using g
  subst e;exact I1.fpOk (Nat.le_refl _) (I1.hok.fresh (Nat.le_refl _))
structure FunD (K:W.Frag) (x qual:Str) (st:Stmt) (dV:Value) (f:Addr) (fd:FuncData):Prop where
 ex:∃ (oc:Value) (od:Option Addr) (kV doc pm:Value) (an:Option Addr) (cdv ct:Value) (osl:Array (Option Value)),
  fd=W.fnOf x qual (Jam st) (Jak st) (Jac st) dV kV doc pm an cdv ct/\K.lookup f=some ⟨oc,od, .func fd,osl⟩/\W.codeIn K cdv qual=true
 kp:W.keepIn K (.ref f)=true
section
variable {mg:Str->Option Value} {K:W.Frag} {base:Heap} {x qual:Str} {st:Stmt} {dV:Value} {fd:FuncData} {N ps:List Str} {sp:Sp}
theorem FunD.okn {f:Addr} {k:Nat} (F:FunD K x qual st dV f fd) (S:Jao N ps (Jac st)) (len:∀ vs H Q E,sp vs H Q E->vs.length=ps.length)
  (hbody:∀ (cdv:Value) (A:Around) (outer:List Env) (s:Shared) (H:Hp) (vs:List V) (Q:VK) (E:XK),Room k (A.deeper (envOfC qual (Jac st) s.heap.objs.size f cdv))->sp vs H Q E ->
   ∃ t,PSs (cxOf (CX1 P w) P w K mg base N qual (Jac st) f cdv A outer s H E).nox (Jak st) t/\t { nx:=fun _ H'=>Q .non H',rt:=Q } (start N vs) H):FnOk P w K mg base (CX1 P w) (k+1) f fd ps sp:=by
 obtain ⟨j,g,kV,e,i,m,cdv,l,d,rfl,lk,b⟩:=F.ex;refine fn_of lk b S len fun A outer s H vs Q E c a=>?_;obtain ⟨t,h,q⟩:=hbody cdv A outer s H vs Q E c a;exact ⟨t,h.nox,q⟩
theorem FunD.okx {f:Addr} {k:Nat} (F:FunD K x qual st dV f fd) (S:Jao N ps (Jac st)) (len:∀ vs H Q E,sp vs H Q E->vs.length=ps.length)
  (hbody:∀ (cdv:Value) (A:Around) (outer:List Env) (s:Shared) (H:Hp) (vs:List V) (Q:VK) (E:XK),Room k (A.deeper (envOfC qual (Jac st) s.heap.objs.size f cdv))->sp vs H Q E ->
   ∃ t,PSs (cxOf (CX1 P w) P w K mg base N qual (Jac st) f cdv A outer s H E) (Jak st) t/\t { nx:=fun _ H'=>Q .non H',rt:=Q } (start N vs) H):FnOk P w K mg base (CX1 P w) (k+1) f fd ps sp:=by
 obtain ⟨g,i,kV,d,l,h,cdv,j,c,rfl,lk,a⟩:=F.ex;exact fn_of lk a S len fun A outer s H vs Q E e b=>hbody cdv A outer s H vs Q E e b
theorem FunD.binds {f:Addr} (F:FunD K x qual st dV f fd)
  (h:∀ (kV doc pm:Value) (an:Option Addr) (cdv ct:Value) (us:List Value),us.length=ps.length->bindArgs (W.fnOf x qual (Jam st) (Jak st) (Jac st) dV kV doc pm an cdv ct) ⟨us,[]⟩=pure (ps.zip us)):Binds K fd ps []:=by
 obtain ⟨c,d,kV,doc,pm,an,cdv,ct,a,rfl,lk,b⟩:=F.ex;exact .all (h kV doc pm an cdv ct)
theorem FunD.bindsD {T:Addr} {f:Addr} {o:Obj} {items:Array Value} (F:FunD K x qual st (.ref T) f fd) (hT:K.lookup T=some o) (hs:o.data=.seq items n) (ds:List Value)
  (h:∀ (kV doc pm:Value) (an:Option Addr) (cdv ct:Value) (us:List Value),(us++ds).length=ps.length->∃ k,bindArgs (W.fnOf x qual (Jam st) (Jak st) (Jac st) (.ref T) kV doc pm an cdv ct) ⟨us,[]⟩=seqItems? (.ref T) >>= k/\k (some items)=pure (ps.zip (us++ds))):Binds K fd ps ds:=by
 obtain ⟨i,g,kV,doc,pm,an,cdv,ct,b,rfl,lk,d⟩:=F.ex;intro s us X c;obtain ⟨k,a,e⟩:=h kV doc pm an cdv ct us c;exact BindsTo.of_defaults (T:=T) rfl (X _ _ hT) hs a e
theorem Jaq {f:Addr} {oc:Value} {od an:Option Addr} {osl:Array (Option Value)} {kV doc pm cdv ct:Value} (l:K.lookup f=some ⟨oc,od, .func (W.fnOf x qual (Jam st) (Jak st) (Jac st) dV kV doc pm an cdv ct),osl⟩)
  (c:W.codeIn K cdv qual=true) (k:W.keepIn K (.ref f)=true):FunD K x qual st dV f (W.fnOf x qual (Jam st) (Jak st) (Jac st) dV kV doc pm an cdv ct):=⟨⟨oc,od,kV,doc,pm,an,cdv,ct,osl,rfl,l,c⟩,k⟩
end
structure Cal (P:Program) (w:World) (K:W.Frag) (mg:Str->Option Value) (base:Heap) (k:Nat) (x:Str) (ps:List Str) (dvs:List V) (sp:Sp):Prop where
 ex:∃ (f:Addr) (fd:FuncData) (ds:List Value),FnOk P w K mg base (CX1 P w) k f fd ps sp/\mg x=some (.ref f)/\W.keepIn K (.ref f)=true/\Binds K fd ps ds/\Vals dvs ds
section
variable {k':Nat} {x:Str} {ps:List Str} {dvs:List V} {sp:Sp} {E:XK} {p:Pos} {e:Expr} {es:List Expr} {k:Nat} {t:TA}
theorem Cal.ev (G:Cal X.prog X.w X.K X.mg X.base k x ps dvs sp) (hr:Room k' X.A) (hk:k<=k') (hg:Gl X x) (hx:JbS (CX1 X.prog X.w) X E) (ha:PA X (e::es) t)
  (hdb:(x == ("__debug__" : Str))=false:=by decide) (he:starEach (e::es) X.env=(false,eval e X.env)::starEach es X.env:=by first|exact Jai rfl|rfl) (hpl:(backTo pos (starEach es X.env)).any (·.1)=false:=by rfl) :
  PE X (.Call (.Name x p) (e::es) [] pos) (tCall sp dvs E t):=by
 obtain ⟨f,h,g,F,c,a,b,d⟩:=G.ex;exact Jk5 F (hr.mono hk) hg c a b d hx ha hdb he hpl
theorem Cal.tr (G:Cal X.prog X.w X.K X.mg X.base k x ps dvs sp) (hr:Room k' X.A) (hk:k<=k') (hg:Gl X x) (ha:PA X.nox (e::es) t)
  (hdb:(x == ("__debug__" : Str))=false:=by decide) (he:starEach (e::es) X.env=(false,eval e X.env)::starEach es X.env:=by rfl) (hpl:(backTo pos (starEach es X.env)).any (·.1)=false:=by rfl) :
  PEx X (.Call (.Name x p) (e::es) [] pos) (xCall sp dvs t):=by
 obtain ⟨f,h,g,F,c,a,b,d⟩:=G.ex;exact JjJ F (hr.mono hk) hg c a b d ha hdb he hpl
end
end L2
namespace Mth
def g (a b:Int):Int:=(Int.gcd a b:Nat)
theorem JlC (a:Int):g a 0=(a.natAbs:Int):=by unfold g;rw [Int.gcd_zero_right]
theorem g_pos {a b:Int} (h:b≠0):0<g a b:=by
 unfold g;exact Int.natCast_pos.mpr (Int.gcd_pos_of_ne_zero_right a h)
theorem JdY (a b:Int):g a b∣a:=Int.gcd_dvd_left ..
theorem Jc8 (a b:Int):g a b∣b:=Int.gcd_dvd_right ..
theorem JlB (a b:Int):g b (a % b)=g a b:=by
 unfold g;rw [Int.gcd_comm b (a % b)];first
  | rw [Int.gcd_emod_left]
  | (rw [Int.emod_def];simp [Int.gcd_comm])
theorem Bcm (a b:Int):g (if a<0 then -a else a) (if b<0 then -b else b)=g a b:=by
 unfold g;split <;> split <;> simp [Int.neg_gcd,Int.gcd_neg]
theorem Jj6 (a:Int):0<=(if a<0 then -a else a):=by split <;> ac_nf
theorem g_le {a b:Int} (h:b≠0):g a b<=(b.natAbs:Int):=by
 unfold g;exact Int.ofNat_le.mpr (Nat.le_of_dvd ∅ (Int.natAbs_dvd_natAbs.mpr (by simpa using Int.gcd_dvd_right (a:=a) (b:=b)) |> fun z=>by simpa using z))
theorem fm {x y:Int} (h:0<y):0<=x.fmod y/\x.fmod y<y:=by
 rw [Int.fmod_eq_emod_of_nonneg _ ∅];exact ⟨Int.emod_nonneg _ ∅,Int.emod_lt_of_pos _ h⟩
theorem JkM {x y:Int} (h:0<y):g y (x.fmod y)=g x y:=by
 rw [Int.fmod_eq_emod_of_nonneg _ ∅];exact JlB x y
def by_ (t b:Int):Int:=if b<0 then -(g t b) else g t b
def top (t b:Int):Int:=t.fdiv (by_ t b)
def bot (t b:Int):Int:=b.fdiv (by_ t b)
theorem by_ne {t b:Int} (h:b≠0):by_ t b≠0:=by
 have:=g_pos (a:=t) h;unfold by_;split <;> ac_nf
theorem JkE (t b:Int):by_ t b∣t:=by
 unfold by_;split
 ·exact Int.neg_dvd.mpr (JdY t b)
 ·exact JdY t b
theorem JkF (t b:Int):by_ t b∣b:=by
 unfold by_;split
 ·exact Int.neg_dvd.mpr (Jc8 t b)
 ·exact Jc8 t b
theorem Jbj {a d:Int} (h:d∣a) (hd:d≠0):a.fdiv d*d=a:=by
 obtain ⟨k,rfl⟩:=h;rw [Int.mul_comm d k,Int.mul_fdiv_cancel _ hd]
theorem JgX {t b:Int} (h:b≠0):top t b*by_ t b=t:=Jbj (JkE t b) (by_ne h)
theorem JeX {t b:Int} (h:b≠0):bot t b*by_ t b=b:=Jbj (JkF t b) (by_ne h)
theorem JbJ {t b:Int} (h:b≠0):1<=bot t b:=by
 have c:=JeX (t:=t) h;have f:=g_pos (a:=t) h;by_cases d:b<0
 ·have e:by_ t b = -(g t b):=by unfold by_;rw [if_pos d]
  rw [e] at c;have i:bot t b*g t b = -b:=by rw [Int.mul_neg] at c;ac_nf
  rcases Int.lt_trichotomy (bot t b) 0 with z | z | z
  ·have:=Int.mul_neg_of_neg_of_pos z f;ac_nf
  ·rw [z] at i;ac_nf
  ·ac_nf
 ·have e:by_ t b=g t b:=by unfold by_;rw [if_neg d]
  rw [e] at c;rcases Int.lt_trichotomy (bot t b) 0 with z | z | z
  ·have:=Int.mul_neg_of_neg_of_pos z f;ac_nf
  ·rw [z] at c;ac_nf
  ·ac_nf
theorem cross {t b:Int} (h:b≠0):top t b*b=t*bot t b:=by
 have a:=JgX (t:=t) h;have c:=JeX (t:=t) h
 calc top t b*b=top t b*(bot t b*by_ t b):=by rw [c]
  _=(top t b*by_ t b)*bot t b:=by rw [Int.mul_comm (bot t b),Int.mul_assoc]
  _=t*bot t b:=by rw [a]
theorem Jiy (t b:Int):(by_ t b).natAbs=Int.gcd t b:=by
 unfold by_ g;split <;> simp
theorem g_low {t b:Int} (h:b≠0):g (top t b) (bot t b)=1:=by
 have a:0<Int.gcd t b:=Int.gcd_pos_of_ne_zero_right t h;have e:Int.gcd (top t b*by_ t b) (bot t b*by_ t b)=Int.gcd (top t b) (bot t b)*(by_ t b).natAbs:=Int.gcd_mul_right ..;rw [JgX h,JeX h,Jiy] at e;have : Int.gcd (top t b) (bot t b)=1:=by
  rcases Nat.lt_trichotomy (Int.gcd (top t b) (bot t b)) 1 with z | z | z
  ·have : Int.gcd (top t b) (bot t b)=0:=by ac_nf
   rw [this] at e;ac_nf
  ·exact z
  ·have:=Nat.mul_le_mul_right (Int.gcd t b) z;ac_nf
 unfold g;rw [this];rfl
theorem JeJ {a b d:Int} (g1:Int.gcd a b=1) (h:b∣a*d):b∣d:=by
 have e:b.natAbs∣a.natAbs*d.natAbs:=by rw [<- Int.natAbs_mul];exact Int.natAbs_dvd_natAbs.mpr h
 have c:Nat.Coprime b.natAbs a.natAbs:=by
  unfold Nat.Coprime;rw [Nat.gcd_comm];exact g1
 exact Int.natAbs_dvd_natAbs.mp (c.dvd_of_dvd_mul_left e)
theorem Jdl {a b c d:Int} (hb:1<=b) (hd:1<=d) (h1:g a b=1) (h2:g c d=1) (e:a*d=c*b):a=c/\b=d:=by
 have i:Int.gcd a b=1:=by unfold g at h1;ac_nf
 have f:Int.gcd c d=1:=by unfold g at h2;ac_nf
 have k:b∣d:=by
  have : b∣a*d:=⟨c,by rw [e,Int.mul_comm]⟩;exact JeJ i this
 have h:d∣b:=by
  have : d∣c*b:=⟨a,by rw [<- e,Int.mul_comm]⟩;exact JeJ f this
 have j:b=d:=Int.dvd_antisymm ∅ ∅ k h;subst j;refine ⟨?_,rfl⟩;exact Int.eq_of_mul_eq_mul_right ∅ e
theorem Jme {t b:Int} (h:b≠0):(top t b).natAbs<=t.natAbs:=by
 have c:=JgX (t:=t) h;have d:(by_ t b).natAbs≠0:=by have:=by_ne (t:=t) h;ac_nf
 have a:=congrArg Int.natAbs c;rw [Int.natAbs_mul] at a;rw [<- a];exact Nat.le_mul_of_pos_right _ ∅
theorem bot_le {t b:Int} (h:b≠0):(bot t b).natAbs<=b.natAbs:=by
 have c:=JeX (t:=t) h;have d:(by_ t b).natAbs≠0:=by have:=by_ne (t:=t) h;ac_nf
 have a:=congrArg Int.natAbs c;rw [Int.natAbs_mul] at a
 calc (bot t b).natAbs<=(bot t b).natAbs*(by_ t b).natAbs:=Nat.le_mul_of_pos_right _ ∅
  _=b.natAbs:=a
theorem JkV {n k:Nat} (h:n<2 ^ k) (hk:k<9000):n.log2<9000:=by
 by_cases z:n=0
 ·rw [z];decide
 ·exact Nat.lt_trans ((Nat.log2_lt z).mpr h) hk
def Sz (n:Nat) (i:Int):Prop:=i.natAbs<2 ^ n
theorem Sz.mono {m n:Nat} {i:Int} (h:Sz m i) (k:m<=n):Sz n i:=Nat.lt_of_lt_of_le h (Nat.pow_le_pow_right ⋯ k)
theorem Sz.mul {m n:Nat} {i j:Int} (h:Sz m i) (k:Sz n j):Sz (m+n) (i*j):=by
 unfold Sz at *;rw [Int.natAbs_mul,Nat.pow_add];exact Nat.mul_lt_mul'' h k
theorem Sz.add {n:Nat} {i j:Int} (h:Sz n i) (k:Sz n j):Sz (n+1) (i+j):=by
 unfold Sz at *;have:=Int.natAbs_add_le i j;rw [Nat.pow_succ];ac_nf
theorem Sz.neg {n:Nat} {i:Int} (h:Sz n i):Sz n (-i):=by
 unfold Sz at *;rw [Int.natAbs_neg];exact h
theorem Sz.sub {n:Nat} {i j:Int} (h:Sz n i) (k:Sz n j):Sz (n+1) (i-j):=by
 rw [Int.sub_eq_add_neg];exact h.add k.neg
theorem Sz.top {n:Nat} {t b:Int} (hb:b≠0) (h:Sz n t):Sz n (Mth.top t b):=Nat.lt_of_le_of_lt (Jme hb) h
theorem Sz.bot {n:Nat} {t b:Int} (hb:b≠0) (h:Sz n b):Sz n (Mth.bot t b):=Nat.lt_of_le_of_lt (bot_le hb) h
theorem Sz.lit {n:Nat} {i:Int} (h1 : -(2 ^ n)<i) (h2:i<2 ^ n):Sz n i:=by
 unfold Sz;have e:((2 ^ n:Nat):Int)=2 ^ n:=by simp
 ac_nf
end Mth
namespace Mth
theorem Jg9 {a b:Int} (h:g a b=1):Int.gcd a b=1:=by unfold g at h;ac_nf
theorem Jjn {a b:Int} (h:Int.gcd a b=1):g a b=1:=by unfold g;rw [h];rfl
theorem Je0 {t x y:Int} (h1:Int.gcd t x=1) (h2:Int.gcd t y=1):Int.gcd t (x*y)=1:=by
 unfold Int.gcd at *;rw [Int.natAbs_mul];exact Nat.Coprime.mul_right h1 h2
theorem JeH {x y:Int} (h:∀ k:Int,k∣x->k∣y->k∣1):Int.gcd x y=1:=by
 have:=h (Int.gcd x y:Nat) (Int.gcd_dvd_left ..) (Int.gcd_dvd_right ..);have z:=Int.natAbs_dvd_natAbs.mpr this;simp at z;exact z
theorem JeK {k x y:Int} (h:Int.gcd x y=1) (h1:k∣x) (h2:k∣y):k∣1:=by
 have z:=Int.dvd_coe_gcd h1 h2;rw [h] at z;exact z
theorem Je1 {t u x:Int} (h:Int.gcd t x=1) (d:u∣t):Int.gcd u x=1:=JeH fun k a b=>JeK h (Int.dvd_trans a d) b
theorem Jch {x y:Int} (h:Int.gcd x y=1):Int.gcd y x=1:=by rw [Int.gcd_comm];exact h
theorem Jh3 {a b c d:Int} (h1:Int.gcd a b=1) (h2:Int.gcd d b=1):Int.gcd (a*d+c*b) b=1:=by
 have : Int.gcd b (a*d)=1:=Je0 (Jch h1) (Jch h2);refine JeH fun k g f=>JeK this f ?_;have : k∣(a*d+c*b)-c*b:=Int.dvd_sub g (Int.dvd_mul_of_dvd_right f);have e:(a*d+c*b)-c*b=a*d:=by ac_nf
 rwa [e] at this
theorem JdI {a d:Int} (h:d∣a) (hd:1<=d) (ha:1<=a):1<=a.fdiv d:=by
 have e:=Jbj h ∅;rcases Int.lt_trichotomy (a.fdiv d) 0 with z | z | z
 ·have:=Int.mul_neg_of_neg_of_pos z (show 0<d by ac_nf);ac_nf
 ·rw [z] at e;ac_nf
 ·ac_nf
theorem Jg2 {b d s:Int} (hs:s=g b d) (p:1<=s):Int.gcd (b.fdiv s) (d.fdiv s)=1:=by
 have c:b.fdiv s*s=b:=Jbj (by rw [hs];exact JdY ..) ∅;have a:d.fdiv s*s=d:=Jbj (by rw [hs];exact Jc8 ..) ∅;have e:Int.gcd (b.fdiv s*s) (d.fdiv s*s)=Int.gcd (b.fdiv s) (d.fdiv s)*s.natAbs:=Int.gcd_mul_right ..;rw [c,a] at e;have f:Int.gcd b d=s.natAbs:=by rw [hs];unfold g;simp
 rw [f] at e;rcases Nat.lt_trichotomy (Int.gcd (b.fdiv s) (d.fdiv s)) 1 with z | z | z
 ·have : Int.gcd (b.fdiv s) (d.fdiv s)=0:=by ac_nf
  rw [this] at e;ac_nf
 ·exact z
 ·have:=Nat.mul_le_mul_right s.natAbs z;ac_nf
theorem Jlc {a b c d:Int} (hb:1<=b) (hd:1<=d) (h1:g a b=1) (h2:g c d=1) {s t r:Int} (hs:s=g b d) (ht:t=a*d.fdiv s+c*b.fdiv s) (hr:r=g t s) :
  t.fdiv r=top (a*d+c*b) (b*d)/\b.fdiv s*d.fdiv r=bot (a*d+c*b) (b*d):=by
 have m:1<=s:=by rw [hs];have:=g_pos (a:=b) (b:=d) ∅;ac_nf
 have x:1<=r:=by rw [hr];have:=g_pos (a:=t) (b:=s) ∅;ac_nf
 have A:s∣b:=by rw [hs];exact JdY ..
 have u:s∣d:=by rw [hs];exact Jc8 ..
 have E:r∣t:=by rw [hr];exact JdY ..
 have w:r∣s:=by rw [hr];exact Jc8 ..
 have B:r∣d:=Int.dvd_trans w u;have o:=Jbj A ∅;have p:=Jbj u ∅;have z:=Jbj E ∅;have y:=Jbj B ∅;have K:=Jbj w ∅;have N:=JdI A m hb;have M:=JdI u m hd;have H:=JdI B x hd;have i:=Jg2 hs m;have l:Int.gcd (t.fdiv r) (s.fdiv r)=1:=Jg2 hr x;have n:d.fdiv r=d.fdiv s*s.fdiv r:=by
  refine Int.eq_of_mul_eq_mul_right (a:=r) ∅ ?_;rw [y,Int.mul_assoc,K,p]
 have D:Int.gcd a (b.fdiv s)=1:=Jch (Je1 (Jch (Jg9 h1)) ⟨s,o.symm⟩);have G:Int.gcd c (d.fdiv s)=1:=Jch (Je1 (Jch (Jg9 h2)) ⟨s,p.symm⟩);have C:Int.gcd t (b.fdiv s)=1:=by rw [ht];exact Jh3 D (Jch i)
 have I:Int.gcd t (d.fdiv s)=1:=by rw [ht,Int.add_comm];exact Jh3 G i
 have j:g (t.fdiv r) (b.fdiv s*d.fdiv r)=1:=Jjn (by
  rw [n];have k:t.fdiv r∣t:=⟨r,z.symm⟩;exact Je0 (Je1 C k) (Je0 (Je1 I k) l))
 have e:b*d≠0:=Int.mul_ne_zero ∅ ∅;have h:=g_low (t:=a*d+c*b) e;have f:=JbJ (t:=a*d+c*b) e;have v:=cross (t:=a*d+c*b) e;have q:1<=b.fdiv s*d.fdiv r:=by
  have:=Int.mul_pos (show 0<b.fdiv s by ac_nf) (show 0<d.fdiv r by ac_nf);ac_nf
 have J:t*s=a*d+c*b:=by
  rw [ht,Int.add_mul,Int.mul_assoc,Int.mul_assoc,p,o]
 have L:t.fdiv r*(b*d)=(a*d+c*b)*(b.fdiv s*d.fdiv r):=by
  have F:(t.fdiv r*(b*d))*r=((a*d+c*b)*(b.fdiv s*d.fdiv r))*r:=by
   calc (t.fdiv r*(b*d))*r=(t.fdiv r*r)*(b*d):=by ac_rfl
    _=t*((b.fdiv s*s)*d):=by rw [z,o]
    _=(t*s)*(b.fdiv s*d):=by ac_rfl
    _=(a*d+c*b)*(b.fdiv s*(d.fdiv r*r)):=by rw [J,y]
    _=((a*d+c*b)*(b.fdiv s*d.fdiv r))*r:=by ac_rfl
  exact Int.eq_of_mul_eq_mul_right ∅ F
 refine Jdl q f j h ?_;refine Int.eq_of_mul_eq_mul_right (a:=b*d) e ?_
 calc (t.fdiv r*bot (a*d+c*b) (b*d))*(b*d)=(t.fdiv r*(b*d))*bot (a*d+c*b) (b*d):=by ac_rfl
  _=((a*d+c*b)*bot (a*d+c*b) (b*d))*(b.fdiv s*d.fdiv r):=by rw [L];ac_rfl
  _=(top (a*d+c*b) (b*d)*(b*d))*(b.fdiv s*d.fdiv r):=by rw [v]
  _=(top (a*d+c*b) (b*d)*(b.fdiv s*d.fdiv r))*(b*d):=by ac_rfl
theorem JkL {a d:Int} (h:d∣a) (hd:1<=d):(a.fdiv d).natAbs<=a.natAbs:=by
 have e:=congrArg Int.natAbs (Jbj h (show d≠0 by ac_nf));rw [Int.natAbs_mul] at e
 calc (a.fdiv d).natAbs<=(a.fdiv d).natAbs*d.natAbs:=Nat.le_mul_of_pos_right _ ∅
  _=a.natAbs:=e
theorem Sz.fdiv {n:Nat} {a d:Int} (h:Sz n a) (k:d∣a) (hd:1<=d):Sz n (a.fdiv d):=Nat.lt_of_le_of_lt (JkL k hd) h
theorem g_neg {a b:Int}:g (-a) b=g a b:=by unfold g;simp [Int.neg_gcd]
end Mth
namespace Mth
end Mth
namespace L2
open PySem PySem.Spec PyProof.Rows
section
variable {σ:St} {H:Hp} {Q:VK} {u:TS} {ta tb te:TE} {tA:TA} {r:R2} {E:XK} {sp:Sp} {D:Ends} {t:TS} {g:TG} {K:W.Frag}
theorem y8by:tSeq t u D σ H=t { D with nx:=u D } σ H:=rfl
theorem y78y:tNext D σ H=D.nx σ H:=rfl
theorem y2by:tAsg te g D σ H=te σ H fun x H1=>g x σ H1 D.nx:=rfl
variable {i:Nat} {v:V}
theorem y73y {R:St->Hp->Prop}:gName i v σ H R=R (σ.set i (some v)) H:=rfl
theorem y87y:tRet te D σ H=te σ H D.rt:=rfl
theorem y88y:tRetN D σ H=D.rt .non H:=rfl
theorem y49y:tDrop te D σ H=te σ H fun _ H1=>D.nx σ H1:=rfl
theorem y2fy:tC v σ H Q=Q v H:=rfl
theorem y7fy:tOp r ta tb σ H Q=ta σ H fun x H1=>tb σ H1 fun y H2=>r x y H2 Q:=rfl
theorem y9ey {f:V->Hp->VK->Prop}:tUn f ta σ H Q=ta σ H fun x H1=>f x H1 Q:=rfl
theorem y31y {f:List V->Hp->VK->Prop}:tCB f tA σ H Q=tA σ H fun vs H1=>f vs H1 Q:=rfl
variable {R:List V->Hp->Prop}
theorem y3ey:tCons ta tA σ H R=ta σ H fun x H1=>tA σ H1 fun xs H2=>R (x::xs) H2:=rfl
theorem y79y:tNil σ H R=R [] H:=rfl
variable {dvs:List V}
theorem y30y:tCall sp dvs E tA σ H Q=tA σ H fun vs H1=>sp (vs++dvs) H1 Q E:=rfl
variable {R:Bool->Hp->Prop}
theorem y92y:tTest te σ H R=te σ H fun x H'=>∃ k,x=.bl k/\R k H':=rfl
theorem y23y:tB te σ H R=te σ H fun x H'=>∃ k,x=.bl k/\R k H':=rfl
variable {a b:TT}
theorem y29y:tAnd a b σ H R=a σ H fun c H1=>if c=true then b σ H1 R else R false H1:=rfl
theorem y80y:tOr a b σ H R=a σ H fun c H1=>if c=true then R true H1 else b σ H1 R:=rfl
theorem y7by:tNot a σ H R=a σ H fun c H1=>R (!c) H1:=rfl
theorem y2ay:tAndV ta tb σ H Q=ta σ H fun x H1=>∃ c,x=.bl c/\if c=true then tb σ H1 Q else Q (.bl false) H1:=rfl
theorem y81y:tOrV ta tb σ H Q=ta σ H fun x H1=>∃ c,x=.bl c/\if c=true then Q (.bl true) H1 else tb σ H1 Q:=rfl
theorem y7dy:tNotV ta σ H Q=ta σ H fun x H1=>∃ c,x=.bl c/\Q (.bl (!c)) H1:=rfl
theorem y60y {c:TT}:tIfS c t u D σ H=c σ H fun b H1=>if b=true then t D σ H1 else u D σ H1:=rfl
theorem ya0y:tVar i σ H Q=∃ v,σ[i]?=some (some v)/\Q v H:=rfl
theorem y26y {i j:Int}:rAddU K (.int i) (.int j) H Q=Q (.int (i+j)) H:=rfl
theorem y27y {i j:Str}:rAddU K (.str i) (.str j) H Q=(i.length+j.length<=sizeLine/\Q (.str (i++j)) H):=rfl
variable {i j:Int}
theorem y90y {f:Int->Int->V}:rI0 f (.int i) (.int j) H Q=Q (f i j) H:=by
 unfold rI0;simp
theorem y77y {f:Int->V}:rU f (.int i) H Q=Q (f i) H:=by
 unfold rU;simp
theorem y70y:rMulU (.int i) (.int j) H Q=(IntMulOk i j/\Q (.int (i*j)) H):=rfl
theorem y4ey:JiR (.int i) (.int j) H Q=(DivOk j/\Q (.int (i.fdiv j)) H):=rfl
theorem y6fy:rModU (.int i) (.int j) H Q=(j≠0/\Q (.int (i.fmod j)) H):=rfl
theorem y84y:rPowU (.int i) (.int j) H Q=(CPow i j/\Q (.int (i ^ j.toNat)) H):=rfl
theorem y34y {p:Int->Int->Bool}:rCmpU p (.int i) (.int j) H Q=Q (.bl (p i j)) H:=rfl
theorem y4cy:rEqU K (.int i) (.int j) H Q=Q (.bl (decide (i=j))) H:=rfl
theorem y75y:rNeU K (.int i) (.int j) H Q=Q (.bl (!decide (i=j))) H:=rfl
variable {i j:Str}
theorem y4dy:rEqU K (.str i) (.str j) H Q=Q (.bl (decide (i=j))) H:=rfl
theorem y76y:rNeU K (.str i) (.str j) H Q=Q (.bl (!decide (i=j))) H:=rfl
variable {i j:Bool}
theorem y4by:rEqU K (.bl i) (.bl j) H Q=Q (.bl (decide (i=j))) H:=rfl
theorem y74y:rNeU K (.bl i) (.bl j) H Q=Q (.bl (!decide (i=j))) H:=rfl
theorem y99y:tTup tA σ H Q=tA σ H fun xs H1=>xs.length<=sizeLine/\∀ p,H1 p=none->Q (.ref p) (upd H1 p (.tup xs)):=rfl
theorem y6ay:tLst tA σ H Q=tA σ H fun xs H1=>xs.length<=sizeLine/\∀ p,H1 p=none->Q (.ref p) (upd H1 p (.lst xs)):=rfl
variable {x:V} {T:String}
theorem y66y:rIsi K [x, .ty T] H Q=(T∈["int","str","bool","list","tuple"]/\∃ t,tyN K H x t/\Q (.bl (isiB t T)) H):=rfl
variable {i:Int}
theorem y25y:rAbs [.int i] H Q=Q (.int (if i<0 then -i else i)) H:=rfl
variable {j:Int}
theorem y6ey:rMin [.int i, .int j] H Q=Q (.int (if j<i then j else i)) H:=rfl
variable {s:String}
theorem y9by:tyN K H (.int i) s=(s="int"):=rfl
theorem y9dy {i:Str}:tyN K H (.str i) s=(s="str"):=rfl
theorem y9ay {i:Bool}:tyN K H (.bl i) s=(s="bool"):=rfl
theorem y9cy:tyN K H .non s=(s="NoneType"):=rfl
end
theorem Jj9:bootBuiltins "abs"=some (.builtin "abs"):=by decide +kernel
theorem Jbw:bootBuiltins "len"=some (.builtin "len"):=by decide +kernel
theorem Jlw:bootBuiltins "max"=some (.builtin "max"):=by decide +kernel
theorem Jcv:bootBuiltins "sorted"=some (.builtin "sorted"):=by decide +kernel
theorem Jbq:bootBuiltins "isinstance"=some (.builtin "isinstance"):=by decide +kernel
theorem Jlv:bootBuiltins "all"=some (.builtin "all"):=by decide +kernel
theorem JhY:bootBuiltins "int"=some (.type "int"):=by decide +kernel
theorem Jlx:bootBuiltins "str"=some (.type "str"):=by decide +kernel
theorem JkD:bootBuiltins "bool"=some (.type "bool"):=by decide +kernel
theorem Jgl:bootBuiltins "list"=some (.type "list"):=by decide +kernel
theorem Jg0:bootBuiltins "tuple"=some (.type "tuple"):=by decide +kernel
theorem JhX:bootBuiltins "dict"=some (.type "dict"):=by decide +kernel
theorem JdS:bootBuiltins "reversed"=some (.type "reversed"):=by decide +kernel
theorem Jka:bootBuiltins "set"=some (.type "set"):=by decide +kernel
theorem yby:isiB "int" "int"=true:=by decide
theorem ydy:isiB "int" "str"=false:=by decide
theorem yay:isiB "int" "bool"=false:=by decide
theorem ycy:isiB "int" "list"=false:=by decide
theorem yey:isiB "int" "tuple"=false:=by decide
theorem y15y:isiB "str" "int"=false:=by decide
theorem y17y:isiB "str" "str"=true:=by decide
theorem y14y:isiB "str" "bool"=false:=by decide
theorem y16y:isiB "str" "list"=false:=by decide
theorem y18y:isiB "str" "tuple"=false:=by decide
theorem y6y:isiB "bool" "int"=true:=by decide
theorem y8y:isiB "bool" "str"=false:=by decide
theorem y5y:isiB "bool" "bool"=true:=by decide
theorem y7y:isiB "bool" "list"=false:=by decide
theorem y9y:isiB "bool" "tuple"=false:=by decide
theorem y1y:isiB "NoneType" "int"=false:=by decide
theorem y3y:isiB "NoneType" "str"=false:=by decide
theorem y0y:isiB "NoneType" "bool"=false:=by decide
theorem y2y:isiB "NoneType" "list"=false:=by decide
theorem y4y:isiB "NoneType" "tuple"=false:=by decide
theorem y10y:isiB "list" "int"=false:=by decide
theorem y12y:isiB "list" "str"=false:=by decide
theorem yfy:isiB "list" "bool"=false:=by decide
theorem y11y:isiB "list" "list"=true:=by decide
theorem y13y:isiB "list" "tuple"=false:=by decide
theorem y1ay:isiB "tuple" "int"=false:=by decide
theorem y1cy:isiB "tuple" "str"=false:=by decide
theorem y19y:isiB "tuple" "bool"=false:=by decide
theorem y1by:isiB "tuple" "list"=false:=by decide
theorem y1dy:isiB "tuple" "tuple"=true:=by decide
theorem y1fy:("int"∈["int","str","bool","list","tuple"])=True:=by simp
theorem y21y:("str"∈["int","str","bool","list","tuple"])=True:=by simp
theorem y1ey:("bool"∈["int","str","bool","list","tuple"])=True:=by simp
theorem y20y:("list"∈["int","str","bool","list","tuple"])=True:=by simp
theorem y22y:("tuple"∈["int","str","bool","list","tuple"])=True:=by simp
variable {P:Program} {w:World} {scope:Scope} {A:Around} {s:Shared} {H:Hp}
theorem y24y {CX:CXT} {K:W.Frag} {mg:Str->Option Value} {base:Heap} {N:List Str} {qual:Str} {f:Addr} {cd:Value} {outer:List Env} {E:XK}:(cxOf CX P w K mg base N qual scope f cd A outer s H E).K=K:=rfl
def ForR (lo:Int) (n:Nat) (g:TG) (tb:TS) (D:Ends) (σ : St) (H:Hp):Prop:=∃ W:Nat->Nat->St->Hp->Prop,(∃ m,W 0 m σ H)/\∀ i m σ H,W i m σ H ->
 ((Itr lo n).stop i H/\D.nx σ H)\/((Itr lo n).go i H/\∃ N:St->Hp->Prop,(∀ σ' H',N σ' H'->∃ m',m'<m/\W (i+1) m' σ' H')/\∀ x H',(Itr lo n).yld i H x H'->g x σ H' fun σ2 H2=>tb { D with nx:=N,ct:=N,bk:=D.nx } σ2 H2)
def ForA (K:W.Frag) (a:Addr) (g:TG) (tb:TS) (D:Ends) (σ : St) (H:Hp):Prop :=
 ((∃ xs,SqL K H a xs)/\∃ W:Nat->Nat->St->Hp->Prop,(∃ m,W 0 m σ H)/\∀ i m σ H,W i m σ H ->
  ((Itl K a).stop i H/\D.nx σ H)\/((Itl K a).go i H/\∃ N:St->Hp->Prop,(∀ σ' H',N σ' H'->∃ m',m'<m/\W (i+1) m' σ' H')/\∀ x H',(Itl K a).yld i H x H'->g x σ H' fun σ2 H2=>tb { D with nx:=N,ct:=N,bk:=D.nx } σ2 H2)) \/
 ((∃ xs,SqT K H a xs)/\∃ W:Nat->Nat->St->Hp->Prop,(∃ m,W 0 m σ H)/\∀ i m σ H,W i m σ H ->
  ((Itt K a).stop i H/\D.nx σ H)\/((Itt K a).go i H/\∃ N:St->Hp->Prop,(∀ σ' H',N σ' H'->∃ m',m'<m/\W (i+1) m' σ' H')/\∀ x H',(Itt K a).yld i H x H'->g x σ H' fun σ2 H2=>tb { D with nx:=N,ct:=N,bk:=D.nx } σ2 H2))
variable {ta:TA} {tb:TS} {σ:St}
theorem y52y {g:TG} {D:Ends}:tFor (iRng1 ta) g tb D σ H=ta σ H fun vs H1=>∃ j:Int,vs=[.int j]/\-(2 ^ 62)<=j/\j<2 ^ 62/\ForR 0 j.toNat g tb D σ H1:=rfl
theorem y53y {g:TG} {D:Ends}:tFor (iRng2 ta) g tb D σ H=ta σ H fun vs H1=>∃ i j:Int,vs=[.int i, .int j]/\(-(2 ^ 62)<=i/\i<2 ^ 62/\-(2 ^ 62)<=j/\j<2 ^ 62)/\ForR i (j-i).toNat g tb D σ H1:=rfl
theorem y54y {K:W.Frag} {tl:TE} {g:TG} {D:Ends}:tFor (iAny K tl) g tb D σ H=tl σ H fun x H1=>∃ a,x=.ref a/\ForA K a g tb D σ H1:=rfl
variable {n:Nat}
theorem ForR.by {lo:Int} {g:TG} {D:Ends} (Pv:Nat->St->Hp->Prop) (h0:Pv 0 σ H)
  (hs:∀ i σ H,i<n->Pv i σ H->g (.int (lo+i)) σ H fun σ2 H2=>tb { D with nx:=Pv (i+1),ct:=Pv (i+1),bk:=D.nx } σ2 H2) (hd:∀ σ H,Pv n σ H->D.nx σ H):ForR lo n g tb D σ H:=Jil Pv h0 hs hd
variable {o:HO}
theorem Jiz {R:V->Hp->Prop} (h:∀ p H1,Same H H1->H1 p=some o->R (.ref p) H1):∀ p,H p=none->R (.ref p) (upd H p o):=fun p a=>
 h p _ (fun b u q=>by rw [Jah (Jae q a)];exact q) Jas
variable {H':Hp} {p:Addr}
theorem newS (h:H p=none) (e:upd H p o=H'):Same H H':=fun b u q=>by rw [<- e,Jah (Jae q h)];exact q
theorem newE (e:upd H p o=H'):H' p=some o:=by rw [<- e,Jas]
variable {i:Int}
theorem Jgk (h:Mth.Sz n i):Builtin.Int.intBits i<=n:=by
 unfold Builtin.Int.intBits;split
 ·exact Nat.zero_le _
 ·rename_i z;have : i.natAbs.log2<n:=(Nat.log2_lt (by simpa using z)).mpr h;ac_nf
variable {j:Int}
theorem mulOk {m:Nat} (h:Mth.Sz m i) (k:Mth.Sz n j) (hm:m<=2 ^ 20:=by decide) (hn:n<=2 ^ 20:=by decide):IntMulOk i j:=IntMulOk.of_bits (Nat.le_trans (Jgk h) hm) (Nat.le_trans (Jgk k) hn)
theorem JlP (h:Mth.Sz 64 j):IntMulOk i j:=IntMulOk.of_right (Jgk h)
theorem divOk (h:j≠0) (k:Mth.Sz n j) (hn:n<9000:=by decide):DivOk j:=⟨h,Mth.JkV k hn⟩
theorem len0:([]:List V).length<=sizeLine:=by decide
variable {a b:V}
theorem len2:[a,b].length<=sizeLine:=by show 2<=sizeLine;decide
variable {c d:V}
theorem len4:[a,b,c,d].length<=sizeLine:=by show 4<=sizeLine;decide
theorem len5 {e:V}:[a,b,c,d,e].length<=sizeLine:=by show 5<=sizeLine;decide
theorem Jbr (h:decide (j≠0/\j.natAbs<2 ^ 64)=true):DivOk j:=by
 have z:=of_decide_eq_true h;exact divOk z.1 (n:=64) z.2
theorem Jbs (h:decide (j.natAbs<2 ^ 64)=true):IntMulOk i j:=by
 have z:j.natAbs<2 ^ 64:=of_decide_eq_true h;exact JlP z
def FrV (K:W.Frag) (H:Hp) (v:V) (a b:Int):Prop:=∃ p,v=.ref p/\SqT K H p [.int a, .int b]
variable {v:V} {a b:Int}
theorem FrV.same {K:W.Frag} (S:Same H H') (h:FrV K H v a b):FrV K H' v a b:=by
 obtain ⟨p,e,q⟩:=h;exact ⟨p,e,q.same S⟩
theorem FrV.of {K:W.Frag} (h:H p=some (.tup [.int a, .int b])):FrV K H (.ref p) a b:=⟨p,rfl,SqT.of h⟩
variable {x:V} {r:List V} {Q:VK}
theorem ixT0 {K:W.Frag} (h:SqT K H p (x::r)) (q:Q x H):rIxU K (.ref p) (.int 0) H Q:=⟨_,x, .inr h,JdQ (j:=0) rfl,q⟩
variable {y:V}
theorem ixT1 {K:W.Frag} (h:SqT K H p (x::y::r)) (q:Q y H):rIxU K (.ref p) (.int 1) H Q:=⟨_,y, .inr h,JdQ (j:=1) rfl,q⟩
theorem ixF0 {K:W.Frag} (h:FrV K H v a b) (q:Q (.int a) H):rIxU K v (.int 0) H Q:=by
 obtain ⟨p,rfl,z⟩:=h;exact ixT0 z q
theorem ixF1 {K:W.Frag} (h:FrV K H v a b) (q:Q (.int b) H):rIxU K v (.int 1) H Q:=by
 obtain ⟨p,rfl,z⟩:=h;exact ixT1 z q
theorem FrV.rep {K:W.Frag} (h:FrV K H v a b):Rep K H (.tup [.int a, .int b]) v:=by
 obtain ⟨p,rfl,z⟩:=h;simp only [Rep,RepL];exact ⟨p,_,rfl,z,_,_,rfl,rfl,_,_,rfl,rfl,rfl⟩
theorem eqF {K:W.Frag} {c d:Int} (h:FrV K H x a b) (g:FrV K H y c d) (q:Q (.bl (decide (a=c)&&decide (b=d))) H):rEqU K x y H Q:=by
 have e:eqD (.tup [.int a, .int b]) (.tup [.int c, .int d])=(decide (a=c)&&decide (b=d)):=by
  simp only [eqD,eqL,Bool.and_true]
  congr 1 <;> simp [BEq.beq]
 have i:=h.rep;have f:=g.rep;obtain ⟨p,rfl,_⟩:=h;obtain ⟨j,rfl,_⟩:=g;exact ⟨_,_,i,f,by simp [depD,depL],rfl,by rw [e];exact q⟩
variable {xs:List V} {i:Nat}
theorem ixT {K:W.Frag} (h:SqT K H p xs) (e:xs[i]?=some v) (q:Q v H):rIxU K (.ref p) (.int (i:Int)) H Q:=⟨xs,v, .inr h,JdQ e,q⟩
theorem ixL {K:W.Frag} (h:SqL K H p xs) (e:xs[i]?=some v) (q:Q v H):rIxU K (.ref p) (.int (i:Int)) H Q:=⟨xs,v, .inl h,JdQ e,q⟩
section
open PySem.W PySem.Builtin PySem.Builtin.ObjectAttr PySem.Builtin.Getset_descriptor
variable {prog:Program} {E:Value->Shared->Prop} {K:Frag} {x:Addr} {ox:Obj} {D:Addr}
end
variable {X:Cx}
section
variable {En:Ends} {u:TS} {ta tb te tc td:TE} {gs:TGs} {tA:TA} {E:XK} {sp:Sp} {t:TS} {g:TG} {K:W.Frag}
theorem y8ey {r:V->Option Int->Option Int->Hp->VK->Prop} {tl th:TO}:tSl r te tl th σ H Q=te σ H fun x H1=>tl σ H1 fun l H2=>th σ H2 fun u H3=>r x l u H3 Q:=rfl
variable {R:Option Int->Hp->Prop}
theorem y83y:tPart te σ H R=te σ H fun x H1=>∃ i,x=.int i/\R (some i) H1:=rfl
theorem y7ay:Ji4 σ H R=R none H:=rfl
theorem y96y {D0:Addr} {tx:St->Hp->VK->XK->Prop} {ts:TS}:Jkx K D0 i tx ts En σ H=tx σ H (fun _ H1=>En.nx σ H1) fun cls od H1=>∃ C,cls=.ref C/\Jcf K C D0 /\
 ∀ ea,H1 ea=none->ts { nx:=fun σ' H'=>En.nx (σ'.set i none) H',rt:=En.rt,bk:=fun σ' H'=>En.bk (σ'.set i none) H',ct:=fun σ' H'=>En.ct (σ'.set i none) H' } (σ.set i (some (.ref ea))) (upd H1 ea (ExcO ea C od)):=rfl
variable {dvs:List V}
theorem ya1y {Qx:VK} {Ex:XK}:xCall sp dvs tA σ H Qx Ex=tA σ H fun vs H1=>sp (vs++dvs) H1 Qx Ex:=rfl
variable {C:Addr}
theorem y85y:Jkw E C tA En σ H=tA σ H fun vs H1=>vs.length<=sizeLine/\E (.ref C) none H1:=rfl
end
def Its (x:Str):It:=⟨fun i _=>i<x.cps.size,fun i H v H'=>H'=H/\∃ c,x.cps[i]?=some c/\v=.str ⟨#[c]⟩,fun i _=>i=x.cps.size⟩
variable {tg:Expr}
theorem Jge {K:W.Frag} {it:Addr} {x:Str} {n:String} {St:Nat->Heap->Prop} (hn:["enumerate","zip","dict_itemiterator","dict_reverseitemiterator","odict_iterator","itertools.zip_longest","itertools.pairwise"].contains n=false)
  (hst:∀ i h,St i h->∃ o vs,h.get? it=some o/\o.cls=.type n/\o.data=.fields vs) (mk:∀ A:Around,A.handled=none->Walks P w A it [it] [it] x.cps.size (SignAt x) St)
  (hself:∀ (A:Around) (i:Nat) (s:Shared) (Q:Value->Shared->Prop) (E:Value->Shared->Prop),St i s.heap->Q (.ref it) s->wpAny (model P w) A (pyIter (.ref it)) Q E s):Turn P w K tg (Its x) [it] it St where
 mem:=by simp
 obj:=fun i h g b a=>by
  obtain rfl:b=it:=by simpa using a
  obtain ⟨o,vs,e,_,d⟩:=hst i h g;exact ⟨o,e,fun v z=>by rw [d] at z;cases z⟩
 keep:=fun i h l g k=>(mk {} rfl).frame i h l g fun b a o e=>k b a o e
 item:=by
  intro X C L B M i f s σ H E I m g t;subst C L B;obtain ⟨q,p,T,r,G,D⟩:=m it (by simp);refine (mk X.A (I.ok.hd M)).item i s _ _ t g fun v l N O j y=>?_;obtain ⟨c,u,J,rfl⟩:=O;have I1:Inv X f σ H { s with heap:=l,toks:=N }:=I.turned (fun b o a e=>y b o (by simpa using a) e) q p r G D;obtain ⟨o,vs,R,U,S⟩:=hst _ _ j;exact ⟨_,rfl,go_of (s:={ s with heap:=l,toks:=N }) R U S hn ⟨.str ⟨#[c]⟩,H,I1,⟨u,rfl⟩,⟨rfl,c,J,rfl⟩,j,fun b a=>(m b a).1⟩⟩
 done:=by
  intro X C L B M i f s σ H E I m g t;subst C L B;obtain ⟨q,p,T,r,G,D⟩:=m it (by simp);have F:i=x.cps.size:=t;subst F;exact (mk X.A (I.ok.hd M)).done s _ _ g fun l N y=>⟨rfl,I.turned (fun b o a e=>y b o (by simpa using a) e) q p r G D⟩
 self:=hself
def iStr (tl:TE):TI:=fun σ H R=>tl σ H fun x H1=>∃ z,x=.str z/\R (Its z) H1
theorem JlZ {l:Expr} {tl:TE} (hl:PE X l tl):PI X tg l (iStr tl):=fun f s σ H R I h=>by
 refine thn (hl f s σ H _ I h) fun v d ζ=>?_;obtain ⟨x,r,I1,y,z,p,q⟩:=ζ;subst p;obtain ⟨t,rfl⟩:=y;have key:∀ (n:String),(n="str_ascii_iterator"\/n="str_iterator")->PIE X f σ tg R (.ref d.heap.objs.size) { d with heap:=d.heap.push { cls:=.type n,data:=.fields #[.str z t, .int 0 0] } }:=fun n m=>by
  have k:Turn X.prog X.w X.K tg (Its z) [d.heap.objs.size] d.heap.objs.size (fun i h=>h.IsStrIter d.heap.objs.size n z t i):=by
   rcases m with rfl | rfl
   ·exact Jge (n:="str_ascii_iterator") ⋯ (fun i h g=>let ⟨o,a,b,c⟩:=g;⟨o,_,a,b,c⟩) (fun A j=>Walks.strAscii j _ z t) fun A i s Q E g q=>wpAny_pyIter_striter_ascii g q
   ·exact Jge (n:="str_iterator") ⋯ (fun i h g=>let ⟨o,a,b,c⟩:=g;⟨o,_,a,b,c⟩) (fun A j=>Walks.strWide j _ z t) fun A i s Q E g q=>wpAny_pyIter_striter_wide g q
  refine ⟨d.heap.objs.size,[d.heap.objs.size],_,_,r,rfl,I1.kept (t':=d.toks) fun b o e=>Heap.get?_push_of_some _ e,k,⟨_,Heap.get?_push_size _ rfl,rfl,rfl⟩,fun b u=>?_,q⟩;obtain rfl:b=d.heap.objs.size:=by simpa using u
  exact I1.fpOk (Nat.le_refl _) (I1.hok.fresh (Nat.le_refl _))
 cases ha:z.cps.all (· < 128)
 ·exact wpAny_pyIter_wide ha (key _ (.inr rfl))
 ·exact wpAny_pyIter_ascii ha (key _ (.inl rfl))
abbrev Cx.inc (X:Cx) (N':List Str) (scope:Scope) (cl:List (Str × Addr)) (fp:List Addr) (s2:Shared) (H2:Hp) (C:Addr):Cx :=
 { X with N:=N',s₀:=s2,H₀:=H2,env:=compEnvC scope cl C X.env,outer:=X.stack,ex:=fp,fn:=fun _=>false,pn:=[],xe:=fun _ _=>False }
variable {pins:List (Addr × Obj)} {H2:Hp} {s2:Shared} {N':List Str} {cl:List (Str × Addr)} {fp:List Addr} {C:Addr}
theorem Inv.incOk (I:Inv X pins σ H2 s2) (hf:∀ b∈fp,FpOk X pins H2 b) (hfp:∀ b∈fp,b<s2.heap.objs.size) (hk:scope.kind=.function) (hC:s2.heap.objs.size<=C) (hcl:∀ x c,cl.lookup x=some c->X.env.cells.lookup x=some c)
  (hhas:∀ y,((relabel scope X.env).names.lookup y=some .cell\/(relabel scope X.env).names.lookup y=some .free)->∃ c,cl.lookup y=some c):(X.inc N' scope cl fp s2 H2 C).Ok where
 mod:=I.ok.mod
 kind:=hk
 glob:=I.ok.glob
 blt:=I.ok.blt
 above:=hC
 inj:=fun x y c d f=>I.ok.inj x y c (hcl x c d) (hcl y c f)
 has:=fun y i=>hhas y i
 cab:=fun x c h=>by cases h
 hd:=I.ok.hd
 frames:=I.ok.frames
 stk:=.inl rfl
 exf:=fun b a=>⟨Nat.ne_of_lt (Nat.lt_of_lt_of_le (hfp b a) hC),fun x c e=>(hf b a).2.2.2.2.1 x c (hcl x c e)⟩
 bs:=I.bs
 bsz:=Nat.le_trans I.ok.bsz I.sz
 noex:=fun b o e a=>by
  rcases (hf b a).2.2.2.1 with z | z
  ·exact I.ok.noex b o e z
  ·exact absurd (Nat.lt_of_lt_of_le (Nat.lt_of_lt_of_le (Heap.lt_size e) I.ok.bsz) z) (Nat.lt_irrefl _)
 exfs:=fun b a g=>by
  rcases mem_cons.mp (I.stkSub b g) with z | z
  ·exact (hf b a).2.1 z
  ·exact (hf b a).2.2.1 z
 funs:=I.stack
 frf:=I.stkFree
def Jaz (cs:List (Nat × Str)) (σ : St):St:=cs.map fun p=>(σ[p.1]?).join
variable {s4:Shared} {own:List Str}
theorem Inv.capsLoc {m:Str->Option Value} {cs:List (Nat × Str)} (I:Inv X pins σ H2 s2) (ok:(X.inc (own++cs.map (·.2)) scope cl fp s2 H2 C).Ok) (kept:∀ c v,(∃ x,cl.lookup x=some c)->s2.heap.IsCell c v->s4.heap.IsCell c v)
  (hcl:∀ x c,cl.lookup x=some c->X.env.cells.lookup x=some c) (hcs:∀ p∈cs,X.N[p.1]?=some p.2/\X.env.scope.names.lookup p.2=some .cell/\(relabel scope X.env).names.lookup p.2=some .cell) :
  ∀ (i:Nat) (x:Str) (v:V),(own++cs.map (·.2))[i]?=some x->(List.replicate own.length none++Jaz cs σ)[i]?=some (some v)->∃ u,RelV v u/\Look (compEnvC scope cl C X.env) s4.heap m x u:=fun i x v s e=>by
  by_cases j:i<own.length
  ·rw [List.getElem?_append_left (by simpa using j),List.getElem?_replicate,if_pos j] at e;cases e
  ·have b:(Jaz cs σ)[i-own.length]?=some (some v):=by rw [List.getElem?_append_right (by simp;ac_nf)] at e;simpa using e
   have a:(cs.map (·.2))[i-own.length]?=some x:=by
    rwa [List.getElem?_append_right ∅] at s
   unfold Jaz at b;rw [List.getElem?_map] at a b;cases q:cs[i-own.length]? with
   | none=>rw [q] at a;cases a
   | some p=>
    rw [q] at a b;obtain rfl:p.2=x:=by simpa using a
    have d:(σ[p.1]?).join=some v:=by simpa using b
    have f : σ[p.1]?=some (some v):=by
     cases z : σ[p.1]? with
     | none=>rw [z] at d;cases d
     | some o=>rw [z] at d;exact congrArg some d
    obtain ⟨t,h,l⟩:=hcs p (List.mem_of_getElem? q);obtain ⟨w,_,r⟩:=I.loc;obtain ⟨u,n,lk⟩:=r p.1 p.2 v t f (.inr (.inl h));refine ⟨u,n, .inr ⟨.inl l,?_⟩⟩;obtain ⟨c,g⟩:=ok.has p.2 (.inl l);refine ⟨c,g,?_⟩;rcases lk with ⟨k,_⟩ | ⟨_,c',e',hcell⟩
    ·have k:X.env.scope.names.lookup p.2=some .local:=k;rw [h] at k;cases k
    ·rw [hcl _ _ g] at e';cases e';exact kept _ _ ⟨_,g⟩ hcell
theorem Inv.incStart {m:Str->Option Value} {cs:List (Nat × Str)} (I:Inv X pins σ H2 s2) (ok:(X.inc (own++cs.map (·.2)) scope cl fp s2 H2 C).Ok) (kept:∀ b o,s2.heap.get? b=some o->s4.heap.get? b=some o) (hos:s4.os=s2.os) (hg:s4.gens=s2.gens) (hm:s4.heap.Ns C m)
  (hC:s2.heap.objs.size<=C) (hcl:∀ x c,cl.lookup x=some c->X.env.cells.lookup x=some c)
  (hcs:∀ p∈cs,X.N[p.1]?=some p.2/\X.env.scope.names.lookup p.2=some .cell/\(relabel scope X.env).names.lookup p.2=some .cell) :
  Inv (X.inc (own++cs.map (·.2)) scope cl fp s2 H2 C) [] (List.replicate own.length none++Jaz cs σ) H2 s4 where
 ok:=ok
 os:=hos
 bare:=by rw [hg];exact I.bare
 base:=Un.kept kept
 loc:=⟨m,hm,fun i x v f g _=>I.capsLoc (m:=m) ok (fun c v _ ⟨o,d,a⟩=>⟨o,kept _ _ d,a⟩) hcl hcs i x v f g⟩
 cell:=fun x c e=>by
  obtain ⟨v,o,d,a⟩:=I.cell x c (hcl x c e);exact ⟨v,o,kept _ _ d,a⟩
 free:=I.hok.fresh hC
 freeC:=fun x c e=>I.freeC x c (hcl x c e)
 pin:=fun p h=>by simp at h
 hok:=I.hok.kept kept
 len:=by simp [Jaz]
theorem Inv.incAgain {s':Shared} {σ':St} {pl:List (Addr × Obj)} {cs:List (Nat × Str)} (I:Inv X pins σ H2 s2) (J:Inv (X.inc (own++cs.map (·.2)) scope cl fp s2 H2 C) pl σ' H' s')
  (hf:∀ b∈fp,FpOk X pins H2 b) (hcl:∀ x c,cl.lookup x=some c->X.env.cells.lookup x=some c) (hcs:∀ p∈cs,X.N[p.1]?=some p.2/\X.env.scope.names.lookup p.2=some .cell/\(relabel scope X.env).names.lookup p.2=some .cell) :
  Inv (X.inc (own++cs.map (·.2)) scope cl fp s2 H2 C) [] (List.replicate own.length none++Jaz cs σ) H' s' where
 ok:=J.ok
 os:=J.os
 bare:=J.bare
 base:=J.base
 loc:=by
  obtain ⟨m,a,_⟩:=J.loc;refine ⟨m,a,fun i x v h k _=>I.capsLoc (m:=m) J.ok (fun c v ⟨x,d⟩ ⟨o,f,e⟩=>?_) hcl hcs i x v h k⟩;have g:c∉fp:=fun z=>(hf c z).2.2.2.2.1 x c (hcl x c d) rfl;by_cases a:c∈frs X.stack
  ·obtain ⟨l,z⟩:=J.base.slot c o f (I.freeC x c (hcl x c d)) a g;exact ⟨_,z,e⟩
  ·exact ⟨o,J.base.keep c o f (I.freeC x c (hcl x c d)) a g,e⟩
 cell:=J.cell
 free:=J.free
 freeC:=J.freeC
 pin:=fun p j=>by simp at j
 hok:=J.hok
 len:=by simp [Jaz]
variable {prog:Program} {E:Value->Shared->Prop} {R:Result->Shared->Prop} {elt target iter:Expr} {pos:Pos} {acc:Value} {env:Env}
theorem Jhu {it:Value} (J:Nat->Shared->Prop)
  (turn:∀ n s,J n s->wpAny (model prog w) A (pyNext it) (fun r s1=>match r with
   | none=>R (.ok .next) s1
   | some v=>wpAny (model prog w) A (letOwnedTupleGo target it v) (fun _ s2=>wpAny (model prog w) A (assign target env v) (fun _ s3=>wpAny (model prog w) A (eval elt env) (fun x s4=>
     wpAny (model prog w) A (call (.builtin "list.append") [acc,x]) (fun _ s5=>∃ m,m<n/\J m s5) (fun _ _=>False) s4) (fun _ _=>False) s3) (fun _ _=>False) s2) (fun _ _=>False) s1) (fun _ _=>False) s) (n:Nat) (h:J n s) :
  codeAny (model prog w) A (.compLoop (.ListComp elt [⟨target,iter,[],0⟩] scope pos) 0 it acc env) R s:=by
 refine codeAny_loop rfl J (fun n s d=>?_) n h;show wpAny _ A ((compTurn (.ListComp elt [⟨target,iter,[],0⟩] scope pos) 0 it acc env).onRaise (fun y=>do noteFrame y env;theTreesLotGoes y)) _ _ s
 (refine wpAny_noted ?_;rw [compTurn_list])
 refine wpAny_bind (wpAny_standAt (wpAny_bind (wpAny_mono (turn n s d) (fun r s1 a=>?_) fun _ _ z=>z.elim)));cases r with
 | none=>exact wpAny_pure a
 | some v=>
  refine wpAny_bind (wpAny_mono a (fun _ s2 f=>wpAny_bind (wpAny_mono f (fun _ s3 e=>?_) fun _ _ z=>z.elim)) fun _ _ z=>z.elim);refine wpAny_bind (wpAny_tests_nil ?_);exact wpAny_bind (wpAny_bind (wpAny_mono e (fun x s4 b=>(wpAny_bind (wpAny_mono b (fun _ s5 c=>(wpAny_pure (wpAny_pure ⟨rfl,c⟩))) fun _ _ z=>z.elim))) fun _ _ z=>z.elim))
def tComp (k:Nat) (cs:List (Nat × Str)) (wi:TI) (g:TG) (te:TE):TE:=fun σ H Q=>wi σ H fun J H1=>∃ W:Nat->Nat->List V->Hp->Prop,(∃ m,W 0 m [] H1)/\∀ i m ys H2,W i m ys H2->ys.length<=sizeLine /\
  ((J.stop i H2/\∀ p,H2 p=none->Q (.ref p) (upd H2 p (.lst ys))) \/
   (J.go i H2/\∀ x H3,J.yld i H2 x H3->g x (List.replicate k none++Jaz cs σ) H3 fun σ4 H4=>te σ4 H4 fun y H5=>∃ m',m'<m/\W (i+1) m' (ys++[y]) H5))
theorem lstP {us:List Value} {v:Value}:(us.toArray.push v)=(us++[v]).toArray:=by simp
def rInU (K:W.Frag):R2:=fun x y H Q=>match x,y with
 | .str i, .str j=>Q (.bl (!(Builtin.Str.occurrences j i 0 j.length 1).isEmpty)) H
 | x,y=>rIn K false x y H Q
theorem Jhh:OpR X (compareOp .In) (rInU X.K):=fun a s σ H x y v u Q I c b q=>by
 unfold rInU at q;split at q
 ·exact JiH a s σ H _ _ v u Q I c b ⟨_,_,rfl,rfl,q⟩
 ·exact JiG a s σ H _ _ v u Q I c b q
theorem Jkq {K:W.Frag} (hK:X.K=K):OpR X (compareOp .In) (rInU K):=hK ▸ Jhh
theorem ix_UK {K:W.Frag} (hK:X.K=K):IxR X (rIxU K):=hK ▸ ix_U
theorem y62y {K:W.Frag} {i j:Str}:rInU K (.str i) (.str j) H Q=Q (.bl (!(Builtin.Str.occurrences j i 0 j.length 1).isEmpty)) H:=rfl
theorem all_range:∀ bs:List Bool,(List.range bs.length).all (fun i=>bs.getD i false)=bs.all id:=fun bs=>by
 rw [Bool.eq_iff_iff];simp only [List.all_eq_true,List.mem_range,id];constructor
 ·intro h x b;obtain ⟨i,a,rfl⟩:=List.mem_iff_getElem.mp b;have:=h i a;simpa [List.getD_eq_getElem?_getD,a] using this
 ·intro h i a;have:=h bs[i] (List.getElem_mem a);simpa [List.getD_eq_getElem?_getD,a] using this
def rAll (K:W.Frag):List V->Hp->VK->Prop:=fun xs H Q=>∃ (p:Addr) (bs:List Bool),xs=[.ref p]/\SqL K H p (bs.map V.bl)/\Q (.bl (bs.all id)) H
theorem JhZ (hc:X.calm=true):CallR X (.builtin "all") (rAll X.K):=fun n s σ H J F Q I r q=>by
 obtain ⟨p,c,rfl,C,q⟩:=q;obtain ⟨a,h,f,M⟩:=I.list C;obtain ⟨u,rfl,w⟩:=vals1 r;cases (show u=Value.ref p from w);refine call_all_walk (wpAny_pyIter_list f.isList ?_);have g:p<s.heap.objs.size:=by
  obtain ⟨_,e,_⟩:=f.isList;exact Heap.lt_size e
 refine ⟨s.heap.objs.size,_,_,a.toArray.size,_,_,fun i=>c.getD i false,rfl,Walks.list (by show X.A.handled=none;exact I.ok.hd hc) s.heap.objs.size p (Nat.ne_of_lt g) a.toArray,⟨⟨_,Heap.get?_push_size _ rfl,rfl,rfl⟩,f.isList.push _⟩,?_,?_⟩
 ·intro i v G Q' E' o t;have d:a[i]?=some v:=by simpa using o
  have m:i<c.length:=by
   obtain ⟨E,_⟩:=List.getElem?_eq_some_iff.mp d;have l:=h.length;rw [length_map] at l;ac_nf
  obtain ⟨N,j,y⟩:=h.get (i:=i) (x:=.bl c[i]) (by simp [m]);rw [d] at j;cases j;cases (show v=Value.bool c[i] from y);refine wpAny_truthy_bool ?_;simpa [List.getD_eq_getElem?_getD,m] using t
 ·intro L D k;have l:=h.length;rw [length_map] at l;have z:(List.range a.toArray.size).all (fun i=>c.getD i false)=c.all id:=by rw [size_toArray, <- l];exact all_range c
  rw [z];exact ⟨.bl _,H,I.kept (t':=D) fun b B e=>k b B (by have:=Heap.lt_size e;simp;exact Nat.ne_of_lt this) (Heap.get?_push_of_some _ e),rfl,q⟩
def rSlS:V->Option Int->Option Int->Hp->VK->Prop:=fun x lo hi H Q=>∃ z,x=.str z/\z.length<=sizeLine/\Q (.str (Txt.slice z lo hi)) H
theorem Jl8:SlR X rSlS:=fun b s σ H x v vl n g i m Q I j c f pu h=>by
 obtain ⟨z,rfl,d,q⟩:=h;obtain ⟨t,rfl⟩:=j;refine ⟨"str",_,F.slot_str_getitem.lookup,typeIs_str _ _ _,?_⟩;have a:∀ (e:Tok) (k:Nat),EP X b σ Q (.str (Txt.slice z g i) e) { s with toks:=k }:=fun e k=>⟨.str _,H,I.tok k,⟨_,rfl⟩,q⟩;cases f <;> cases pu
 ·exact wpAny_getItem_str_slice (l:=none) (u:=none) (st:=none) c rfl (post_val_or_str ⟨Nat.le_trans (Txt.slice_le z _ _) d,a⟩)
 ·exact wpAny_getItem_str_slice (l:=none) (u:=some (_,_)) (st:=none) c rfl (post_val_or_str ⟨Nat.le_trans (Txt.slice_le z _ _) d,a⟩)
 ·exact wpAny_getItem_str_slice (l:=some (_,_)) (u:=none) (st:=none) c rfl (post_val_or_str ⟨Nat.le_trans (Txt.slice_le z _ _) d,a⟩)
 ·exact wpAny_getItem_str_slice (l:=some (_,_)) (u:=some (_,_)) (st:=none) c rfl (post_val_or_str ⟨Nat.le_trans (Txt.slice_le z _ _) d,a⟩)
def rSlV (K:W.Frag):V->Option Int->Option Int->Hp->VK->Prop:=fun x lo hi H Q=>rSlU K x lo hi H Q\/rSlS x lo hi H Q
theorem sl_V:SlR X (rSlV X.K):=SlR.or sl_U Jl8
theorem hcs0:∀ p∈([]:List (Nat × Str)),X.N[p.1]?=some p.2/\X.env.scope.names.lookup p.2=some .cell/\(relabel scope X.env).names.lookup p.2=some .cell:=fun _ h=>by simp at h
def tyD:D->String
 | .non=>"NoneType"
 | .bl _=>"bool"
 | .int _=>"int"
 | .str _=>"str"
 | .tup _=>"tuple"
 | .lst _=>"list"
variable {d:D}
theorem Rep.tyN {K:W.Frag} (h:Rep K H d x):L2.tyN K H x (tyD d):=by
 cases d <;> simp only [Rep] at h
 ·subst h;rfl
 ·subst h;rfl
 ·subst h;rfl
 ·subst h;rfl
 ·obtain ⟨a,b,rfl,q,_⟩:=h;exact .inr ⟨rfl,b,q⟩
 ·obtain ⟨a,b,rfl,q,_⟩:=h;exact .inl ⟨rfl,b,q⟩
mutual
def szD:D->Prop
 | .int i=>Mth.Sz 4000 i
 | .str s=>s.length<=1000
 | .tup xs=>szL xs
 | .lst xs=>szL xs
 | _=>True
def szL:List D->Prop
 | []=>True
 | x::xs=>szD x/\szL xs
end
def lowB (c:Nat):Bool:=decide (97<=c/\c<=122)
def nameS (s:Str):Bool:=(decide (1<=s.length)&&decide (s.length<=8))&&s.cps.toList.all lowB
def nameB:D->Bool
 | .str s=>nameS s
 | _=>false
def JdB:D->Bool
 | .int _=>true
 | _=>false
def fracB:D->Bool
 | .tup [.int a, .int b]=>decide (1<=b)&&decide (Mth.g a b=1)
 | _=>false
def Jcu:D->Bool
 | .non=>true
 | d=>fracB d
def JeM (d e:D):Bool:=nameB d&&nameB e&&!eqD d e
def lessD:D->D->Bool
 | .tup [.int a, .int b], .tup [.int c, .int d]=>decide (a*d<c*b)
 | _,_=>false
def JdR (l g:D):Bool:=Jcu l&&Jcu g&&!lessD g l
def tieB:D->Bool
 | .tup [n,s,e,l,g]=>nameB n&&JeM s e&&JdR l g
 | _=>false
theorem Jhz:(Str.ofString "abcdefghijklmnopqrstuvwxyz").cps.toList=List.range' 97 26:=by decide
theorem Jhw (c:Nat):(!(Builtin.Str.occurrences (Str.ofString "abcdefghijklmnopqrstuvwxyz") ⟨#[c]⟩ 0 (Str.ofString "abcdefghijklmnopqrstuvwxyz").length 1).isEmpty)=lowB c:=by
 rw [StrLaws.found_one,Jhz];unfold lowB
 congr 1
 rw [List.mem_range'];refine propext ⟨fun ⟨i,a,e⟩=>by ac_nf,fun h=>⟨c-97,by ac_nf,by ac_nf⟩⟩
structure KCal (P:Program) (w:World) (K:W.Frag) (mg:Str->Option Value) (base:Heap) (k:Nat) (x:Str) (C:Addr) (ps:List Str) (sp:Sp):Prop where
 ex:∃ (f:Addr) (fd:FuncData),FnOk P w K mg base (CX1 P w) k f fd ps sp/\mg x=some (.ref C)/\Mk K C f/\Binds K fd ps []
structure MCal (P:Program) (w:World) (K:W.Frag) (mg:Str->Option Value) (base:Heap) (k:Nat) (m:Str) (Cs:Addr->Prop) (ps:List Str) (sp:Sp):Prop where
 ex:∃ (f:Addr) (fd:FuncData),FnOk P w K mg base (CX1 P w) k f fd ps sp/\(∀ C,Cs C->Cls K C/\Meth K C m f)/\W.keepIn K (.ref f)=true/\Binds K fd ps []
def Jhn (Cs:Addr->Prop) (m:Str) (sp:Sp) (E:XK) (ta:TE) (t:TA):TE:=fun σ H Q=>ta σ H fun x H1=>∃ a C dx fs,x=.ref a/\H1 a=some (.ins C dx fs)/\Cs C/\fs.lookup m=none/\t σ H1 fun vs H2=>sp (x::vs) H2 Q E
section
variable {k':Nat} {x mn:Str} {Cs:Addr->Prop} {ps:List Str} {sp:Sp} {E:XK} {p apos:Pos} {e o:Expr} {es:List Expr} {ta:TE} {k:Nat} {t:TA}
theorem KCal.ev (G:KCal X.prog X.w X.K X.mg X.base k x C ps sp) (hr:Room k' X.A) (hk:k+1<=k') (hg:Gl X x) (hx:JbS (CX1 X.prog X.w) X E) (ha:PA X (e::es) t)
  (hdb:(x == ("__debug__" : Str))=false:=by decide) (he:starEach (e::es) X.env=(false,eval e X.env)::starEach es X.env:=by rfl) (hpl:(backTo pos (starEach es X.env)).any (·.1)=false:=by rfl) :
  PE X (.Call (.Name x p) (e::es) [] pos) (tMake C sp [] E t):=by
 obtain ⟨f,c,F,b,M,a⟩:=G.ex;exact Jk8 M F (hr.mono hk) hg b a .nil hx ha hdb he hpl
variable {pl:Sem Bool}
theorem MCal.m (G:MCal X.prog X.w X.K X.mg X.base k mn Cs ps sp) (hr:Room k' X.A) (hk:k<=k') (hx:JbS (CX1 X.prog X.w) X E) (ho:PE X o ta) (ha:PA X (e::es) t)
  (hst:starEach (e::es) X.env=(false,eval e X.env)::starEach es X.env:=by rfl) (hpl:(backTo pos (starEach es X.env)).any (·.1)=false:=by rfl)
  (ht:eval (.Call (.Attribute o mn apos) (e::es) [] pos) X.env=(do
   let ov <- eval o X.env
   standAt apos.atName
   let (f,first) <- holding [ov] (getMethod ov mn pl)
   callWith pos f first (backTo pos (starEach (e::es) X.env)) (backToKw pos (keywordEach [] X.env))):=by rfl) :
  PE X (.Call (.Attribute o mn apos) (e::es) [] pos) (Jhn Cs mn sp E ta t):=by
 obtain ⟨f,D,F,c,n,v⟩:=G.ex;intro b s σ H Q I h;refine W.methodCall_KW (pl:=pl) (thn (ho b s σ H _ I h) fun u y ζ=>?_) ht;obtain ⟨x,z,I1,p,a,C,M,B,i,g,d,l,q⟩:=ζ;subst i;obtain rfl:u=Value.ref a:=p;refine Jcb I1 g (c C d).1 (c C d).2 l ?_;refine W.callWith_K (first:=[.ref a]) (h₀:=X.base) I.ok.mod.kin n (thn (ha pos b y σ z _ I1 q) fun us J ζ=>?_) hst hpl;obtain ⟨vs,L,I2,r,j⟩:=ζ;refine ⟨I2.kIn,?_⟩;exact Jhl (us:=.ref a::us) (vs:=.ref a::vs) F (hr.mono hk) v .nil hx I2 (.cons rfl r) (by simpa using j)
theorem MCal.m0 (G:MCal X.prog X.w X.K X.mg X.base k mn Cs ps sp) (hr:Room k' X.A) (hk:k<=k') (hx:JbS (CX1 X.prog X.w) X E) (ho:PE X o ta)
  (ht:eval (.Call (.Attribute o mn apos) [] [] pos) X.env=(do
   let ov <- eval o X.env
   standAt apos.atName
   let (f,first) <- holding [ov] (getMethod ov mn pl)
   callWith pos f first (backTo pos (starEach [] X.env)) (backToKw pos (keywordEach [] X.env))):=by rfl) :
  PE X (.Call (.Attribute o mn apos) [] [] pos) (Jhn Cs mn sp E ta tNil):=by
 obtain ⟨f,r,F,c,i,m⟩:=G.ex;intro b s σ H Q I h;refine W.methodCall_KW (pl:=pl) (thn (ho b s σ H _ I h) fun u v ζ=>?_) ht;obtain ⟨x,n,I1,j,a,C,t,p,g,e,d,l,q⟩:=ζ;subst g;obtain rfl:u=Value.ref a:=j;refine Jcb I1 e (c C d).1 (c C d).2 l ?_;exact W.callWith_K0 (first:=[.ref a]) I1.kIn i (Jhl (us:=[.ref a]) (vs:=[.ref a]) F (hr.mono hk) m .nil hx I1 (.cons rfl .nil) (show sp ([.ref a]++[]) n Q E from q))
def rMulS:R2:=fun x y H Q=>match x,y with
 | .str z, .int n=>0<n/\n<1000/\z.length<=1000/\∀ z':Str,z'.cps.toList=(List.replicate n.toNat z.cps.toList).flatten->Q (.str z') H
 | x,y=>rMulU x y H Q
theorem JeY:∀ (l:List (Array Nat)) (acc:Array Nat),(l.foldl (· ++ ·) acc).toList=acc.toList++(l.map (·.toList)).flatten
 | [],acc=>by simp
 | x::l,acc=>by
  rw [foldl_cons,JeY l];simp
theorem JiI:OpR X (binaryOp .Mult) rMulS:=fun a s σ H x y v u Q I d b q=>by
 unfold rMulS at q;split at q
 ·rename_i z n;obtain ⟨g,k,h,q⟩:=q;obtain ⟨t,rfl⟩:=d;obtain ⟨j,rfl⟩:=b;have i:z.cps.size=z.length:=rfl;have f:z.length*n.toNat<=1000*1000:=Nat.mul_le_mul h ∅;refine PySem.P.mul_str (by simp;ac_nf) (fun _ _=>?_) (fun _ _=>?_) ?_
  ·have : (1000:Int)<=(2 ^ 63-1)/n:=by
    rw [Int.le_ediv_iff_mul_le g];ac_nf
   ac_nf
  ·unfold Builtin.Str.tooLong;simp;have : (1000*1000:Nat)<=sizeLine:=by decide
   ac_nf
  ·rw [if_neg ∅];split
   ·rename_i c;refine ⟨.str z,H,I,⟨_,rfl⟩,q z ?_⟩;rcases Bool.or_eq_true _ _ |>.mp c with c | c
    ·obtain rfl:n=1:=by simpa using c
     simp
    ·have e:z.cps.toList=[]:=by
      have : z.length=0:=by simpa using c
      exact eq_nil_of_length_eq_zero (by rw [Array.length_toList];exact this)
     rw [e];simp
   ·refine ⟨?_, .str _,H,I.tok _,⟨_,rfl⟩,q _ ?_⟩
    ·show (Array.size _)<=sizeLine;rw [<- Array.length_toList,JeY];simp;have : (1000*1000:Nat)<=sizeLine:=by decide
     rw [Nat.mul_comm,i];ac_nf
    ·rw [JeY];simp
 ·exact Jk2 a s σ H _ _ v u Q I d b q
def rIsN:R2:=fun x y H Q=>y=.non/\Q (.bl (decide (x=.non))) H
def rNotN:R2:=fun x y H Q=>y=.non/\Q (.bl (!decide (x=.non))) H
theorem Jbb:OpR X (compareOp .Is) rIsN:=JlW
theorem Jck:OpR X (compareOp .IsNot) rNotN:=Jk3
def Jl3 (K:W.Frag):List V->Hp->VK->Prop:=fun xs H Q=>∃ p ys,xs=[.ref p]/\(SqL K H p ys\/SqT K H p ys)/\∀ l,H l=none->Q (.ref l) (upd H l (.lst ys))
theorem Jht:CallR X (.type "list") (Jl3 X.K):=JfG
end
section
variable {K:W.Frag}
theorem y65y:rIsN x .non H Q=Q (.bl (decide (x=.non))) H:=by simp [rIsN]
theorem y7cy:rNotN x .non H Q=Q (.bl (!decide (x=.non))) H:=by simp [rNotN]
variable {sp:Sp} {E:XK}
theorem y6by {dvs:List V} {t:TA}:tMake C sp dvs E t σ H Q=t σ H fun vs H1=>∀ x dx,H1 x=none->H1 dx=none->dx≠x->sp (.ref x::(vs++dvs)) (upd (upd H1 dx (.own x)) x (.ins C dx [])) (fun v H2=>v=.non/\Q (.ref x) H2) E:=rfl
variable {ta:TE}
theorem y6dy {Cs:Addr->Prop} {mn:Str} {t:TA}:Jhn Cs mn sp E ta t σ H Q=ta σ H fun x H1=>∃ a C dx fs,x=.ref a/\H1 a=some (.ins C dx fs)/\Cs C/\fs.lookup mn=none/\t σ H1 fun vs H2=>sp (x::vs) H2 Q E:=rfl
theorem y4fy {f:Str}:tFld K ta f σ H Q=ta σ H fun x H1=>∃ a C dx fs v,x=.ref a/\H1 a=some (.ins C dx fs)/\Cls K C/\Jbd K C f/\fs.lookup f=some v/\Q v H1:=rfl
variable {tv:TE} {En:Ends}
theorem y8cy {f:Str}:sFld K ta tv f En σ H=tv σ H fun y H1=>ta σ H1 fun x H2=>∃ a C dx fs,x=.ref a/\H2 a=some (.ins C dx fs)/\Cls K C/\Jbd K C f/\fs.length<1000/\En.nx σ (upd H2 a (.ins C dx (putF f y fs))):=rfl
theorem y2dy {T:String} {r:V->List V->Hp->VK->Prop} {to:TE} {t:TA}:tBM K T r to t σ H Q=to σ H fun x H1=>tyV K T x H1/\t σ H1 fun vs H2=>r x vs H2 Q:=rfl
variable {R:St->Hp->Prop}
theorem y5cy {g:TG} {gs:TGs}:gCons g gs (v::r) σ H R=g v σ H fun σ' H'=>gs r σ' H' R:=by
 unfold gCons;refine propext ⟨fun ⟨b,a,e,h⟩=>?_,fun h=>⟨v,r,rfl,h⟩⟩;cases e;exact h
theorem y5ey:gNil [] σ H R=R σ H:=by unfold gNil;simp
theorem FrV.of_rep (h:Rep K H (.tup [.int a, .int b]) x):FrV K H x a b:=by
 simp only [Rep,RepL] at h;obtain ⟨p,c,rfl,q,v,r,rfl,rfl,d,e,rfl,rfl,rfl⟩:=h;exact ⟨p,rfl,q⟩
theorem Jb9 (h:fracB d=true):∃ a b,d=.tup [.int a, .int b]/\1<=b/\Mth.g a b=1:=by
 unfold fracB at h;split at h
 ·rw [Bool.and_eq_true] at h;exact ⟨_,_,rfl,by simpa using h.1,by simpa using h.2⟩
 ·cases h
theorem JeP (h:nameB d=true):∃ z,d=.str z/\nameS z=true:=by
 cases d <;> first | exact ⟨_,rfl,h⟩ | (simp [nameB] at h)
theorem Rep.str {d:Str} (h:Rep K H (.str d) x):x=.str d:=by simpa only [Rep] using h
def nonD:D->Bool
 | .non=>true
 | _=>false
theorem JiB (h:d≠.non):nonD d=false:=by cases d <;> first | rfl | exact absurd rfl h
theorem Rep.nonV (hx:Rep K H d x):decide (x=.non)=nonD d:=by
 cases d <;> simp only [Rep] at hx
 ·subst hx;rfl
 ·subst hx;rfl
 ·subst hx;rfl
 ·subst hx;rfl
 ·obtain ⟨a,b,rfl,_⟩:=hx;rfl
 ·obtain ⟨a,b,rfl,_⟩:=hx;rfl
variable {l:Addr}
theorem putE (e:upd H l o=H'):H' l=some o:=by rw [<- e,Jas]
theorem putN {b:Addr} {o' u:HO} (e:upd H l o=H') (hl:H l=some o') (hb:H b=some u) (ne:u≠o'):H' b=some u:=by
 rw [<- e,Jah (ne_of hb hl ne)];exact hb
end
def tieF (n s e l g:V):List (Str × V):=[("name",n),("start",s),("end",e),("least",l),("greatest",g)]
section
variable {En:Ends} {ta tb te tc td:TE} {K:W.Frag}
end
def Jbm (cells:List (Str × Addr)):List (Str × NameKind)->List (Str × Addr)->List (Str × Addr)
 | [],acc=>acc
 | (n,k)::r,acc=>Jbm cells r (if k == .free then (n,(cells.lookup n).getD 0)::acc else acc)
theorem Jgm {env:Env}:∀ (names:List (Str × NameKind)) (acc:List (Str × Addr)),(∀ p∈names,p.2=.free->∃ c,env.cells.lookup p.1=some c) ->
  (forIn names acc fun (p:Str × NameKind) cs=>(if p.2 == .free then do let c <- cellOf env p.1;pure (ForInStep.yield ((p.1,c)::cs)) else pure (ForInStep.yield cs):Sem (ForInStep (List (Str × Addr)))))=(pure (Jbm env.cells names acc):Sem (List (Str × Addr)))
 | [],acc,_=>by simp [Jbm]
 | (n,k)::r,acc,h=>by
  rw [List.forIn_cons];by_cases c:(k == .free)=true
  ·obtain ⟨a,ha⟩:=h (n,k) mem_cons_self (beq_iff_eq.mp c);have e:cellOf env n=pure a:=by unfold cellOf;rw [ha]
   simp only [c,if_true,e,pure_bind];have:=Jgm (env:=env) r ((n,a)::acc) fun p hp=>h p (mem_cons_of_mem _ hp);simp only [Jbm,c,if_true,ha,Option.getD_some];exact this
  ·have c':(k == .free)=false:=by simpa using c
   simp only [c',Bool.false_eq_true,if_false,pure_bind];have:=Jgm (env:=env) r acc fun p hp=>h p (mem_cons_of_mem _ hp);simp only [Jbm,c',Bool.false_eq_true,if_false];exact this
theorem JeZ (h:∀ p∈scope.names,p.2=.free->∃ c,env.cells.lookup p.1=some c):closureFor scope env=pure (Jbm env.cells scope.names []):=by
 have:=Jgm (env:=env) scope.names [] h;unfold closureFor;simp only [pure_bind];refine Eq.trans ?_ (congrArg (fun m:Sem (List (Str × Addr))=>m >>= pure) this |>.trans (by simp));first | rfl | (congr 1)
variable {cells:List (Str × Addr)}
theorem Jb8:∀ (names:List (Str × NameKind)) (acc:List (Str × Addr)),(∀ x c,acc.lookup x=some c->cells.lookup x=some c)->(∀ p∈names,p.2=.free->∃ c,cells.lookup p.1=some c) ->
  ∀ x c,(Jbm cells names acc).lookup x=some c->cells.lookup x=some c
 | [],acc,ha,_,x,c,h=>ha x c h
 | (n,k)::r,acc,ha,hf,x,c,h=>by
  simp only [Jbm] at h;refine Jb8 r _ ?_ (fun p hp=>hf p (mem_cons_of_mem _ hp)) x c h;intro y d hy;by_cases f:(k == .free)=true
  ·rw [if_pos f] at hy;obtain ⟨a,e⟩:=hf (n,k) mem_cons_self (beq_iff_eq.mp f);rw [List.lookup_cons] at hy;by_cases q:(y == n)=true
   ·rw [q] at hy;have q':y=n:=beq_iff_eq.mp q;subst q';have e':cells.lookup y=some a:=e;rw [e'] at hy ⊢;simpa using hy
   ·have q':(y == n)=false:=by simpa using q
    rw [q'] at hy;exact ha y d hy
  ·rw [if_neg f] at hy;exact ha y d hy
theorem Jb7:∀ (names:List (Str × NameKind)) (acc:List (Str × Addr)) (y:Str),((∃ c,acc.lookup y=some c)\/(y,NameKind.free)∈names)->∃ c,(Jbm cells names acc).lookup y=some c
 | [],acc,y,h=>by
  rcases h with h | h
  ·exact h
  ·simp at h
 | (n,k)::r,acc,y,h=>by
  simp only [Jbm];refine Jb7 r _ y ?_;rcases h with ⟨c,h⟩ | h
  ·refine .inl ?_;split
   ·rw [List.lookup_cons];cases (y == n)
    ·exact ⟨c,h⟩
    ·exact ⟨_,rfl⟩
   ·exact ⟨c,h⟩
  ·rcases mem_cons.mp h with e | h
   ·cases e;refine .inl ?_;rw [if_pos ⋯,List.lookup_cons];simp
   ·exact .inr h
theorem JbU {sc:Scope} (h:scope.names.all (fun p=>p.2 != .free||(sc.names.lookup p.1 == some .cell))=true):∀ p∈scope.names,p.2=.free->sc.names.lookup p.1=some .cell:=fun p a b=>by
 have z:=List.all_eq_true.mp h p a;rw [b] at z;simpa using z
variable {x:Str}
theorem hcs1 (a:X.N[i]?=some x) (b:X.env.scope.names.lookup x=some .cell) (c:(relabel scope X.env).names.lookup x=some .cell) :
  ∀ p∈[(i,x)],X.N[p.1]?=some p.2/\X.env.scope.names.lookup p.2=some .cell/\(relabel scope X.env).names.lookup p.2=some .cell:=fun p d=>by
 rcases mem_singleton.mp d with rfl
 exact ⟨a,b,c⟩
variable {j:Nat} {y:Str}
theorem hcs2 (a:X.N[i]?=some x) (b:X.env.scope.names.lookup x=some .cell) (c:(relabel scope X.env).names.lookup x=some .cell)
  (a':X.N[j]?=some y) (b':X.env.scope.names.lookup y=some .cell) (c':(relabel scope X.env).names.lookup y=some .cell) :
  ∀ p∈[(i,x),(j,y)],X.N[p.1]?=some p.2/\X.env.scope.names.lookup p.2=some .cell/\(relabel scope X.env).names.lookup p.2=some .cell:=fun p d=>by
 rcases mem_cons.mp d with rfl | d
 ·exact ⟨a,b,c⟩
 ·rcases mem_singleton.mp d with rfl
  exact ⟨a',b',c'⟩
theorem Jfc (hb:1<=b) (h:Mth.g a b=1):Mth.top (0*b-a*1) (1*b) = -a/\Mth.bot (0*b-a*1) (1*b)=b:=by
 have e:(0*b-a*1:Int) = -a:=by simp
 have d:(1*b:Int)=b:=by simp
 rw [e,d];have c:b≠0:=by ac_nf
 have u:=Mth.Jdl (Mth.JbJ (t:=-a) c) hb (Mth.g_low (t:=-a) c) (by rw [Mth.g_neg];exact h) (Mth.cross (t:=-a) c);exact u
variable {te:TE} {tn:Nat->Heap->Prop} {J:It}
theorem JeG {cs:List (Nat × Str)} {g:TG} {it:Addr}
  {W:Nat->Nat->List V->Hp->Prop} {m0:Nat} {QN:List V->Hp->Prop} {RR:Value->Addr->Result->Shared->Prop} {E:Value->Shared->Prop} (hc:X.calm=true)
  (hg:∀ fp s2 H2 C,PG (X.inc (own++cs.map (·.2)) scope cl fp s2 H2 C) tg g) (he:∀ fp s2 H2 C,PE (X.inc (own++cs.map (·.2)) scope cl fp s2 H2 C) elt te)
  (hcell:∀ y∈scope.names,y.2≠.cell) (hkind:scope.kind=.function)
  (hcl:∀ x c,cl.lookup x=some c->X.env.cells.lookup x=some c) (hhas:∀ y,((relabel scope X.env).names.lookup y=some .cell\/(relabel scope X.env).names.lookup y=some .free)->∃ c,cl.lookup y=some c)
  (hcs:∀ p∈cs,X.N[p.1]?=some p.2/\X.env.scope.names.lookup p.2=some .cell/\(relabel scope X.env).names.lookup p.2=some .cell)
  (I2:Inv X pins σ H2 s2) (T:Turn X.prog X.w X.K tg J fp it tn) (st2:tn 0 s2.heap) (f2:∀ b∈fp,FpOk X pins H2 b) (w0:W 0 m0 [] H2)
  (turn:∀ i m ys H2,W i m ys H2->ys.length<=sizeLine/\((J.stop i H2/\QN ys H2)\/(J.go i H2/\∀ x H3,J.yld i H2 x H3->g x (List.replicate own.length none++Jaz cs σ) H3 fun σ4 H4=>te σ4 H4 fun y H5=>∃ m',m'<m/\W (i+1) m' (ys++[y]) H5)))
  (hRR:∀ (D C:Addr) (s6:Shared) (H5:Hp) (ys:List V),(∀ h7,Heap.SameBut C s6.heap h7->Inv X pins σ (upd H5 D (.lst ys)) { s6 with heap:=h7 })->H5 D=none->H5 C=none->D≠C->(∃ m,s6.heap.Ns C m)->s2.heap.objs.size<=C->QN ys H5->RR (.ref D) C (.ok .next) s6) :
  wpAny (model X.prog X.w) X.A (newList []) (fun acc s₃=>wpAny (model X.prog X.w) X.A (newFunctionEnv scope X.env.globals cl [] X.env.qual none .none (some X.env)) (fun cenv s₄=>
   codeAny (model X.prog X.w) X.A (.compStart (.ListComp elt [⟨tg,iter,[],0⟩] scope pos) 0 (.ref it) acc { cenv with scope:=relabel scope X.env }) (RR acc cenv.locals) s₄) E s₃) E s2:=by
 have G:∀ b∈fp,b<s2.heap.objs.size:=fun b d=>by
  obtain ⟨o,e,_⟩:=T.obj _ _ st2 b d;exact Heap.lt_size e
 refine wpAny_newObj_type (wpAny_newFunctionEnv hcell (by intro y hy;simp at hy) (fun h4 l h=>?_) hkind);dsimp only at l h ⊢;generalize hH3:s2.heap.push { cls:=.type "list",dict:=none,data:=.seq ([]:List Value).toArray }=H3 at l h ⊢;have a4:H3.objs.size=s2.heap.objs.size+1:=by rw [<- hH3,Heap.size_push]
 have R:s2.heap.objs.size<=H3.objs.size:=by ac_nf
 have k:s2.heap.objs.size≠H3.objs.size:=by ac_nf
 have U:∀ b o,s2.heap.get? b=some o->h4.get? b=some o:=fun b o e=>h.extBut b o (by have:=Heap.lt_size e;exact Nat.ne_of_lt (Nat.lt_of_lt_of_le this R)) (Heap.get?_push_of_some _ (hH3 ▸ Heap.get?_push_of_some _ e));have Z:h4.get? s2.heap.objs.size=some { cls:=.type "list",data:=.seq ([]:List Value).toArray }:=h.extBut _ _ k (Heap.get?_push_of_some _ (hH3 ▸ Heap.get?_push_size _ rfl));obtain ⟨D,f⟩:∃ D,D=s2.heap.objs.size:=⟨_,rfl⟩;obtain ⟨C,a7⟩:∃ C,C=H3.objs.size:=⟨_,rfl⟩;rw [<- a7] at a4 l h R k ⊢;rw [<- f] at G a4 R k Z ⊢;have F:=I2.incOk (N':=own++cs.map (·.2)) (C:=C) f2 (fun b d=>by rw [<- f];exact G b d) hkind (by rw [<- f];exact R) hcl hhas;have I4:Inv (X.inc (own++cs.map (·.2)) scope cl fp s2 H2 C) [] (List.replicate own.length none++Jaz cs σ) H2 { s2 with heap:=h4,toks:=s2.toks+([]:List (Str × Value)).length } :=
  I2.incStart (s4:={ s2 with heap:=h4,toks:=s2.toks+([]:List (Str × Value)).length }) F U rfl rfl l (by rw [<- f];exact R) hcl hcs
 have Dfree:H2 D=none:=I2.hok.fresh (Nat.le_of_eq f.symm);have H:∀ b o,s2.heap.get? b=some o->b≠D:=fun b o e=>by
  rw [f];exact Nat.ne_of_lt (Heap.lt_size e)
 have a9:∀ b o,s2.heap.get? b=some o->b≠C:=fun b o e=>Nat.ne_of_lt (Nat.lt_of_lt_of_le (by rw [f];exact Heap.lt_size e) R);have Dfs:D∉frs X.stack:=fun hm=>by
  obtain ⟨_,o,e,_⟩:=I2.stack.mem hm;exact H _ _ e rfl
 have L:∀ {σ':St} {H':Hp} {s':Shared} {us:List Value} {n:Nat} {pl:List (Addr × Obj)},Inv (X.inc (own++cs.map (·.2)) scope cl fp s2 H2 C) pl σ' H' s'->s'.heap.get? D=some { cls:=.type "list",data:=.seq us.toArray n }->H' D=none ->
   Inv (X.inc (own++cs.map (·.2)) scope cl fp s2 H2 C) [(D,{ cls:=.type "list",data:=.seq us.toArray n })] σ' H' s':=fun {σ' H' s' us n pl} J' e n'=>J'.pins_of fun p P=>by
  rcases mem_singleton.mp P with rfl
  exact ⟨e,n',k,Dfs,fun v z=>by cases z⟩
 have B:∀ {H':Hp} {o:Obj},(∀ b∈fp,H' b=none)->∀ b∈fp,FpOk (X.inc (own++cs.map (·.2)) scope cl fp s2 H2 C) [(D,o)] H' b:=fun {H' o} hn b d=>by
  refine ⟨hn b d,(F.exf b d).1,F.exfs b d, .inl d,(F.exf b d).2,fun p P=>?_⟩;rcases mem_singleton.mp P with rfl
  exact Nat.ne_of_gt (G b d)
 have M:∀ s3:Shared,s3={ s2 with heap:=h4,toks:=s2.toks+([]:List (Str × Value)).length } ->
   codeAny (model X.prog X.w) X.A (.compLoop (.ListComp elt [⟨tg,iter,[],0⟩] scope pos) 0 (.ref it) (.ref D) (compEnvC scope cl C X.env)) (RR (.ref D) C) s3:=by
  rintro s3 rfl;refine Jhu (fun n s'=>∃ i ys us Y H',Inv (X.inc (own++cs.map (·.2)) scope cl fp s2 H2 C) [(D,{ cls:=.type "list",data:=.seq us.toArray Y })] (List.replicate own.length none++Jaz cs σ) H' s'/\tn i s'.heap/\(∀ b∈fp,H' b=none)/\Vals ys us/\W i n ys H') ?_ m0
   ⟨0,[],[],0,H2,L (us:=[]) (n:=0) I4 Z Dfree,T.keep _ _ _ st2 fun b d o e=>U b o e,fun b d=>(f2 b d).1, .nil,w0⟩
  rintro n s5 ⟨i,ys,us,Y,H5,I5,a2,a1,vy,w5⟩;obtain ⟨hz,⟨stop,qn⟩ | ⟨go,a0⟩⟩:=turn i n ys H5 w5
  ·refine wpAny_mono (T.done (X.inc (own++cs.map (·.2)) scope cl fp s2 H2 C) rfl rfl rfl hc i _ s5 _ H5 (fun _ _=>False) I5 (B a1) a2 stop) (fun r s6 z=>?_) fun _ _ z=>z;obtain ⟨rfl,I6⟩:=z;obtain ⟨m6,b0,_⟩:=id I6.loc;obtain ⟨pD,pN,_,_,_⟩:=I6.pin (D,{ cls:=.type "list",data:=.seq us.toArray Y }) (by simp);have Cfree:H5 C=none:=I6.free;refine hRR D C s6 H5 ys (fun h7 a8=>?_) pN Cfree k ⟨m6,b0⟩ (by rw [<- f];exact R) qn;have j:∀ b,b≠C->h7.get? b=s6.heap.get? b:=fun b d=>a8.2 b d;have S:=a9;have u7:Un (frs X.stack) fp H2 H5 s2.heap h7:=⟨fun b o e n1 n2 n3=>(j b (S b o e)).trans (I6.base.keep b o e n1 n2 n3),fun b o e n1 n2 n3=>by
     obtain ⟨sl,z⟩:=I6.base.slot b o e n1 n2 n3;exact ⟨sl,(j b (S b o e)).trans z⟩,I6.base.free,fun b o e n1=>by
     obtain ⟨o',z⟩:=I6.base.there b o e n1;exact ⟨o',(j b (S b o e)).trans z⟩,I6.base.tups,I6.base.frzs,I6.base.tbls⟩
   have a3:HOk X.prog X.w H5 h7:=fun a o e=>by
    refine (I6.hok a o e).stay (fun c v a6 q=>(j c ?_).trans q) (fun _ q=>q) fun _ _ q=>q;rintro rfl;rcases a6 with z | z
    ·rw [<- z] at e;rw [Cfree] at e;cases e
    ·rw [Cfree] at z;cases z
   have I7:Inv X pins σ H5 { s6 with heap:=h7 }:=I2.call' (s':={ s6 with heap:=h7 }) I6.os u7 a3 I6.bare fun b d=>⟨(f2 b d).2.2.2.1,(f2 b d).2.1,(f2 b d).2.2.2.2.1,(f2 b d).2.2.2.2.2⟩;exact I7.track (a:=D) (o:=.lst ys) pN (Heap.get?_none_of_le (by rw [f];exact I2.sz)) (by rw [f];exact Nat.ne_of_gt I2.lt) (fun x c e z=>by
     obtain ⟨v,o,ho,_⟩:=I2.cell x c e;exact H _ _ ho z) (fun p P z=>H _ _ (I2.pin p P).1 z) ⟨hz,us,Y,vy,(j D k).trans pD⟩
  ·refine wpAny_mono (T.item (X.inc (own++cs.map (·.2)) scope cl fp s2 H2 C) rfl rfl rfl hc i _ s5 _ H5 (fun _ _=>False) I5 (B a1) a2 go) (fun r s6 z=>?_) fun _ _ z=>z;obtain ⟨u,rfl,z⟩:=z;refine wpAny_mono z (fun _ s7 ζ=>?_) fun _ _ z=>z;obtain ⟨x,H7,I7,r7,y7,Q,b1⟩:=ζ;have I7':=I7.pinned (B b1) (T.obj _ _ Q);refine wpAny_mono (hg fp s2 H2 C _ s7 _ H7 x u _ I7' r7 (a0 x H7 y7)) (fun _ s8 ⟨σ8,H8,I8,q8⟩=>?_) fun _ _ z=>z;refine wpAny_mono (he fp s2 H2 C _ s8 σ8 H8 _ I8 q8) (fun uy s9 ζ=>?_) fun _ _ z=>z;obtain ⟨y,H9,I9,r9,m',a5,w9⟩:=ζ;obtain ⟨pD,pN,_,_,_⟩:=I9.pin (D,{ cls:=.type "list",data:=.seq us.toArray Y }) (by simp);refine append_at (its:=us.toArray) (n:=Y) pD (fun b2 O I=>?_) (by rw [size_toArray, <- vy.length];exact hz);have t:∀ b∈fp, ∀ o,s7.heap.get? b=some o->s9.heap.get? b=some o/\H9 b=none:=fun b d o e=>by
    have z:=I9.pin (b,o) (mem_append_right _ (mem_append_right _ (Jcc d e)));exact ⟨z.1,z.2.1⟩
   have I9':Inv (X.inc (own++cs.map (·.2)) scope cl fp s2 H2 C) [] (List.replicate own.length none++Jaz cs σ) H9 s9:=I2.incAgain I9 f2 hcl hcs;have I10:Inv (X.inc (own++cs.map (·.2)) scope cl fp s2 H2 C) [] (List.replicate own.length none++Jaz cs σ) H9 { s9 with heap:=b2 }:=I9'.turned (it:=D) (t':=s9.toks) (fun b o d e=>(O.2 b d).trans e) pN k (.inr (Nat.le_of_eq f.symm)) (fun x c e z=>by
     obtain ⟨v,o,ho,_⟩:=I2.cell x c (hcl x c e);exact H _ _ ho z) fun p P=>by simp at P
   rw [lstP] at I;refine ⟨m',a5,i+1,ys++[y],us++[uy],Y+1,H9,L I10 I pN,T.keep _ _ _ Q fun b d o e=>?_,fun b d=>?_,vy.append (.cons r9 .nil),w9⟩
   ·exact (O.2 b (Nat.ne_of_lt (G b d))).trans (t b d o e).1
   ·obtain ⟨o,e,_⟩:=T.obj _ _ Q b d;exact (t b d o e).2
 exact codeAny_compStart_list (M _ rfl) (T.self _ 0 _ _ _ (T.keep _ _ _ st2 fun b d o e=>U b o e) (M _ rfl))
theorem Je8 (hcell:∀ y∈scope.names,y.2≠.cell) {y:Str} (hy:(relabel scope X.env).names.lookup y=some .cell\/(relabel scope X.env).names.lookup y=some .free):(y,NameKind.free)∈scope.names:=by
 have d:∀ k,(k=.cell\/k=.free)->(relabel scope X.env).names.lookup y=some k->(y,NameKind.free)∈scope.names:=fun k h e=>by
  have m:=PySem.mem_of_lookup e;obtain ⟨⟨n,f⟩,b,g⟩:=mem_map.mp (show (y,k)∈scope.names.map _ from m);have a:(if (f == NameKind.free&&X.env.scope.kind == .function&&X.env.kindOf n == some .cell)=true then (n,NameKind.cell) else (n,f))=(y,k):=g;split at a
  ·rename_i c;rw [Bool.and_eq_true,Bool.and_eq_true] at c;have:=beq_iff_eq.mp c.1.1;subst this;cases a;exact b
  ·cases a;rcases h with rfl | rfl
   ·exact absurd rfl (hcell _ b)
   ·exact b
 rcases hy with hy | hy
 ·exact d _ (.inl rfl) hy
 ·exact d _ (.inr rfl) hy
variable {spos py:Pos} {wi:TI}
theorem JhJ {cs:List (Nat × Str)} {g:TG} (hN:X.N.Nodup) (hj:X.N[j]?=some y) (hy:Loc X.env.scope y) (hc:X.calm=true) (hi:PI X tg iter wi)
  (hg:∀ fp s2 H2 C,PG (X.inc (own++cs.map (·.2)) scope (Jbm X.env.cells scope.names []) fp s2 H2 C) tg g) (he:∀ fp s2 H2 C,PE (X.inc (own++cs.map (·.2)) scope (Jbm X.env.cells scope.names []) fp s2 H2 C) elt te)
  (hfree:∀ p∈scope.names,p.2=.free->X.env.scope.names.lookup p.1=some .cell) (hcell:∀ y∈scope.names,y.2≠.cell) (hkind:scope.kind=.function) (hnames:∀ y∈scope.names,y.2=.local->scope.names.lookup y.1=some .local)
  (hcs:∀ p∈cs,X.N[p.1]?=some p.2/\X.env.scope.names.lookup p.2=some .cell/\(relabel scope X.env).names.lookup p.2=some .cell)
  (hsw:swapsWith (.ListComp elt [⟨tg,iter,[],0⟩] scope pos) (some (.Name y py)) spos.line X.env=pure true:=by rfl)
  (hs:∀ x,foldedSetIterable iter X.env x=pure x:=by intro _;rfl) (hf:X.fn y=true\/X.env.scope.names.lookup y=some .local:=by first | exact .inl rfl | exact .inr rfl) :
  PS X (.Assign [.Name y py] (.ListComp elt [⟨tg,iter,[],0⟩] scope pos) spos) (tAsg (tComp own.length cs wi g te) (gName j)):=by
 intro d s σ H D I h;have k:∀ p∈scope.names,p.2=.free->∃ c,X.env.cells.lookup p.1=some c:=fun p r M=>I.ok.has p.1 (.inl (hfree p r M));have K:=Jb8 (cells:=X.env.cells) scope.names [] (fun _ _ z=>by simp at z) k;rw [exec_Assign_Name_used _ _ _ _ hsw];refine wpAny_bind (wpAny_standAt (wpAny_bind ?_));show wpAny _ X.A (do let _ <- comprehension (.ListComp elt [⟨tg,iter,[],0⟩] scope pos) scope X.env _ (newList []) false (eval iter X.env) (some (assign (.Name y py) X.env))) _ _ s;refine wpAny_bind (wpAny_mono (wpAny_comprehension_free (use:=some (assign (.Name y py) X.env)) (Q:=fun _ L=>SP X d D .next L) rfl hs (JeZ k) hkind hnames
  (thn (hi d s σ H _ I h) fun v s1 V=>thn V fun a0 s2 h2=>?_)) (fun _ L R=>wpAny_pure (wpAny_pure R)) fun _ _ e=>e)
 obtain ⟨it,fp,tn,J,H2,rfl,I2,T,m,S,W,⟨m0,w0⟩,i⟩:=h2;refine JeG (QN:=fun E l=>∀ p,l p=none->D.nx (σ.set j (some (.ref p))) (upd l p (.lst E))) hc hg he hcell hkind K (fun z hz=>Jb7 scope.names [] z (.inr (Je8 hcell hz))) hcs I2 T m S w0 i ?_;intro D' C w l E B dN cN P U f q;obtain ⟨O,F⟩:=U;have I8:Inv X d σ (upd l D' (.lst E)) w:=B w.heap (Heap.SameBut.refl _ _);show wpAny _ X.A (assign (.Name y py) X.env (.ref D')) _ _ w;refine wpAny_assign_Name (Jen (v:=.ref D') I8 hN hj hy rfl (fun Y I7 G=>?_) hf);obtain ⟨a,Z,u⟩:=G;have nC:C≠a:=by
  rcases u with rfl | u
  ·exact Nat.ne_of_gt (Nat.lt_of_lt_of_le I2.lt f)
  ·obtain ⟨v,o,n,_⟩:=I2.cell y a u;exact Nat.ne_of_gt (Nat.lt_of_lt_of_le (Heap.lt_size n) f)
 refine ⟨O,F.sameBut Z nC,fun h8 t=>⟨_,_,?_,q D' dN⟩⟩;exact I7.turned (it:=C) (t':=Y.toks) (fun b o hb e=>(t.2 b hb).trans e) (by rw [Jah (Ne.symm P)];exact cN) (Nat.ne_of_gt (Nat.lt_of_lt_of_le I2.lt f)) (.inr (Nat.le_trans I2.sz f)) (fun x c e z=>by
  obtain ⟨v,o,n,_⟩:=I2.cell x c e;exact absurd (Nat.lt_of_lt_of_le (Heap.lt_size n) f) (by rw [z];exact Nat.lt_irrefl _)) (fun p r z=>absurd (Nat.lt_of_lt_of_le (Heap.lt_size (I2.pin p r).1) f) (by rw [z];exact Nat.lt_irrefl _))
variable {tst:Expr}
theorem Jgn {it:Value} (J:Nat->Shared->Prop)
  (turn:∀ n s,J n s->wpAny (model prog w) A (pyNext it) (fun r s1=>match r with
   | none=>R (.ok .next) s1
   | some v=>wpAny (model prog w) A (letOwnedTupleGo target it v) (fun _ s2=>wpAny (model prog w) A (assign target env v) (fun _ s3=>wpAny (model prog w) A (isTrue tst env (eval tst env)) (fun b s3'=>if b=true then wpAny (model prog w) A (eval elt env) (fun x s4=>
     wpAny (model prog w) A (call (.builtin "list.append") [acc,x]) (fun _ s5=>∃ m,m<n/\J m s5) (fun _ _=>False) s4) (fun _ _=>False) s3' else ∃ m,m<n/\J m s3') (fun _ _=>False) s3) (fun _ _=>False) s2) (fun _ _=>False) s1) (fun _ _=>False) s) (n:Nat) (h:J n s) :
  codeAny (model prog w) A (.compLoop (.ListComp elt [⟨target,iter,[tst],0⟩] scope pos) 0 it acc env) R s:=by
 refine codeAny_loop rfl J (fun n s g=>?_) n h;show wpAny _ A ((compTurn (.ListComp elt [⟨target,iter,[tst],0⟩] scope pos) 0 it acc env).onRaise (fun y=>do noteFrame y env;theTreesLotGoes y)) _ _ s
 (refine wpAny_noted ?_;rw [compTurn_list])
 refine wpAny_bind (wpAny_standAt (wpAny_bind (wpAny_mono (turn n s g) (fun r s1 c=>?_) fun _ _ z=>z.elim)));cases r with
 | none=>exact wpAny_pure c
 | some v=>
  refine wpAny_bind (wpAny_mono c (fun _ s2 i=>wpAny_bind (wpAny_mono i (fun _ s3 f=>?_) fun _ _ z=>z.elim)) fun _ _ z=>z.elim);refine wpAny_bind (wpAny_tests_one (wpAny_mono f (fun b s3' a=>?_) fun _ _ z=>z.elim));cases b with
  | true=>exact wpAny_bind (wpAny_bind (wpAny_mono a (fun x s4 d=>(wpAny_bind (wpAny_mono d (fun _ s5 e=>(wpAny_pure (wpAny_pure ⟨rfl,e⟩))) fun _ _ z=>z.elim))) fun _ _ z=>z.elim))
  | false=>exact wpAny_bind (wpAny_pure (wpAny_pure ⟨rfl,a⟩))
def JeU (k:Nat) (cs:List (Nat × Str)) (wi:TI) (g:TG) (tt:TT) (te:TE):TE:=fun σ H Q=>wi σ H fun J H1=>∃ W:Nat->Nat->List V->Hp->Prop,(∃ m,W 0 m [] H1)/\∀ i m ys H2,W i m ys H2->ys.length<=sizeLine /\
  ((J.stop i H2/\∀ p,H2 p=none->Q (.ref p) (upd H2 p (.lst ys))) \/
   (J.go i H2/\∀ x H3,J.yld i H2 x H3->g x (List.replicate k none++Jaz cs σ) H3 fun σ4 H4=>tt σ4 H4 fun b H5=>if b=true then te σ4 H5 fun y H6=>∃ m',m'<m/\W (i+1) m' (ys++[y]) H6 else ∃ m',m'<m/\W (i+1) m' ys H5))
variable {tt:TT}
theorem JdU {cs:List (Nat × Str)} {g:TG} {it:Addr}
  {W:Nat->Nat->List V->Hp->Prop} {m0:Nat} {QN:List V->Hp->Prop} {RR:Value->Addr->Result->Shared->Prop} {E:Value->Shared->Prop} (hc:X.calm=true)
  (hg:∀ fp s2 H2 C,PG (X.inc (own++cs.map (·.2)) scope cl fp s2 H2 C) tg g) (ht:∀ fp s2 H2 C,PT (X.inc (own++cs.map (·.2)) scope cl fp s2 H2 C) tst tt) (he:∀ fp s2 H2 C,PE (X.inc (own++cs.map (·.2)) scope cl fp s2 H2 C) elt te)
  (hcell:∀ y∈scope.names,y.2≠.cell) (hkind:scope.kind=.function)
  (hcl:∀ x c,cl.lookup x=some c->X.env.cells.lookup x=some c) (hhas:∀ y,((relabel scope X.env).names.lookup y=some .cell\/(relabel scope X.env).names.lookup y=some .free)->∃ c,cl.lookup y=some c)
  (hcs:∀ p∈cs,X.N[p.1]?=some p.2/\X.env.scope.names.lookup p.2=some .cell/\(relabel scope X.env).names.lookup p.2=some .cell)
  (I2:Inv X pins σ H2 s2) (T:Turn X.prog X.w X.K tg J fp it tn) (st2:tn 0 s2.heap) (f2:∀ b∈fp,FpOk X pins H2 b) (w0:W 0 m0 [] H2)
  (turn:∀ i m ys H2,W i m ys H2->ys.length<=sizeLine/\((J.stop i H2/\QN ys H2)\/(J.go i H2/\∀ x H3,J.yld i H2 x H3->g x (List.replicate own.length none++Jaz cs σ) H3 fun σ4 H4=>tt σ4 H4 fun b H5=>if b=true then te σ4 H5 fun y H6=>∃ m',m'<m/\W (i+1) m' (ys++[y]) H6 else ∃ m',m'<m/\W (i+1) m' ys H5)))
  (hRR:∀ (D C:Addr) (s6:Shared) (H5:Hp) (ys:List V),(∀ h7,Heap.SameBut C s6.heap h7->Inv X pins σ (upd H5 D (.lst ys)) { s6 with heap:=h7 })->H5 D=none->H5 C=none->D≠C->(∃ m,s6.heap.Ns C m)->s2.heap.objs.size<=C->QN ys H5->RR (.ref D) C (.ok .next) s6) :
  wpAny (model X.prog X.w) X.A (newList []) (fun acc s₃=>wpAny (model X.prog X.w) X.A (newFunctionEnv scope X.env.globals cl [] X.env.qual none .none (some X.env)) (fun cenv s₄=>
   codeAny (model X.prog X.w) X.A (.compStart (.ListComp elt [⟨tg,iter,[tst],0⟩] scope pos) 0 (.ref it) acc { cenv with scope:=relabel scope X.env }) (RR acc cenv.locals) s₄) E s₃) E s2:=by
 have L:∀ b∈fp,b<s2.heap.objs.size:=fun b d=>by
  obtain ⟨o,e,_⟩:=T.obj _ _ st2 b d;exact Heap.lt_size e
 refine wpAny_newObj_type (wpAny_newFunctionEnv hcell (by intro y hy;simp at hy) (fun h4 t j=>?_) hkind);dsimp only at t j ⊢;generalize hH3:s2.heap.push { cls:=.type "list",dict:=none,data:=.seq ([]:List Value).toArray }=H3 at t j ⊢;have a8:H3.objs.size=s2.heap.objs.size+1:=by rw [<- hH3,Heap.size_push]
 have Z:s2.heap.objs.size<=H3.objs.size:=by ac_nf
 have l:s2.heap.objs.size≠H3.objs.size:=by ac_nf
 have a1:∀ b o,s2.heap.get? b=some o->h4.get? b=some o:=fun b o e=>j.extBut b o (by have:=Heap.lt_size e;exact Nat.ne_of_lt (Nat.lt_of_lt_of_le this Z)) (Heap.get?_push_of_some _ (hH3 ▸ Heap.get?_push_of_some _ e));have a3:h4.get? s2.heap.objs.size=some { cls:=.type "list",data:=.seq ([]:List Value).toArray }:=j.extBut _ _ l (Heap.get?_push_of_some _ (hH3 ▸ Heap.get?_push_size _ rfl));obtain ⟨D,h⟩:∃ D,D=s2.heap.objs.size:=⟨_,rfl⟩;obtain ⟨C,b1⟩:∃ C,C=H3.objs.size:=⟨_,rfl⟩;rw [<- b1] at a8 t j Z l ⊢;rw [<- h] at L a8 Z l a3 ⊢;have I:=I2.incOk (N':=own++cs.map (·.2)) (C:=C) f2 (fun b d=>by rw [<- h];exact L b d) hkind (by rw [<- h];exact Z) hcl hhas;have I4:Inv (X.inc (own++cs.map (·.2)) scope cl fp s2 H2 C) [] (List.replicate own.length none++Jaz cs σ) H2 { s2 with heap:=h4,toks:=s2.toks+([]:List (Str × Value)).length } :=
  I2.incStart (s4:={ s2 with heap:=h4,toks:=s2.toks+([]:List (Str × Value)).length }) I a1 rfl rfl t (by rw [<- h];exact Z) hcl hcs
 have Dfree:H2 D=none:=I2.hok.fresh (Nat.le_of_eq h.symm);have M:∀ b o,s2.heap.get? b=some o->b≠D:=fun b o e=>by
  rw [h];exact Nat.ne_of_lt (Heap.lt_size e)
 have b3:∀ b o,s2.heap.get? b=some o->b≠C:=fun b o e=>Nat.ne_of_lt (Nat.lt_of_lt_of_le (by rw [h];exact Heap.lt_size e) Z);have Dfs:D∉frs X.stack:=fun hm=>by
  obtain ⟨_,o,e,_⟩:=I2.stack.mem hm;exact M _ _ e rfl
 have F:∀ {σ':St} {H':Hp} {s':Shared} {us:List Value} {n:Nat} {pl:List (Addr × Obj)},Inv (X.inc (own++cs.map (·.2)) scope cl fp s2 H2 C) pl σ' H' s'->s'.heap.get? D=some { cls:=.type "list",data:=.seq us.toArray n }->H' D=none ->
   Inv (X.inc (own++cs.map (·.2)) scope cl fp s2 H2 C) [(D,{ cls:=.type "list",data:=.seq us.toArray n })] σ' H' s':=fun {σ' H' s' us n pl} J' e n'=>J'.pins_of fun p S=>by
  rcases mem_singleton.mp S with rfl
  exact ⟨e,n',l,Dfs,fun v z=>by cases z⟩
 have G:∀ {H':Hp} {o:Obj},(∀ b∈fp,H' b=none)->∀ b∈fp,FpOk (X.inc (own++cs.map (·.2)) scope cl fp s2 H2 C) [(D,o)] H' b:=fun {H' o} hn b d=>by
  refine ⟨hn b d,(I.exf b d).1,I.exfs b d, .inl d,(I.exf b d).2,fun p S=>?_⟩;rcases mem_singleton.mp S with rfl
  exact Nat.ne_of_gt (L b d)
 have Q:∀ s3:Shared,s3={ s2 with heap:=h4,toks:=s2.toks+([]:List (Str × Value)).length } ->
   codeAny (model X.prog X.w) X.A (.compLoop (.ListComp elt [⟨tg,iter,[tst],0⟩] scope pos) 0 (.ref it) (.ref D) (compEnvC scope cl C X.env)) (RR (.ref D) C) s3:=by
  rintro s3 rfl;refine Jgn (fun n s'=>∃ i ys us O H',Inv (X.inc (own++cs.map (·.2)) scope cl fp s2 H2 C) [(D,{ cls:=.type "list",data:=.seq us.toArray O })] (List.replicate own.length none++Jaz cs σ) H' s'/\tn i s'.heap/\(∀ b∈fp,H' b=none)/\Vals ys us/\W i n ys H') ?_ m0
   ⟨0,[],[],0,H2,F (us:=[]) (n:=0) I4 a3 Dfree,T.keep _ _ _ st2 fun b d o e=>a1 b o e,fun b d=>(f2 b d).1, .nil,w0⟩
  rintro n s5 ⟨i,ys,us,O,H5,I5,a6,a5,vy,w5⟩;obtain ⟨hz,⟨stop,qn⟩ | ⟨go,a4⟩⟩:=turn i n ys H5 w5
  ·refine wpAny_mono (T.done (X.inc (own++cs.map (·.2)) scope cl fp s2 H2 C) rfl rfl rfl hc i _ s5 _ H5 (fun _ _=>False) I5 (G a5) a6 stop) (fun r s6 z=>?_) fun _ _ z=>z;obtain ⟨rfl,I6⟩:=z;obtain ⟨m6,b4,_⟩:=id I6.loc;obtain ⟨pD,Y,_,_,_⟩:=I6.pin (D,{ cls:=.type "list",data:=.seq us.toArray O }) (by simp);have Cfree:H5 C=none:=I6.free;refine hRR D C s6 H5 ys (fun h7 b2=>?_) Y Cfree l ⟨m6,b4⟩ (by rw [<- h];exact Z) qn;have k:∀ b,b≠C->h7.get? b=s6.heap.get? b:=fun b d=>b2.2 b d;have a0:=b3;have u7:Un (frs X.stack) fp H2 H5 s2.heap h7:=⟨fun b o e n1 n2 n3=>(k b (a0 b o e)).trans (I6.base.keep b o e n1 n2 n3),fun b o e n1 n2 n3=>by
     obtain ⟨sl,z⟩:=I6.base.slot b o e n1 n2 n3;exact ⟨sl,(k b (a0 b o e)).trans z⟩,I6.base.free,fun b o e n1=>by
     obtain ⟨o',z⟩:=I6.base.there b o e n1;exact ⟨o',(k b (a0 b o e)).trans z⟩,I6.base.tups,I6.base.frzs,I6.base.tbls⟩
   have a7:HOk X.prog X.w H5 h7:=fun a o e=>by
    refine (I6.hok a o e).stay (fun c v b0 q=>(k c ?_).trans q) (fun _ q=>q) fun _ _ q=>q;rintro rfl;rcases b0 with z | z
    ·rw [<- z] at e;rw [Cfree] at e;cases e
    ·rw [Cfree] at z;cases z
   have I7:Inv X pins σ H5 { s6 with heap:=h7 }:=I2.call' (s':={ s6 with heap:=h7 }) I6.os u7 a7 I6.bare fun b d=>⟨(f2 b d).2.2.2.1,(f2 b d).2.1,(f2 b d).2.2.2.2.1,(f2 b d).2.2.2.2.2⟩;exact I7.track (a:=D) (o:=.lst ys) Y (Heap.get?_none_of_le (by rw [h];exact I2.sz)) (by rw [h];exact Nat.ne_of_gt I2.lt) (fun x c e z=>by
     obtain ⟨v,o,ho,_⟩:=I2.cell x c e;exact M _ _ ho z) (fun p S z=>M _ _ (I2.pin p S).1 z) ⟨hz,us,O,vy,(k D l).trans pD⟩
  ·refine wpAny_mono (T.item (X.inc (own++cs.map (·.2)) scope cl fp s2 H2 C) rfl rfl rfl hc i _ s5 _ H5 (fun _ _=>False) I5 (G a5) a6 go) (fun r s6 z=>?_) fun _ _ z=>z;obtain ⟨u,rfl,z⟩:=z;refine wpAny_mono z (fun _ s7 ζ=>?_) fun _ _ z=>z;obtain ⟨x,H7,I7,r7,y7,B,b5⟩:=ζ;have I7':=I7.pinned (G b5) (T.obj _ _ B);refine wpAny_mono (hg fp s2 H2 C _ s7 _ H7 x u _ I7' r7 (a4 x H7 y7)) (fun _ s8 ⟨σ8,H8,I8,q8⟩=>?_) fun _ _ z=>z;refine wpAny_mono (ht fp s2 H2 C _ s8 σ8 H8 _ I8 q8) (fun bb a2 ⟨H,I8',a9⟩=>?_) fun _ _ z=>z;cases bb with
   | true=>
    refine wpAny_mono (he fp s2 H2 C _ a2 σ8 H _ I8' a9) (fun uy s9 ζ=>?_) fun _ _ z=>z;obtain ⟨y,H9,I9,r9,m',U,w9⟩:=ζ;obtain ⟨pD,Y,_,_,_⟩:=I9.pin (D,{ cls:=.type "list",data:=.seq us.toArray O }) (by simp);refine append_at (its:=us.toArray) (n:=O) pD (fun b6 R P=>?_) (by rw [size_toArray, <- vy.length];exact hz);have f:∀ b∈fp, ∀ o,s7.heap.get? b=some o->s9.heap.get? b=some o/\H9 b=none:=fun b d o e=>by
     have z:=I9.pin (b,o) (mem_append_right _ (mem_append_right _ (Jcc d e)));exact ⟨z.1,z.2.1⟩
    have I9':Inv (X.inc (own++cs.map (·.2)) scope cl fp s2 H2 C) [] (List.replicate own.length none++Jaz cs σ) H9 s9:=I2.incAgain I9 f2 hcl hcs;have I10:Inv (X.inc (own++cs.map (·.2)) scope cl fp s2 H2 C) [] (List.replicate own.length none++Jaz cs σ) H9 { s9 with heap:=b6 }:=I9'.turned (it:=D) (t':=s9.toks) (fun b o d e=>(R.2 b d).trans e) Y l (.inr (Nat.le_of_eq h.symm)) (fun x c e z=>by
      obtain ⟨v,o,ho,_⟩:=I2.cell x c (hcl x c e);exact M _ _ ho z) fun p S=>by simp at S
    rw [lstP] at P;refine ⟨m',U,i+1,ys++[y],us++[uy],O+1,H9,F I10 P Y,T.keep _ _ _ B fun b d o e=>?_,fun b d=>?_,vy.append (.cons r9 .nil),w9⟩
    ·exact (R.2 b (Nat.ne_of_lt (L b d))).trans (f b d o e).1
    ·obtain ⟨o,e,_⟩:=T.obj _ _ B b d;exact (f b d o e).2
   | false=>
    obtain ⟨m',U,w9⟩:=a9;obtain ⟨pD,Y,_,_,_⟩:=I8'.pin (D,{ cls:=.type "list",data:=.seq us.toArray O }) (by simp);have f:∀ b∈fp, ∀ o,s7.heap.get? b=some o->a2.heap.get? b=some o/\H b=none:=fun b d o e=>by
     have z:=I8'.pin (b,o) (mem_append_right _ (mem_append_right _ (Jcc d e)));exact ⟨z.1,z.2.1⟩
    have I9':Inv (X.inc (own++cs.map (·.2)) scope cl fp s2 H2 C) [] (List.replicate own.length none++Jaz cs σ) H a2:=I2.incAgain I8' f2 hcl hcs;refine ⟨m',U,i+1,ys,us,O,H,F I9' pD Y,T.keep _ _ _ B fun b d o e=>(f b d o e).1,fun b d=>?_,vy,w9⟩;obtain ⟨o,e,_⟩:=T.obj _ _ B b d;exact (f b d o e).2
 exact codeAny_compStart_list (Q _ rfl) (T.self _ 0 _ _ _ (T.keep _ _ _ st2 fun b d o e=>a1 b o e) (Q _ rfl))
theorem JgL {cs:List (Nat × Str)} {g:TG} (hN:X.N.Nodup) (hj:X.N[j]?=some y) (hy:Loc X.env.scope y) (hc:X.calm=true) (hi:PI X tg iter wi)
  (hg:∀ fp s2 H2 C,PG (X.inc (own++cs.map (·.2)) scope (Jbm X.env.cells scope.names []) fp s2 H2 C) tg g) (ht:∀ fp s2 H2 C,PT (X.inc (own++cs.map (·.2)) scope (Jbm X.env.cells scope.names []) fp s2 H2 C) tst tt) (he:∀ fp s2 H2 C,PE (X.inc (own++cs.map (·.2)) scope (Jbm X.env.cells scope.names []) fp s2 H2 C) elt te)
  (hfree:∀ p∈scope.names,p.2=.free->X.env.scope.names.lookup p.1=some .cell) (hcell:∀ y∈scope.names,y.2≠.cell) (hkind:scope.kind=.function) (hnames:∀ y∈scope.names,y.2=.local->scope.names.lookup y.1=some .local)
  (hcs:∀ p∈cs,X.N[p.1]?=some p.2/\X.env.scope.names.lookup p.2=some .cell/\(relabel scope X.env).names.lookup p.2=some .cell)
  (hsw:swapsWith (.ListComp elt [⟨tg,iter,[tst],0⟩] scope pos) (some (.Name y py)) spos.line X.env=pure true:=by rfl)
  (hs:∀ x,foldedSetIterable iter X.env x=pure x:=by intro _;rfl) (hf:X.fn y=true\/X.env.scope.names.lookup y=some .local:=by first | exact .inl rfl | exact .inr rfl) :
  PS X (.Assign [.Name y py] (.ListComp elt [⟨tg,iter,[tst],0⟩] scope pos) spos) (tAsg (JeU own.length cs wi g tt te) (gName j)):=by
 intro d s σ H D I h;have k:∀ p∈scope.names,p.2=.free->∃ c,X.env.cells.lookup p.1=some c:=fun p r M=>I.ok.has p.1 (.inl (hfree p r M));have K:=Jb8 (cells:=X.env.cells) scope.names [] (fun _ _ z=>by simp at z) k;rw [exec_Assign_Name_used _ _ _ _ hsw];refine wpAny_bind (wpAny_standAt (wpAny_bind ?_));show wpAny _ X.A (do let _ <- comprehension (.ListComp elt [⟨tg,iter,[tst],0⟩] scope pos) scope X.env _ (newList []) false (eval iter X.env) (some (assign (.Name y py) X.env))) _ _ s;refine wpAny_bind (wpAny_mono (wpAny_comprehension_free (use:=some (assign (.Name y py) X.env)) (Q:=fun _ L=>SP X d D .next L) rfl hs (JeZ k) hkind hnames
  (thn (hi d s σ H _ I h) fun v s1 V=>thn V fun a0 s2 h2=>?_)) (fun _ L R=>wpAny_pure (wpAny_pure R)) fun _ _ e=>e)
 obtain ⟨it,fp,tn,J,H2,rfl,I2,T,m,S,W,⟨m0,w0⟩,i⟩:=h2;refine JdU (QN:=fun E l=>∀ p,l p=none->D.nx (σ.set j (some (.ref p))) (upd l p (.lst E))) hc hg ht he hcell hkind K (fun z hz=>Jb7 scope.names [] z (.inr (Je8 hcell hz))) hcs I2 T m S w0 i ?_;intro D' C w l E B dN cN P U f q;obtain ⟨O,F⟩:=U;have I8:Inv X d σ (upd l D' (.lst E)) w:=B w.heap (Heap.SameBut.refl _ _);show wpAny _ X.A (assign (.Name y py) X.env (.ref D')) _ _ w;refine wpAny_assign_Name (Jen (v:=.ref D') I8 hN hj hy rfl (fun Y I7 G=>?_) hf);obtain ⟨a,Z,u⟩:=G;have nC:C≠a:=by
  rcases u with rfl | u
  ·exact Nat.ne_of_gt (Nat.lt_of_lt_of_le I2.lt f)
  ·obtain ⟨v,o,n,_⟩:=I2.cell y a u;exact Nat.ne_of_gt (Nat.lt_of_lt_of_le (Heap.lt_size n) f)
 refine ⟨O,F.sameBut Z nC,fun h8 t=>⟨_,_,?_,q D' dN⟩⟩;exact I7.turned (it:=C) (t':=Y.toks) (fun b o hb e=>(t.2 b hb).trans e) (by rw [Jah (Ne.symm P)];exact cN) (Nat.ne_of_gt (Nat.lt_of_lt_of_le I2.lt f)) (.inr (Nat.le_trans I2.sz f)) (fun x c e z=>by
  obtain ⟨v,o,n,_⟩:=I2.cell x c e;exact absurd (Nat.lt_of_lt_of_le (Heap.lt_size n) f) (by rw [z];exact Nat.lt_irrefl _)) (fun p r z=>absurd (Nat.lt_of_lt_of_le (Heap.lt_size (I2.pin p r).1) f) (by rw [z];exact Nat.lt_irrefl _))
variable {h':Heap}
def Itz (K:W.Frag) (a b:Addr):It :=
  ⟨fun i H=>∃ xs ys x y,SqL K H a xs/\SqL K H b ys/\xs[i]?=some x/\ys[i]?=some y,
   fun i H v H'=>∃ p x y,(∀ xs,SqL K H a xs->xs[i]?=some x)/\(∀ ys,SqL K H b ys->ys[i]?=some y)/\H p=none/\v=.ref p/\H'=upd H p (.tup [x,y]),
   fun i H=>∃ xs ys,SqL K H a xs/\SqL K H b ys/\(xs.length<=i\/ys.length<=i)⟩
variable {elts:List Expr} {x1:Nat} {tp:Pos}
def iZip (K:W.Frag) (ta:TA):TI:=fun σ H R=>ta σ H fun vs H1=>∃ a b,vs=[.ref a, .ref b]/\(∃ xs,SqL K H1 a xs)/\(∃ ys,SqL K H1 b ys)/\R (Itz K a b) H1
section
variable {td ty tv tx:TE} {En:Ends} {K:W.Frag}
theorem y3fy:tDGet td ty σ H Q=td σ H fun x H1=>ty σ H1 fun y H2=>∃ a v,x=.ref a/\DGet H2 a y (some v)/\Q v H2:=rfl
theorem y48y:sDPut td ty tv En σ H=tv σ H fun v H1=>td σ H1 fun x H2=>ty σ H2 fun y H3=>∃ a H4,x=.ref a/\DPut H3 a y v H4/\En.nx σ H4:=rfl
theorem y44y:Jku σ H Q=∀ p,H p=none->Q (.ref p) (upd H p (.dK [])):=rfl
end
theorem hu1 {a b:Nat} (h:a+64<b):a+1<b:=by ac_nf
def rMul0:R2:=fun x y H Q=>match x,y with
 | .str z, .int n=>0<=n/\n<1000/\z.length<=1000/\∀ z':Str,z'.cps.toList=(List.replicate n.toNat z.cps.toList).flatten->Q (.str z') H
 | x,y=>rMulS x y H Q
theorem JaH:OpR X (binaryOp .Mult) rMul0:=fun a s σ H x y v u Q I c b q=>by
 unfold rMul0 at q;split at q
 ·rename_i z n;obtain ⟨h,e,f,q⟩:=q;by_cases d:n=0
  ·subst d;obtain ⟨t,rfl⟩:=c;obtain ⟨g,rfl⟩:=b;exact PySem.P.mul_str_none ⋯ ⋯ ⟨.str _,H,I.tok _,⟨_,rfl⟩,q Str.empty rfl⟩
  ·exact JiI a s σ H _ _ v u Q I c b ⟨by ac_nf,e,f,q⟩
 ·exact JiI a s σ H _ _ v u Q I c b q
section
variable {td ty:TE} {K:W.Frag}
theorem y71y {i j:Int}:rMul0 (.int i) (.int j) H Q=(IntMulOk i j/\Q (.int (i*j)) H):=rfl
end
variable {a:Addr}
theorem ForA.byL {K:W.Frag} {g:TG} {D:Ends} (hA:SqL K H a xs) (Pv:Nat->St->Hp->Prop) (h0:Pv 0 σ H) (hl:∀ i σ H',Pv i σ H'->SqL K H' a xs)
  (hs:∀ i x σ H,xs[i]?=some x->Pv i σ H->g x σ H fun σ2 H2=>tb { D with nx:=Pv (i+1),ct:=Pv (i+1),bk:=D.nx } σ2 H2) (hd:∀ σ H,Pv xs.length σ H->D.nx σ H):ForA K a g tb D σ H:=by
 refine .inl ⟨⟨xs,hA⟩,fun i m σ H=>Pv i σ H/\i<=xs.length/\m=xs.length-i,⟨_,h0,Nat.zero_le _,rfl⟩,?_⟩;rintro i m σ H ⟨d,h,rfl⟩;have c:=hl i σ H d;by_cases b:i<xs.length
 ·refine .inr ⟨⟨xs,xs[i],c,List.getElem?_eq_getElem b⟩,Pv (i+1),fun σ' H' p=>⟨_,Nat.sub_lt_sub_left b (Nat.lt_succ_self i),p,b,rfl⟩,?_⟩;rintro x H' ⟨rfl,f⟩;exact hs i x σ _ (f xs c) d
 ·have e:i=xs.length:=by ac_nf
  subst e;exact .inl ⟨⟨xs,c,Nat.le_refl _⟩,hd σ H d⟩
def ForJ (J:It) (g:TG) (tb:TS) (D:Ends) (σ : St) (H:Hp):Prop:=∃ W:Nat->Nat->St->Hp->Prop,(∃ m,W 0 m σ H)/\∀ i m σ H,W i m σ H ->
 (J.stop i H/\D.nx σ H)\/(J.go i H/\∃ N:St->Hp->Prop,(∀ σ' H',N σ' H'->∃ m',m'<m/\W (i+1) m' σ' H')/\∀ x H',J.yld i H x H'->g x σ H' fun σ2 H2=>tb { D with nx:=N,ct:=N,bk:=D.nx } σ2 H2)
theorem y59y {K:W.Frag} {g:TG} {D:Ends}:tFor (iZip K ta) g tb D σ H=ta σ H fun vs H1=>∃ a b,vs=[.ref a, .ref b]/\(∃ xs,SqL K H1 a xs)/\(∃ ys,SqL K H1 b ys)/\ForJ (Itz K a b) g tb D σ H1:=rfl
variable {H1:Hp}
theorem compL {K:W.Frag} {cs:List (Nat × Str)} {k:Nat} {g:TG} (Pv:Nat->List V->Hp->Prop) (h0:Pv 0 [] H1) (hl:∀ i ys H',i<=xs.length->Pv i ys H'->SqL K H' a xs/\ys.length<=sizeLine)
  (hs:∀ i x ys H2,xs[i]?=some x->Pv i ys H2->g x (List.replicate k none++Jaz cs σ) H2 fun σ4 H4=>te σ4 H4 fun y H5=>Pv (i+1) (ys++[y]) H5) (hd:∀ ys H2,Pv xs.length ys H2->∀ p,H2 p=none->Q (.ref p) (upd H2 p (.lst ys))) :
  ∃ W:Nat->Nat->List V->Hp->Prop,(∃ m,W 0 m [] H1)/\∀ i m ys H2,W i m ys H2->ys.length<=sizeLine/\(((Itl K a).stop i H2/\∀ p,H2 p=none->Q (.ref p) (upd H2 p (.lst ys))) \/
   ((Itl K a).go i H2/\∀ x H3,(Itl K a).yld i H2 x H3->g x (List.replicate k none++Jaz cs σ) H3 fun σ4 H4=>te σ4 H4 fun y H5=>∃ m',m'<m/\W (i+1) m' (ys++[y]) H5)):=by
 refine ⟨fun i m ys H2=>Pv i ys H2/\i<=xs.length/\m=xs.length-i,⟨_,h0,Nat.zero_le _,rfl⟩,?_⟩;rintro i m ys H2 ⟨d,j,rfl⟩;obtain ⟨c,h⟩:=hl i ys H2 j d;refine ⟨h,?_⟩;by_cases b:i<xs.length
 ·refine .inr ⟨⟨xs,xs[i],c,List.getElem?_eq_getElem b⟩,?_⟩;rintro x H3 ⟨rfl,f⟩;have e:(fun (σ4:St) (H4:Hp)=>te σ4 H4 fun y H5=>Pv (i+1) (ys++[y]) H5)=fun σ4 H4=>te σ4 H4 fun y H5=>∃ m',m'<xs.length-i/\Pv (i+1) (ys++[y]) H5/\i+1<=xs.length/\m'=xs.length-(i+1):=by
   funext σ4 H4
   congr 1
   funext y H5
   exact propext ⟨fun q=>⟨_,Nat.sub_lt_sub_left b (Nat.lt_succ_self i),q,b,rfl⟩,fun ζ=>by obtain ⟨_,_,q,_⟩:=ζ;exact q⟩
  rw [<- e];exact hs i x ys _ (f xs c) d
 ·have e:i=xs.length:=by ac_nf
  subst e;exact .inl ⟨⟨xs,c,Nat.le_refl _⟩,hd ys H2 d⟩
theorem Jly {K:W.Frag} {cs:List (Nat × Str)} {k:Nat} {g:TG} (Pv:Nat->List V->Hp->Prop) (h0:Pv 0 [] H1) (hl:∀ i ys H',i<=xs.length->Pv i ys H'->SqL K H' a xs/\ys.length<=sizeLine)
  (hs:∀ i x ys H2,xs[i]?=some x->Pv i ys H2->g x (List.replicate k none++Jaz cs σ) H2 fun σ4 H4=>tt σ4 H4 fun b H5=>if b=true then te σ4 H5 fun y H6=>Pv (i+1) (ys++[y]) H6 else Pv (i+1) ys H5) (hd:∀ ys H2,Pv xs.length ys H2->∀ p,H2 p=none->Q (.ref p) (upd H2 p (.lst ys))) :
  ∃ W:Nat->Nat->List V->Hp->Prop,(∃ m,W 0 m [] H1)/\∀ i m ys H2,W i m ys H2->ys.length<=sizeLine/\(((Itl K a).stop i H2/\∀ p,H2 p=none->Q (.ref p) (upd H2 p (.lst ys))) \/
   ((Itl K a).go i H2/\∀ x H3,(Itl K a).yld i H2 x H3->g x (List.replicate k none++Jaz cs σ) H3 fun σ4 H4=>tt σ4 H4 fun b H5=>if b=true then te σ4 H5 fun y H6=>∃ m',m'<m/\W (i+1) m' (ys++[y]) H6 else ∃ m',m'<m/\W (i+1) m' ys H5)):=by
 refine ⟨fun i m ys H2=>Pv i ys H2/\i<=xs.length/\m=xs.length-i,⟨_,h0,Nat.zero_le _,rfl⟩,?_⟩;rintro i m ys H2 ⟨f,l,rfl⟩;obtain ⟨d,r⟩:=hl i ys H2 l f;refine ⟨r,?_⟩;by_cases h:i<xs.length
 ·refine .inr ⟨⟨xs,xs[i],d,List.getElem?_eq_getElem h⟩,?_⟩;rintro x H3 ⟨rfl,o⟩;have w:∀ (j:List V) (H5:Hp),Pv (i+1) j H5=∃ m',m'<xs.length-i/\Pv (i+1) j H5/\i+1<=xs.length/\m'=xs.length-(i+1):=fun j H5=>
   propext ⟨fun q=>⟨_,Nat.sub_lt_sub_left h (Nat.lt_succ_self i),q,h,rfl⟩,fun ζ=>by obtain ⟨_,_,q,_⟩:=ζ;exact q⟩
  have n:(fun (y:V) (H6:Hp)=>Pv (i+1) (ys++[y]) H6)=fun y H6=>∃ m',m'<xs.length-i/\Pv (i+1) (ys++[y]) H6/\i+1<=xs.length/\m'=xs.length-(i+1):=by
   funext y H6
   exact w _ _
  have e:(fun (σ4:St) (H4:Hp)=>tt σ4 H4 fun b H5=>if b=true then te σ4 H5 fun y H6=>Pv (i+1) (ys++[y]) H6 else Pv (i+1) ys H5)=fun σ4 H4=>tt σ4 H4 fun b H5=>if b=true then te σ4 H5 fun y H6=>∃ m',m'<xs.length-i/\Pv (i+1) (ys++[y]) H6/\i+1<=xs.length/\m'=xs.length-(i+1) else ∃ m',m'<xs.length-i/\Pv (i+1) ys H5/\i+1<=xs.length/\m'=xs.length-(i+1):=by
   funext σ4 H4
   congr 1
   funext b H5
   by_cases c:b=true
   ·rw [if_pos c,if_pos c, <- n]
   ·rw [if_neg c,if_neg c];exact w ys H5
  have:=hs i x ys _ (o xs d) f;rw [e] at this;exact this
 ·have e:i=xs.length:=by ac_nf
  subst e;exact .inl ⟨⟨xs,d,Nat.le_refl _⟩,hd ys H2 f⟩
end L2
namespace Ch
open PySem
structure TD where
 nm:Str
 st:Str
 en:Str
 lo:Option (Int × Int)
 hi:Option (Int × Int)
structure SD where
 src:Str
 dst:Str
 c:Int × Int
 nm:Str
 fw:Bool
def fwd (t:TD):List SD:=match t.hi with
 | some h=>[⟨t.st,t.en,h,t.nm,true⟩]
 | none=>[]
def bwd (t:TD):List SD:=match t.lo with
 | some l=>[⟨t.en,t.st,(-l.1,l.2),t.nm,false⟩]
 | none=>[]
def steps (t:TD):List SD:=fwd t++bwd t
def all (ts:List TD):List SD:=ts.flatMap steps
abbrev Pr:=Str × Bool
def key (s:SD):Pr:=(s.nm,s.fw)
def lastA (acc:Option SD) (ss:List SD) (k:Pr):Option SD:=ss.foldl (fun a s=>if key s=k then some s else a) acc
def last (ss:List SD) (k:Pr):Option SD:=lastA none ss k
theorem Jjz {t:TD} {s:SD} (h:s∈steps t):s.nm=t.nm:=by
 unfold steps fwd bwd at h;rcases mem_append.mp h with h | h
 ·split at h
  ·simp at h;rw [h]
  ·simp at h
 ·split at h
  ·simp at h;rw [h]
  ·simp at h
def addF (a c:Int × Int):Int × Int:=(Mth.top (a.1*c.2+c.1*a.2) (a.2*c.2),Mth.bot (a.1*c.2+c.1*a.2) (a.2*c.2))
structure FOk (n:Nat) (a:Int × Int):Prop where
 s1:Mth.Sz n a.1
 s2:Mth.Sz n a.2
 b1:1<=a.2
 g1:Mth.g a.1 a.2=1
end Ch
namespace L2
open PySem PySem.Spec PyProof.Rows Ch
def isTF:HO->Bool
 | .tup _=>true
 | .frz _ _=>true
 | _=>false
def SameT (H H':Hp):Prop:=∀ b u,isTF u=true->H b=some u->H' b=some u
variable {H H1:Hp}
theorem SameT.trans {H2:Hp} (a:SameT H H1) (b:SameT H1 H2):SameT H H2:=fun c o t h=>b c o t (a c o t h)
variable {H':Hp}
theorem Same.t (a:Same H H'):SameT H H':=fun b u _ h=>a b u h
theorem SameT.put {l:Addr} {o o':HO} (e:upd H l o=H') (hl:H l=some o') (ht:isTF o'=false):SameT H H':=fun b u t h=>by
 rw [<- e,Jah (ne_of h hl fun q=>by rw [q,ht] at t;cases t)];exact h
variable {xs:List V}
theorem SqT.sameT {K:W.Frag} {a:Addr} (e:SameT H H') (h:SqT K H a xs):SqT K H' a xs:=by
 rcases h with (h | ⟨o,h⟩) | h
 ·exact .inl (.inl (e _ _ rfl h))
 ·exact .inl (.inr ⟨o,e _ _ rfl h⟩)
 ·exact .inr h
variable {v:V}
theorem FrV.sameT {K:W.Frag} {a b:Int} (S:SameT H H') (h:FrV K H v a b):FrV K H' v a b:=by
 obtain ⟨p,e,q⟩:=h;exact ⟨p,e,q.sameT S⟩
def frD (a:Int × Int):D:=.tup [.int a.1, .int a.2]
def bD:Option (Int × Int)->D
 | none=>.non
 | some a=>frD a
def tdD (t:TD):D:=.tup [.str t.nm, .str t.st, .str t.en,bD t.lo,bD t.hi]
def pD (s:SD):D:=.tup [.str s.src, .str s.dst,frD s.c, .bl s.fw]
def BV (K:W.Frag) (H:Hp):Option (Int × Int)->V->Prop
 | none,v=>v=.non
 | some a,v=>FrV K H v a.1 a.2
variable {o:Option (Int × Int)}
theorem BV.rep {K:W.Frag} (h:BV K H o v):Rep K H (bD o) v:=by
 cases o with
 | none=>simp only [bD,Rep];exact h
 | some a=>exact FrV.rep h
theorem BV.sameT {K:W.Frag} (S:SameT H H') (h:BV K H o v):BV K H' o v:=by
 cases o with
 | none=>exact h
 | some a=>exact FrV.sameT S h
def TV (K:W.Frag) (H:Hp) (t:TD) (x:V):Prop:=∃ b vl vg,x=.ref b/\SqT K H b [.str t.nm, .str t.st, .str t.en,vl,vg]/\BV K H t.lo vl/\BV K H t.hi vg
def PV (K:W.Frag) (H:Hp) (s:SD) (x:V):Prop:=∃ b v,x=.ref b/\SqT K H b [.str s.src, .str s.dst,v, .bl s.fw]/\FrV K H v s.c.1 s.c.2
def CV (H:Hp) (c:Pr) (x:V):Prop:=∃ b,x=.ref b/\H b=some (.tup [.str c.1, .bl c.2])
section
variable {K:W.Frag} {x:V}
theorem TV.sameT {t:TD} (S:SameT H H'):TV K H t x->TV K H' t x:=by rintro ⟨b,vl,c,e,q,a,d⟩;exact ⟨b,vl,c,e,q.sameT S,a.sameT S,d.sameT S⟩
variable {s:SD}
theorem PV.sameT (S:SameT H H'):PV K H s x->PV K H' s x:=by rintro ⟨b,v,e,q,h⟩;exact ⟨b,v,e,q.sameT S,h.sameT S⟩
variable {c:Pr}
theorem CV.sameT (S:SameT H H'):CV H c x->CV H' c x:=fun ⟨b,e,q⟩=>⟨b,e,S _ _ rfl q⟩
theorem TV.rep {t:TD}:TV K H t x->Rep K H (tdD t) x:=fun ⟨b,vl,d,e,q,a,c⟩=>by
 simp only [tdD,Rep,RepL];exact ⟨b,_,e,q,_,_,rfl,rfl,_,_,rfl,rfl,_,_,rfl,rfl,_,_,rfl,a.rep,_,_,rfl,c.rep,rfl⟩
theorem PV.of (h:Rep K H (pD s) x):PV K H s x:=by
 simp only [pD,frD,Rep,RepL] at h;obtain ⟨b,l,rfl,q,n,i,rfl,rfl,m,j,rfl,rfl,o,t,rfl,⟨p,c,rfl,a,r,k,rfl,rfl,g,d,rfl,rfl,rfl⟩,e,f,rfl,rfl,rfl⟩:=h;exact ⟨b, .ref p,rfl,q,p,rfl,a⟩
end
variable {α:Type}
def All2 (P : α->V->Prop):List α->List V->Prop
 | [],xs=>xs=[]
 | a::as,xs=>∃ x r,xs=x::r/\P a x/\All2 P as r
section
variable {P P' : α->V->Prop}
theorem All2.mono:∀ {as:List α} {xs:List V},(∀ a x,P a x->P' a x)->All2 P as xs->All2 P' as xs
 | [],_,_,h=>h
 | a::as,xs,f,h=>by
  obtain ⟨x,r,e,h1,h2⟩:=h;exact ⟨x,r,e,f _ _ h1,All2.mono f h2⟩
theorem All2.length:∀ {as:List α} {xs:List V},All2 P as xs->xs.length=as.length
 | [],_,h=>by rw [show _=_ from h];rfl
 | a::as,xs,h=>by
  obtain ⟨x,r,e,h1,h2⟩:=h;rw [e,length_cons,length_cons,h2.length]
theorem All2.at_:∀ {as:List α} {xs:List V} {i:Nat} {x:V},All2 P as xs->xs[i]?=some x->∃ a,as[i]?=some a/\P a x
 | [],_,_,_,h,hx=>by rw [show _=_ from h] at hx;simp at hx
 | a::as,xs,i,y,h,hx=>by
  obtain ⟨x,r,e,h1,h2⟩:=h;subst e;cases i with
  | zero=>simp at hx;subst hx;exact ⟨a,rfl,h1⟩
  | succ i=>simpa using All2.at_ h2 (by simpa using hx)
theorem All2.append:∀ {as bs:List α} {xs ys:List V},All2 P as xs->All2 P bs ys->All2 P (as++bs) (xs++ys)
 | [],bs,xs,ys,h,g=>by rw [show xs=[] from h];exact g
 | a::as,bs,xs,ys,h,g=>by
  obtain ⟨x,r,e,h1,h2⟩:=h;subst e;exact ⟨x,r++ys,rfl,h1,All2.append h2 g⟩
theorem All2.one {a : α} {x:V} (h:P a x):All2 P [a] [x]:=⟨x,[],rfl,h,rfl⟩
theorem All2.repL {K:W.Frag} {f : α->D} (g:∀ a x,P a x->Rep K H (f a) x):∀ {as:List α} {xs:List V},All2 P as xs->RepL K H (as.map f) xs
 | [],xs,h=>by simp only [map_nil,RepL];exact h
 | a::as,xs,h=>by
  obtain ⟨x,r,e,h1,h2⟩:=h;simp only [map_cons,RepL];exact ⟨x,r,e,g _ _ h1,All2.repL g h2⟩
theorem All2.ofRepL {K:W.Frag} {f : α->D} (g:∀ a x,Rep K H (f a) x->P a x):∀ {as:List α} {xs:List V},RepL K H (as.map f) xs->All2 P as xs
 | [],xs,h=>by simp only [map_nil,RepL] at h;exact h
 | a::as,xs,h=>by
  simp only [map_cons,RepL] at h;obtain ⟨x,r,e,h1,h2⟩:=h;exact ⟨x,r,e,g _ _ h1,All2.ofRepL g h2⟩
end
structure TOk (t:TD):Prop where
 n1:nameS t.nm=true
 n2:nameS t.st=true
 n3:nameS t.en=true
 ne:t.st≠t.en
 lo:∀ a,t.lo=some a->FOk 600 a
 hi:∀ a,t.hi=some a->FOk 600 a
 le:lessD (bD t.hi) (bD t.lo)=false
variable {z:Str}
theorem len8 (h:nameS z=true):z.length<=8:=by
 unfold nameS at h;simp only [Bool.and_eq_true,decide_eq_true_eq] at h;exact h.1.2
theorem bD_ok (h:∀ a,o=some a->FOk 600 a):Jcu (bD o)=true/\szD (bD o):=by
 cases o with
 | none=>exact ⟨rfl,by simp only [bD,szD]⟩
 | some a=>
  have k:=h a rfl;refine ⟨by simp [bD,frD,Jcu,fracB,k.b1,k.g1],?_⟩;simp only [bD,frD,szD,szL];exact ⟨k.s1.mono ⋯,k.s2.mono ⋯,trivial⟩
theorem TOk.tie {t:TD} (h:TOk t):tieB (tdD t)=true:=by
 have e:eqD (.str t.st) (.str t.en)=false:=by simp only [eqD,beq_eq_false_iff_ne];exact h.ne
 simp [tdD,tieB,nameB,JeM,h.n1,h.n2,h.n3,e,JdR,(bD_ok h.lo).1,(bD_ok h.hi).1,h.le]
theorem TOk.sz {t:TD} (h:TOk t):szD (tdD t):=by
 simp only [tdD,szD,szL];have:=len8 h.n1;have:=len8 h.n2;have:=len8 h.n3;exact ⟨by ac_nf,by ac_nf,by ac_nf,(bD_ok h.lo).2,(bD_ok h.hi).2,trivial⟩
section
variable {kvs:List (List Key × V)} {ss:List SD} {K:W.Frag}
end
def CompJ (J:It) (k:Nat) (cs:List (Nat × Str)) (g:TG) (te:TE) (σ : St) (Q:VK) (H1:Hp):Prop:=∃ W:Nat->Nat->List V->Hp->Prop,(∃ m,W 0 m [] H1)/\∀ i m ys H2,W i m ys H2->ys.length<=sizeLine /\
  ((J.stop i H2/\∀ p,H2 p=none->Q (.ref p) (upd H2 p (.lst ys))) \/
   (J.go i H2/\∀ x H3,J.yld i H2 x H3->g x (List.replicate k none++Jaz cs σ) H3 fun σ4 H4=>te σ4 H4 fun y H5=>∃ m',m'<m/\W (i+1) m' (ys++[y]) H5))
def Jct (J:It) (k:Nat) (cs:List (Nat × Str)) (g:TG) (tt:TT) (te:TE) (σ : St) (Q:VK) (H1:Hp):Prop:=∃ W:Nat->Nat->List V->Hp->Prop,(∃ m,W 0 m [] H1)/\∀ i m ys H2,W i m ys H2->ys.length<=sizeLine /\
  ((J.stop i H2/\∀ p,H2 p=none->Q (.ref p) (upd H2 p (.lst ys))) \/
   (J.go i H2/\∀ x H3,J.yld i H2 x H3->g x (List.replicate k none++Jaz cs σ) H3 fun σ4 H4=>tt σ4 H4 fun b H5=>if b=true then te σ4 H5 fun y H6=>∃ m',m'<m/\W (i+1) m' (ys++[y]) H6 else ∃ m',m'<m/\W (i+1) m' ys H5))
section
variable {tt:TT} {te tl:TE} {σ:St} {Q:VK} {a:Addr} {K:W.Frag} {k:Nat} {cs:List (Nat × Str)} {g:TG}
theorem y35y:tComp k cs (iAny K tl) g te σ H Q=tl σ H fun x H1=>∃ a,x=.ref a/\(((∃ xs,SqL K H1 a xs)/\CompJ (Itl K a) k cs g te σ Q H1)\/((∃ xs,SqT K H1 a xs)/\CompJ (Itt K a) k cs g te σ Q H1)):=rfl
theorem y37y:JeU k cs (iAny K tl) g tt te σ H Q=tl σ H fun x H1=>∃ a,x=.ref a/\(((∃ xs,SqL K H1 a xs)/\Jct (Itl K a) k cs g tt te σ Q H1)\/((∃ xs,SqT K H1 a xs)/\Jct (Itt K a) k cs g tt te σ Q H1)):=rfl
theorem CompJ.list (Pv:Nat->List V->Hp->Prop) (h0:Pv 0 [] H1) (hl:∀ i ys H',i<=xs.length->Pv i ys H'->SqL K H' a xs/\ys.length<=sizeLine)
  (hs:∀ i x ys H2,xs[i]?=some x->Pv i ys H2->g x (List.replicate k none++Jaz cs σ) H2 fun σ4 H4=>te σ4 H4 fun y H5=>Pv (i+1) (ys++[y]) H5) (hd:∀ ys H2,Pv xs.length ys H2->∀ p,H2 p=none->Q (.ref p) (upd H2 p (.lst ys))) :
  CompJ (Itl K a) k cs g te σ Q H1:=compL Pv h0 hl hs hd
theorem Jct.list (Pv:Nat->List V->Hp->Prop) (h0:Pv 0 [] H1) (hl:∀ i ys H',i<=xs.length->Pv i ys H'->SqL K H' a xs/\ys.length<=sizeLine)
  (hs:∀ i x ys H2,xs[i]?=some x->Pv i ys H2->g x (List.replicate k none++Jaz cs σ) H2 fun σ4 H4=>tt σ4 H4 fun b H5=>if b=true then te σ4 H5 fun y H6=>Pv (i+1) (ys++[y]) H6 else Pv (i+1) ys H5) (hd:∀ ys H2,Pv xs.length ys H2->∀ p,H2 p=none->Q (.ref p) (upd H2 p (.lst ys))) :
  Jct (Itl K a) k cs g tt te σ Q H1:=Jly Pv h0 hl hs hd
end
def faceL:List Str:=[Str.ofString "p",Str.ofString "pa",Str.ofString "pab",Str.ofString "qab",Str.ofString "qa",Str.ofString "apab"]
theorem Jg5:∀ z∈faceL,nameS z=true:=by decide
theorem Jjl:∀ j,j<6->∀ k,k<6->faceL[j]?=faceL[k]?->j=k:=by decide
variable {j:Nat}
theorem Jjk {k:Nat} (h:faceL[j]?=some z) (g:faceL[k]?=some z):j=k :=
 Jjl j (List.getElem?_eq_some_iff.mp h).1 k (List.getElem?_eq_some_iff.mp g).1 (h.trans g.symm)
theorem Jjm {x f:Int} (h0:0<=x) (h1:x<2*f):x.fmod f=x\/x.fmod f=x-f:=by
 rw [Int.fmod_eq_emod_of_nonneg _ ∅];by_cases c:x<f
 ·exact .inl (Int.emod_eq_of_lt h0 c)
 ·refine .inr ?_;have e:(x-f+f) % f=(x-f) % f:=by simp
  rw [Int.sub_add_cancel] at e;rw [e,Int.emod_eq_of_lt ∅ ∅]
section
variable {ss:List SD} {c:Pr} {s:SD} {tot:Int × Int} {l:Str} {cs:List Pr} {f:Str}
end
variable {n:Nat}
theorem Jg4 {f : α->D} (h:∀ a,depD (f a)<=n):∀ as:List α,depL (as.map f)<=n
 | []=>by simp [depL]
 | a::as=>by
  rw [map_cons,depL];exact Nat.max_le.mpr ⟨h a,Jg4 h as⟩
section
variable {Q:VK} {K:W.Frag}
end
theorem JgN (t:SetTable) (es:Array (Int × Value)) (n:Nat) (hp:t.plain=false):(relayAll t es n).2.1.plain=false:=by
 unfold relayAll;split
 ·rename_i b a e;have c:b.plain=false:=by
   unfold SetTable.relaid at e;unfold SetTable.laid at e;cases hl:SetTable.layClean (SetTable.sizeAbove n-1) (es.map (·.1)) with
   | none=>rw [hl] at e;cases e
   | some ow=>
    rw [hl] at e;simp only [Option.bind_eq_bind,Option.bind_some,Option.pure_def,Option.some.injEq,Prod.mk.injEq] at e;rw [<- e.1];exact hp
  dsimp only;split
  ·exact c
  ·rfl
 ·rfl
theorem JgV (t:SetTable) (n:Nat):(t.orStandIn n).led=t.led:=by
 unfold SetTable.orStandIn;split <;> rfl
theorem Jhy (t:SetTable) (es:Array (Int × Value)) (h:Int) (x:Value):(layNew t es h x).2.1.led=t.led:=by
 unfold layNew;split
 ·exact JgV _ _
 ·rfl
theorem JiS (t:SetTable) (es:Array (Int × Value)) (n:Nat):(relayAll t es n).2.1.led=t.led:=by
 unfold relayAll;split
 ·rename_i b a e;have c:b.led=t.led:=by
   unfold SetTable.relaid at e;unfold SetTable.laid at e;cases hl:SetTable.layClean (SetTable.sizeAbove n-1) (es.map (·.1)) with
   | none=>rw [hl] at e;cases e
   | some ow=>
    rw [hl] at e;simp only [Option.bind_eq_bind,Option.bind_some,Option.pure_def,Option.some.injEq,Prod.mk.injEq] at e;rw [<- e.1]
  dsimp only;split
  ·exact c
  ·rfl
 ·rfl
variable {prog:Program} {w:World} {A:Around} {E:Value->Shared->Prop} {s:Shared}
def SetS (prog:Program) (w:World) (h:Heap) (a:Addr) (ks:List Str):Prop :=
 ∃ es ep t,h.get? a=some { cls:=.type "set",dict:=none,data:=.set es ep t,slots:=#[] }/\ElemsOf (strKind prog w) es.toList /\
  (es.toList.map fun e=>strOf e.2).Perm ks/\ks.length<scanBound/\t.fits es.size=true/\(ks≠[]->t.plain=false)/\(w.params.followText "set-order"=false->t.led=true)
variable {v:Value}
theorem Jgd {k:Str} (h:(strKind prog w).is k v=true):strOf v=k:=by
 obtain ⟨t,rfl⟩:=Value.isStrOf_shape h;rfl
variable {h:Heap} {a:Addr} {es:Array (Int × Value)} {ep:Nat}
theorem stored {es':Array (Int × Value)} {t t':SetTable} (ho:h.get? a=some { cls:=.type "set",dict:=none,data:=.set es ep t,slots:=#[] }) :
  (h.update a (Obj.putSet es' t')).get? a=some { cls:=.type "set",dict:=none,data:=.set es' (ep+1) t',slots:=#[] }:=by
 have e:=Heap.get?_update_self (Obj.putSet es' t') ho (by rw [putSet_of es' t' rfl];rfl);rw [e,putSet_of es' t' rfl]
variable {ks:List Str}
theorem Jlj {tk:Tok} {Q:Bool->Shared->Prop} (hS:SetS prog w s.heap a ks) (hr:ks.length+1<scanBound)
  (q:∀ h' b,Heap.SameBut a s.heap h'->SetS prog w h' a (if z∈ks then ks else ks++[z])->Q b { s with heap:=h' }) :
  wpAny (model prog w) A (setAddHashed a (.str z tk) ((strKind prog w).hash z)) Q E s:=by
 obtain ⟨l,ep,t,y,g,B,hb,U,V,p⟩:=hS;have W:(strKind prog w).is z (.str z tk)=true:=by show Value.isStrOf z (.str z tk)=true;simp [Value.isStrOf]
 have sz:l.size=ks.length:=by rw [<- B.length_eq,length_map,Array.length_toList]
 unfold setAddHashed;unfold setAddHashedIn;refine wpAny_holding (wpAny_bind (wpAny_setState_of y rfl U ?_));dsimp only;rw [byScan_of (knd:=strKind prog w) (x:=.str z tk) rfl ∅ g];rw [if_pos rfl];unfold setAddByScan;refine wpAny_bind (wpAny_bind (wpAny_rule (wpAny_bind (wpAny_setScan_of (knd:=strKind prog w) W y rfl U g ?_))));have J:∀ e∈l.toList,((strKind prog w).is z e.2=true↔strOf e.2=z):=fun e M=>by
  obtain ⟨⟨k,H,_⟩,_⟩:=g e M;constructor
  ·exact Jgd
  ·intro h2;rw [Jgd H] at h2;rw [<- h2];exact H
 cases fi:l.toList.findIdx? (fun e=>(strKind prog w).is z e.2) with
 | some j=>
  dsimp only;obtain ⟨Z,pj,_⟩:=List.findIdx?_eq_some_iff_getElem.mp fi;have I:z∈ks:=B.mem_iff.mp (mem_map.mpr ⟨_,List.getElem_mem Z,(J _ (List.getElem_mem Z)).mp pj⟩);refine wpAny_pure (wpAny_pure ?_);have:=q s.heap false (Heap.SameBut.refl a s.heap) (by rw [if_pos I];exact ⟨l,ep,t,y,g,B,hb,U,V,p⟩);cases s;exact this
 | none=>
  dsimp only;have I:¬ z∈ks:=fun I=>by
   obtain ⟨e,M,ez⟩:=mem_map.mp (B.mem_iff.mpr I);have H:=List.findIdx?_eq_none_iff.mp fi e M;rw [(J e M).mpr ez] at H;cases H
  have F:=layNew_perm t l ((strKind prog w).hash z) (.str z tk);have N:=Jhy t l ((strKind prog w).hash z) (.str z tk);have L:=layNew_fits t l ((strKind prog w).hash z) (.str z tk);generalize layNew t l ((strKind prog w).hash z) (.str z tk)=LL at F L N ⊢;obtain ⟨c,X,wd,gv⟩:=LL;dsimp only at F L N ⊢;rw [Array.toList_push] at F;have i:ElemsOf (strKind prog w) c.toList:=(g.push W rfl).perm F;have m:(c.toList.map fun e=>strOf e.2).Perm (ks++[z]):=by
   refine (F.map _).trans ?_;rw [map_append];exact B.append (.refl _)
  have a0:c.size=ks.length+1:=by
   rw [<- Array.length_toList, <- length_map (f:=fun e:Int × Value=>strOf e.2),m.length_eq];simp
  have G:∀ (d:SetTable),d.plain=false->d.led=t.led->d.fits c.size=true->wpAny (model prog w) A (do
    storeSet a c d
    if (!wd&&d.tooFull)=true then do
      (match (relayAll d c (SetTable.grown c.size)).2.2 with | true=>rule "set.scan.the-table-gave-way" | false=>pure ())
      storeSet a (relayAll d c (SetTable.grown c.size)).1 (relayAll d c (SetTable.grown c.size)).2.1
      pure (some true)
     else pure (some true)) (fun r n=>∃ h',Heap.SameBut a s.heap h'/\SetS prog w h' a (ks++[z])/\r=some true/\n={ s with heap:=h' }) E s:=fun d p2 l2 f2=>by
   refine wpAny_bind (wpAny_storeSet_of y rfl ?_ (fits_of_scanBound ∅));have u:=stored (es':=c) (t':=d) y;have v:=Heap.SameBut.update s.heap a (Obj.putSet c d);split
   ·have D:=relayAll_perm d c (SetTable.grown c.size);have S:=relayAll_fits d c (SetTable.grown c.size);have R:=JgN d c (SetTable.grown c.size) p2;have O:=JiS d c (SetTable.grown c.size);generalize relayAll d c (SetTable.grown c.size)=RR at D S R O ⊢;obtain ⟨o,Y,P⟩:=RR;dsimp only at D S R O ⊢;have a1:o.size=c.size:=by rw [<- Array.length_toList,D.length_eq,Array.length_toList]
    refine wpAny_bind ?_;have C:wpAny (model prog w) A (do storeSet a o Y;pure (some true)) (fun r n=>∃ h',Heap.SameBut a s.heap h'/\SetS prog w h' a (ks++[z])/\r=some true/\n={ s with heap:=h' }) E { s with heap:=s.heap.update a (Obj.putSet c d) }:=by
     refine wpAny_bind (wpAny_storeSet_of u rfl (wpAny_pure ⟨_,v.trans (Heap.SameBut.update _ a _),⟨o,_,Y,stored u,i.perm D,(D.map _).trans m,by simpa using hr,S,fun _=>R,fun z=>(O.trans l2).trans (p z)⟩,rfl,rfl⟩) (fits_of_scanBound ∅))
    cases P
    ·exact wpAny_pure C
    ·exact wpAny_rule C
   ·exact wpAny_pure ⟨_,v,⟨c,_,d,u,i,m,by simpa using hr,f2,fun _=>p2,fun z=>l2.trans (p z)⟩,rfl,rfl⟩
  have K:∀ r n,(∃ h',Heap.SameBut a s.heap h'/\SetS prog w h' a (ks++[z])/\r=some true/\n={ s with heap:=h' })->wpAny (model prog w) A (match r with | some b=>pure b | none=>setAddHashedIn a (.str z tk) ((strKind prog w).hash z) 99999) Q E n:=by
   rintro r n ⟨h',sb,T,rfl,rfl⟩;exact wpAny_pure (q h' true sb (by rw [if_neg I];exact T))
  refine wpAny_bind ?_;have gw:∀ (b:Bool) {Q':Unit->Shared->Prop},Q' () s->wpAny (model prog w) A (match b with | true=>rule "set.scan.the-table-gave-way" | false=>pure ()) Q' E s:=fun b Q' h=>by
   cases b
   ·exact wpAny_pure h
   ·exact wpAny_rule h
  refine gw gv ?_;split
  ·refine wpAny_bind ?_;rw [hashByValue_scannable 8 (x:=.str z tk) rfl];refine wpAny_pure ?_;exact wpAny_mono (G { X with plain:=false } rfl N (SetTable.fits_plain_off L)) K fun _ _ e=>e
  ·rename_i np;refine wpAny_bind (wpAny_pure ?_);exact wpAny_mono (G X (by simpa using np) N L) K fun _ _ e=>e
def addS (l:List Str) (z:Str):List Str:=if z∈l then l else l++[z]
def met (val:Nat->Str) (i:Nat):List Str:=((List.range i).map val).foldl addS []
theorem JdL (val:Nat->Str) (i:Nat):met val (i+1)=addS (met val i) (val i):=by
 unfold met;rw [List.range_succ,map_append,foldl_append];rfl
theorem Jgx (val:Nat->Str):∀ i,(met val i).length<=i
 | 0=>Nat.le_refl _
 | i+1=>by
  have:=Jgx val i;rw [JdL];unfold addS;split <;> simp <;> ac_nf
theorem Jhe (val:Nat->Str):∀ i,(met val i).Nodup
 | 0=>List.nodup_nil
 | i+1=>by
  have:=Jhe val i;rw [JdL];unfold addS;split
  ·exact this
  ·rename_i h;rw [nodup_append];refine ⟨this,by simp,fun a ha b hb=>?_⟩;rw [mem_singleton.mp hb];exact fun e=>h (e ▸ ha)
theorem Jiw (val:Nat->Str) (z:Str):∀ i,z∈met val i↔∃ j,j<i/\val j=z
 | 0=>by simp [met]
 | i+1=>by
  have ih:=Jiw val z i;rw [JdL];have e:z∈addS (met val i) (val i)↔z∈met val i\/z=val i:=by
   unfold addS;split
   ·rename_i h;constructor
    ·exact .inl
    ·rintro (h' | rfl)
     ·exact h'
     ·exact h
   ·simp
  rw [e,ih];constructor
  ·rintro (⟨j,hj,h⟩ | rfl)
   ·exact ⟨j,by ac_nf,h⟩
   ·exact ⟨i,by ac_nf,rfl⟩
  ·rintro ⟨j,hj,rfl⟩;by_cases c:j<i
   ·exact .inl ⟨j,c,rfl⟩
   ·have : j=i:=by ac_nf
    subst this;exact .inr rfl
theorem JlD {t:Tok}:(PySem.strKind prog w).is z (.str z t)=true:=by
 show Value.isStrOf z (.str z t)=true;simp [Value.isStrOf]
variable {h':Heap}
theorem SetS.at_ (x:SetS prog w h a ks) (k:∀ o,h.get? a=some o->h'.get? a=some o):SetS prog w h' a ks:=by
 obtain ⟨d,b,t,c,r⟩:=x;exact ⟨d,b,t,k _ c,r⟩
variable {R:Result->Shared->Prop} {I:Addr} {fp wr:List Addr} {G:Array GenState->Array GenState->Prop}
theorem JjW {P:Nat->Value->Prop} {St:Nat->Shared->Prop}
  (W:WalksS prog w A.in1 I fp wr G n P St) (S:Addr) (hSf:S∉fp) (val:Nat->Str) (hval:∀ i v,P i v->∃ t,v=.str (val i) t) (hb:n+1<scanBound) :
  ∀ (k i:Nat) (s:Shared),n-i=k->i<=n->St i s->SetS prog w s.heap S (met val i)->(∀ s',Moved (S::wr) G s s'->SetS prog w s'.heap S (met val n)->R (.ok (.ret .none)) s') ->
   codeAny (model prog w) A (.builtin "set.update.loop" ⟨[.ref S, .ref I],[]⟩) R s:=by
 have u:S∉wr:=fun h=>hSf (W.sub _ h);have x:∀ b∈wr,b∈S::wr:=fun b h=>mem_cons_of_mem _ h;intro k;induction k with
 | zero=>
  intro i s z C l d q;have : i=n:=by ac_nf
  subst this;refine codeAny_builtin (PyProof.Rows.F.entry_set_update_loop) ?_;rw [Around.under_plainId (PyProof.Rows.F.plain_set_update_loop) _];refine wpAny_bind (m:=pyNext (.ref I)) (W.done s _ _ l fun s' a=>?_);exact wpAny_pure (q s' (a.mono x) (d.at_ fun o e=>a.heap S o u e))
 | succ k ih=>
  intro i s z C l d q;have c:i<n:=by ac_nf
  refine codeAny_builtin (PyProof.Rows.F.entry_set_update_loop) ?_;rw [Around.under_plainId (PyProof.Rows.F.plain_set_update_loop) _];refine wpAny_bind (m:=pyNext (.ref I)) (W.item i s _ _ c l fun v s' D r a=>?_);obtain ⟨t,rfl⟩:=hval i v D;have j:SetS prog w s'.heap S (met val i):=d.at_ fun o e=>a.heap S o u e;have J:=Jgx val i;refine wpAny_bind (m:=holding [Value.str (val i) t] (setAdd S (.str (val i) t))) (wpAny_holding ?_);unfold setAdd;refine wpAny_holding (wpAny_bind ((strKind prog w).pyHash (k:=val i) JlD ?_));refine Jlj (s:={ s' with toks:=s'.toks+1 }) j ∅ fun H b y f=>?_;have g:SetS prog w H S (met val (i+1)):=by
   rw [JdL];exact f
  refine wpAny_pure ⟨plainId_quiet (PyProof.Rows.F.plain_set_update_loop) _,ih (i+1) _ ∅ c (W.frame _ s' _ _ r (Nat.le_succ _) fun b hb o e=>?_) g fun E B p=>?_⟩
  ·rw [y.2 b (fun h:b=S=>hSf (h ▸ hb))];exact e
  ·refine q E (Moved.trans W.gtrans ((a.mono x).then_heap (Nat.le_succ _) fun b o hb e=>?_) B) p;rw [y.2 b (fun h:b=S=>hb (by rw [h];exact mem_cons_self))];exact e
theorem Ji0:∀ {vs:List Value} {ss:List Str},StrsAre vs ss->∀ (i:Nat) (v:Value),vs[i]?=some v->∃ t,v=.str (ss.getD i ⟨#[]⟩) t
 | _,_, .nil,i,v,h=>by simp at h
 | _,_, .cons n t r,0,v,h=>by
  simp at h;exact ⟨t,by rw [<- h];rfl⟩
 | _,_, .cons n t r,i+1,v,h=>by
  rw [List.getElem?_cons_succ] at h;obtain ⟨t',e⟩:=Ji0 r i v h;exact ⟨t',by rw [e];rfl⟩
theorem JgS (a:Value) {Q₁ : Value->Shared->Prop}
  (h:∀ led:Bool,(w.params.followText "set-order"=false->led=true)->Q₁ (.ref s.heap.objs.size) { s with heap:=s.heap.push { cls:=.type "set",dict:=none,data:=.set #[] 0 (.fresh 0 0 led) } }) :
  codeAny (model prog w) A (.call (.builtin "set.__new__") ⟨[.type "set",a],[]⟩) (wants Q₁ E) s:=by
 refine codeAny_of_tree ?_;show wpAny _ A.in1 (do checkBuiltinCall "set.__new__" ⟨[.type "set",a],[]⟩;again (.builtin "set.__new__" ⟨[.type "set",a],[]⟩)) _ _ s;refine wpAny_bind (wpAny_of_eq (F.newCall_set_1 a) (wpAny_pure ⟨plainId_quiet F.plain_set_new _,codeAny_builtin F.entry_set_new ?_⟩));rw [Around.under_plainId F.plain_set_new _];unfold Builtin.«set.__new__» Builtin.Frozenset.newClass;have b:=sub_set_self;obtain ⟨e,g,d,f,c⟩:=s;dsimp only
 wp_walk
 refine wpAny_askSetting (wpAny_pure ?_);dsimp only;simp only [newObj];refine wpAny_bind (wpAny_alloc (wpAny_pure ?_));exact wpAny_pure (h _ (fun z=>by simp;exact z))
abbrev set0 (led:Bool):Obj:={ cls:=.type "set",dict:=none,data:=.set #[] 0 (.fresh 0 0 led) }
variable {l:Addr} {items:Array Value} {ss:List Str}
theorem JjV {led:Bool} (hld:w.params.followText "set-order"=false->led=true) (hh:A.handled=none) (hl:s.heap.IsList l items) (hi:StrsAre items.toList ss) (hb:items.size+1<scanBound)
  (q:∀ h' tk,SetS prog w h' s.heap.objs.size (met (fun i=>ss.getD i ⟨#[]⟩) items.size)->(∀ b o,s.heap.get? b=some o->h'.get? b=some o)->s.toks<=tk->R (.ok (.ret .none)) { s with heap:=h',toks:=tk }) :
  wpAny (model prog w) A.in1.in1 (Builtin.«set.__init__» ⟨[.ref s.heap.objs.size, .ref l],[]⟩) (fun fin s'=>match fin with | .done f=>R (.ok f) s' | .again c'=>c'.quiet=true/\codeAny (model prog w) A.in1 c' R s') (fun e s'=>R (.error e) s') { s with heap:=s.heap.push (set0 led) }:=by
 have D:(s.heap.push (set0 led)).get? s.heap.objs.size=some (set0 led):=Heap.get?_push_size _ rfl;have y:l<s.heap.objs.size:=by obtain ⟨o,G,_⟩:=hl;exact Heap.lt_size G
 have a:(s.heap.push (set0 led)).IsList l items:=hl.push _;have V:=F.sub_list_set;have U:=F.sub_list_frozenset;obtain ⟨Q,P,h,T,d⟩:=id a;obtain ⟨B,m,n,j⟩:=Q;simp only at h d;subst h;subst d;have S:(Value.type "list" == Value.type "dict")=false:=by decide
 unfold Builtin.«set.__init__»;unfold noKeywords;unfold Builtin.Frozenset.updateFrom;generalize u:pyIter=PI
 wp_walk
 subst u;refine wpAny_pyIter_list a ?_;refine wpAny_bind (wpAny_runValue ?_);have M:A.in1.in1.in1.handled=none:=by simp [hh]
 have k:(s.heap.push (set0 led)).objs.size=s.heap.objs.size+1:=Heap.size_push ..;have J:l≠(s.heap.push (set0 led)).objs.size:=by
  rw [k];exact Nat.ne_of_lt (Nat.lt_succ_of_lt y)
 have H:s.heap.objs.size∉[(s.heap.push (set0 led)).objs.size,l]:=by
  rw [k];simp only [mem_cons,not_mem_nil,or_false,not_or];exact ⟨Nat.ne_of_lt (Nat.lt_succ_self _),Nat.ne_of_gt y⟩
 refine JjW ((Walks.list M _ l J items).toS) s.heap.objs.size H (fun i=>ss.getD i ⟨#[]⟩) (fun i v C=>Ji0 hi i v (by rw [Array.getElem?_toList];exact C)) hb (items.size-0) 0 _ ∅ (Nat.zero_le _) ⟨⟨_,Heap.get?_push_size _ rfl,rfl,rfl⟩,a.push _⟩ ?_ ?_
 ·have g:((s.heap.push (set0 led)).push { cls:=.type "list_iterator",data:=.fields #[.ref l, .int 0 0] }).get? s.heap.objs.size=some (set0 led):=Heap.get?_push_of_some _ D;exact ⟨#[],0,_,g,fun e K=>by simp at K,by show List.Perm [] _;exact .refl _,(show (0:Nat)<scanBound by decide),by rfl,fun z=>absurd rfl z,hld⟩
 ·intro s' c r;obtain ⟨h',N,O,t,p⟩:=s';have E:N=s.gens:=c.gens;have L:O=s.drawn:=c.drawn;have I:p=s.os:=c.os;subst E;subst L;subst I;refine wpAny_pure ?_;refine wpAny_pure ?_;refine q h' t r (fun b o e=>?_) c.toks;have x:=Heap.lt_size e;exact c.heap b o (by rw [k];simp only [mem_cons,not_mem_nil,or_false,not_or];exact ⟨Nat.ne_of_lt x,Nat.ne_of_lt (Nat.lt_succ_of_lt x)⟩) (Heap.get?_push_of_some _ (Heap.get?_push_of_some _ e))
theorem Jer {Q:Value->Shared->Prop} (hh:A.handled=none) (hl:s.heap.IsList l items) (hi:StrsAre items.toList ss) (hb:items.size+1<scanBound)
  (q:∀ h' tk,SetS prog w h' s.heap.objs.size (met (fun i=>ss.getD i ⟨#[]⟩) items.size)->(∀ b o,s.heap.get? b=some o->h'.get? b=some o)->s.toks<=tk->Q (.ref s.heap.objs.size) { s with heap:=h',toks:=tk }) :
  wpAny (model prog w) A (call (.type "set") [.ref l]) Q E s:=by
 obtain ⟨D,p,H⟩:=F.called_set.mro;have B:=F.called_set.made;have v:=F.called_set.sub;have G:=F.called_set.notType;have C:=F.called_set.canCreate;have I:=F.typeCall_set_1 (.ref l);refine (wpAny_call (codeAny_of_tree ?_));show wpAny (model prog w) _ (callAny (.type "set") _) _ _ _;refine wpAny_pure ⟨Code.quiet_builtin _ (by decide +kernel),codeAny_builtin (F.entry_type_call) ?_⟩;rw [Around.under_plain (weight_type_call_type "set" ([.ref l]) []) rfl];repeat (any_goals (first | assumption | wp_step))
 refine codeAny_mono (JgS (.ref l) (E:=E) (Q₁:=fun h m=>∃ d:Bool,(w.params.followText "set-order"=false->d=true)/\h=.ref s.heap.objs.size/\m={ s with heap:=s.heap.push (set0 d) }) fun d f=>⟨d,f,rfl,rfl⟩) fun r m j=>?_;cases r with
 | error e=>exact j
 | ok fl=>
  cases fl with
  | ret h=>
   obtain ⟨d,f,rfl,rfl⟩:=j;have n:(s.heap.push (set0 d)).get? s.heap.objs.size=some (set0 d):=Heap.get?_push_size _ rfl;have t:Shared.TypeIs { s with heap:=s.heap.push (set0 d) } (.ref s.heap.objs.size) "set":=⟨_,n,rfl⟩;have x:=F.called_set.init.lookup;have z:=F.called_set.init.bind (.ref s.heap.objs.size);repeat (any_goals (first | assumption | wp_step))
   refine codeAny_mono (codeAny_call_builtin (R:=wants (fun r k=>r=.none/\Q (.ref s.heap.objs.size) k) E) F.called_set.init.plain F.entry_set_init (check_set_init_1 t ?_)) fun u k g=>?_
   ·exact JjV f hh hl hi hb fun h' tk a b c=>⟨rfl,q h' tk a b c⟩
   ·cases u with
    | error e=>exact g
    | ok f2=>
     cases f2 with
     | ret r=>
      obtain ⟨rfl,y⟩:=g;repeat (any_goals (first | assumption | wp_step))
     | _=>exact g.elim
  | _=>exact j.elim
theorem JaZ:Slot "set_iterator" "__next__" "set_iterator.__next__":=.of (owner:="set_iterator") (n:="__next__") (by rw [typeLookup_type,builtinLookup_eq_fast];kernel_rfl) (by decide +kernel) (by decide +kernel) (by decide +kernel) (by first | exact .inl (by decide +kernel) | exact .inr (by decide +kernel)) (by rw [isSubtype_type];kernel_rfl)
theorem Jci:entryFor table "set_iterator.__next__"=some Builtin.«set_iterator.__next__»:=entryFor_of_tree (by kernel_rfl)
theorem JcW (a:Value):argsOk "set_iterator.__next__" ⟨[a],[]⟩:=by unfold argsOk;kernel_rfl
theorem JiZ:Slot "set_iterator" "__iter__" "set_iterator.__iter__":=.of (owner:="set_iterator") (n:="__iter__") (by rw [typeLookup_type,builtinLookup_eq_fast];kernel_rfl) (by decide +kernel) (by decide +kernel) (by decide +kernel) (by first | exact .inl (by decide +kernel) | exact .inr (by decide +kernel)) (by rw [isSubtype_type];kernel_rfl)
theorem JkC (a:Value):argsOk "set_iterator.__iter__" ⟨[a],[]⟩:=by unfold argsOk;kernel_rfl
theorem JdW:entryFor table "set.__iter__"=some Builtin.«frozenset.__iter__»:=entryFor_alias (id':="frozenset.__iter__") (by kernel_rfl) rfl (by decide +kernel) (by kernel_rfl)
theorem Jdk:∀ {l:List α} {i:Nat} (h:i<l.length),(l[i]::l.eraseIdx i).Perm l
 | x::l,0,h=>.refl _
 | x::l,i+1,h=>(List.Perm.swap _ _ _).trans ((Jdk (l:=l) (i:=i) (by simpa using h)).cons x)
variable {M:Model}
theorem Jjd {src:Source} {Q:Nat->Shared->Prop} (hn:n≠0) (h:∀ i,i<n->Q i { s with drawn:=s.drawn.bump src }):wpAny M A (choose src n) Q E s :=
 fun Γ p _=>⟨hn,h _ (Nat.mod_lt _ (Nat.pos_of_ne_zero hn))⟩
theorem JeI:∀ (n:Nat) (xs:List α) (s:Shared) (Q:List α->Shared->Prop),xs.length=n->(∀ ys d,ys.Perm xs->Q ys { s with drawn:=d })->wpAny M A (drawOrder n xs) Q E s
 | 0,xs,s,Q,hl,q=>by
  have : xs=[]:=eq_nil_of_length_eq_zero hl;subst this;exact wpAny_pure (q [] s.drawn (.refl _))
 | n+1,[],s,Q,hl,q=>by simp at hl
 | n+1,x::xs,s,Q,hl,q=>by
  unfold drawOrder;refine wpAny_bind (Jjd (by simp) fun i hi=>?_);rw [List.getElem?_eq_getElem hi];refine wpAny_bind (JeI n _ _ _ (by rw [List.length_eraseIdx_of_lt hi];ac_nf) fun ys d hp=>?_);exact wpAny_pure (q _ d ((hp.cons _).trans (Jdk hi)))
theorem JiN (next:Nat->Nat):∀ (n k:Nat) (l:List α) (out:Array α),l.length=n->(pickOrder.go next n k l out).toList.Perm (out.toList++l)
 | 0,k,l,out,hl=>by
  have : l=[]:=eq_nil_of_length_eq_zero hl;subst this;unfold pickOrder.go;simp
 | n+1,k,l,out,hl=>by
  unfold pickOrder.go;have hi:next k % l.length<l.length:=Nat.mod_lt _ ∅;rw [List.getElem?_eq_getElem hi];dsimp only;refine (JiN next n (k+1) _ _ (by rw [List.length_eraseIdx_of_lt hi];ac_nf)).trans ?_;rw [Array.toList_push,List.append_assoc];exact (List.Perm.refl _).append (Jdk hi)
theorem Jcz (next:Nat->Nat) (xs:Array α):(pickOrder next xs).toList.Perm xs.toList:=by
 have:=JiN next xs.size 0 xs.toList #[] (by simp);simpa [pickOrder] using this
def setO (es:Array (Int × Value)) (ep:Nat) (t:SetTable):Obj:={ cls:=.type "set",dict:=none,data:=.set es ep t,slots:=#[] }
def itO (f:Value) (i:Nat) (a:Addr) (n ep:Nat):Obj:={ cls:=.type "set_iterator",data:=.fields #[f, .int i 0, .ref a, .int n 0, .int ep 0] }
theorem Jcg {Q:Bool->Shared->Prop} (h:Q (w.params.followText "set-order") s):wpAny (model prog w) A setsByText Q E s:=by
 unfold setsByText;exact wpAny_bind (wpAny_askSetting (wpAny_pure h))
theorem Jgh {t:SetTable} {Q:Array (Int × Value)->Shared->Prop} (ha:s.heap.get? a=some (setO es ep t)) (hf:t.fits es.size=true) (ht:w.params.followText "set-order"=true)
  (q:Q (pickOrder (w.params.setOrder a ep) es) s):wpAny (model prog w) A (setWalk a) Q E s:=by
 unfold setWalk;refine wpAny_bind (wpAny_setState_of ha rfl hf ?_);dsimp only;refine wpAny_bind (Jcg ?_);rw [if_pos ht];exact wpAny_bind (wpAny_askSetting (wpAny_pure q))
variable {i:Nat}
theorem JeN {f f':Value} {g:Array Value->Array Value} (hI:h.get? I=some (itO f i a n ep)) (hg:g #[f, .int i 0, .ref a, .int n 0, .int ep 0]=#[f', .int j 0, .ref a, .int n 0, .int ep 0]) :
  (h.update I (Obj.mapFields g)).get? I=some (itO f' j a n ep):=by
 have e:=Heap.get?_update_self (Obj.mapFields g) hI (Obj.isFreed_of_fields (Obj.data_mapFields (o:=itO f i a n ep) rfl _));rw [e];unfold itO;simp only [Obj.mapFields,hg]
variable {Q:Option Value->Shared->Prop}
theorem Jft {P:PySem.Fin->Shared->Prop} (hh:A.handled=none) (q:∀ h',(∀ b o,s.heap.get? b=some o->h'.get? b=some o)->Q none { s with heap:=h' }) :
  wpAny (model prog w) A.in1 (do let x <- newExc (.type "StopIteration") [];raiseNew x) P (fun e s'=>wpAny (model prog w) A (do let b <- isInstance e (.type "StopIteration");if b=true then pure none else throw e) Q E s') s:=by
 refine wpAny_bind ?_;simp only [newExc];simp only [newTuple];refine wpAny_bind (wpAny_newObj_type ?_ (by size_fits));refine wpAny_bind (m:=firstArgMember _ _) (wpAny_of_eq (a:=Value.none) (by simp only [firstArgMember];rfl) ?_);refine wpAny_newObj_type ?_ (by size_fits);simp only [raiseNew];refine wpAny_bind (wpAny_handled ?_);rw [show A.in1.handled=none from hh];refine wpAny_bind (wpAny_pure (wpAny_throw ?_));refine wpAny_bind (wpAny_isInstance (T:="StopIteration") (b:=true) ⟨_,Heap.get?_push_size _ rfl,rfl⟩ isSubtype_stop ?_);exact wpAny_pure (q _ fun b o e=>Heap.get?_push_of_some _ (Heap.get?_push_of_some _ e))
section
variable {t:SetTable}
theorem JfP (hI:s.heap.get? I=some (itO (.int 0 0) i a es.size ep)) (ha:s.heap.get? a=some (setO es ep t)) (hf:t.fits es.size=true)
  (ht:w.params.followText "set-order"=true) (hv:((pickOrder (w.params.setOrder a ep) es).toList.map (·.2))[i]?=some v)
  (q:∀ h',h'.get? I=some (itO (.int 0 0) (i+1) a es.size ep)->Heap.SameBut I s.heap h'->Q (some v) { s with heap:=h' }):wpAny (model prog w) A (pyNext (.ref I)) Q E s:=by
 have d:s.TypeIs (.ref I) "set_iterator":=⟨_,hI,rfl⟩;unfold pyNext;refine wpAny_bind (wpAny_attempt (wpAny_callSpecial?_slot (name:=Str.ofString "__next__") d JaZ (wpAny_call_entry JaZ d Jci ?_ (JcW _))));unfold Builtin.«set_iterator.__next__»;refine wpAny_bind (m:=slotArgs _ _ _) (wpAny_pure ?_);refine wpAny_bind (wpAny_fieldsOf hI rfl ?_);show wpAny _ _ (setEntries a >>= _) _ _ _;refine wpAny_bind (wpAny_setEntries_of ha rfl hf ?_);rw [if_neg (by simp)];dsimp only;unfold setNext;refine wpAny_bind (wpAny_bind (wpAny_setState_of ha rfl hf ?_));dsimp only;refine wpAny_bind (Jcg ?_);rw [if_pos ht,if_neg (by simp)];refine wpAny_bind (Jgh ha hf ht (wpAny_pure ?_));rw [List.getElem?_map,Array.getElem?_toList] at hv;obtain ⟨x,e,rfl⟩:=Option.map_eq_some_iff.mp hv;rw [Int.toNat_natCast,e];dsimp only [Option.map];refine wpAny_bind (wpAny_setField hI rfl (by simp) ?_);have c:=JeN (f':=.int 0 0) (j:=i) (g:=fun b=>b.setIfInBounds 0 (rawInt ((Int.toNat 0:Nat):Int))) hI rfl;refine wpAny_bind (wpAny_setField c rfl (by simp) ?_);have f:=JeN (f':=.int 0 0) (j:=i+1) (g:=fun b=>b.setIfInBounds 1 (rawInt ((i:Int)+1))) c rfl;exact wpAny_pure ⟨_,rfl,wpAny_pure (q _ f ((Heap.SameBut.update ..).trans (Heap.SameBut.update ..)))⟩
theorem Je3 (hh:A.handled=none) (hI:s.heap.get? I=some (itO (.int 0 0) i a es.size ep)) (ha:s.heap.get? a=some (setO es ep t)) (hf:t.fits es.size=true)
  (ht:w.params.followText "set-order"=true) (hv:(pickOrder (w.params.setOrder a ep) es)[i]?=none)
  (q:∀ h',(∀ b o,b≠I->s.heap.get? b=some o->h'.get? b=some o)->Q none { s with heap:=h' }):wpAny (model prog w) A (pyNext (.ref I)) Q E s:=by
 have c:s.TypeIs (.ref I) "set_iterator":=⟨_,hI,rfl⟩;unfold pyNext;refine wpAny_bind (wpAny_attempt (wpAny_callSpecial?_slot (name:=Str.ofString "__next__") c JaZ (wpAny_call_entry JaZ c Jci ?_ (JcW _))));unfold Builtin.«set_iterator.__next__»;refine wpAny_bind (m:=slotArgs _ _ _) (wpAny_pure ?_);refine wpAny_bind (wpAny_fieldsOf hI rfl ?_);show wpAny _ _ (setEntries a >>= _) _ _ _;refine wpAny_bind (wpAny_setEntries_of ha rfl hf ?_);rw [if_neg (by simp)];dsimp only;unfold setNext;refine wpAny_bind (wpAny_bind (wpAny_setState_of ha rfl hf ?_));dsimp only;refine wpAny_bind (Jcg ?_);rw [if_pos ht,if_neg (by simp)];refine wpAny_bind (Jgh ha hf ht (wpAny_pure ?_));rw [Int.toNat_natCast,hv];dsimp only [Option.map];refine wpAny_bind (wpAny_setField hI rfl (by simp) ?_);refine Jft hh fun h' k=>q h' fun b o d e=>k b o ?_;exact ((Heap.SameBut.update ..).extBut b o d e)
variable {tp:Addr} {ps:List Nat}
theorem JhD {hs:Int} (hI:s.heap.get? I=some (itO (.ref tp) i a es.size ep)) (ha:s.heap.get? a=some (setO es ep t)) (hf:t.fits es.size=true)
  (hp:s.heap.get? tp=some (seqObj "tuple" (ps.map fun (n:Nat)=>rawInt n).toArray 0)) (hj:ps[i]?=some j) (hv:es[j]?=some (hs,v))
  (q:∀ h',h'.get? I=some (itO (.ref tp) (i+1) a es.size ep)->Heap.SameBut I s.heap h'->Q (some v) { s with heap:=h' }):wpAny (model prog w) A (pyNext (.ref I)) Q E s:=by
 have b:s.TypeIs (.ref I) "set_iterator":=⟨_,hI,rfl⟩;unfold pyNext;refine wpAny_bind (wpAny_attempt (wpAny_callSpecial?_slot (name:=Str.ofString "__next__") b JaZ (wpAny_call_entry JaZ b Jci ?_ (JcW _))));unfold Builtin.«set_iterator.__next__»;refine wpAny_bind (m:=slotArgs _ _ _) (wpAny_pure ?_);refine wpAny_bind (wpAny_fieldsOf hI rfl ?_);show wpAny _ _ (setEntries a >>= _) _ _ _;refine wpAny_bind (wpAny_setEntries_of ha rfl hf ?_);rw [if_neg (by simp)];dsimp only;unfold seqItems?;refine wpAny_bind (wpAny_bind (wpAny_load hp (wpAny_pure ?_)));dsimp only;have e:((ps.map fun (n:Nat)=>rawInt n).toArray)[((i:Int)).toNat]?=some (rawInt j):=by
  rw [Int.toNat_natCast,List.getElem?_toArray,List.getElem?_map,hj];rfl
 rw [e];show wpAny _ _ (setNextDrawn a _ _ >>= _) _ _ _;unfold setNextDrawn;refine wpAny_bind (wpAny_bind (wpAny_setState_of ha rfl hf ?_));dsimp only;rw [if_neg (by simp),Int.toNat_natCast,hv];refine wpAny_pure ?_;refine wpAny_bind (wpAny_setField hI rfl (by simp) ?_);have c:=JeN (f':=.ref tp) (j:=i+1) (g:=fun d=>d.setIfInBounds 1 (rawInt ((i:Int)+1))) hI rfl;exact wpAny_pure ⟨_,rfl,wpAny_pure (q _ c (Heap.SameBut.update ..))⟩
theorem Jie (hh:A.handled=none) (hI:s.heap.get? I=some (itO (.ref tp) i a es.size ep)) (ha:s.heap.get? a=some (setO es ep t)) (hf:t.fits es.size=true)
  (hp:s.heap.get? tp=some (seqObj "tuple" (ps.map fun (n:Nat)=>rawInt n).toArray 0)) (hj:ps[i]?=none)
  (q:∀ h',(∀ b o,b≠I->s.heap.get? b=some o->h'.get? b=some o)->Q none { s with heap:=h' }):wpAny (model prog w) A (pyNext (.ref I)) Q E s:=by
 have c:s.TypeIs (.ref I) "set_iterator":=⟨_,hI,rfl⟩;unfold pyNext;refine wpAny_bind (wpAny_attempt (wpAny_callSpecial?_slot (name:=Str.ofString "__next__") c JaZ (wpAny_call_entry JaZ c Jci ?_ (JcW _))));unfold Builtin.«set_iterator.__next__»;refine wpAny_bind (m:=slotArgs _ _ _) (wpAny_pure ?_);refine wpAny_bind (wpAny_fieldsOf hI rfl ?_);show wpAny _ _ (setEntries a >>= _) _ _ _;refine wpAny_bind (wpAny_setEntries_of ha rfl hf ?_);rw [if_neg (by simp)];dsimp only;unfold seqItems?;refine wpAny_bind (wpAny_bind (wpAny_load hp (wpAny_pure ?_)));dsimp only;have e:((ps.map fun (n:Nat)=>rawInt n).toArray)[((i:Int)).toNat]?=none:=by
  rw [Int.toNat_natCast,List.getElem?_toArray,List.getElem?_map,hj];rfl
 rw [e];dsimp only;refine wpAny_bind (wpAny_setField hI rfl (by simp) ?_);have f:=JeN (f':=rawInt 0) (j:=i) (g:=fun h=>h.setIfInBounds 0 (rawInt 0)) hI rfl;refine wpAny_bind (wpAny_setField f rfl (by simp) ?_);refine Jft hh fun h' k=>q h' fun b o d e=>k b o ?_;exact ((Heap.SameBut.update ..).extBut b o d ((Heap.SameBut.update ..).extBut b o d e))
end
theorem Jif:entryFor table "set_iterator.__iter__"=some Builtin.«dict_keyiterator.__iter__»:=entryFor_alias (id':="dict_keyiterator.__iter__") (by kernel_rfl) rfl (by decide +kernel) (by kernel_rfl)
theorem Jfa {f:Value} {Q:Value->Shared->Prop} (hI:s.heap.get? I=some (itO f i a n ep)) (q:Q (.ref I) s):wpAny (model prog w) A (pyIter (.ref I)) Q E s:=by
 have b:s.TypeIs (.ref I) "set_iterator":=⟨_,hI,rfl⟩;refine wpAny_pyIter_slot b JiZ (wpAny_call_entry JiZ b Jif ?_ (JkC _));exact wpAny_pure ⟨_,rfl,"set_iterator",_,b,JaZ.lookup,q⟩
theorem Jjb (hh:A.handled=none) (I a:Addr) (hne:a≠I) {es:Array (Int × Value)} {ep:Nat} {t:SetTable} (hf:t.fits es.size=true) (ht:w.params.followText "set-order"=true) :
  Walks prog w A I [I,a] [I] es.size (fun i v=>((pickOrder (w.params.setOrder a ep) es).toList.map (·.2))[i]?=some v) (fun i h=>h.get? I=some (itO (.int 0 0) i a es.size ep)/\h.get? a=some (setO es ep t)) where
 sub:=fun b d=>by simp at d;simp [d]
 frame:=fun _ _ _ c k=>⟨k I (by simp) _ c.1,k a (by simp) _ c.2⟩
 item:=fun i s Q E n c q=>by
  have m:((pickOrder (w.params.setOrder a ep) es).toList.map (·.2)).length=es.size:=by rw [length_map,(Jcz _ es).length_eq,Array.length_toList]
  have g:=List.getElem?_eq_getElem (l:=(pickOrder (w.params.setOrder a ep) es).toList.map (·.2)) (by rw [m];exact n);exact JfP c.1 c.2 hf ht g fun f e j=>q _ f s.toks g ⟨e,j.extBut a _ hne c.2⟩ fun b o d z=>j.extBut b o (fun h=>d (by simp [h])) z
 done:=fun s Q E c q=>Je3 hh c.1 c.2 hf ht (by
  rw [<- Array.getElem?_toList];exact List.getElem?_eq_none (by rw [(Jcz _ es).length_eq,Array.length_toList];exact Nat.le_refl _)) fun f k=>q f s.toks fun b o d z=>k b o (fun h=>d (by simp [h])) z
 self:=fun _ _ _ _ c q=>Jfa c.1 q
theorem Jja (hh:A.handled=none) (I a tp:Addr) (hne:a≠I) (hnt:tp≠I) {es:Array (Int × Value)} {ep:Nat} {t:SetTable} {ps:List Nat} (hf:t.fits es.size=true) (hp:ps.Perm (List.range es.size)) :
  Walks prog w A I [I,a,tp] [I] es.size (fun i v=>(ps.map fun j=>(es.getD j (0, .none)).2)[i]?=some v) (fun i h=>h.get? I=some (itO (.ref tp) i a es.size ep)/\h.get? a=some (setO es ep t)/\h.get? tp=some (seqObj "tuple" (ps.map fun (n:Nat)=>rawInt n).toArray 0)) where
 sub:=fun b d=>by simp at d;simp [d]
 frame:=fun _ _ _ c k=>⟨k I (by simp) _ c.1,k a (by simp) _ c.2.1,k tp (by simp) _ c.2.2⟩
 item:=fun i s Q E x c q=>by
  have u:ps.length=es.size:=by rw [hp.length_eq,List.length_range]
  have m:i<ps.length:=by rw [u];exact x
  have p:=List.getElem?_eq_getElem m;have l:ps[i]<es.size:=List.mem_range.mp (hp.mem_iff.mp (List.getElem_mem m));have r:es[ps[i]]?=some (es[ps[i]].1,es[ps[i]].2):=Array.getElem?_eq_getElem l;have y:(ps.map fun j=>(es.getD j (0, .none)).2)[i]?=some es[ps[i]].2:=by
   rw [List.getElem?_map,p,Option.map_some,Array.getD_eq_getD_getElem?,Array.getElem?_eq_getElem l];rfl
  exact JhD c.1 c.2.1 hf c.2.2 p r fun g e f=>q _ g s.toks y ⟨e,f.extBut a _ hne c.2.1,f.extBut tp _ hnt c.2.2⟩ fun b o d z=>f.extBut b o (fun h=>d (by simp [h])) z
 done:=fun s Q E c q=>Jie hh c.1 c.2.1 hf c.2.2 (List.getElem?_eq_none (by rw [hp.length_eq,List.length_range];exact Nat.le_refl _)) fun g k=>q g s.toks fun b o d z=>k b o (fun h=>d (by simp [h])) z
 self:=fun _ _ _ _ c q=>Jfa c.1 q
variable {r:Addr}
theorem JdJ {Q:Bool->Shared->Prop} (ty:s.TypeIs (.ref r) "set") (h:Q false s):wpAny (model prog w) A (Builtin.List.listLengthHint (.ref r)) Q E s:=by
 unfold Builtin.List.listLengthHint;refine wpAny_bind (wpAny_specialOf ty PySem.F.slot_set_len.lookup ?_);generalize a:("set.__len__" : String)=c
 wp_delta
 rw [show splitId c=some ("set","__len__") from by subst a;decide +kernel];subst a;refine wpAny_bind (wpAny_isInstance (T:="set") (b:=true) ty (by rw [isSubtype_type];kernel_rfl) ?_);refine wpAny_ite_split (fun z=>absurd z ⋯) (fun _=>?_);refine wpAny_ite_split (fun _=>?_) (fun z=>absurd (by decide +kernel) z);exact wpAny_bind (wpAny_typeOf ty (wpAny_pure h))
variable {Q:Value->Shared->Prop}
theorem Jjr {t:SetTable} (ha:s.heap.get? a=some (setO es ep t)) (hf:t.fits es.size=true) (hp:t.plain=false) (h2:2<=es.size) (hz:es.size<=sizeLine)
  (q1:w.params.followText "set-order"=true->Q (.ref s.heap.objs.size) { s with heap:=s.heap.push (itO (.int 0 0) 0 a es.size ep) })
  (q2:∀ (ps:List Nat) d,ps.Perm (List.range es.size)->Q (.ref (s.heap.objs.size+1)) { s with heap:=(s.heap.push (seqObj "tuple" (ps.map fun (n:Nat)=>rawInt n).toArray 0)).push (itO (.ref s.heap.objs.size) 0 a es.size ep),drawn:=d }) :
  wpAny (model prog w) A (pyIter (.ref a)) Q E s:=by
 have c:s.TypeIs (.ref a) "set":=⟨_,ha,rfl⟩;refine wpAny_pyIter_slot c PySem.F.slot_set_iter (wpAny_call_entry PySem.F.slot_set_iter c JdW ?_ (PySem.F.args_set_iter_1 _));unfold Builtin.«frozenset.__iter__»;refine wpAny_bind (m:=Builtin.Frozenset.slot0 _ _) (wpAny_pure ?_);unfold Builtin.Frozenset.sizeOf;refine wpAny_bind (wpAny_bind (wpAny_setEntries_of ha rfl hf (wpAny_pure ?_)));unfold setDrawn;refine wpAny_bind (wpAny_bind (wpAny_setState_of ha rfl hf ?_));dsimp only;refine wpAny_bind (Jcg ?_);refine wpAny_pure ?_;cases ht:w.params.followText "set-order" with
 | true=>
  rw [if_neg (by simp)];refine wpAny_bind (wpAny_pure (wpAny_bind (wpAny_setEpoch_of ha rfl hf ?_)));unfold newFields;refine wpAny_bind (wpAny_newObj_type (wpAny_pure ⟨_,rfl,"set_iterator",_,⟨_,Heap.get?_push_size _ rfl,rfl⟩,JaZ.lookup,?_⟩));exact q1 ht
 | false=>
  have e:decide (es.size > 1)=true:=decide_eq_true (show 1<es.size from h2);show wpAny _ _ (if (!false&&(!t.plain&&decide (es.size > 1)))=true then _ else _) _ _ _;rw [if_pos (by rw [hp,e];rfl)];refine wpAny_bind (JeI _ _ _ _ (by simp) fun ps d b=>?_);refine wpAny_bind (wpAny_newTuple ?_ (by rw [length_map,b.length_eq,List.length_range];exact hz));have f:(s.heap.push (seqObj "tuple" (ps.map fun (n:Nat)=>rawInt n).toArray 0)).objs.size=s.heap.objs.size+1:=Heap.size_push ..;refine wpAny_bind (wpAny_setEpoch_of (Heap.get?_push_of_some _ ha) rfl hf ?_);unfold newFields;refine wpAny_bind (wpAny_newObj_type (wpAny_pure ⟨_,rfl,"set_iterator",_,⟨_,Heap.get?_push_size _ rfl,rfl⟩,JaZ.lookup,?_⟩));have:=q2 ps d b;rw [<- f] at this;exact this
variable {S:Addr} {c0:Nat}
theorem JkK {t:SetTable} {res:Value} (hh:A.handled=none) (ha:s.heap.get? a=some (setO es ep t)) (hf:t.fits es.size=true) (hp:t.plain=false) (h2:2<=es.size) (hz:es.size<=sizeLine)
  (hSa:S≠a) (hS:s.heap.get? S=some { cls:=.type "list",data:=.seq #[] c0 })
  (q:∀ s' acc c',(∀ b o,b≠S->s.heap.get? b=some o->s'.heap.get? b=some o)->s'.gens=s.gens->s'.os=s.os->s.toks<=s'.toks->s'.heap.get? S=some { cls:=.type "list",dict:=none,data:=.seq acc c',slots:=#[] }->acc.toList.Perm (es.toList.map (·.2))->R (.ok (.ret res)) s') :
  wpAny (model prog w) A.in1 (Builtin.List.listExtendWith (.ref S) (.ref a) res) (fun fin s'=>match fin with | .done f=>R (.ok f) s' | .again c'=>c'.quiet=true/\codeAny (model prog w) A c' R s') (fun e s'=>R (.error e) s') s:=by
 have key:∀ (I:Addr) (r:List Addr) (l:List Value) (St:Nat->Heap->Prop) (g:Shared),Walks prog w A.in1 I r [I] es.size (fun i v=>l[i]?=some v) St->l.Perm (es.toList.map (·.2))->S∉r->s.heap.get? I=none->St 0 g.heap ->
   (∀ b o,s.heap.get? b=some o->g.heap.get? b=some o)->g.gens=s.gens->g.os=s.os->s.toks<=g.toks->∀ X, ∀ h,(∀ b o,b≠S->g.heap.get? b=some o->h.get? b=some o)->h.get? S=some { cls:=.type "list",data:=.seq #[] X } ->
   codeAny (model prog w) A (.builtin "list.extend.loop" ⟨[.ref S, .ref I,res],[]⟩) R { g with heap:=h }:=by
  intro I r l St g W C D K N E H J M X h Y P;have V:=W.frame 0 g.heap h N fun b p o e=>Y b o (fun z=>D (z ▸ p)) e;refine codeAny_extend_loopS W.toS hz S D res es.size 0 _ #[] X rfl (Nat.zero_le _) V P (ItemsOf.nil _) fun s' k c' L U u=>?_;have g1:s'.gens=g.gens:=L.gens;have al:k.toList=l:=by
   have l1:l.length=es.size:=by rw [C.length_eq,length_map,Array.length_toList]
   have l2:k.size=es.size:=u.1;refine List.ext_getElem? fun j=>?_;by_cases c:j<es.size
   ·have Z:k[j]?=some k[j]:=Array.getElem?_eq_getElem (by rw [l2];exact c);rw [Array.getElem?_toList,Z,u.2 j _ Z]
   ·rw [List.getElem?_eq_none (by rw [Array.length_toList];ac_nf),List.getElem?_eq_none ∅]
  refine q s' k c' (fun b o p e=>?_) (g1.trans H) (L.os.trans J) (Nat.le_trans M L.toks) U (by rw [al];exact C);refine L.heap b o (fun G=>?_) (Y b o p (E b o e));rcases mem_cons.mp G with z | z
  ·exact p z
  ·rw [mem_singleton.mp z,K] at e;cases e
 have go:∀ (I:Addr) (r:List Addr) (l:List Value) (St:Nat->Heap->Prop) (g:Shared),Walks prog w A.in1 I r [I] es.size (fun i v=>l[i]?=some v) St->l.Perm (es.toList.map (·.2))->S∉r->s.heap.get? I=none->St 0 g.heap ->
   (∀ b o,s.heap.get? b=some o->g.heap.get? b=some o)->g.gens=s.gens->g.os=s.os->s.toks<=g.toks->∀ (b:Bool),wpAny (model prog w) A.in1 (if b=true then (do rule "list.extend.makes-room";Builtin.List.listTouch (.ref S);again (.builtin "list.extend.loop" ⟨[.ref S, .ref I,res],[]⟩)) else again (.builtin "list.extend.loop" ⟨[.ref S, .ref I,res],[]⟩)) (fun fin s'=>match fin with | .done f=>R (.ok f) s' | .again c'=>c'.quiet=true/\codeAny (model prog w) A c' R s') (fun e s'=>R (.error e) s') g:=by
  intro I r l St g W C D K N E H J M b;have O:=E _ _ hS;cases b
  ·exact wpAny_pure ⟨plainId_quiet PySem.F.plain_extend_loop _,key I r l St g W C D K N E H J M c0 g.heap (fun _ _ _ e=>e) O⟩
  ·rw [if_pos rfl];refine wpAny_bind (wpAny_rule ?_);refine wpAny_bind ?_;show wpAny _ _ (updateSeq S (·.push .none) >>= fun _=>updateSeq S (fun x=>x.pop)) _ _ _;refine wpAny_bind (wpAny_updateSeq O rfl ?_);have S2:=Heap.get?_update_self (Obj.mapSeq (·.push Value.none)) O rfl;refine wpAny_updateSeq (hz:=by seq_fits) S2 rfl ?_;have S3:=Heap.get?_update_self (Obj.mapSeq (fun x=>x.pop)) S2 rfl;refine wpAny_pure ⟨plainId_quiet PySem.F.plain_extend_loop _,key I r l St g W C D K N E H J M _ _ (fun b o p e=>?_) S3⟩;exact (Heap.get?_update_other _ _ (Ne.symm p)).trans ((Heap.get?_update_other _ _ (Ne.symm p)).trans e)
 have h1:A.in1.handled=none:=by simp [hh]
 have la:=Heap.lt_size ha;have Q:=Heap.lt_size hS;unfold Builtin.List.listExtendWith;refine wpAny_bind (wpAny_typeOf (T:="set") ⟨_,ha,rfl⟩ ?_);have n1:Builtin.List.listSameRef (.ref S) (.ref a)=false:=by simp [Builtin.List.listSameRef,hSa]
 rw [if_neg (by rw [n1];decide)];have m:∀ b,s.heap.objs.size<=b->s.heap.get? b=none:=fun b p=>by
  cases e:s.heap.get? b with
  | none=>rfl
  | some o=>exact absurd (Heap.lt_size e) (Nat.not_lt.mpr p)
 refine wpAny_bind (Jjr ha hf hp h2 hz (fun ht=>?_) fun ps d pp=>?_)
 ·have y:∀ b o,s.heap.get? b=some o->(s.heap.push (itO (.int 0 0) 0 a es.size ep)).get? b=some o:=fun b o e=>Heap.get?_push_of_some _ e;refine wpAny_bind (wpAny_holding (JdJ ⟨_,y _ _ ha,rfl⟩ ?_));exact go s.heap.objs.size _ _ _ { s with heap:=s.heap.push (itO (.int 0 0) 0 a es.size ep) } (Jjb h1 _ a (Nat.ne_of_lt la) hf ht) ((Jcz _ es).map _) (by simp only [mem_cons,not_mem_nil,or_false,not_or];exact ⟨Nat.ne_of_lt Q,hSa⟩) (m _ (Nat.le_refl _)) ⟨Heap.get?_push_size _ rfl,y _ _ ha⟩ y rfl rfl (Nat.le_refl _) _
 ·generalize hO:seqObj "tuple" (ps.map fun (n:Nat)=>rawInt n).toArray 0=B;have y:∀ b o,s.heap.get? b=some o->((s.heap.push B).push (itO (.ref s.heap.objs.size) 0 a es.size ep)).get? b=some o:=fun b o e=>Heap.get?_push_of_some _ (Heap.get?_push_of_some _ e);have z1:(s.heap.push B).objs.size=s.heap.objs.size+1:=Heap.size_push ..;have tI:((s.heap.push B).push (itO (.ref s.heap.objs.size) 0 a es.size ep)).get? (s.heap.objs.size+1)=some (itO (.ref s.heap.objs.size) 0 a es.size ep):=by
   rw [<- z1];exact Heap.get?_push_size _ rfl
  have tT:((s.heap.push B).push (itO (.ref s.heap.objs.size) 0 a es.size ep)).get? s.heap.objs.size=some B:=Heap.get?_push_of_some _ (Heap.get?_push_size _ (by rw [<- hO];rfl));refine wpAny_bind (wpAny_holding (JdJ ⟨_,y _ _ ha,rfl⟩ ?_));have vp:(ps.map fun j=>(es.getD j (0, .none)).2).Perm (es.toList.map (·.2)):=by
   have e:es.toList.map (·.2)=(List.range es.size).map fun j=>(es.getD j (0,Value.none)).2:=by
    refine List.ext_getElem? fun j=>?_;rw [List.getElem?_map,List.getElem?_map,Array.getElem?_toList];by_cases c:j<es.size
    ·rw [Array.getElem?_eq_getElem c,List.getElem?_range c];simp [Array.getD_eq_getD_getElem?,Array.getElem?_eq_getElem c]
    ·rw [Array.getElem?_eq_none ∅,List.getElem?_eq_none (by rw [List.length_range];ac_nf)];rfl
   rw [e];exact pp.map _
  exact go (s.heap.objs.size+1) _ _ _ { s with heap:=(s.heap.push B).push (itO (.ref s.heap.objs.size) 0 a es.size ep),drawn:=d } (Jja (tp:=s.heap.objs.size) h1 _ a (Nat.ne_of_lt (Nat.lt_succ_of_lt la)) (Nat.ne_of_lt (Nat.lt_succ_self _)) hf pp) vp (by simp only [mem_cons,not_mem_nil,or_false,not_or];exact ⟨Nat.ne_of_lt (Nat.lt_succ_of_lt Q),hSa,Nat.ne_of_lt Q⟩) (m _ (Nat.le_succ _)) ⟨tI,y _ _ ha,by rw [hO];exact tT⟩ y rfl rfl (Nat.le_refl _) _
theorem Je9 (h:wpAny (model prog w) A.in1 (Builtin.List.listExtendWith (.ref S) (.ref r) (.ref S)) (fun fin s'=>match fin with | .done f=>R (.ok f) s' | .again c'=>c'.quiet=true/\codeAny (model prog w) A c' R s') (fun e s'=>R (.error e) s') s) :
  codeAny (model prog w) A (.builtin "list.__iadd__" ⟨[.ref S, .ref r],[]⟩) R s:=by
 refine codeAny_builtin (PySem.F.entry_list_iadd) ?_;rw [Around.under_plainId (PySem.F.plain_list_iadd) _];exact h
theorem JcQ (h64:ss.length<64)
  (hx:∀ (R:Result->Shared->Prop),(∀ s' (vs:List Value) c' ss',(∀ b o,s.heap.get? b=some o->s'.heap.get? b=some o)->s'.gens=s.gens->s'.os=s.os->s.toks<=s'.toks ->
    s'.heap.get? s.heap.objs.size=some { cls:=.type "list",dict:=none,data:=.seq vs.toArray c',slots:=#[] }->StrsAre vs ss'->ss'.Perm ss->R (.ok (.ret (.ref s.heap.objs.size))) s') ->
   codeAny (model prog w) A.in1 (.builtin "list.__iadd__" ⟨[.ref s.heap.objs.size, .ref r],[]⟩) R { s with heap:=s.heap.push { cls:=.type "list",data:=.seq ([]:List Value).toArray } })
  (q:∀ s' l (out:Array Value) ss' e,(∀ b o,s.heap.get? b=some o->s'.heap.get? b=some o)->s'.gens=s.gens->s'.os=s.os->s.toks<=s'.toks->s.heap.objs.size<=l->s'.heap.get? l=some (seqObj "list" out e)->StrsAre out.toList ss'->ss'.Perm ss->sortedS ss'=true->Q (.ref l) s') :
  wpAny (model prog w) A (call (.builtin "sorted") [.ref r]) Q E s:=by
 refine Calls.call_function_entry kind_sorted plain_sorted entry_sorted (args_sorted1 _) ?_;unfold Builtin.«sorted»;refine wpAny_bind (m:=checkCount "sorted" 1 1 _) (wpAny_pure ?_);refine wpAny_bind ?_;unfold collect;refine wpAny_bind (wpAny_runValue (codeAny_builtin (PySem.F.entry_proto_collect) ?_));rw [Around.under_plainId (PySem.F.plain_proto_collect) _];show wpAny _ A.in1.in1 (newList [] >>= fun l=>again (.builtin "list.__iadd__" ⟨[l, .ref r],[]⟩)) _ _ s;refine wpAny_bind (wpAny_newObj_type ?_);refine wpAny_pure ⟨plainId_quiet (PySem.F.plain_list_iadd) _,hx _ fun s' vs c' t k p v y h a j=>?_⟩;refine wpAny_bind (m:=load s.heap.objs.size) (wpAny_load h (wpAny_pure ?_));have vl:vs.length<64:=by rw [a.length,j.length_eq];exact h64
 have n:(64:Nat)<=sizeLine:=by decide
 dsimp only;refine wpAny_bind (wpAny_newList ?_ (by show vs.length<=sizeLine;ac_nf));have f:(s'.heap.push (seqObj "list" vs.toArray 0)).get? s'.heap.objs.size=some (seqObj "list" vs.toArray 0):=Heap.get?_push_size _ rfl;refine wpAny_bind (wpAny_holding (wpAny_call_entry slot_list_sort ⟨_,f,rfl⟩ entry_list_sort (list_sort_treeK strKind_oneLt f a.keysOf (fun G H rest e=>keyKind_strs (by rw [<- e];exact a)) vl fun z c g=>⟨_,rfl,?_⟩) (args_list_sort _)));obtain ⟨d,C,B,D⟩:=sorted_out_str a c g;obtain ⟨u,x⟩:=sortedHeap_at (out:=(arrOf z).map (·.2)) f;refine wpAny_pure ⟨_,rfl,q _ s'.heap.objs.size _ d u (fun b o e=>?_) p v y ?_ x C (B.trans j) D⟩
 ·have i:=Heap.lt_size (k b o e);rw [sortedHeap_old (Nat.ne_of_lt i) (by rw [size_push'];exact Nat.lt_succ_of_lt i)];exact Heap.get?_push_of_some _ (k b o e)
 ·exact Nat.le_of_lt (Heap.lt_size h)
theorem JgW:∀ (vs:List Value),(∀ v∈vs, ∃ x t,v=.str x t)->StrsAre vs (vs.map strOf)
 | [],_=>.nil
 | v::vs,h=>by
  obtain ⟨x,t,rfl⟩:=h v (by simp);exact .cons x t (JgW vs fun u hu=>h u (by simp [hu]))
theorem JhN (hh:A.handled=none) (hS:SetS prog w s.heap a ks) (h2:2<=ks.length) (h64:ks.length<64)
  (q:∀ s' l (out:Array Value) ss' e,(∀ b o,s.heap.get? b=some o->s'.heap.get? b=some o)->s'.gens=s.gens->s'.os=s.os->s.toks<=s'.toks->s.heap.objs.size<=l->s'.heap.get? l=some (seqObj "list" out e)->StrsAre out.toList ss'->ss'.Perm ks->sortedS ss'=true->Q (.ref l) s') :
  wpAny (model prog w) A (call (.builtin "sorted") [.ref a]) Q E s:=by
 obtain ⟨M,N,t,i,g,j,O,L,h,_⟩:=hS;have P:M.size=ks.length:=by rw [<- j.length_eq,length_map,Array.length_toList]
 have n:(64:Nat)<=sizeLine:=by decide
 have I:=Heap.lt_size i;have G:A.in1.handled=none:=by simp [hh]
 refine JcQ (ss:=ks) h64 (fun R k=>Je9 (JkK G (Heap.get?_push_of_some _ i) L (h (fun z=>by rw [z] at h2;simp at h2)) ∅ ∅ (Nat.ne_of_gt I) (Heap.get?_push_size _ rfl) fun s' d K C p r D y c=>?_)) q;have f:∀ v∈d.toList, ∃ x t,v=.str x t:=fun v m=>by
  obtain ⟨e,B,rfl⟩:=mem_map.mp (c.mem_iff.mp m);obtain ⟨⟨H,J,_⟩,_⟩:=g e B;obtain ⟨u,F⟩:=Value.isStrOf_shape J;exact ⟨H,u,F⟩
 refine k s' d.toList K (d.toList.map strOf) (fun b o e=>C b o (Nat.ne_of_lt (Heap.lt_size e)) (Heap.get?_push_of_some _ e)) p r D (by rw [Array.toArray_toList];exact y) (JgW _ f) ?_;refine (c.map strOf).trans ?_;rw [map_map];exact j
theorem JgT {K:Type} [DecidableEq K] {knd:PySem.KeyKind prog w K} {d:Addr} {kvs:List (K × Value)} {ep:Nat} {ss:List Str} {Q:Value->Shared->Prop} (hh:A.handled=none) (lo:(d == sysModules)=false) (hd:s.heap.DictAt knd d kvs ep) (h64:kvs.length<64)
  (hl:ss.length=kvs.length) (hk:∀ i k x v,kvs[i]?=some (k,x)->knd.is k v=true->∃ t,v=.str (ss.getD i ⟨#[]⟩) t)
  (q:∀ s' l (out:Array Value) ss' e,(∀ b o,s.heap.get? b=some o->s'.heap.get? b=some o)->s'.gens=s.gens->s'.os=s.os->s.toks<=s'.toks->s.heap.objs.size<=l->s'.heap.get? l=some (seqObj "list" out e)->StrsAre out.toList ss'->ss'.Perm ss->sortedS ss'=true->Q (.ref l) s') :
  wpAny (model prog w) A (call (.builtin "sorted") [.ref d]) Q E s:=by
 have J:(64:Nat)<=sizeLine:=by decide
 have H:=hd.lt_size;have P:A.in1.handled=none:=by simp [hh]
 refine JcQ (ss:=ss) ∅ (fun R k=>?_) q;obtain ⟨z,j⟩:∃ z:Result->Shared->Prop, ∀ r s',z r s'↔∃ g B a u,r=.ok (.ret (.ref s.heap.objs.size))/\s'={ s with heap:=g,toks:=B }/\(∀ b o,b≠s.heap.objs.size->(s.heap.push { cls:=.type "list",data:=.seq ([]:List Value).toArray }).get? b=some o->g.get? b=some o)/\g.get? s.heap.objs.size=some { cls:=.type "list",dict:=none,data:=.seq a u,slots:=#[] }/\ItemsOf (fun i v=>∃ k x,kvs[i]?=some (k,x)/\knd.is k v=true) a kvs.length:=⟨_,fun _ _=>Iff.rfl⟩;have h:=codeAny_toks_of (n:=s.toks) (s:={ s with heap:=s.heap.push { cls:=.type "list",data:=.seq ([]:List Value).toArray } }) (Nat.le_refl _) (Je9 (A:=A.in1) (R:=z)
  (W.kdl_extend (R:=z) (s:={ s with heap:=s.heap.push { cls:=.type "list",data:=.seq ([]:List Value).toArray } }) (W.kdl_dict (knd:=knd) (kvs:=kvs) (ep:=ep) lo) P (hd.push _) s.heap.objs.size (Nat.ne_of_gt H) (Nat.ne_of_gt H) (.ref s.heap.objs.size) 0 (Heap.get?_push_size _ rfl) (fun g B a u D hl f=>(j _ _).mpr ⟨g,B,a,u,rfl,rfl,D,hl,f⟩) ∅))
 refine codeAny_mono h ?_;rintro r s' ⟨O,N⟩;obtain ⟨g,B,a,u,rfl,rfl,D,m,f⟩:=(j _ _).mp N;have M:StrsAre a.toList ss:=by
  have p:∀ v∈a.toList, ∃ x t,v=.str x t:=fun v I=>by
   obtain ⟨i,G⟩:=List.getElem?_of_mem I;rw [Array.getElem?_toList] at G;obtain ⟨F,x,y,C⟩:=f.2 i v G;obtain ⟨t,e⟩:=hk i F x v y C;exact ⟨_,t,e⟩
  have:=JgW _ p;have e:a.toList.map strOf=ss:=by
   refine List.ext_getElem? fun i=>?_;rw [List.getElem?_map,Array.getElem?_toList];have T:a.size=kvs.length:=f.1;by_cases c:i<kvs.length
   ·have y:a[i]?=some a[i]:=Array.getElem?_eq_getElem ∅;obtain ⟨F,x,C,L⟩:=f.2 i _ y;obtain ⟨t,S⟩:=hk i F x _ C L;rw [y,Option.map_some,S,List.getElem?_eq_getElem ∅];simp [strOf,List.getD_eq_getElem?_getD,List.getElem?_eq_getElem (show i<ss.length by ac_nf)]
   ·rw [Array.getElem?_eq_none ∅,List.getElem?_eq_none ∅];rfl
  rw [e] at this;exact this
 exact k _ a.toList u ss (fun b o e=>D b o (Nat.ne_of_lt (Heap.lt_size e)) (Heap.get?_push_of_some _ e)) rfl rfl O (by rw [Array.toArray_toList];exact m) M (.refl _)
theorem JkU:typeLookup (.type "list") "keys"=pure none:=by rw [typeLookup_type,builtinLookup_eq_fast];kernel_rfl
variable {its:Array Value}
theorem JkQ {Q:Option Value->Shared->Prop} (hh:A.handled=none) (hx:s.heap.get? a=some { cls:=.type "list",dict:=none,data:=.seq its n,slots:=#[] })
   (q:∀ h' t',(∀ b o,s.heap.get? b=some o->h'.get? b=some o)->Q none { s with heap:=h',toks:=t' }) :
    wpAny (model prog w) A (getAttr? (.ref a) "keys") Q E s:=by
  obtain ⟨j,g,d,u,i⟩:=s;have h:∀ c,(⟨j,g,d,c,i⟩:Shared).TypeIs (.ref a) "list":=fun _=>⟨_,hx,rfl⟩;have p:=sub_AttributeError;have k:=PySem.F.slot_list_getattribute.lookup;have t:=PySem.F.slot_list_getattribute.bind (.ref a);have m:=am_list_getattr_none;unfold getAttr?;unfold getAttrBy?;unfold getAttrBy;repeat (any_goals (first | assumption | exact h _ | ((with_reducible show wpAny _ _ (call (Value.builtin "list.__getattribute__") _ _) _ _ _);refine call_meets PySem.F.slot_list_getattribute (h _) am_entry_list_getattribute (PySem.F.args_list_getattribute_2 _ _) (meets_getattribute_miss_list a its n #[] "keys" _ JkU (by decide +kernel) ⋯) ⟨hx,hh,fun h' c e f=>?_⟩) | wp_step))
  obtain ⟨t',l,r⟩:=f.there;show wpAny _ _ (getattributeRaised _ _ _ _ _ _ _) _ _ _;unfold getattributeRaised;repeat (any_goals (first | assumption | wp_step))
  exact q h' c f.keeps
theorem JfH:entryFor table "dict.update.loop"=some Builtin.«dict.update.loop»:=entryFor_of_tree (by kernel_rfl)
theorem Jdb:plainId "dict.update.loop"=true:=by decide +kernel
def dkv (key:Nat->Str) (val:Nat->Value) (i:Nat):List (Key × Value):=(List.range i).foldl (fun l j=>PySem.stored l (Sum.inr (key j)) (val j)) []
theorem Je2 (key:Nat->Str) (val:Nat->Value) (i:Nat):dkv key val (i+1)=PySem.stored (dkv key val i) (Sum.inr (key i)) (val i):=by
 unfold dkv;rw [List.range_succ,foldl_append];rfl
theorem Jgq (key:Nat->Str) (val:Nat->Value):∀ i,(dkv key val i).length<=i
 | 0=>Nat.le_refl _
 | i+1=>by
  have:=Jgq key val i;rw [Je2];unfold PySem.stored;split <;> simp <;> ac_nf
def Jdt (h:Heap) (a:Addr) (k v:Value):Prop:=∃ o c,h.get? a=some o/\o.cls=.type "tuple"/\o.data=.seq #[k,v] c
theorem Jdt.at_ {k:Value} (x:Jdt h a k v) (m:∀ o,h.get? a=some o->h'.get? a=some o):Jdt h' a k v:=by
 obtain ⟨o,c,e,r⟩:=x;exact ⟨o,c,m o e,r⟩
theorem JkW {t:Tok}:(JaE prog w).is (Sum.inr z) (.str z t)=true:=by
 show keyIs (Sum.inr z) (.str z t)=true;simp [keyIs,Value.isStrOf]
theorem Jia {P:Nat->Value->Prop} {St:Nat->Shared->Prop}
  (W:WalksS prog w A.in1 I fp wr G n P St) (d:Addr) (hdf:d∉fp) (adr:Nat->Addr) (key:Nat->Str) (val:Nat->Value) (hP:∀ i v,P i v->v=.ref (adr i)) (nd:∀ i,i<n->adr i≠d) (nw:∀ i,i<n->adr i∉wr) (hz:n<=sizeLine) :
  ∀ (k i:Nat) (s:Shared),n-i=k->i<=n->St i s->s.heap.DictOf (JaE prog w) d (dkv key val i)->(∀ j,j<n->∃ tk,Jdt s.heap (adr j) (.str (key j) tk) (val j)) ->
   (∀ s',Moved (d::wr) G s s'->s'.heap.DictOf (JaE prog w) d (dkv key val n)->R (.ok (.ret .none)) s') ->
   codeAny (model prog w) A (.builtin "dict.update.loop" ⟨[.ref d, .ref I, .int (i:Int) 0, .none],[]⟩) R s:=by
 have L:d∉wr:=fun h=>hdf (W.sub _ h);have N:∀ b∈wr,b∈d::wr:=fun b h=>mem_cons_of_mem _ h;intro k;induction k with
 | zero=>
  intro i s S X F r l q;have : i=n:=by ac_nf
  subst this;refine codeAny_builtin JfH ?_;rw [Around.under_plainId Jdb _];refine wpAny_bind (m:=pyNext (.ref I)) (W.done s _ _ F fun s' f=>?_);refine wpAny_bind (m:=Builtin.Dict.addKeywords d []) (wpAny_pure (wpAny_pure ?_));refine q s' (f.mono N) ?_;obtain ⟨o,K,B,t,rest⟩:=r;exact ⟨o,K,B,f.heap d o L t,rest⟩
 | succ k ih=>
  intro i s S X F r l q;have c:i<n:=by ac_nf
  refine codeAny_builtin JfH ?_;rw [Around.under_plainId Jdb _];refine wpAny_bind (m:=pyNext (.ref I)) (W.item i s _ _ c F fun v s' Q H f=>?_);rw [hP i v Q];have E:s'.heap.DictOf (JaE prog w) d (dkv key val i):=by
   obtain ⟨o,K,B,t,rest⟩:=r;exact ⟨o,K,B,f.heap d o L t,rest⟩
  have a:∀ j,j<n->∃ tk,Jdt s'.heap (adr j) (.str (key j) tk) (val j):=fun j g=>by
   obtain ⟨tk,e⟩:=l j g;exact ⟨tk,e.at_ fun o z=>f.heap _ o (nw j g) z⟩
  obtain ⟨tk,ot,ct,M,D,x⟩:=a i c;have dl:=Jgq key val i;refine wpAny_bind (wpAny_holding ?_);refine wpAny_bind (wpAny_tryCatch ?_);unfold Builtin.Dict.pairItems;refine wpAny_bind (wpAny_typeOf (T:="tuple") ⟨_,M,D⟩ ?_);rw [if_pos ⋯];unfold seqItems?;refine wpAny_bind (wpAny_bind (wpAny_load M ?_));rw [x];refine wpAny_pure (wpAny_pure ?_);show wpAny _ _ (holding [Value.str (key i) tk,val i] (dictSet d (.str (key i) tk) (val i))) _ _ _;refine wpAny_holding (wpAny_dictSet_pairs (knd:=JaE prog w) (k:=Sum.inr (key i)) JkW E (fun O Z C=>?_) ∅);have y:O.DictOf (JaE prog w) d (dkv key val (i+1)):=by
   rw [Je2];exact Z
  refine wpAny_pure ⟨plainId_quiet Jdb _,ih (i+1) { s' with heap:=O,toks:=s'.toks+1 } ∅ c (W.frame _ s' _ _ H (Nat.le_succ _) fun b J o e=>?_) y (fun j g=>?_) fun Y U u=>?_⟩
  ·rw [C.2 b (fun h:b=d=>hdf (h ▸ J))];exact e
  ·obtain ⟨p,V⟩:=a j g;exact ⟨p,V.at_ fun o z=>(C.2 _ (nd j g)).trans z⟩
  ·refine q Y (Moved.trans W.gtrans ((f.mono N).then_heap (Nat.le_succ _) fun b o J e=>?_) U) u;rw [C.2 b (fun h:b=d=>J (by rw [h];exact mem_cons_self))];exact e
theorem JdT (hh:A.handled=none) (hl:s.heap.get? l=some { cls:=.type "list",dict:=none,data:=.seq items c0,slots:=#[] }) (adr:Nat->Addr) (key:Nat->Str) (val:Nat->Value)
  (hP:∀ (i:Nat) (v:Value),items[i]?=some v->v=.ref (adr i)) (tup:∀ j,j<items.size->∃ tk,Jdt s.heap (adr j) (.str (key j) tk) (val j)) (hz:items.size<=sizeLine)
  (q:∀ h' tk,(∀ b o,s.heap.get? b=some o->h'.get? b=some o)->h'.DictOf (JaE prog w) s.heap.objs.size (dkv key val items.size)->Q (.ref s.heap.objs.size) { s with heap:=h',toks:=tk }) :
  wpAny (model prog w) A (call (.type "dict") [.ref l]) Q E s:=by
 refine callType_codes (Q₁:=fun g J=>g=.ref s.heap.objs.size/\J={ s with heap:=s.heap.push { cls:=.type "dict",data:=.dict #[] } }) (PySem.F.kt_called_dict) (PySem.F.kt_typeCall_dict_1 _) (PySem.F.entry_dict_init) (kt_code_dict_new _ ⟨rfl,rfl⟩) ?_;rintro g J ⟨rfl,rfl⟩;have n:(s.heap.push { cls:=.type "dict",data:=.dict #[] }).DictOf (JaE prog w) s.heap.objs.size []:=Heap.DictOf.new s.heap;refine ⟨n.typeIs,PySem.F.args_dict_init_2 _ _,?_⟩;generalize h:({ cls:=.type "dict",data:=.dict #[] }:Obj)=o0 at n ⊢;have r:(s.heap.push o0).get? l=some { cls:=.type "list",dict:=none,data:=.seq items c0,slots:=#[] }:=Heap.get?_push_of_some _ hl;have V:=Heap.lt_size hl;have W:(s.heap.push o0).objs.size=s.heap.objs.size+1:=Heap.size_push ..;unfold Builtin.«dict.__init__»;refine wpAny_bind ?_;unfold Builtin.Dict.selfAndRest;refine wpAny_bind (wpAny_notOrdered_dict n.typeIs (wpAny_pure ?_));show wpAny _ _ (Builtin.Dict.updateFrom "dict.__init__" s.heap.objs.size (.ref l) [] Value.none) _ _ _;unfold Builtin.Dict.updateFrom;refine wpAny_bind (wpAny_typeOf (T:="list") ⟨_,r,rfl⟩ ?_);rw [if_pos ⋯];have U:A.in1.in1.handled=none:=by simp [hh]
 refine wpAny_bind (JkQ U r fun f M k=>?_);refine wpAny_ite_split (fun _=>?_) (fun z=>absurd rfl z);refine wpAny_bind (wpAny_rule ?_);have B:=k _ _ r;have D:f.DictOf (JaE prog w) s.heap.objs.size []:=by
  obtain ⟨o,I,C,h,rest⟩:=n;exact ⟨o,I,C,k _ _ h,rest⟩
 have d:s.heap.objs.size<f.objs.size:=by
  obtain ⟨o,I,C,h,rest⟩:=D;exact Heap.lt_size h
 have H:f.IsList l items:=⟨_,B,rfl,c0,rfl⟩;refine wpAny_bind (wpAny_pyIter_list (s:=⟨f,s.gens,s.drawn,M,s.os⟩) H ?_);have G:∀ j,j<items.size->adr j<s.heap.objs.size:=fun j a=>by
  obtain ⟨tk,o,c,e,_⟩:=tup j a;exact Heap.lt_size e
 have p:l<f.objs.size:=Heap.lt_size B;have t:A.in1.in1.handled=none:=by simp [hh]
 refine wpAny_pure ⟨plainId_quiet Jdb _,?_⟩;refine Jia ((Walks.list t f.objs.size l (Nat.ne_of_lt p) items).toS) s.heap.objs.size (by simp only [mem_cons,not_mem_nil,or_false,not_or];exact ⟨Nat.ne_of_lt d,Nat.ne_of_gt V⟩) adr key val hP (fun j a=>Nat.ne_of_lt (G j a)) (fun j a=>by simp only [mem_cons,not_mem_nil,or_false];exact Nat.ne_of_lt (Nat.lt_trans (G j a) d)) hz items.size 0 _ ∅ (Nat.zero_le _) ⟨⟨_,Heap.get?_push_size _ rfl,rfl,rfl⟩,H.push _⟩ (D.push _) (fun j a=>?_) fun O m S=>?_
 ·obtain ⟨tk,e⟩:=tup j a;exact ⟨tk,e.at_ fun o z=>Heap.get?_push_of_some _ (k _ _ (Heap.get?_push_of_some _ z))⟩
 ·obtain ⟨h',P,R,x,u⟩:=O;have K:P=s.gens:=m.gens;have N:R=s.drawn:=m.drawn;have L:u=s.os:=m.os;subst K;subst N;subst L;refine ⟨rfl,q h' x (fun b o e=>?_) S⟩;have y:=Heap.lt_size e;refine m.heap b o ?_ (Heap.get?_push_of_some _ (k _ _ (Heap.get?_push_of_some _ e)));simp only [mem_cons,not_mem_nil,or_false,not_or];exact ⟨Nat.ne_of_lt y,Nat.ne_of_lt (Nat.lt_trans y d)⟩
variable {X:Cx} {pins:List (Addr × Obj)} {σ:List (Option V)} {s':Shared}
theorem Inv.like (I:Inv X pins σ H { s with heap:=s'.heap,toks:=s'.toks }) (eg:s'.gens=s.gens) (eo:s'.os=s.os):Inv X pins σ H s' :=
 ⟨I.ok,by rw [eo];exact I.os,by rw [eg];exact I.bare,I.base,I.loc,I.cell,I.free,I.freeC,I.pin,I.hok,I.len⟩
theorem Jep:∀ {vs:List Value} {ss:List Str},StrsAre vs ss->Vals (ss.map V.str) vs
 | _,_, .nil=>.nil
 | _,_, .cons z t r=>.cons ⟨t,rfl⟩ (Jep r)
theorem Jeo:∀ {vs:List Value} {ss:List Str},Vals (ss.map V.str) vs->StrsAre vs ss
 | [],[],_=>.nil
 | [],_::_,h=>by cases h
 | _::_,[],h=>by cases h
 | v::vs,z::ss,h=>by
  cases h with
  | cons h1 h2=>
   obtain ⟨t,rfl⟩:=h1;exact .cons z t (Jeo h2)
def JhR (out ss:List Str):Prop:=out.Perm ss/\sortedS out=true
def Jl6 (xs:List V) (H:Hp) (Q:VK):Prop:=∃ d kvs ss,xs=[.ref d]/\H d=some (.dK kvs)/\kvs.map (·.1)=ss.map Sum.inr/\ss.length<64/\∀ l out,H l=none->JhR out ss->Q (.ref l) (upd H l (.lst (out.map V.str)))
theorem Jdj (hc:X.calm=true):CallR X (.builtin "sorted") Jl6:=by
 intro K s σ H xs us Q I r h;obtain ⟨d,a,ss,rfl,e,m,P,q⟩:=h;obtain ⟨u,rfl,U⟩:=vals1 r;cases U;obtain ⟨Y,M,p,g,J⟩:=dk_of I.hok e;obtain ⟨ep,F⟩:=J.dictAt;have sl:(64:Nat)<=sizeLine:=by decide
 have lk:ss.length=a.length:=by simpa using (congrArg List.length m).symm
 have W:p.length=a.length:=g.length.symm;have f:p.map (·.1)=a.map (·.1):=by
  clear J F m lk W Y q e;induction g with
  | nil=>rfl
  | cons h1 _ ih=>
   rw [map_cons,map_cons,ih,h1.1]
 refine JgT (ss:=ss) (I.ok.hd hc) M F ∅ ∅ (fun i k x v S L=>?_) fun G l j c T k N R et E O C n A=>?_
 ·have D:(p.map (·.1))[i]?=some k:=by rw [List.getElem?_map,S];rfl
  rw [f,m,List.getElem?_map] at D;obtain ⟨z,B,rfl⟩:=Option.map_eq_some_iff.mp D;rcases JaN (show keyIs (Sum.inr z) v=true from L) with ⟨b,hb,_⟩ | ⟨y,t,hy,rfl⟩
  ·cases hb
  ·cases hy;exact ⟨t,by rw [List.getD_eq_getElem?_getD,B];rfl⟩
 ·have Z:j.toList.length<=sizeLine:=by
   rw [C.length,n.length_eq];ac_nf
  refine ⟨.ref l,_,Inv.like (s:=s) (I.laid (t':=G.toks) (o:=.lst (c.map V.str)) k E (show ObjOk X.prog X.w _ G.heap l (.lst (c.map V.str)) from ⟨by rw [length_map,n.length_eq];ac_nf,j.toList,T,Jep C,by rw [Array.toArray_toList];exact O⟩)) N R,rfl,q l c (I.hok.fresh E) ⟨n,A⟩⟩
def Jl2:V->List V->Hp->VK->Prop:=fun x vs H Q=>∃ (l:Addr) (ss:List Str) (z:Str) (j:Nat),x=.ref l/\vs=[.str z]/\H l=some (.lst (ss.map V.str))/\ss[j]?=some z/\(∀ m,m<j->ss[m]?≠some z)/\Q (.int (j:Int)) H
theorem Jhf:MtM X "list.index" Jl2:=by
 intro E s σ H x S v T Q I M N h;obtain ⟨l,c,z,j,rfl,rfl,L,D,B,q⟩:=h;cases M;obtain ⟨u,rfl,K⟩:=N.one;obtain ⟨t,rfl⟩:=K;obtain ⟨O,a,n,r,U,e⟩:=I.lstM L;have p:=Jeo r;have J:=p.length;have R:j<c.length:=(List.getElem?_eq_some_iff.mp D).1;have W:a.toArray.size=c.length:=by rw [size_toArray];exact J
 have f:∀ m (k:m<a.toArray.size), ∃ b d,c[m]?=some d/\a.toArray[m]=.str d b:=fun m k=>by
  have g:m<c.length:=by ac_nf
  obtain ⟨b,C⟩:=p.get m c[m] (List.getElem?_eq_getElem g);refine ⟨b,c[m],List.getElem?_eq_getElem g,?_⟩;rw [List.getElem?_eq_getElem (l:=a) (i:=m) (by simpa using k)] at C;simpa using C
 have V:(sizeLine:Int)<2 ^ 63-1:=by decide
 have G:c.length<=sizeLine:=by simpa using O
 refine call_meets F.slot_list_index ⟨_,e,rfl⟩ F.entry_list_index (F.args_list_index_2 _ _) (MeetsSeq.list_index l a.toArray n (.str z t) (fun y=>strOf y == z) (fun y P=>?_) j ∅ ∅ ?_ fun m k w=>?_) ⟨e,?_⟩
 ·obtain ⟨d,b,rfl⟩:=p.all y (by simpa using P);have:=SeqRoads2.EqGives.str d z b t;rw [SeqAt.str_beq] at this;exact this
 ·obtain ⟨b,d,o,A⟩:=f j ∅;rw [D] at o;cases o;rw [A];simp [strOf]
 ·obtain ⟨b,d,o,A⟩:=f m k;rw [A];have:=B m w;rw [o] at this;simp only [strOf,beq_eq_false_iff_ne];exact fun h=>this (by rw [h])
 ·exact ⟨.int (j:Int),H,I.tok _,⟨_,rfl⟩,q⟩
def Jdv (ps:List (Str × V)):List (Key × V):=ps.foldl (fun l p=>putK l (Sum.inr p.1) p.2) []
def Jl1 (xs:List V) (H:Hp) (Q:VK):Prop:=∃ (l:Addr) (as:List Addr) (ps:List (Str × V)),xs=[.ref l]/\H l=some (.lst (as.map V.ref))/\as.length=ps.length/\(∀ (i:Nat) (a:Addr) (p:Str × V),as[i]?=some a->ps[i]?=some p->H a=some (.tup [.str p.1,p.2]))/\∀ d,H d=none->Q (.ref d) (upd H d (.dK (Jdv ps)))
theorem JeF (hc:X.calm=true):CallR X (.type "dict") Jl1:=by
 intro R s σ H xs us Q I r h;obtain ⟨l,b,d,rfl,e,hl,Z,q⟩:=h;obtain ⟨u,rfl,rx⟩:=vals1 r;cases rx;obtain ⟨hz,y,n,ri,L,T⟩:=I.lstM e;have E:b.length<=sizeLine:=by simpa using hz
 have W:y.length=b.length:=by simpa using L.symm
 have pr:∀ j,j<b.length->∃ u a p f,b[j]?=some a/\d[j]?=some p/\RelV p.2 u/\Jdt s.heap a (.str p.1 f) u:=fun j C=>by
  have D:=List.getElem?_eq_getElem C;have w:=List.getElem?_eq_getElem (l:=d) (i:=j) ∅;obtain ⟨_,ts,B,o,U,K,nn,hd⟩:=I.hok _ _ (Z j _ _ D w);cases B with
  | cons r1 B=>
   cases B with
   | cons r2 B=>
    cases B;obtain ⟨f,rfl⟩:=r1;exact ⟨_,_,_,f,D,w,r2,o,nn,U,K,hd⟩
 obtain ⟨A,t⟩:=Classical.skolem.mp (show ∀ j:Nat, ∃ u:Value,j<b.length->∃ a p f,b[j]?=some a/\d[j]?=some p/\RelV p.2 u/\Jdt s.heap a (.str p.1 f) u from fun j=>by
  by_cases c:j<b.length
  ·obtain ⟨u,h⟩:=pr j c;exact ⟨u,fun _=>h⟩
  ·exact ⟨.none,fun z=>absurd z c⟩)
 have m:∀ j a,b[j]?=some a->b.getD j 0=a:=fun j a h=>by rw [List.getD_eq_getElem?_getD,h];rfl
 have g:∀ j (p:Str × V),d[j]?=some p->(d.getD j (⟨#[]⟩, .non)).1=p.1:=fun j p h=>by rw [List.getD_eq_getElem?_getD,h];rfl
 have G:y.toArray.size=b.length:=by rw [size_toArray];exact W
 refine JdT (I.ok.hd hc) T (fun j=>b.getD j 0) (fun j=>(d.getD j (⟨#[]⟩, .non)).1) A (fun j v F=>?_) (fun j C=>?_) ∅ fun h' f k P=>?_
 ·rw [List.getElem?_toArray] at F;have C:j<b.length:=by have:=(List.getElem?_eq_some_iff.mp F).1;ac_nf
  obtain ⟨u,N,Y⟩:=ri.get (i:=j) (x:=.ref b[j]) (by rw [List.getElem?_map,List.getElem?_eq_getElem C];rfl);rw [F] at N;cases N;rw [m j _ (List.getElem?_eq_getElem C)];exact Y
 ·obtain ⟨a,p,f,D,w,M,O⟩:=t j ∅;refine ⟨f,?_⟩;rw [m j a D,g j p w];exact O
 ·have J:∀ i,i<=b.length->KV (Jdv (d.take i)) (dkv (fun j=>(d.getD j (⟨#[]⟩, .non)).1) A i):=fun i=>by
   induction i with
   | zero=>intro _;exact .nil
   | succ i ih=>
    intro hi;obtain ⟨a,p,f,D,w,M,O⟩:=t i ∅;rw [Je2,take_succ,w];unfold Jdv;rw [foldl_append];rw [g i p w];exact (ih ∅).put _ M
  have r:=J b.length (Nat.le_refl _);rw [take_of_length_le ∅] at r;have S:(Jdv d).length<=sizeLine:=by
   rw [r.length];exact Nat.le_trans (Jgq _ _ _) E
  rw [G] at P;exact ⟨.ref s.heap.objs.size,_,I.laid (a:=s.heap.objs.size) (o:=.dK (Jdv d)) (t':=f) k (Nat.le_refl _) (Jic S (beq_eq_false_iff_ne.mpr (Ne.symm (Nat.ne_of_lt I.big))) r P),rfl,q _ (I.hok.fresh (Nat.le_refl _))⟩
variable {kvs:List (Key × V)}
theorem JkB (h:kvs.map (·.1)=ss.map Sum.inr) (z:Str):(kvs.any fun kv=>decide (kv.1=Sum.inr z))=decide (z∈ss):=by
 have e:(kvs.any fun kv=>decide (kv.1=Sum.inr z))=(kvs.map (·.1)).any fun k=>decide (k=Sum.inr z):=by rw [List.any_map];rfl
 rw [e,h,List.any_map,Bool.eq_iff_iff];simp
theorem Jhb (h:kvs.map (·.1)=ss.map Sum.inr) (z:Str) (v:V):(putK kvs (Sum.inr z) v).map (·.1)=(addS ss z).map Sum.inr:=by
 unfold putK addS;rw [JkB h];by_cases c:z∈ss
 ·rw [if_pos (by simpa using c),if_pos c, <- h,map_map];refine List.map_congr_left fun a _=>?_;simp only [Function.comp];split
  ·rfl
  ·rfl
 ·rw [if_neg (by simpa using c),if_neg c,map_append,map_append,h];rfl
theorem JhS (z:Str) (h:ss.Nodup):(addS ss z).Nodup:=by
 unfold addS;split
 ·exact h
 ·rename_i c;rw [nodup_append];refine ⟨h,by simp,fun a d b f=>?_⟩;rw [mem_singleton.mp f];exact fun e=>c (e ▸ d)
theorem JgZ (z x:Str):x∈addS ss z↔x∈ss\/x=z:=by
 unfold addS;split
 ·rename_i c;constructor
  ·exact .inl
  ·rintro (h | rfl)
   ·exact h
   ·exact c
 ·simp
theorem JgY (ss:List Str) (z:Str):(addS ss z).length<=ss.length+1:=by
 unfold addS;split <;> simp
def JaQ (ts:List TD) (out:List Str):Prop:=out.Nodup/\sortedS out=true/\∀ z,z∈out↔∃ t∈ts,z=t.st\/z=t.en
def leS (a b:Str):Prop:=a.cps.toList<=b.cps.toList
theorem Jf4:∀ (p:Str) (l:List Str),risingS p l=true->(p::l).Pairwise leS
 | p,[],_=>by simp
 | p,x::r,h=>by
  have h':(!ltCps x.cps.toList p.cps.toList&&risingS x r)=true:=h;rw [Bool.and_eq_true] at h';have ih:=Jf4 x r h'.2;have h1:leS p x:=by
   have:=h'.1;rw [ltCps_eq] at this;exact List.not_lt.mp (by simpa using this)
  refine List.pairwise_cons.mpr ⟨fun b hb=>?_,ih⟩;rcases mem_cons.mp hb with rfl | hb
  ·exact h1
  ·exact List.le_trans h1 ((List.pairwise_cons.mp ih).1 b hb)
theorem Jgc (l:List Str) (h:sortedS l=true):l.Pairwise leS:=by
 cases l with
 | nil=>simp
 | cons p l=>exact Jf4 p l h
theorem Jjv {a b:Str} (h:leS a b) (g:leS b a):a=b:=by
 have e:=List.le_antisymm h g;cases a;cases b;simp only [Str.mk.injEq];exact Array.toList_inj.mp e
theorem Jej {l l':List Str} (h:sortedS l=true) (h':sortedS l'=true) (hn:l.Nodup) (hn':l'.Nodup) (hm:∀ z,z∈l↔z∈l'):l=l' :=
 List.Perm.eq_of_pairwise (le:=leS) (fun _ _ _ _=>Jjv) (Jgc l h) (Jgc l' h') ((List.perm_ext_iff_of_nodup hn hn').mpr hm)
abbrev Pl:=List (Str × (Int × Int))
def look (ps:Pl) (z:Str):Int × Int:=((ps.find? fun p=>decide (p.1=z)).map (·.2)).getD (0,1)
def negF (a:Int × Int):Int × Int:=(-a.1,a.2)
def apart (ps:Pl) (t:TD):Int × Int:=addF (look ps t.en) (negF (look ps t.st))
def lessF (a c:Int × Int):Bool:=decide (a.1*c.2<c.1*a.2)
def okB (lo hi:Option (Int × Int)) (a:Int × Int):Bool :=
 (match lo with | none=>true | some l=>!lessF a l)&&(match hi with | none=>true | some h=>!lessF h a)
def okT (ps:Pl) (t:TD):Bool:=okB t.lo t.hi (apart ps t)
variable {ps:Pl} {a:Int × Int}
theorem Jgw (hn:(ps.map (·.1)).Nodup) (h:ps[i]?=some (z,a)):look ps z=a:=by
 unfold look;have : ps.find? (fun p=>decide (p.1=z))=some (z,a):=by
  induction ps generalizing i with
  | nil=>simp at h
  | cons p ps ih=>
   cases i with
   | zero=>
    simp at h;subst h;simp
   | succ i=>
    rw [List.getElem?_cons_succ] at h;rw [map_cons,nodup_cons] at hn;have b:p.1≠z:=fun e=>hn.1 (e ▸ mem_map_of_mem (f:=(·.1)) (List.mem_of_getElem? h));rw [List.find?_cons_of_neg (by simpa using b)];exact ih hn.2 h
 rw [this];rfl
structure FB (A B:Nat) (a:Int × Int):Prop where
 s1:Mth.Sz A a.1
 s2:Mth.Sz B a.2
 b1:1<=a.2
 g1:Mth.g a.1 a.2=1
variable {A B:Nat}
theorem FB.ok (h:FB A B a) (h1:A<=n) (h2:B<=n):FOk n a:=⟨h.s1.mono h1,h.s2.mono h2,h.b1,h.g1⟩
theorem FB.neg (h:FB A B a):FB A B (negF a):=⟨by
 have:=h.s1;unfold Mth.Sz at this ⊢;unfold negF;rw [Int.natAbs_neg];exact this,h.s2,h.b1,by
 have:=h.g1;unfold Mth.g negF at *;simpa using this⟩
theorem FB.add {C D m:Nat} {c:Int × Int} (h:FB A B a) (k:FB C D c) (h1:A+D<=n) (h2:C+B<=n) (h3:B+D<=m):FB (n+1) m (addF a c):=by
 have b:a.2*c.2≠0:=Int.mul_ne_zero (by have:=h.b1;ac_nf) (by have:=k.b1;ac_nf);have e:=(h.s1.mul k.s2).mono h1;have d:=(k.s1.mul h.s2).mono h2;exact ⟨Mth.Sz.top b (e.add d),(Mth.Sz.bot b (h.s2.mul k.s2)).mono h3,Mth.JbJ b,Mth.g_low b⟩
def QV (K:W.Frag) (H:Hp) (p:Str × (Int × Int)) (x:V):Prop:=∃ b v,x=.ref b/\H b=some (.tup [.str p.1,v])/\FrV K H v p.2.1 p.2.2
theorem QV.sameT {K:W.Frag} {p:Str × (Int × Int)} {x:V} (S:SameT H H'):QV K H p x->QV K H' p x:=by rintro ⟨b,v,e,h,f⟩;exact ⟨b,v,e,S _ _ rfl h,f.sameT S⟩
theorem QV.refs {K:W.Frag}:∀ {ps:Pl} {zs:List V},All2 (QV K H) ps zs->∃ (as:List Addr) (qs:List (Str × V)),zs=as.map V.ref/\as.length=qs.length/\(∀ (i:Nat) (a:Addr) (q:Str × V),as[i]?=some a->qs[i]?=some q->H a=some (.tup [.str q.1,q.2]))/\qs.map (·.1)=ps.map (·.1)/\∀ (i:Nat) (q:Str × V) (p:Str × (Int × Int)),qs[i]?=some q->ps[i]?=some p->FrV K H q.2 p.2.1 p.2.2
 | [],zs,h=>⟨[],[],h,rfl,by simp,rfl,by simp⟩
 | p::ps,zs,h=>by
  obtain ⟨x,r,rfl,⟨b,v,rfl,hb,f⟩,h2⟩:=h;obtain ⟨as,qs,rfl,hl,h3,h4,h5⟩:=QV.refs h2;refine ⟨b::as,(p.1,v)::qs,rfl,by simp [hl],fun i a q ha hq=>?_,by simp [h4],fun i q p' hq hp=>?_⟩
  ·cases i with
   | zero=>
    simp at ha hq;subst ha;subst hq;exact hb
   | succ i=>exact h3 i a q (by simpa using ha) (by simpa using hq)
  ·cases i with
   | zero=>
    simp at hq hp;subst hq;subst hp;exact f
   | succ i=>exact h5 i q p' (by simpa using hq) (by simpa using hp)
theorem Jeb:∀ (qs:List (Str × V)) (l:List (Key × V)),(qs.map (·.1)).Nodup->(∀ q∈qs, ∀ kv∈l,kv.1≠Sum.inr q.1)->qs.foldl (fun l p=>putK l (Sum.inr p.1) p.2) l=l++qs.map fun q=>((Sum.inr q.1:Key),q.2)
 | [],l,_,_=>by simp
 | q::qs,l,hn,hd=>by
  rw [map_cons,nodup_cons] at hn;have e:putK l (Sum.inr q.1) q.2=l++[((Sum.inr q.1:Key),q.2)]:=by
   unfold putK;rw [if_neg];simp only [List.any_eq_true,decide_eq_true_eq,not_exists,not_and];exact fun kv hkv=>hd q (by simp) kv hkv
  rw [foldl_cons,e,Jeb qs _ hn.2,List.append_assoc]
  ·rfl
  ·intro q' hq' kv hkv;rcases mem_append.mp hkv with h | h
   ·exact hd q' (by simp [hq']) kv h
   ·rw [mem_singleton.mp h];intro z;have z':q.1=q'.1:=by injection z
    exact hn.1 (z' ▸ mem_map_of_mem (f:=(·.1)) hq')
theorem Jc7 {K:W.Frag} {qs:List (Str × V)} (hk:qs.map (·.1)=ps.map (·.1)) (hn:(ps.map (·.1)).Nodup) (hf:∀ (i:Nat) (q:Str × V) (p:Str × (Int × Int)),qs[i]?=some q->ps[i]?=some p->FrV K H q.2 p.2.1 p.2.2) {z:Str} (hz:z∈ps.map (·.1)) :
  ∃ v,valV (Jdv qs) (Sum.inr z)=some v/\FrV K H v (look ps z).1 (look ps z).2:=by
 have b:(qs.map (·.1)).Nodup:=by rw [hk];exact hn
 have e:Jdv qs=qs.map fun q=>((Sum.inr q.1:Key),q.2):=by
  unfold Jdv;rw [Jeb qs [] b (by simp)];simp
 obtain ⟨i,j⟩:=List.getElem?_of_mem hz;rw [List.getElem?_map] at j;obtain ⟨p,d,rfl⟩:=Option.map_eq_some_iff.mp j;have c:(qs.map (·.1))[i]?=some p.1:=by rw [hk,List.getElem?_map,d];rfl
 rw [List.getElem?_map] at c;obtain ⟨q,c,g⟩:=Option.map_eq_some_iff.mp c;refine ⟨q.2,?_,?_⟩
 ·rw [e];unfold valV;have : ∀ (l:List (Str × V)) (i:Nat),(l.map (·.1)).Nodup->l[i]?=some q->((l.map fun q=>((Sum.inr q.1:Key),q.2)).find? fun m=>decide (m.1=Sum.inr p.1))=some (Sum.inr q.1,q.2):=fun l=>by
   induction l with
   | nil=>intro i _ h;simp at h
   | cons a l ih=>
    intro i hn h;rw [map_cons,nodup_cons] at hn;cases i with
    | zero=>
     simp at h;subst h;rw [map_cons,List.find?_cons_of_pos (by simp [g])]
    | succ i=>
     rw [List.getElem?_cons_succ] at h;have k:a.1≠p.1:=fun z=>hn.1 (by rw [z, <- g];exact mem_map_of_mem (f:=(·.1)) (List.mem_of_getElem? h));rw [map_cons,List.find?_cons_of_neg (by simpa using k)];exact ih i hn.2 h
  rw [this qs i b c];rfl
 ·rw [Jgw hn (show ps[i]?=some (p.1,p.2) from d)];exact hf i q p c d
variable {e:Expr} {ta:TE} {pos:Pos}
theorem Jk6 {K:W.Frag} {f:Str} (hK:X.K=K) (he:PE X e ta) (hb:attributeBase e f X.env (eval e X.env)=eval e X.env):PE X (.Attribute e f pos) (tFld K ta f):=by
 subst hK;exact Jau he hb
theorem Jig:∀ (ls rs:List Str),eqL (ls.map D.str) (rs.map D.str)=decide (ls=rs)
 | [],[]=>rfl
 | [],_::_=>by simp [eqL]
 | _::_,[]=>by simp [eqL]
 | a::ls,b::rs=>by
  rw [map_cons,map_cons,eqL,Jig ls rs];simp only [eqD,List.cons.injEq];by_cases c:a=b
  ·subst c;simp
  ·simp [c]
theorem Jfk {K:W.Frag}:∀ (ls:List Str),RepL K H (ls.map D.str) (ls.map V.str)
 | []=>by simp [RepL]
 | a::ls=>by
  simp only [map_cons,RepL,Rep];exact ⟨_,_,rfl,rfl,Jfk ls⟩
theorem JlQ {K:W.Frag} {Q:VK} {p q:Addr} {ls rs:List Str} (hp:SqL K H p (ls.map V.str)) (hq:SqL K H q (rs.map V.str)) (k:Q (.bl (!decide (ls=rs))) H):rNeU K (.ref p) (.ref q) H Q:=by
 refine ⟨.lst (ls.map D.str), .lst (rs.map D.str),by simp only [Rep];exact ⟨p,_,rfl,hp,Jfk ls⟩,by simp only [Rep];exact ⟨q,_,rfl,hq,Jfk rs⟩,?_,rfl,?_⟩
 ·have : ∀ l:List Str,depL (l.map D.str)<=10:=Jg4 (n:=10) fun a=>by simp [depD]
  rw [depD];have:=this ls;ac_nf
 ·rw [eqD,Jig];exact k
section
variable {o:Expr} {es:List Expr} {to:TE} {name:Str} {apos cpos:Pos} {T id:String} {r:V->List V->Hp->VK->Prop} {K:W.Frag} {t:TA}
end
def Jky (td:TE):TE:=fun σ H Q=>td σ H fun x H1=>∃ d kvs,x=.ref d/\H1 d=some (.dK kvs)/\∀ l,H1 l=none->Q (.ref l) (upd H1 l (.lst (kvs.map (·.2))))
theorem Jlp {vs:List (Key × Value)} (r:KV kvs vs):Vals (kvs.map (·.2)) (vs.map (·.2)):=by
 unfold KV at r;induction r with
 | nil=>exact .nil
 | cons h _ ih=>exact .cons h.2 ih
variable {o:Expr} {td:TE} {p1 apos cpos:Pos} {x:Str}
theorem Jla (hc:X.calm=true) (hx:x="list") (hg:Gl X x) (hm:X.mg x=none) (hv:bootBuiltins x=some (.type "list")) (ho:PE X o td)
  (hb:attributeBase o "values" X.env (eval o X.env)=eval o X.env:=by rfl) (hn:(apos.endLine == cpos.line)=true:=by rfl) :
  PE X (.Call (.Name x p1) [.Call (.Attribute o "values" apos) [] [] cpos] [] pos) (Jky td):=by
 intro g s σ H Q I h;have A:x≠"__name__":=by rw [hx];decide
 have N:(x == ("__debug__" : Str))=false:=by rw [hx];decide
 refine wpAny_Call_Name_kw (JcT I hg hm hv ?_ A N);refine PyProof.Rows.callWith_type1 ?_ rfl rfl;show wpAny _ _ (spliced ((false,eval (.Call (.Attribute o "values" apos) [] [] cpos) X.env)::backTo pos (starEach [] X.env))) _ _ s;refine Calls.spliced_cons ?_;refine wpAny_Call_method0_late hb hn (thn (ho g s σ H _ I h) fun v l ζ=>?_);obtain ⟨y,R,I1,K,d,kvs,G,e,u⟩:=ζ;subst G;obtain rfl:v=Value.ref d:=K;obtain ⟨m,B,t⟩:=Jkl I1 (.inl ⟨kvs, .inl e⟩);obtain ⟨L,_,i,f,n⟩:=dk_of I1.hok e;refine ⟨"dict","dict.values",PySem.F.plainAttrs_dict,PySem.F.slot_dict_values,PySem.F.type_dict_values,m,B,Calls.callWith_builtin rfl (PySem.evalArgs_none ?_)⟩;refine call_meetsIn PySem.F.slot_dict_values m PySem.F.entry_dict_values (PySem.F.args_dict_values_1 _) (meets_dict_values (JaE X.prog X.w) d t) ⟨⟨i,n⟩,?_⟩;refine Calls.spliced_nil ?_;obtain ⟨ep,C⟩:=n.dictAt;refine W.kdl_call (W.kdl_values (knd:=JaE X.prog X.w) (r:=l.heap.objs.size) (d:=d) (kvs:=i) (ep:=ep)) (I.ok.hd hc) ⟨⟨_,Heap.get?_push_size _ rfl,rfl,rfl⟩,C.push _⟩ (by have:=f.length;ac_nf) fun q P c O k J a=>?_;have M:c.toList=i.map (·.2):=W.kdl_vals_eq _ (by rw [Array.length_toList];exact a.1) fun j v E=>a.2 j v (by rw [<- Array.getElem?_toList];exact E);have D:∀ b o,l.heap.get? b=some o->q.get? b=some o:=fun b o z=>k b o (Heap.get?_push_of_some _ z);have p:l.heap.objs.size<=(l.heap.push { cls:=.type "dict_values",data:=.fields #[.ref d] }).objs.size:=by
  rw [Heap.size_push];exact Nat.le_succ _
 exact ⟨.ref _,_,I1.laid (t':=P) (o:=.lst (kvs.map (·.2))) D p (show ObjOk X.prog X.w _ q _ (.lst (kvs.map (·.2))) from ⟨by rw [length_map];exact L,i.map (·.2),O,Jlp f,by rw [<- M,Array.toArray_toList];exact J⟩),rfl,u _ (I1.hok.fresh p)⟩
variable {A:Around} {a:Addr}
theorem Jjj {t:SetTable} {Q:Option Value->Shared->Prop} (hh:A.handled=none) (hI:s.heap.get? I=some (itO (.int 0 0) 0 a 0 ep)) (ha:s.heap.get? a=some (setO #[] ep t)) (hf:t.fits 0=true)
  (q:∀ h',(∀ b o,b≠I->s.heap.get? b=some o->h'.get? b=some o)->Q none { s with heap:=h' }):wpAny (model prog w) A (pyNext (.ref I)) Q E s:=by
 have c:s.TypeIs (.ref I) "set_iterator":=⟨_,hI,rfl⟩;cases ht:w.params.followText "set-order" with
 | true=>exact Je3 (es:=#[]) (i:=0) hh hI ha hf ht (by rw [<- Array.getElem?_toList];exact List.getElem?_eq_none (by rw [(Jcz _ _).length_eq];simp)) q
 | false=>
  unfold pyNext;refine wpAny_bind (wpAny_attempt (wpAny_callSpecial?_slot (name:=Str.ofString "__next__") c JaZ (wpAny_call_entry JaZ c Jci ?_ (JcW _))));unfold Builtin.«set_iterator.__next__»;refine wpAny_bind (m:=slotArgs _ _ _) (wpAny_pure ?_);refine wpAny_bind (wpAny_fieldsOf hI rfl ?_);show wpAny _ _ (setEntries a >>= _) _ _ _;refine wpAny_bind (wpAny_setEntries_of ha rfl hf ?_);rw [if_neg (by simp)];dsimp only;unfold setNext;refine wpAny_bind (wpAny_bind (wpAny_setState_of ha rfl hf ?_));dsimp only;refine wpAny_bind (Jcg ?_);rw [if_neg (by rw [ht];decide)];refine wpAny_ite_split (fun z=>absurd (show (!t.plain&&decide ((#[]:Array (Int × Value)).size > 1))=true from z) (by simp)) (fun _=>?_);refine wpAny_bind ?_;show wpAny _ _ (if (!t.led&&!(#[]:Array (Int × Value)).isEmpty)=true then unsupported _ else pure ()) _ _ _;rw [if_neg (by simp)];refine wpAny_pure (wpAny_pure ?_);have d:∀ i:Nat,(#[]:Array (Int × Value))[i]?=none:=fun i=>by simp
  rw [d];dsimp only;refine wpAny_bind (wpAny_setField hI rfl (by simp) ?_);refine Jft hh fun h' k=>q h' fun b o f e=>k b o ?_;exact ((Heap.SameBut.update ..).extBut b o f e)
theorem Jip {t:SetTable} (ha:s.heap.get? a=some (setO #[] ep t)) (hf:t.fits 0=true)
  (q1:Q (.ref s.heap.objs.size) { s with heap:=s.heap.push (itO (.int 0 0) 0 a 0 ep) }):wpAny (model prog w) A (pyIter (.ref a)) Q E s:=by
 have b:s.TypeIs (.ref a) "set":=⟨_,ha,rfl⟩;refine wpAny_pyIter_slot b PySem.F.slot_set_iter (wpAny_call_entry PySem.F.slot_set_iter b JdW ?_ (PySem.F.args_set_iter_1 _));unfold Builtin.«frozenset.__iter__»;refine wpAny_bind (m:=Builtin.Frozenset.slot0 _ _) (wpAny_pure ?_);unfold Builtin.Frozenset.sizeOf;refine wpAny_bind (wpAny_bind (wpAny_setEntries_of ha rfl hf (wpAny_pure ?_)));unfold setDrawn;refine wpAny_bind (wpAny_bind (wpAny_setState_of ha rfl hf ?_));dsimp only;refine wpAny_bind (Jcg ?_);refine wpAny_pure ?_;refine wpAny_ite_split (fun z=>absurd (show (!w.params.followText "set-order"&&(!t.plain&&decide ((#[]:Array (Int × Value)).size > 1)))=true from z) (by simp)) (fun _=>?_);refine wpAny_bind (wpAny_pure (wpAny_bind (wpAny_setEpoch_of ha rfl hf ?_)));unfold newFields;refine wpAny_bind (wpAny_newObj_type (wpAny_pure ⟨_,rfl,"set_iterator",_,⟨_,Heap.get?_push_size _ rfl,rfl⟩,JaZ.lookup,?_⟩));exact q1
theorem Jjt {t:SetTable} (hf:t.fits 0=true):W.KdlSrc prog w "set" a a 0 (fun _ _=>False) (fun h=>h.get? a=some (setO #[] ep t)) where
 type:=fun _ c=>⟨_,c,rfl⟩
 there:=fun _ c=>⟨Heap.lt_size c,Heap.lt_size c⟩
 keep:=fun _ _ c k=>k a (.inl rfl) _ c
 notList:=by decide
 notTuple:=by decide
 hint:=fun _ _ _ _ c q=>JdJ ⟨_,c,rfl⟩ q
 iter:=fun A s f c=>⟨itO (.int 0 0) 0 a 0 ep,fun _ h=>h.get? s.heap.objs.size=some (itO (.int 0 0) 0 a 0 ep)/\h.get? a=some (setO #[] ep t),fun _ _ q=>Jip c hf q,
  {
   sub:=fun b e=>by simp at e;simp [e]
   frame:=fun _ _ _ d k=>⟨k _ (by simp) _ d.1,k _ (by simp) _ d.2⟩
   item:=fun i _ _ _ l _ _=>absurd l (Nat.not_lt_zero _)
   done:=fun j Q E d q=>Jjj f d.1 d.2 hf fun g k=>q g j.toks fun b o e z=>k b o (fun h=>e (by simp [h])) z
   self:=fun _ _ _ _ d q=>Jfa d.1 q },⟨Heap.get?_push_size _ rfl,Heap.get?_push_of_some _ c⟩⟩
theorem JgU {t:SetTable} (hh:A.handled=none) (ha:s.heap.get? a=some (setO #[] ep t)) (hf:t.fits 0=true)
  (q:∀ s' l (out:Array Value) ss' e,(∀ b o,s.heap.get? b=some o->s'.heap.get? b=some o)->s'.gens=s.gens->s'.os=s.os->s.toks<=s'.toks->s.heap.objs.size<=l->s'.heap.get? l=some (seqObj "list" out e)->StrsAre out.toList ss'->ss'.Perm []->sortedS ss'=true->Q (.ref l) s') :
  wpAny (model prog w) A (call (.builtin "sorted") [.ref a]) Q E s:=by
 have v:=Heap.lt_size ha;have C:A.in1.handled=none:=by simp [hh]
 refine JcQ (ss:=[]) ⋯ (fun R k=>?_) q;obtain ⟨p,i⟩:∃ p:Result->Shared->Prop, ∀ r s',p r s'↔∃ f u d m,r=.ok (.ret (.ref s.heap.objs.size))/\s'={ s with heap:=f,toks:=u }/\(∀ b o,b≠s.heap.objs.size->(s.heap.push { cls:=.type "list",data:=.seq ([]:List Value).toArray }).get? b=some o->f.get? b=some o)/\f.get? s.heap.objs.size=some { cls:=.type "list",dict:=none,data:=.seq d m,slots:=#[] }/\ItemsOf (fun _ _=>False) d 0:=⟨_,fun _ _=>Iff.rfl⟩;have h:=codeAny_toks_of (n:=s.toks) (s:={ s with heap:=s.heap.push { cls:=.type "list",data:=.seq ([]:List Value).toArray } }) (Nat.le_refl _) (Je9 (A:=A.in1) (R:=p)
  (W.kdl_extend (R:=p) (s:={ s with heap:=s.heap.push { cls:=.type "list",data:=.seq ([]:List Value).toArray } }) (Jjt (prog:=prog) (w:=w) (a:=a) (ep:=ep) hf) C (Heap.get?_push_of_some _ ha) s.heap.objs.size (Nat.ne_of_gt v) (Nat.ne_of_gt v) (.ref s.heap.objs.size) 0 (Heap.get?_push_size _ rfl) (fun f u g m D x c=>(i _ _).mpr ⟨f,u,g,m,rfl,rfl,D,x,c⟩) (Nat.zero_le _)))
 refine codeAny_mono h ?_;rintro r s' ⟨B,z⟩;obtain ⟨f,u,d,m,rfl,rfl,y,j,c⟩:=(i _ _).mp z;have e:d.toList=[]:=eq_nil_of_length_eq_zero (by rw [Array.length_toList];exact c.1);exact k _ d.toList m [] (fun b o e=>y b o (Nat.ne_of_lt (Heap.lt_size e)) (Heap.get?_push_of_some _ e)) rfl rfl B (by rw [Array.toArray_toList];exact j) (by rw [e];exact .nil) (.refl _)
section
variable {k':Nat} {mn:Str} {C:Addr} {Cs:Addr->Prop} {ps:List Str} {sp:Sp} {p:Pos} {es:List Expr} {k:Nat} {t:TA}
abbrev TX:=St->Hp->VK->XK->Prop
def xMeth (Cs:Addr->Prop) (m:Str) (sp:Sp) (ta:TE) (t:TA):TX:=fun σ H Q E=>ta σ H fun x H1=>∃ a C dx fs,x=.ref a/\H1 a=some (.ins C dx fs)/\Cs C/\fs.lookup m=none/\t σ H1 fun vs H2=>sp (x::vs) H2 Q E
variable {pl:Sem Bool}
theorem MCal.tr (G:MCal X.prog X.w X.K X.mg X.base k mn Cs ps sp) (hr:Room k' X.A) (hk:k<=k') (ho:PE X.nox o ta) (ha:PA X.nox (e::es) t)
  (hst:starEach (e::es) X.env=(false,eval e X.env)::starEach es X.env:=by rfl) (hpl:(backTo pos (starEach es X.env)).any (·.1)=false:=by rfl)
  (ht:eval (.Call (.Attribute o mn apos) (e::es) [] pos) X.env=(do
   let ov <- eval o X.env
   standAt apos.atName
   let (f,first) <- holding [ov] (getMethod ov mn pl)
   callWith pos f first (backTo pos (starEach (e::es) X.env)) (backToKw pos (keywordEach [] X.env))):=by rfl) :
  PEx X (.Call (.Attribute o mn apos) (e::es) [] pos) (xMeth Cs mn sp ta t):=by
 obtain ⟨f,L,F,c,n,v⟩:=G.ex;intro b s σ H Q E I h;have z:=ho b s σ H _ (I.wish _) h;refine W.methodCall_KW (pl:=pl) (wpAny_mono z (fun u B ζ=>?_) fun _ _ y=>y.elim) ht;obtain ⟨x,D,I1,p,a,C,O,J,j,i,d,l,q⟩:=ζ;subst j;obtain rfl:u=Value.ref a:=p;refine Jcb I1.unwish i (c C d).1 (c C d).2 l ?_;have g:=ha pos b B σ D _ I1 q;refine W.callWith_K (first:=[.ref a]) (h₀:=X.base) I.ok.mod.kin n (wpAny_mono g (fun us M ζ=>?_) fun _ _ y=>y.elim) hst hpl;obtain ⟨vs,N,I2,r,m⟩:=ζ;refine ⟨I2.unwish.kIn,?_⟩;exact JgO (us:=.ref a::us) (vs:=.ref a::vs) (ds:=[]) (dvs:=[]) F (hr.mono hk) v .nil I2.unwish (.cons rfl r) (by simpa using m)
end
theorem Jea:OpR X (compareOp .NotIn) (rIn X.K true):=Jf2
section
variable {σ:St} {Q:VK} {E:XK} {ty:TE} {ts:TA} {tc:TT} {u:TX} {C:Addr} {sp:Sp} {Cs:Addr->Prop} {t:TX} {m:Str}
theorem ya4y:xMeth Cs m sp ta ts σ H Q E=ta σ H fun x H1=>∃ a C dx fs,x=.ref a/\H1 a=some (.ins C dx fs)/\Cs C/\fs.lookup m=none/\ts σ H1 fun vs H2=>sp (x::vs) H2 Q E:=rfl
theorem y9fy:Jky td σ H Q=td σ H fun x H1=>∃ d kvs,x=.ref d/\H1 d=some (.dK kvs)/\∀ l,H1 l=none->Q (.ref l) (upd H1 l (.lst (kvs.map (·.2)))):=rfl
theorem y42y:tDIn ty td σ H Q=ty σ H fun y H1=>td σ H1 fun x H2=>∃ a o,x=.ref a/\DGet H2 a y o/\Q (.bl o.isSome) H2:=rfl
theorem y46y:Ji2 ty td σ H Q=ty σ H fun y H1=>td σ H1 fun x H2=>∃ a o,x=.ref a/\DGet H2 a y o/\Q (.bl (!o.isSome)) H2:=rfl
theorem y47y:Jkv td ty σ H Q=td σ H fun x H1=>∃ a,x=.ref a/\IsD H1 a/\ty σ H1 fun y H2=>∃ kvs k v,H2 a=some (.dK kvs)/\y=kV k/\valV kvs k=some v/\Q v (upd H2 a (.dK (dropK kvs k))):=rfl
end
section
variable {κ:Type} [DecidableEq κ] {f : α->κ} {k : κ} {u y : α}
theorem JiT:∀ {l:List α} {i:Nat},(l.map f).Nodup->l[i]?=some u->f u=k->l.map (fun a=>if f a=k then y else a)=l.set i y
 | [],i,_,h,_=>by simp at h
 | a::l,0,hn,h,hk=>by
  simp at h;subst h;rw [map_cons,nodup_cons] at hn;rw [map_cons,if_pos hk,List.set_cons_zero]
  congr 1
  refine (List.map_congr_left fun b hb=>if_neg fun z=>hn.1 ?_).trans (List.map_id _);rw [hk, <- z];exact mem_map_of_mem hb
 | a::l,i+1,hn,h,hk=>by
  rw [List.getElem?_cons_succ] at h;rw [map_cons,nodup_cons] at hn;have ne:f a≠k:=fun z=>hn.1 (by rw [z, <- hk];exact mem_map_of_mem (List.mem_of_getElem? h));rw [map_cons,if_neg ne,List.set_cons_succ,JiT hn.2 h hk]
theorem JfI:∀ {l:List α} {i:Nat},(l.map f).Nodup->l[i]?=some u->f u=k->l.filter (fun a=>decide (f a≠k))=l.eraseIdx i
 | [],i,_,h,_=>by simp at h
 | a::l,0,hn,h,hk=>by
  simp at h;subst h;rw [map_cons,nodup_cons] at hn;rw [List.filter_cons_of_neg (by simp [hk]),List.eraseIdx_cons_zero];refine List.filter_eq_self.mpr fun b hb=>decide_eq_true fun z=>hn.1 ?_;rw [hk, <- z];exact mem_map_of_mem hb
 | a::l,i+1,hn,h,hk=>by
  rw [List.getElem?_cons_succ] at h;rw [map_cons,nodup_cons] at hn;have ne:f a≠k:=fun z=>hn.1 (by rw [z, <- hk];exact mem_map_of_mem (List.mem_of_getElem? h));rw [List.filter_cons_of_pos (by simp [ne]),List.eraseIdx_cons_succ,JfI hn.2 h hk]
end
section
variable {P : α->V->Prop}
theorem All2.set:∀ {as:List α} {xs:List V} {i:Nat} {a : α} {x:V},All2 P as xs->P a x->All2 P (as.set i a) (xs.set i x)
 | [],xs,i,a,x,h,_=>by
  have : xs=[]:=h;subst this;simp;exact h
 | b::as,xs,0,a,x,h,p=>by
  obtain ⟨y,r,rfl,_,h2⟩:=h;exact ⟨x,r,rfl,p,h2⟩
 | b::as,xs,i+1,a,x,h,p=>by
  obtain ⟨y,r,rfl,h1,h2⟩:=h;exact ⟨y,r.set i x,rfl,h1,All2.set h2 p⟩
theorem All2.erase:∀ {as:List α} {xs:List V} {i:Nat},All2 P as xs->All2 P (as.eraseIdx i) (xs.eraseIdx i)
 | [],xs,i,h=>by
  have : xs=[]:=h;subst this;simp;exact h
 | b::as,xs,0,h=>by
  obtain ⟨y,r,rfl,_,h2⟩:=h;exact h2
 | b::as,xs,i+1,h=>by
  obtain ⟨y,r,rfl,h1,h2⟩:=h;exact ⟨y,r.eraseIdx i,rfl,h1,All2.erase h2⟩
end
abbrev nms (ts:List TD):List Str:=ts.map (·.nm)
def putT (ts:List TD) (t:TD):List TD:=if t.nm∈nms ts then ts.map (fun u=>if u.nm=t.nm then t else u) else ts++[t]
def dropT (ts:List TD) (z:Str):List TD:=ts.filter fun u=>decide (u.nm≠z)
def BD (P:TD->V->Prop) (ts:List TD) (kvs:List (Key × V)):Prop:=kvs.map (·.1)=ts.map (fun t=>Sum.inr t.nm)/\All2 P ts (kvs.map (·.2))
section
variable {P P':TD->V->Prop} {ts:List TD} {v:V} {t:TD}
theorem BD.mono (h:BD P ts kvs) (m:∀ a x,P a x->P' a x):BD P' ts kvs:=⟨h.1,h.2.mono m⟩
theorem BD.length (h:BD P ts kvs):kvs.length=ts.length:=by simpa using congrArg List.length h.1
theorem BD.cons:BD P (t::ts) kvs↔∃ w r,kvs=(Sum.inr t.nm,w)::r/\P t w/\BD P ts r:=by
 constructor
 ·rintro ⟨a,b⟩;match kvs,a,b with
  | (k,w)::r,a,b=>
   rw [map_cons,map_cons,List.cons.injEq] at a;obtain ⟨y,d,e,p,b⟩:=b;rw [map_cons,List.cons.injEq] at e;obtain ⟨rfl,rfl⟩:=e;obtain ⟨c,a⟩:=a;have c:k=Sum.inr t.nm:=c;subst c;exact ⟨_,r,rfl,p,a,b⟩
 ·rintro ⟨w,r,rfl,p,h⟩;exact ⟨by rw [map_cons,map_cons,h.1],w,r.map (·.2),rfl,p,h.2⟩
theorem BD.nil:BD P [] kvs↔kvs=[]:=by
 constructor
 ·rintro ⟨h,_⟩;simpa using h
 ·rintro rfl;exact ⟨rfl,rfl⟩
theorem BD.any:∀ {ts:List TD} {kvs:List (Key × V)} {z:Str},BD P ts kvs->(kvs.any fun kv=>decide (kv.1=Sum.inr z))=decide (z∈nms ts)
 | [],kvs,z,h=>by rw [BD.nil.mp h];simp
 | t::ts,kvs,z,h=>by
  obtain ⟨w,r,rfl,_,h⟩:=BD.cons.mp h;rw [any_cons,BD.any h];by_cases c:t.nm=z
  ·subst c;simp
  ·have c1:(Sum.inr t.nm:Key)≠Sum.inr z:=fun e=>c (by injection e);have c2:z≠t.nm:=fun e=>c e.symm;simp [c1,c2]
theorem BD.val:∀ {ts:List TD} {kvs:List (Key × V)} {z:Str},BD P ts kvs->(valV kvs (Sum.inr z)).isSome=decide (z∈nms ts)
 | [],kvs,z,h=>by rw [BD.nil.mp h];rfl
 | t::ts,kvs,z,h=>by
  obtain ⟨w,r,rfl,_,h⟩:=BD.cons.mp h;by_cases c:t.nm=z
  ·subst c;rw [Jdi rfl];simp
  ·have c1:(Sum.inr t.nm:Key)≠Sum.inr z:=fun e=>c (by injection e);have c2:z≠t.nm:=fun e=>c e.symm;have e:valV ((Sum.inr t.nm,w)::r) (Sum.inr z)=valV r (Sum.inr z):=by simp [valV,List.find?_cons,c1]
   rw [e,BD.val h];simp [c2]
theorem BD.rep:∀ {ts:List TD} {kvs:List (Key × V)},BD P ts kvs->P t v->BD P (ts.map fun u=>if u.nm=t.nm then t else u) (kvs.map fun kv=>if kv.1=Sum.inr t.nm then (kv.1,v) else kv)
 | [],kvs,h,_=>by rw [BD.nil.mp h];exact ⟨rfl,rfl⟩
 | s::ts,kvs,h,p=>by
  obtain ⟨w,r,rfl,q,h⟩:=BD.cons.mp h;by_cases c:s.nm=t.nm
  ·rw [map_cons,map_cons,if_pos c,if_pos (by rw [c]),c];exact BD.cons.mpr ⟨v,_,rfl,p,BD.rep h p⟩
  ·have c1:(Sum.inr s.nm:Key)≠Sum.inr t.nm:=fun e=>c (by injection e);rw [map_cons,map_cons,if_neg c,if_neg c1];exact BD.cons.mpr ⟨w,_,rfl,q,BD.rep h p⟩
theorem BD.app (h:BD P ts kvs) (p:P t v):BD P (ts++[t]) (kvs++[(Sum.inr t.nm,v)]):=⟨by rw [map_append,map_append,h.1];rfl,by rw [map_append];exact h.2.append (.one p)⟩
theorem BD.put (h:BD P ts kvs) (p:P t v):BD P (putT ts t) (putK kvs (Sum.inr t.nm) v):=by
 unfold putT putK;rw [h.any];by_cases c:t.nm∈nms ts
 ·rw [if_pos c,if_pos (by simpa using c)];exact h.rep p
 ·rw [if_neg c,if_neg (by simpa using c)];exact h.app p
theorem BD.drop:∀ {ts:List TD} {kvs:List (Key × V)} {z:Str},BD P ts kvs->BD P (dropT ts z) (dropK kvs (Sum.inr z))
 | [],kvs,z,h=>by rw [BD.nil.mp h];exact ⟨rfl,rfl⟩
 | s::ts,kvs,z,h=>by
  obtain ⟨w,r,rfl,q,h⟩:=BD.cons.mp h;unfold dropT dropK;by_cases c:s.nm=z
  ·subst c;rw [List.filter_cons_of_neg (by simp),List.filter_cons_of_neg (by simp)];exact BD.drop h
  ·have c1:(Sum.inr s.nm:Key)≠Sum.inr z:=fun e=>c (by injection e);rw [List.filter_cons_of_pos (by simpa using c),List.filter_cons_of_pos (by simpa using c1)];exact BD.cons.mpr ⟨w,_,rfl,q,BD.drop h⟩
end
theorem sub_len [DecidableEq α]:∀ (l m:List α),l.Nodup->l ⊆ m->l.length<=m.length
 | [],m,_,_=>by simp
 | a::l,m,hn,hs=>by
  rw [nodup_cons] at hn;have ha:a∈m:=hs (by simp);have:=sub_len l (m.erase a) hn.2 fun x hx=>(List.mem_erase_of_ne (show x≠a from fun e=>hn.1 (e ▸ hx))).mpr (hs (by simp [hx]));rw [List.length_erase_of_mem ha] at this;have:=List.length_pos_of_mem ha;rw [length_cons];ac_nf
variable {ts:List TD}
theorem JjP {t:TD} (h:t.nm∈nms ts):nms (putT ts t)=nms ts:=by
 unfold putT;rw [if_pos h];unfold nms;rw [map_map];refine List.map_congr_left fun u _=>?_;show (if u.nm=t.nm then t else u).nm=u.nm;split
 ·rename_i e;exact e.symm
 ·rfl
variable {u:TD}
theorem JjO {t:TD} (h:u∈putT ts t):u=t\/u∈ts:=by
 unfold putT at h;split at h
 ·obtain ⟨w,a,rfl⟩:=mem_map.mp h;split
  ·exact .inl rfl
  ·exact .inr a
 ·rcases mem_append.mp h with h | h
  ·exact .inr h
  ·exact .inl (mem_singleton.mp h)
theorem Jhg (hn:ss.Nodup) (h:ss[j]?=some z):∀ m,m<j->ss[m]?≠some z:=fun m b e=>by
 have a:=(List.getElem?_eq_some_iff.mp h).1;have:=(List.getElem?_inj (i:=m) (j:=j) ∅ hn).mp (e.trans h.symm);ac_nf
theorem JjQ {t:TD} (hn:(nms ts).Nodup) (hi:ts[i]?=some u) (hk:u.nm=t.nm):putT ts t=ts.set i t:=by
 unfold putT;rw [if_pos (by rw [<- hk];exact mem_map_of_mem (f:=(·.nm)) (List.mem_of_getElem? hi))];exact JiT (f:=fun u:TD=>u.nm) hn hi hk
theorem Jgr (hn:(nms ts).Nodup) (hi:ts[i]?=some u) (hk:u.nm=z):dropT ts z=ts.eraseIdx i:=JfI (f:=fun u:TD=>u.nm) hn hi hk
abbrev BMV:List Value:=[.type "ValueError", .type "Exception", .type "BaseException", .type "object"]
structure ExcI (K:W.Frag) (C S f:Addr):Prop where
 up:W.excIn K S BMV "ValueError.__new__"=true
 at_:∃ nm q N bs sn sub ab col dd k0 k1 k2 k3 k5,K.lookup C=some (excClassObj nm q C N bs (.ref S::BMV) true sn sub ab col dd k0 k1 k2 k3 k5 "ValueError.__new__")
 init:W.findIn K (.ref C) "__init__"=some (some (.ref f))
 fn:W.isFn K (.ref f)=true
 kp:W.keepIn K (.ref C)=true
def ExcN (e C:Addr) (od:Option Addr):HO:=.ext fun h=>∃ t:Addr,h.get? e=some { cls:=.ref C,dict:=od,data:=.fields #[.ref t, .none, .none, .none, .bool false, .none] }
section
variable {d:Drawn} {os:OsState} {g:Array GenState} {t:Nat} {nm q:Str} {C N:Addr} {bm bmB:List Value} {hdct ab:Bool} {sn:List Str} {col:Option Bool} {dd:Option Addr} {k0 k1 k2 k3 k5:Option Value} {B newId initId:String} {bs:List Value} {sub:List Value} {K:W.Frag}
theorem JhO (F:ExcBaseFacts B newId initId bmB) (T:OwnTail h bmB bm) {rest:List Value} {fI:Addr} {Q:Fin->Shared->Prop} (X:K.In h)
  (hC:h.get? C=some (excClassObj nm q C N bs bm hdct sn sub ab col dd k0 k1 k2 k3 k5 newId)) (hi:W.findIn K (.ref C) "__init__"=some (some (.ref fI)))
  (hfI:W.isFn K (.ref fI)=true)
  (hq:∀ h' e,Heap.MadeExcOf h h' e (.ref C) rest->h.objs.size<=e ->
   wpAny (model prog w) A (call (.ref fI) (.ref e::rest)) (fun r s'=>r=.none/\Q (.done (.ret (.ref e))) s') E ⟨h',g,d,t,os⟩) (hrest:rest.length<=sizeLine:=by size_fits) :
  wpAny (model prog w) A (Builtin.«type.__call__» ⟨.ref C::rest,[]⟩) Q E ⟨h,g,d,t,os⟩:=by
 repeat (first | with_reducible refine wpAny_loadPart_at hC ?_ | with_reducible refine wpAny_madeBy_exc hC ?_ | wp_step)
 refine codeAny_call_builtin_code (Code.quiet_builtin _ F.quiet) (wpAny_check_new_subT F T hC ?_);refine codeAny_exc_new_subT F T hC ?_ hrest;show wpAny _ _ _ _ _ _;have f:∀ b o,h.get? b=some o->((h.push { cls:=.type "tuple",data:=.seq rest.toArray }).push { cls:=.ref C,data:=.fields #[.ref h.objs.size, .none, .none, .none, .bool false, .none] }).get? b=some o:=fun b o e=>Heap.get?_push_of_some _ (Heap.get?_push_of_some _ e);have hC₁:=f _ _ hC;have X₁:=X.keeps f;have a:((h.push { cls:=.type "tuple",data:=.seq rest.toArray }).push
   { cls:=.ref C,data:=.fields #[.ref h.objs.size, .none, .none, .none, .bool false, .none] }).get? (h.objs.size+1)=some
   { cls:=.ref C,data:=.fields #[.ref h.objs.size, .none, .none, .none, .bool false, .none] }:=by heap_get
 have c:(Value.ref C::bm).contains (.ref C)=true:=by simp
 unfold isInstance;repeat (first | with_reducible refine wpAny_loadPart_at a ?_ | (with_reducible refine wpAny_isSubtype_exc hC₁ ?_;rw [c]) | wp_step)
 show wpAny _ _ (typeLookup (.ref C) _) _ _ _;refine (W.looks_findIn X₁ hi).at ?_;refine wpAny_holding (wpAny_bind ((W.bind_fn X₁ _ (beq_iff_eq.mp hfI)).at ?_));refine wpAny_bind (wpAny_mono (hq _ (h.objs.size+1) ⟨f,Heap.get?_none_of_le (Nat.le_succ _),h.objs.size,a,Heap.get?_none_of_le (Nat.le_refl _),?_⟩ (Nat.le_succ _)) (fun r s' j=>?_) fun _ _ x=>x)
 ·exact Heap.get?_push_of_some _ (Heap.get?_push_at rfl rfl)
 ·obtain ⟨rfl,i⟩:=j
  wp_walk
  exact i
theorem Jh0 (F:ExcBaseFacts B newId initId bmB) (T:OwnTail h bmB bm) {rest:List Value} {fI:Addr} {Q:Value->Shared->Prop} (X:K.In h)
  (hC:h.get? C=some (excClassObj nm q C N bs bm hdct sn sub ab col dd k0 k1 k2 k3 k5 newId)) (hi:W.findIn K (.ref C) "__init__"=some (some (.ref fI)))
  (hfI:W.isFn K (.ref fI)=true)
  (hq:∀ h' e,Heap.MadeExcOf h h' e (.ref C) rest->h.objs.size<=e ->
   wpAny (model prog w) (A.under (.builtin "type.__call__" ⟨.ref C::rest,[]⟩)) (call (.ref fI) (.ref e::rest)) (fun r s'=>r=.none/\Q (.ref e) s') E ⟨h',g,d,t,os⟩) (hrest:rest.length<=sizeLine:=by size_fits) :
  wpAny (model prog w) A (call (.ref C) rest) Q E ⟨h,g,d,t,os⟩:=by
 have i:=tc_lookup;have c:=tc_bind (.ref C);have f:(⟨h,g,d,t,os⟩:Shared).TypeIs (.ref C) "type":=⟨_,hC,rfl⟩;refine wpAny_call (codeAny_of_tree ?_);show wpAny _ _ (callAny (.ref C) _) _ _ _;repeat (any_goals (first | assumption | with_reducible refine wpAny_loadPart_at hC ?_ | wp_step))
 refine ⟨rfl,?_⟩;refine codeAny_call_builtin_at (Code.quiet_builtin _ (by decide +kernel)) entry_typeCall (wpAny_check_type_call_sub hC (JhO (hrest:=hrest) F T X hC hi hfI fun h' e a b=>?_));exact hq h' e a b
end
section
variable {C:Addr} {fd:FuncData} {ps:List Str} {sp:Sp} {E:XK} {p:Pos} {es:List Expr} {k:Nat} {f:Addr} {m:Str} {t:TA} {P:Program} {od:Option Addr}
theorem Jgt {e:Addr} (z:∃ t:Addr,h.get? e=some { cls:=.ref C,dict:=od,data:=.fields #[.ref t, .none, .none, .none, .bool false, .none] }):ObjOk P w H h e (ExcN e C od) :=
 ⟨z,let ⟨_,e⟩:=z;⟨_,e⟩,fun _ _ ⟨t,e⟩ k=>⟨t,k _ e⟩⟩
theorem ExcI.cls {K:W.Frag} (M:ExcI K C S f) (Xi:K.In h):∃ nm q N bs sn sub ab col dd k0 k1 k2 k3 k5,h.get? C=some (excClassObj nm q C N bs (.ref S::BMV) true sn sub ab col dd k0 k1 k2 k3 k5 "ValueError.__new__")/\OwnTail h BMV (.ref S::BMV):=by
 obtain ⟨nm,q,N,bs,sn,sub,ab,col,dd,k0,k1,k2,k3,k5,z⟩:=M.at_;obtain ⟨_,_,_,_,_,_,_,_,_,_,_,_,_,_,_,_,_,b,c,a,_⟩:=Jih Xi M.up;exact ⟨nm,q,N,bs,sn,sub,ab,col,dd,k0,k1,k2,k3,k5,Xi _ _ z, .own b c a .base⟩
variable {σ:St} {us:List Value}
theorem JiW {Q:VK} {vs:List V} (M:ExcI X.K C S f) (F:FnOk X.prog X.w X.K X.mg X.base (CX1 X.prog X.w) k f fd ps sp) (hr:Room (k+1) X.A) (hb:Binds X.K fd ps [])
  (hx:JbS (CX1 X.prog X.w) X E) (I:Inv X pins σ H s) (r:Vals vs us) (hz:vs.length<=sizeLine)
  (h:∀ x,H x=none->sp (.ref x::vs) (upd H x (ExcN x C none)) (fun v H2=>v=.non/\Q (.ref x) H2) E) :
  wpAny (model X.prog X.w) X.A (call (.ref C) us) (EP X pins σ Q) X.xe s:=by
 obtain ⟨nm,q,N,U,W,y,Y,p,dd,k0,k1,k2,k3,k5,O,T⟩:=M.cls I.kIn;obtain ⟨Z,g,d,j,m⟩:=s;refine Jh0 PySem.F.excBase_ValueError T I.kIn O M.init M.fn (fun o b i t=>?_) (by rw [<- r.length];exact hz);have l:=h b (I.hok.isnone i.new);obtain ⟨J,G,_,_⟩:=i.there;have I2:Inv X pins σ (upd H b (ExcN b C none)) ⟨o,g,d,j,m⟩:=I.laid (t':=j) i.keeps t (Jgt ⟨J,G⟩);have n:Vals (V.ref b::vs) (Value.ref b::us):=.cons rfl r;have z:(Value.ref b::us++[]).length=ps.length:=by
  have e:=n.length;rw [F.len _ _ _ _ l] at e;simpa using e.symm
 have c:=hb ⟨o,g,d,j,m⟩ (Value.ref b::us) I2.kIn z;rw [append_nil] at c;refine wpAny_call (codeAny_mono (F.run _ X.stack _ _ ⟨Value.ref b::us,[]⟩ (Value.ref b::us) _ _ E (hr.make C us []) (I2.env0.make C us []) c n l) fun r D a=>?_);cases r with
 | error e=>exact hx pins σ _ _ e D I2 a
 | ok fl=>
  cases fl with
  | ret u=>
   obtain ⟨v,L,I3,P,R,B⟩:=I2.after a;subst R;exact ⟨P,⟨V.ref b,L,I3,rfl,B⟩⟩
  | next=>exact False.elim a
  | brk=>exact False.elim a
  | cont=>exact False.elim a
def Ji3 (C:Addr) (sp:Sp) (E:XK) (t:TA):TE:=fun σ H Q=>t σ H fun vs H1=>vs.length<=sizeLine/\∀ x,H1 x=none->sp (.ref x::vs) (upd H1 x (ExcN x C none)) (fun v H2=>v=.non/\Q (.ref x) H2) E
theorem JjI (M:ExcI X.K C S f) (F:FnOk X.prog X.w X.K X.mg X.base (CX1 X.prog X.w) k f fd ps sp) (hr:Room (k+1) X.A) (hg:Gl X x) (hm:X.mg x=some (.ref C)) (hb:Binds X.K fd ps []) (hx:JbS (CX1 X.prog X.w) X E)
  (ha:PA X (e::es) t) (hdb:(x == ("__debug__" : Str))=false:=by decide) (he:starEach (e::es) X.env=(false,eval e X.env)::starEach es X.env:=by rfl) (hpl:(backTo pos (starEach es X.env)).any (·.1)=false:=by rfl) :
  PE X (.Call (.Name x p) (e::es) [] pos) (Ji3 C sp E t):=by
 intro a s σ H Q I h;refine wpAny_Call_Name_kw (Jb0 I hg hm ?_ hdb);refine W.callWith_K (h₀:=X.base) I.ok.mod.kin M.kp (thn (ha pos a s σ H _ I h) fun b c ζ=>?_) he hpl;obtain ⟨g,d,I1,r,q⟩:=ζ;refine ⟨I1.kIn,?_⟩;exact JiW M F hr hb hx I1 r q.1 q.2
end
section
variable {P:Program} {mg:Str->Option Value} {N:List Str} {qual:Str} {scope:Scope} {cdv:Value} {outer:List Env} {s0:Shared} {H0:Hp} {E:XK} {K:W.Frag} {base:Heap} {f:Addr}
def Ji5 (K:W.Frag) (H0:Hp) (E:XK) (te:TE):TS:=fun _ σ H=>te σ H fun v H1=>∃ e C S f od,v=.ref e/\H1 e=some (ExcN e C od)/\ExcI K C S f/\H0 e=none/\E (.ref C) od (unt H1 e)
variable {te:TE}
theorem JiQ {x:Expr} (hx:PE (cxOf (CX1 P w) P w K mg base N qual scope f cdv A outer s0 H0 E) x te) :
  PS (cxOf (CX1 P w) P w K mg base N qual scope f cdv A outer s0 H0 E) (.Raise (some x) none pos) (Ji5 K H0 E te):=by
 intro a s σ H D I h;have r:(A.deeper (envOfC qual scope s0.heap.objs.size f cdv)).handled=none:=I.ok.hd rfl;rw [arm_exec_Raise];refine wpAny_bind (wpAny_standAt ?_);show wpAny _ _ (raiseStmt _ (some (do let v <- eval x _;standAt pos;pure v)) none) _ _ _;unfold raiseStmt;refine wpAny_bind (wpAny_bind (thn (hx a s σ H _ I h) fun u F ζ=>?_));obtain ⟨v,H1,I1,y,e,C,S,Y,G,B,i,M,m,q⟩:=ζ;refine wpAny_bind (wpAny_standAt (wpAny_pure ?_));subst B;obtain rfl:u=Value.ref e:=y;obtain ⟨nm,Z,R,J,O,p,Q,n,W,k0,U,k2,k3,k5,l,T⟩:=M.cls I1.kIn;obtain ⟨t,k⟩:=(I1.hok e _ i).1;obtain ⟨L,g,d,tk,V⟩:=F;have c:(Value.ref C::(.ref S::BMV)).contains (.type "BaseException")=true:=by rw [List.contains_cons,T.hasType (X:="BaseException") (b:=true) ⋯,Bool.or_true]
 repeat (first | with_reducible refine wpAny_loadPart_at k ?_ | with_reducible refine wpAny_loadPart_at l ?_ | (with_reducible refine wpAny_isSubtype_exc l ?_;rw [c]) | wp_step)
 refine wpAny_raiseNew_none r ?_;refine JlL I1 i k rfl rfl rfl ?_ q;cases z:s0.heap.get? e with
 | none=>rfl
 | some o=>
  have j:=I1.base.free e o z m (by intro z;cases z);rw [i] at j;cases j
end
structure SlkI (K:W.Frag) (S:Addr):Prop where
 ga:W.specialIn K (.ref S) "__getattribute__"=some (some (.builtin "type.__getattribute__"))
 rd:W.readsIn K S (.type "type")=true
 fi:W.findCls K (.ref S) (.type "type") "__init__"=some (.val (.builtin "ValueError.__init__"))
section
variable {C:Addr} {p:Pos} {es:List Expr} {f:Addr} {t:TA} {d:Drawn} {os:OsState} {a0:Addr}
theorem Jlq {K:W.Frag} {g:Array GenState} {t:Nat} {ex:Addr} {od:Option Addr} {rest:List Value}
  (M:ExcI K C S f) (Xi:K.In h) (he:h.get? ex=some { cls:=.ref C,dict:=od,data:=.fields #[.ref a0, .none, .none, .none, .bool false, .none] }) (hr:rest.length<=sizeLine)
  (hq:∀ h' t',(∃ a1:Addr,h'.get? ex=some { cls:=.ref C,dict:=od,data:=.fields #[.ref a1, .none, .none, .none, .bool false, .none] })->(∀ b u,b≠ex->h.get? b=some u->h'.get? b=some u)->Q .none ⟨h',g,d,t',os⟩) :
  wpAny (model prog w) A (call (.builtin "ValueError.__init__") (.ref ex::rest)) Q E ⟨h,g,d,t,os⟩:=by
 have F:=PySem.F.excBase_ValueError;obtain ⟨x,q,N,l,m,i,n,e,p,r,o,y,s,v,j,T⟩:=M.cls Xi;refine wpAny_call (codeAny_call_builtin F.init.plain F.initEntry (wpAny_check_init_subT F T j he rfl ?_));have a:=Heap.get?_push_of_some (h:=h) { cls:=.type "tuple",data:=.seq rest.toArray } he
 wp_walk
 refine hq _ _ ⟨h.objs.size,?_⟩ fun b u c k=>?_
 ·rw [Heap.get?_update_self _ a rfl];rfl
 ·rw [Heap.get?_update_other _ _ (Ne.symm c)];exact Heap.get?_push_of_some _ k
def Jkt (K:W.Frag) (t:TA):TE:=fun σ H Q=>t σ H fun vs H2=>∃ e rest C S f od,vs=.ref e::rest/\rest.length<=sizeLine/\H2 e=some (ExcN e C od)/\ExcI K C S f/\Q .non (upd H2 e (ExcN e C od))
variable {pl:Sem Bool}
theorem JjE (G:SlkI X.K S) (hg:Gl X x) (hm:X.mg x=some (.ref S)) (ha:PA X (e::es) t) (hdb:(x == ("__debug__" : Str))=false:=by decide)
  (hst:starEach (e::es) X.env=(false,eval e X.env)::starEach es X.env:=by rfl) (hpl:(backTo pos (starEach es X.env)).any (·.1)=false:=by rfl)
  (ht:eval (.Call (.Attribute (.Name x p) "__init__" apos) (e::es) [] pos) X.env=(do
   let ov <- eval (.Name x p) X.env
   standAt apos.atName
   let (f,first) <- holding [ov] (getMethod ov "__init__" pl)
   callWith pos f first (backTo pos (starEach (e::es) X.env)) (backToKw pos (keywordEach [] X.env))):=by rfl) :
  PE X (.Call (.Attribute (.Name x p) "__init__" apos) (e::es) [] pos) (Jkt X.K t):=by
 intro a s σ H Q I h;refine W.methodCall_KW (pl:=pl) (Jb0 I hg hm ?_ hdb) ht;refine W.method_cls I.kIn G.ga (W.cls_value I.kIn G.rd G.fi (by decide +kernel) ?_);refine PyProof.Rows.callWith_builtin1 (thn (ha pos a _ σ H _ (I.tok _) h) fun v j ζ=>?_) hst hpl;obtain ⟨q,B,I2,r,b,rest,C,w,f,n,m,l,c,M,i⟩:=ζ;subst m;cases r with
 | @cons _ u _ us' ru rr=>
 obtain rfl:u=Value.ref b:=ru;obtain ⟨A,hg⟩:=(I2.hok b _ c).1;obtain ⟨o,g,d,E,y⟩:=j;refine Jlq M I2.kIn hg (by rw [<- rr.length];exact l) fun D t' z k=>?_;exact ⟨V.non,_,I2.write (t':=t') (e:=b) (by rw [c];exact trivial) (.inl rfl) k (let ⟨_,z⟩:=z;⟨_,z⟩) (Jgt z),rfl,i⟩
end
section
open PySem.W PySem.Builtin PySem.Builtin.ObjectAttr
variable {d:Drawn} {os:OsState} {x C a0:Addr} {name:Str} {K:W.Frag} {g:Array GenState} {t:Nat} {f:Addr} {ox:Obj} {Q:Unit->Shared->Prop}
theorem Jj4 {nameV:Value} (Mx:ExcI K C S f) (X:K.In h) (hx:h.get? x=some ox) (hc:ox.cls=.ref C) (hq:Q () ⟨h,g,d,t,os⟩) :
  wpAny M A (checkBuiltinCall "object.__setattr__" ⟨[.ref x,nameV,v],[]⟩) Q E ⟨h,g,d,t,os⟩:=by
 have c:=PySem.F.store_ValueError;obtain ⟨w,q,N,k,l,i,m,e,p,r,o,y,s,u,j,T⟩:=Mx.cls X;have a:(Value.ref C::.ref S::BMV).contains (.type "object")=true:=by rw [List.contains_cons,T.hasType (X:="object") (b:=true) ⋯,Bool.or_true]
 have n:=c.args (.ref x) nameV v;simp only [checkBuiltinCall,c.kind,c.split];refine wpAny_bind ?_
 ·unfold isInstance;repeat (first | (with_reducible refine wpAny_loadPart_at hx ?_;rw [hc]) | (with_reducible refine wpAny_isSubtype_exc j ?_;rw [a]) | wp_step)
  exact hq
theorem Jj5 (M:ExcI K C S f) (X:K.In h) (sa:findIn K (.ref C) "__setattr__"=some (some (.builtin "object.__setattr__"))) (na:findIn K (.ref C) name=some none)
  (hx:h.get? x=some { cls:=.ref C,dict:=none,data:=.fields #[.ref a0, .none, .none, .none, .bool false, .none] })
  (hq:∀ h' t' dx,h.objs.size<=dx->h'.get? x=some { cls:=.ref C,dict:=some dx,data:=.fields #[.ref a0, .none, .none, .none, .bool false, .none] }->h'.Ns1 dx (fun y=>if y=name then some v else none) ->
   (∀ b u,b≠x->h.get? b=some u->h'.get? b=some u)->Q () ⟨h',g,d,t',os⟩):wpAny (model prog w) A (setAttr (.ref x) name v) Q E ⟨h,g,d,t,os⟩:=by
 have m:=PySem.F.store_ValueError;obtain ⟨nm,q,N,Z,sn,U,ab,P,dd,k0,k1,k2,k3,k5,L,T⟩:=M.cls X;have f3:=m.slot.bind (.ref x);have L1:=looks_findIn (M:=model prog w) X sa;have L2:=looks_findIn (M:=model prog w) X na;unfold setAttr callSpecial? specialOf;repeat (any_goals (first | assumption | (with_reducible refine wpAny_loadPart_at hx ?_) | lk | wp_step))
 refine wpAny_run (codeAny_call_builtin m.slot.plain m.entry (Jj4 M X hx rfl ?_));have J:Looks (model prog w) h (typeOf (.ref x)) (.ref C):=(Looks.ld hx).andThen .now;show wpAny _ _ (Builtin.«object.__setattr__» ⟨[.ref x, .str name t,v],[]⟩) _ _ _;rw [osa_eq,refuse_eq];refine wpAny_bind (wpAny_bind (J.at (wpAny_bind (wpAny_mroOf_exc L ?_))));rw [refuseLoop_ref,refuseLoop_ref,m.passes];refine wpAny_pure (wpAny_bind (J.at (wpAny_bind (L2.at (wpAny_bind (wpAny_pure (a:=none) ?_))))));show wpAny _ _ (storeInOwnDict (.ref x) (.ref C) (.str name t) name v false) _ _ _;obtain ⟨o,j⟩:∃ o:Obj,o={ cls:=.ref C,dict:=none,data:=.fields #[.ref a0, .none, .none, .none, .bool false, .none] }:=⟨_,rfl⟩;have Y:o.cls=.ref C:=by rw [j]
 have s:o.dict=none:=by rw [j]
 have r:∀ c,o.data≠.cls c:=fun c=>by rw [j];intro z;cases z
 rw [<- j] at hx;repeat (first | (with_reducible refine wpAny_loadPart_at hx ?_;rw [Y]) | with_reducible refine wpAny_loadPart_at L ?_ | wp_step)
 rw [s,if_neg (by simp [typeHasDict])];split
 ·rename_i i;cases i
 split
 ·rename_i c i;exact absurd i (r c)
 ·have hx₁ : (h.push { cls:=.type "dict",data:=.dict #[] }).get? x=some o:=Heap.get?_push_of_some _ hx;have l:x≠h.objs.size:=Nat.ne_of_lt (Heap.lt_size hx);refine wpAny_bind (wpAny_alloc' ?_);refine wpAny_bind (wpAny_update' hx₁ ?_);refine wpAny_pure ?_;have G:((h.push { cls:=.type "dict",data:=.dict #[] }).update x fun o=>{ cls:=o.cls,dict:=some h.objs.size,data:=o.data,slots:=o.slots }).get? h.objs.size
    = some { cls:=.type "dict",data:=.dict #[] } :=
   (Heap.get?_update_ne _ _ _ _ l.symm).trans (Heap.get?_push_at rfl rfl)
  have B:((h.push { cls:=.type "dict",data:=.dict #[] }).update x fun o=>{ cls:=o.cls,dict:=some h.objs.size,data:=o.data,slots:=o.slots }).Ns h.objs.size (fun _=>none) :=
   ⟨_, #[],_,G,rfl,fun e W=>absurd W (by simp),fun _=>rfl⟩
  show wpAny _ _ (storeInDict h.objs.size (.str name t) name v) _ _ _;unfold storeInDict newKeyGuard;refine wpAny_bind (wpAny_pure (wpAny_bind (wpAny_nsSet1 (Heap.Ns1.of_empty B) fun h' k I=>?_)));obtain ⟨oD,V,R,D,H,n⟩:=k.count (Within.cons name v Within.nil);refine wpAny_bind (wpAny_lookBehind D (by rw [H];exact pastItsLine_dict (Nat.le_trans n (by rw [length_cons,length_nil,sizeLine_eq];ac_nf))) ?_)
  wp_walk
  refine hq h' _ h.objs.size (Nat.le_refl _) ?_ k fun b ob p O=>?_
  ·refine (I.2 x l).trans ((Heap.get?_update_self _ hx₁ ?_).trans (by rw [j]));rw [j];rfl
  ·exact (I.2 b (Nat.ne_of_lt (Heap.lt_size O))).trans ((Heap.get?_update_ne _ _ _ _ p).trans (Heap.get?_push_of_some _ O))
structure ExcL (K:W.Frag) (D:Addr) (name:Str):Prop where
 hd:W.hasDictIn K D=true
 ga:W.findIn K (.ref D) "__getattribute__"=some (some (.builtin "BaseException.__getattribute__"))
 gh:W.findIn K (.ref D) "__getattr__"=some none
 na:W.findIn K (.ref D) name=some none
 mb:W.mroIn K D (.type "BaseException")=some true
variable {od:Obj}
theorem Jlr {expr:Bool} {Q:Value->Shared->Prop} (X:K.In s.heap) (c:ExcL K C name) (J:W.InstAt s.heap x ox C (some od)) (hl:lookIn name od=some (some v)) (hv:handedIn v=true) (q:Q v { s with toks:=s.toks+1 }) :
  wpAny (model prog w) A (getAttr (.ref x) name expr) Q E s:=by
 obtain ⟨k,o,m,d,l⟩:=s;have b:=J.type (M:=model prog w);have f:=looks_findIn (M:=model prog w) X c.ga;have g:=looks_findIn (M:=model prog w) X c.gh;have p:=looks_find (M:=model prog w) X J (findObj_own c.hd c.na rfl hl);have n:=looks_mroIn (M:=model prog w) X c.mb;have j:bindSpecial (.builtin "BaseException.__getattribute__") (.ref x)=pure (.builtin "BaseException.__getattribute__",[.ref x]):=by kernel_rfl
 have a:(expr&&onTheHeap (Value.builtin "BaseException.__getattribute__"))=false:=by cases expr <;> rfl
 unfold getAttr getAttrBy;refine wpAny_bind (wpAny_mkText (wpAny_holding (wpAny_bind (b.at (wpAny_bind (f.at ?_))))));have e:(onTheHeap (Value.ref C)&&Value.builtin "BaseException.__getattribute__" == Value.builtin "object.__getattribute__")=false:=Bool.and_eq_false_iff.mpr (.inr (by decide +kernel));show wpAny _ _ (if (onTheHeap (Value.ref C)&&Value.builtin "BaseException.__getattribute__" == Value.builtin "object.__getattribute__")=true then _ else getAttrByItsOwn _ _ _ _ _ _) _ _ _;rw [if_neg (by rw [e];decide)];unfold getAttrByItsOwn hookBefore;refine wpAny_bind ?_;rw [if_pos (show onTheHeap (Value.ref C)=true from rfl)];refine g.at ?_;refine wpAny_bind (wpAny_attempt (wpAny_holding ?_));unfold callGetattribute boundAndCalled;rw [a,if_neg ⋯,j];refine wpAny_bind (wpAny_pure ?_);refine wpAny_call (codeAny_call_builtin (by decide +kernel) PySem.F.entry_bexc_ga ?_);have i:builtinKind "BaseException.__getattribute__"=some .slot:=by decide +kernel
 have h:splitId "BaseException.__getattribute__"=some ("BaseException","__getattribute__"):=by decide +kernel
 have r:=PySem.F.args_bexc_ga (.ref x) (.str name d)
 (simp only [checkBuiltinCall,i,h];refine wpAny_bind ?_)
 unfold isInstance;repeat (first | lk | wp_step)
 show wpAny _ _ (handedOut v) _ _ _;exact W.handed_on hv q
end
section
variable {value:Expr} {pos':Pos} {tv:TE} {f:Str}
structure ExcA (K:W.Frag) (C:Addr) (f:Str):Prop where
 sa:W.findIn K (.ref C) "__setattr__"=some (some (.builtin "object.__setattr__"))
 na:W.findIn K (.ref C) f=some none
def sFldX (K:W.Frag) (ta tv:TE) (f:Str):TS:=fun D σ H=>tv σ H fun y H1=>ta σ H1 fun x H2=>∃ e C S g,x=.ref e/\H2 e=some (ExcN e C none)/\ExcI K C S g/\ExcA K C f /\
 ∀ dx,H2 dx=none->dx≠e->D.nx σ (upd (upd H2 e (ExcN e C (some dx))) dx (.xd [(f,y)]))
theorem Jld (ha:PE X o ta) (hv:PE X value tv) (hs:swapsWith value (some (.Attribute o f pos')) pos.line X.env=pure false):PS X (.Assign [.Attribute o f pos'] value pos) (sFldX X.K ta tv f):=by
 intro m s σ H D I h;refine plainObj_wpAny_Assign_Attribute (thn (hv m s σ H _ I h) fun u s1 ζ=>?_) hs;obtain ⟨y,H1,I1,J,q⟩:=ζ;refine thn (ha m s1 σ H1 _ I1 q) fun ov V ζ=>?_;obtain ⟨x,H2,I2,W,e,C,S,g,Q,i,M,c,R⟩:=ζ;subst Q;obtain rfl:ov=Value.ref e:=W;obtain ⟨Y,P⟩:=(I2.hok e _ i).1;obtain ⟨N,gg,d,tk,os⟩:=V;refine Jj5 M I2.kIn c.sa c.na P fun h' t' A w z T k=>?_;have l:H2 A=none:=I2.hok.fresh w;have L:A≠e:=fun q=>by rw [q,i] at l;cases l
 have nd:N.get? A=none:=Heap.get?_none_of_le w;refine ⟨σ,_,I2.un (t':=t') ⟨fun b j z n U _=>?_,fun b j z n U _=>?_,fun b j z n _=>?_,fun b j z _=>?_,fun b Z z=>?_,fun b j v z=>?_,fun b p z=>⟨#[],?_⟩⟩ fun a j t=>?_,R A l L⟩
 ·exact k b j (fun y=>by rw [y,i] at n;cases n) z
 ·exact ⟨_,k b j (fun y=>by rw [y,i] at n;cases n) z⟩
 ·rw [Jah (fun y=>by rw [y,nd] at z;cases z),Jah (fun y=>by rw [y,i] at n;cases n)];exact n
 ·by_cases y:b=e
  ·exact ⟨_,by rw [y];assumption⟩
  ·exact ⟨j,k b j y z⟩
 ·rw [Jah (Jae z l),Jah (fun y=>by rw [y,i] at z;cases z)];exact z
 ·rw [Jah (Jae z l),Jah (fun y=>by rw [y,i] at z;cases z)];exact z
 ·rw [Jah (Jae z l),Jah (fun y=>by rw [y,i] at z;cases z),z];simp
 ·by_cases G:a=A
  ·subst G;rw [Jas] at t;cases t;refine ⟨_,T,fun B=>?_⟩;show RelO (List.lookup B [(f,y)]) (if B=f then some u else none);by_cases q:B=f
   ·subst q;simp [List.lookup,RelO];exact J
   ·have : (B == f)=false:=by simpa using q
    simp [List.lookup,this,q,RelO]
  ·rw [Jah G] at t;by_cases F:a=e
   ·subst F;rw [Jas] at t;cases t;exact Jgt ⟨Y,z⟩
   ·rw [Jah F] at t;refine (I2.hok a j t).stay (fun b v E O=>k b v ?_ O) (fun b r=>?_) (fun b Z r=>?_)
    ·rcases E with rfl | E
     ·exact F
     ·exact fun y=>by rw [y,i] at E;cases E
    ·rw [Jah (Jae r l),Jah (fun y=>by rw [y,i] at r;cases r)];exact r
    ·rw [Jah (Jae r l),Jah (fun y=>by rw [y,i] at r;cases r)];exact r
def tFldX (K:W.Frag) (ta:TE) (f:Str):TE:=fun σ H Q=>ta σ H fun x H1=>∃ e C dx fs v,x=.ref e/\H1 e=some (ExcO e C (some dx))/\ExcL K C f/\H1 dx=some (.xd fs)/\fs.lookup f=some v/\Q v H1
theorem Jk7 (he:PE X e ta) (hb:attributeBase e f X.env (eval e X.env)=eval e X.env):PE X (.Attribute e f pos) (tFldX X.K ta f):=by
 intro a s σ H Q I h;refine JhV hb (thn (he a s σ H _ I h) fun u M ζ=>?_);obtain ⟨x,E,I1,y,g,C,A,F,v,D,k,c,m,l,q⟩:=ζ;subst D;obtain rfl:u=Value.ref g:=y;obtain ⟨L,J,z,B,t,i⟩:=(I1.hok g _ k).1;obtain ⟨w,n,r⟩:=I1.hok A _ m;obtain ⟨G,b,j⟩:=Jd3 n;obtain ⟨u,p,d⟩:=RelO.some_of (v:=v) (o:=w f) (by rw [<- l];exact r f);refine Jlr I1.kIn c ⟨z,B,by unfold W.notCls;rw [t],by rw [i];exact b⟩ (by rw [j,p]) (JfJ d) ?_;exact ⟨v,E,I1.tok _,d,q⟩
end
structure XCal (P:Program) (w:World) (K:W.Frag) (mg:Str->Option Value) (base:Heap) (k:Nat) (x:Str) (C S:Addr) (ps:List Str) (sp:Sp):Prop where
 ex:∃ (f:Addr) (fd:FuncData),FnOk P w K mg base (CX1 P w) k f fd ps sp/\mg x=some (.ref C)/\ExcI K C S f/\Binds K fd ps []
section
variable {k':Nat} {mn:Str} {C:Addr} {Cs:Addr->Prop} {ps:List Str} {sp:Sp} {E:XK} {p:Pos} {es:List Expr} {k:Nat} {f:Str} {t:TA} {K:W.Frag}
theorem XCal.ev (G:XCal X.prog X.w X.K X.mg X.base k x C S ps sp) (hr:Room k' X.A) (hk:k+1<=k') (hg:Gl X x) (hx:JbS (CX1 X.prog X.w) X E) (ha:PA X (e::es) t)
  (hdb:(x == ("__debug__" : Str))=false:=by decide) (he:starEach (e::es) X.env=(false,eval e X.env)::starEach es X.env:=by rfl) (hpl:(backTo pos (starEach es X.env)).any (·.1)=false:=by rfl) :
  PE X (.Call (.Name x p) (e::es) [] pos) (Ji3 C sp E t):=by
 obtain ⟨f,c,F,b,M,a⟩:=G.ex;exact JjI M F (hr.mono hk) hg b a hx ha hdb he hpl
theorem MCal.tr0 {pl:Sem Bool} (G:MCal X.prog X.w X.K X.mg X.base k mn Cs ps sp) (hr:Room k' X.A) (hk:k<=k') (ho:PE X.nox o ta)
  (ht:eval (.Call (.Attribute o mn apos) [] [] pos) X.env=(do
   let ov <- eval o X.env
   standAt apos.atName
   let (f,first) <- holding [ov] (getMethod ov mn pl)
   callWith pos f first (backTo pos (starEach [] X.env)) (backToKw pos (keywordEach [] X.env))):=by rfl) :
  PEx X (.Call (.Attribute o mn apos) [] [] pos) (xMeth Cs mn sp ta tNil):=by
 obtain ⟨f,r,F,c,i,m⟩:=G.ex;intro b s σ H Q E I h;have z:=ho b s σ H _ (I.wish _) h;refine W.methodCall_KW (pl:=pl) (wpAny_mono z (fun u v ζ=>?_) fun _ _ y=>y.elim) ht;obtain ⟨x,n,I1,j,a,C,t,p,g,e,d,l,q⟩:=ζ;subst g;obtain rfl:u=Value.ref a:=j;refine Jcb I1.unwish e (c C d).1 (c C d).2 l ?_;exact W.callWith_K0 (first:=[.ref a]) I1.unwish.kIn i (JgO (us:=[.ref a]) (vs:=[.ref a]) (ds:=[]) (dvs:=[]) F (hr.mono hk) m .nil I1.unwish (.cons rfl .nil) (show sp ([.ref a]++[]) n Q E from q))
theorem JjG (hK:X.K=K) (he:PE X e ta) (hb:attributeBase e f X.env (eval e X.env)=eval e X.env):PE X (.Attribute e f pos) (tFldX K ta f):=by
 subst hK;exact Jk7 he hb
end
section
variable {H0:Hp} {Q:VK} {E:XK} {σ:St} {En:Ends} {C:Addr} {sp:Sp} {tv te:TE} {mn:Str} {Cs:Addr->Prop} {K:W.Frag} {t:TA} {f:Str}
theorem y86y:Ji5 K H0 E te En σ H=te σ H fun v H1=>∃ e C S f od,v=.ref e/\H1 e=some (ExcN e C od)/\ExcI K C S f/\H0 e=none/\E (.ref C) od (unt H1 e):=rfl
theorem y6cy:Ji3 C sp E t σ H Q=t σ H fun vs H1=>vs.length<=sizeLine/\∀ x,H1 x=none->sp (.ref x::vs) (upd H1 x (ExcN x C none)) (fun v H2=>v=.non/\Q (.ref x) H2) E:=rfl
theorem y2cy:Jkt K t σ H Q=t σ H fun vs H2=>∃ e rest C S f od,vs=.ref e::rest/\rest.length<=sizeLine/\H2 e=some (ExcN e C od)/\ExcI K C S f/\Q .non (upd H2 e (ExcN e C od)):=rfl
theorem y8dy:sFldX K ta tv f En σ H=tv σ H fun y H1=>ta σ H1 fun x H2=>∃ e C S g,x=.ref e/\H2 e=some (ExcN e C none)/\ExcI K C S g/\ExcA K C f/\∀ dx,H2 dx=none->dx≠e->En.nx σ (upd (upd H2 e (ExcN e C (some dx))) dx (.xd [(f,y)])):=rfl
theorem y50y:tFldX K ta f σ H Q=ta σ H fun x H1=>∃ e C dx fs v,x=.ref e/\H1 e=some (ExcO e C (some dx))/\ExcL K C f/\H1 dx=some (.xd fs)/\fs.lookup f=some v/\Q v H1:=rfl
end
section
variable {σ:St} {u r:Value} {y:V} {k:Key}
end
section
variable {ty tx:TE} {f:Expr}
end
variable {σ:St} {Q:VK} {ty tx:TE}
theorem y43y {trs:List (TE × TE)}:tDisp trs σ H Q=∀ p,H p=none->Jho trs σ (upd H p (.dK [])) fun ps H2=>H2 p=some (.dK [])/\∃ kvs:List (Key × V),ps=kvs.map (fun kv=>(kV kv.1,kv.2))/\kvs.length<=15/\Q (.ref p) (upd H2 p (.dK (Jko [] kvs))):=rfl
theorem y82y {tk tv:TE} {R:List (V × V)->Hp->Prop}:Jho [(tk,tv)] σ H R=tk σ H fun x H1=>tv σ H1 fun y H2=>R [(x,y)] H2:=rfl
theorem y2ey {K:W.Frag} {T:String} {r:V->List V->Hp->VK->Prop} {to:TE}:tBM0 K T r to σ H Q=to σ H fun x H1=>tyV K T x H1/\r x [] H1 Q:=rfl
section
variable {v:V} {f : α->Str} {P P' : α->V->Prop} {as:List α} {a : α}
end
structure PD where
 nm:Str
 st:Str
 en:Str
 sz:Int × Int
 mo:Int × Int
 wt:Int
variable {σ:List (Option V)} {d:Addr} {kvs':List (Key × V)} {od:Obj}
theorem Inv.freeze (I:Inv X pins σ H s) (e:H d=some (.dK kvs)) (ho:s.heap.get? d=some od):Inv X pins σ (upd H d (.frz od (.dK kvs))) s:=by
 refine I.un (h':=s.heap) (t':=s.toks) ⟨fun b o q _ _ _=>q,fun b o q _ _ _=>⟨o.slots,q⟩,fun b o q n _=>?_,fun b o q _=>⟨o,q⟩,fun b h q=>?_,fun b o u q=>?_,fun b j q=>⟨#[],?_⟩⟩ fun a o q=>?_
 ·rw [Jah (fun z=>by rw [z,e] at n;cases n)];exact n
 ·rw [Jah (fun z=>by rw [z,e] at q;cases q)];exact q
 ·rw [Jah (fun z=>by rw [z,e] at q;cases q)];exact q
 ·rw [Jah (fun z=>by rw [z,e] at q;cases q),Array.append_empty];exact q
 ·have f:∀ i b,H b=some (.own i)->upd H d (.frz od (.dK kvs)) b=some (.own i):=fun i b q=>by
   rw [Jah (fun z=>by rw [z,e] at q;cases q)];exact q
  have g:∀ b h,H b=some (.tup h)->upd H d (.frz od (.dK kvs)) b=some (.tup h):=fun b h q=>by
   rw [Jah (fun z=>by rw [z,e] at q;cases q)];exact q
  by_cases c:a=d
  ·subst c;rw [Jas] at q;cases q;exact ⟨ho,(I.hok a _ e).stay (fun _ _ _ z=>z) (f a) g⟩
  ·rw [Jah c] at q;exact (I.hok a o q).stay (fun _ _ _ z=>z) (f a) g
def Itv (d:Addr) (od:Obj) (kvs:List (Key × V)):It :=
 ⟨fun i H=>H d=some (.frz od (.dK kvs))/\i<kvs.length,fun i H x H'=>H'=H/\(kvs.map (·.2))[i]?=some x,fun i H=>H d=some (.frz od (.dK kvs))/\kvs.length<=i⟩
variable {tg:Expr}
def iVals (td:TE):TI:=fun σ H R=>td σ H fun x H1=>∃ d kvs,x=.ref d/\H1 d=some (.dK kvs)/\∀ od,R (Itv d od kvs) (upd H1 d (.frz od (.dK kvs)))
def tThaw (t:TE):TE:=fun σ H Q=>∃ d kvs,H d=some (.dK kvs)/\t σ H fun v H'=>∃ od kvs',H' d=some (.frz od (.dK kvs'))/\Q v (upd H' d (.dK kvs'))
section
variable {te tl:TE} {σ:St} {k:Nat} {cs:List (Nat × Str)} {g:TG}
theorem y3cy:tThaw (tComp k cs (iVals td) g te) σ H Q=∃ d kvs,H d=some (.dK kvs)/\td σ H fun x H1=>∃ d1 kvs1,x=.ref d1/\H1 d1=some (.dK kvs1)/\∀ od,CompJ (Itv d1 od kvs1) k cs g te σ (fun v H'=>∃ od kvs',H' d=some (.frz od (.dK kvs'))/\Q v (upd H' d (.dK kvs'))) (upd H1 d1 (.frz od (.dK kvs1))):=rfl
end
section
variable {k':Nat} {C:Addr} {ps:List Str} {sp:Sp} {E:XK} {p:Pos} {k:Nat}
end
structure GD where
 nm:Str
 st:Str
 en:Str
 lo:Int × Int
 hi:Int × Int
section
variable {K:W.Frag}
end
section
variable {H'':Hp} {ls:List PD} {fd wl:Addr} {ws:List (Str × List Pr)} {wt:List Str} {one:Str}
end
variable {es:List Expr}
theorem JiL {K:W.Frag} {k:Nat} {t:TGs} (hK:X.K=K) (hc:X.calm=true) (h:PGs X es t) (hn:(assignEach es X.env).length=n:=by rfl) (hst:(assignEach es X.env).findIdx? (·.1)=none:=by rfl):PG X (.Tuple es k pos) (gTup K n t):=by
 subst hK;exact Jf3 hc h hn hst
abbrev Fr2:=Int × Int
section
variable {te:TE} {ta:TA} {σ:St} {b:Addr} {zs:List V} {K:W.Frag} {k:Nat} {cs:List (Nat × Str)} {g:TG}
end
section
variable {K:W.Frag}
end
variable {elts:List Expr} {x1:Nat} {tp:Pos}
section
variable {te:TE} {ta:TA} {σ:St} {K:W.Frag} {k:Nat} {cs:List (Nat × Str)} {g:TG}
end
def Itq (lo c:Int) (n:Nat):It:=⟨fun i _=>i<n,fun i H x H'=>H'=H/\x=.int (lo+i*c),fun i _=>n<=i⟩
def rsz (lo hi c:Int):Nat:=(if lo<hi then (hi-lo-1)/c+1 else 0).toNat
def iRng3 (ta:TA):TI:=fun σ H R=>ta σ H fun vs H1=>∃ i j c:Int,vs=[.int i, .int j, .int c]/\(0<=i/\i<2 ^ 40/\0<=j/\j<2 ^ 40/\1<=c/\c<2 ^ 30)/\R (Itq i c (rsz i j c)) H1
section
variable {ta:TA} {tb:TS} {σ:St} {g:TG} {D:Ends}
def ForQ (lo c:Int) (n:Nat) (g:TG) (tb:TS) (D:Ends) (σ : St) (H:Hp):Prop:=∃ W:Nat->Nat->St->Hp->Prop,(∃ m,W 0 m σ H)/\∀ i m σ H,W i m σ H ->
 ((Itq lo c n).stop i H/\D.nx σ H)\/((Itq lo c n).go i H/\∃ N:St->Hp->Prop,(∀ σ' H',N σ' H'->∃ m',m'<m/\W (i+1) m' σ' H')/\∀ x H',(Itq lo c n).yld i H x H'->g x σ H' fun σ2 H2=>tb { D with nx:=N,ct:=N,bk:=D.nx } σ2 H2)
theorem y57y:tFor (iRng3 ta) g tb D σ H=ta σ H fun vs H1=>∃ i j c:Int,vs=[.int i, .int j, .int c]/\(0<=i/\i<2 ^ 40/\0<=j/\j<2 ^ 40/\1<=c/\c<2 ^ 30)/\ForQ i c (rsz i j c) g tb D σ H1:=rfl
end
variable {σ:St}
theorem y61y {c:TT} {tb:TE}:tIf c ta tb σ H Q=c σ H fun b H1=>if b=true then ta σ H1 Q else tb σ H1 Q:=rfl
def vl (a:Int × Int):Rat:=(a.1:Rat)/(a.2:Rat)
theorem Jcq {a:Int} (h:1<=a):(a:Rat)≠0:=fun z=>by
 have : a=0:=by exact_mod_cast z
 ac_nf
variable {a c:Int × Int}
theorem vl_eq (ha:1<=a.2) (hc:1<=c.2):vl a=vl c↔a.1*c.2=c.1*a.2:=by
 unfold vl;have b:=Jcq ha;have d:=Jcq hc;have e:((a.1*c.2=c.1*a.2)↔((a.1:Rat)*(c.2:Rat)=(c.1:Rat)*(a.2:Rat))):=by
  constructor
  ·intro h;exact_mod_cast h
  ·intro h;exact_mod_cast h
 rw [e];generalize (a.1:Rat)=x at *;generalize (a.2:Rat)=y at *;generalize (c.1:Rat)=z at *;generalize (c.2:Rat)=u at *;constructor
 ·intro h;grind
 ·intro h;grind
theorem Jmh (ha:1<=a.2) (hc:1<=c.2) (h1:Mth.g a.1 a.2=1) (h2:Mth.g c.1 c.2=1) (h:vl a=vl c):a=c:=by
 have:=Mth.Jdl ha hc h1 h2 ((vl_eq ha hc).mp h);exact Prod.ext this.1 this.2
theorem JeV (ha:1<=a.2) (hc:1<=c.2):vl (addF a c)=vl a+vl c:=by
 have d:a.2*c.2≠0:=Int.mul_ne_zero ∅ ∅;have g:=Mth.cross (t:=a.1*c.2+c.1*a.2) d;have f:=Mth.JbJ (t:=a.1*c.2+c.1*a.2) d;unfold vl addF;dsimp only;generalize Mth.top (a.1*c.2+c.1*a.2) (a.2*c.2)=t at *;generalize Mth.bot (a.1*c.2+c.1*a.2) (a.2*c.2)=b at *;have h:=Jcq ha;have i:=Jcq hc;have j:=Jcq f;have e:(t:Rat)*((a.2:Rat)*(c.2:Rat))=((a.1:Rat)*(c.2:Rat)+(c.1:Rat)*(a.2:Rat))*(b:Rat):=by exact_mod_cast g
 generalize (a.1:Rat)=x at *;generalize (a.2:Rat)=y at *;generalize (c.1:Rat)=z at *;generalize (c.2:Rat)=u at *;generalize (t:Rat)=t at *;generalize (b:Rat)=b at *;grind
theorem Jeq (a:Int × Int):vl (negF a) = - vl a:=by
 unfold vl negF;rw [Rat.intCast_neg];grind
theorem Jco (ha:1<=a.2) (hc:1<=c.2):lessF a c=true↔vl a<vl c:=by
 unfold lessF vl;rw [decide_eq_true_iff];have b:(0:Rat)<(a.2:Rat):=by exact_mod_cast (show 0<a.2 by ac_nf)
 have f:(0:Rat)<(c.2:Rat):=by exact_mod_cast (show 0<c.2 by ac_nf)
 have e:((a.1*c.2<c.1*a.2)↔((a.1:Rat)*(c.2:Rat)<(c.1:Rat)*(a.2:Rat))):=by
  constructor
  ·intro h;exact_mod_cast h
  ·intro h;exact_mod_cast h
 rw [e];rw [Rat.div_lt_iff b];generalize (a.1:Rat)=x at *;generalize (a.2:Rat)=y at *;generalize (c.1:Rat)=z at *;generalize (c.2:Rat)=u at *;have d:z/u*y=z*y/u:=by grind
 rw [d,Rat.lt_div_iff f]
variable {A C:Nat}
theorem FB.mono {D:Nat} (h:FB A B a) (h1:A<=C) (h2:B<=D):FB C D a:=⟨h.s1.mono h1,h.s2.mono h2,h.b1,h.g1⟩
theorem Jmi {t b:Int} (hb:1<=b):vl (Mth.top t b,Mth.bot t b)=(t:Rat)/(b:Rat):=by
 have a:b≠0:=by ac_nf
 have d:=Mth.cross (t:=t) a;have c:=Mth.JbJ (t:=t) a;unfold vl;dsimp only;generalize Mth.top t b=x at *;generalize Mth.bot t b=y at *;have f:=Jcq hb;have g:=Jcq c;have e:(x:Rat)*(b:Rat)=(t:Rat)*(y:Rat):=by exact_mod_cast d
 generalize (x:Rat)=x at *;generalize (y:Rat)=y at *;generalize (t:Rat)=t at *;generalize (b:Rat)=b at *;grind
section
variable {A' B' C' D':Nat} {x y z w b:Int × Int} {D:Nat} {m:Int × Int}
end
section
variable {s st:Nat} {f : α->Str} {l:List α}
end
section
variable {x:V} {K:W.Frag}
end
theorem JaD {H0:Hp} {b:Addr} (S:Same H0 H) (h:H b=none):H0 b=none:=by
 cases e:H0 b with
 | none=>rfl
 | some o=>rw [S _ _ e] at h;cases h
open PySem.Spec PyProof.Rows
theorem Jcj (z:Str):∀ ss:List Str,inV (.str z) (ss.map V.str)=decide (z∈ss)
 | []=>by simp [inV]
 | s::ss=>by
  have h:=Jcj z ss;unfold inV at h ⊢;rw [map_cons,any_cons,h];have e:eqV (.str s) (.str z)=decide (s=z):=by first | rfl | simp [eqV]
  rw [e];by_cases c:s=z
  ·subst c;simp
  ·have c':¬ z=s:=fun q=>c q.symm;simp [c,c']
variable {tb:TS}
theorem ForR.byN {lo:Int} {g:TG} {D:Ends} (Pv:Nat->St->Hp->Prop) (h0:Pv 0 σ H)
  (hs:∀ i σ H,i<n->Pv i σ H->∀ N:St->Hp->Prop,(∀ σ' H',Pv (i+1) σ' H'->N σ' H')->g (.int (lo+i)) σ H fun σ2 H2=>tb { D with nx:=N,ct:=N,bk:=D.nx } σ2 H2) (hd:∀ σ H,Pv n σ H->D.nx σ H):ForR lo n g tb D σ H :=
 ForR.by Pv h0 (fun i σ H a b=>hs i σ H a b _ fun _ _ h=>h) hd
variable {a:Addr}
theorem ForA.byLN {K:W.Frag} {g:TG} {D:Ends} (hA:SqL K H a xs) (Pv:Nat->St->Hp->Prop) (h0:Pv 0 σ H) (hl:∀ i σ H',Pv i σ H'->SqL K H' a xs)
  (hs:∀ i x σ H,xs[i]?=some x->Pv i σ H->∀ N:St->Hp->Prop,(∀ σ' H',Pv (i+1) σ' H'->N σ' H')->g x σ H fun σ2 H2=>tb { D with nx:=N,ct:=N,bk:=D.nx } σ2 H2) (hd:∀ σ H,Pv xs.length σ H->D.nx σ H):ForA K a g tb D σ H :=
 ForA.byL hA Pv h0 hl (fun i x σ H b c=>hs i x σ H b c _ fun _ _ h=>h) hd
def prodI:List Int->Int
 | []=>1
 | f::r=>f*prodI r
theorem JeR (f:Int):∀ fs:List Int,prodI (fs++[f])=prodI fs*f
 | []=>by simp [prodI]
 | g::fs=>by rw [cons_append];simp only [prodI,JeR f fs];rw [Int.mul_assoc]
structure Scl (b:Int) (fs:List Int):Prop where
 b1:1<=b
 f1:∀ f∈fs,1<=f
 pr:prodI fs=b
theorem Scl.nil:Scl 1 []:=⟨by decide,by simp,rfl⟩
theorem Scl.snoc {b f:Int} {fs:List Int} (h:Scl b fs) (hf:1<=f):Scl (b*f) (fs++[f]):=⟨by
 have:=Int.mul_pos (show 0<b by have:=h.b1;ac_nf) (show 0<f by ac_nf);ac_nf,fun g a=>by
 rcases mem_append.mp a with a | a
 ·exact h.f1 g a
 ·rw [mem_singleton.mp a];exact hf,by rw [JeR,h.pr]⟩
variable {iter elt:Expr} {scope:Scope} {own:List Str} {wi:TI} {te:TE} {tt:TT}
theorem JiK {tst:Expr} {cs:List (Nat × Str)} {g:TG} (hc:X.calm=true) (hi:PI X tg iter wi)
  (hg:∀ fp s2 H2 C,PG (X.inc (own++cs.map (·.2)) scope (Jbm X.env.cells scope.names []) fp s2 H2 C) tg g) (ht:∀ fp s2 H2 C,PT (X.inc (own++cs.map (·.2)) scope (Jbm X.env.cells scope.names []) fp s2 H2 C) tst tt) (he:∀ fp s2 H2 C,PE (X.inc (own++cs.map (·.2)) scope (Jbm X.env.cells scope.names []) fp s2 H2 C) elt te)
  (hfree:∀ p∈scope.names,p.2=.free->X.env.scope.names.lookup p.1=some .cell) (hcell:∀ y∈scope.names,y.2≠.cell) (hkind:scope.kind=.function) (hnames:∀ y∈scope.names,y.2=.local->scope.names.lookup y.1=some .local)
  (hcs:∀ p∈cs,X.N[p.1]?=some p.2/\X.env.scope.names.lookup p.2=some .cell/\(relabel scope X.env).names.lookup p.2=some .cell)
  (hs:∀ x,foldedSetIterable iter X.env x=pure x:=by intro _;rfl):PE X (.ListComp elt [⟨tg,iter,[tst],0⟩] scope pos) (JeU own.length cs wi g tt te):=by
 intro a s σ H Q I h;have d:∀ p∈scope.names,p.2=.free->∃ c,X.env.cells.lookup p.1=some c:=fun p u o=>I.ok.has p.1 (.inl (hfree p u o));have m:=Jb8 (cells:=X.env.cells) scope.names [] (fun _ _ z=>by simp at z) d;rw [eval_ListComp];refine wpAny_comprehension_free (use:=none) rfl hs (JeZ d) hkind hnames (thn (hi a s σ H _ I h) fun v Z E=>thn E fun G s2 L=>?_);obtain ⟨V,fp,S,J,H2,rfl,I2,T,e,B,W,⟨P,F⟩,b⟩:=L;refine JdU (QN:=fun n k=>∀ p,k p=none->Q (.ref p) (upd k p (.lst n))) (RR:=fun i C=>compPost (model X.prog X.w) X.A X.xe none (EP X a σ Q) i C) hc hg ht he hcell hkind m (fun z M=>Jb7 scope.names [] z (.inr (Je8 hcell M))) hcs I2 T e B F b ?_;intro D' C R k n j K Y O D U q;obtain ⟨r,l⟩:=D;exact ⟨r,l,fun t f=>⟨.ref D',_,j t f,rfl,q D' K⟩⟩
def notStar:Expr->Bool
 | .Starred _ _=>false
 | _=>true
theorem Jai {env:Env} (h:notStar e=true):starEach (e::es) env=(false,eval e env)::starEach es env:=by
 cases e <;> first | rfl | (simp [notStar] at h)
theorem Jaa {t:TA} (ha:PE X e te) (hr:PA X es t) (hs:notStar e=true:=by rfl):PA X (e::es) (tCons te t):=Jk4 ha hr (Jai hs)
section
variable {x:V} {c:Addr} {K:W.Frag}
def FLV (K:W.Frag) (H:Hp) (s:Int × Int) (x:V):Prop:=FrV K H x s.1 s.2
theorem FLV.sameT {s:Int × Int} (T:SameT H H') (h:FLV K H s x):FLV K H' s x:=FrV.sameT T h
end
theorem JiJ {K:W.Frag} (hK:X.K=K):OpR X (compareOp .NotIn) (rIn K true):=hK ▸ Jea
variable {A:Around}
section
variable {ls:List PD} {M:Str->Option Str} {a b:Str} {p:PD} {f g:Str}
end
section
variable {K:W.Frag}
end
variable {a b:Str->Rat}
structure Gp where
 R:Rat
 way:List Str
section
variable {N:List Str} {w M f':Str->Rat} {gs:List Gp} {f:Str->Rat}
end
def left (lvs:List (Str × (Int × Int))) (w:Str->Rat) (n:Str):Rat:=if n∈lvs.map (·.1) then 0 else w n
section
variable {lvs:List (Str × (Int × Int))} {n:Str} {L:Int × Int} {ns:List Str} {w:Str->Rat} {m:Str}
end
variable {N ns:List Str} {w M:Str->Rat} {gs:List Gp} {lvs:List (Str × (Int × Int))} {c:Rat} {L:Int × Int}
section
variable {E:Int} {r s:Rat} {D:Int}
end
variable {vs:List (Key × Value)}
theorem JkR (rel:KV kvs vs):vs.map (·.1)=kvs.map (·.1):=by
 unfold KV at rel;induction rel with
 | nil=>rfl
 | cons h1 _ ih=>rw [map_cons,map_cons,ih,h1.1]
variable {P:Program} {w:World}
theorem JkP (h:(JaE P w).is (Sum.inr z) v=true):∃ t,v=.str z t:=by
 rcases JaN (show keyIs (Sum.inr z) v=true from h) with ⟨b,hb,_⟩ | ⟨y,t,hy,rfl⟩
 ·cases hb
 ·cases hy;exact ⟨t,rfl⟩
def Itk (d:Addr) (od:Obj) (kvs:List (Key × V)) (ss:List Str):It :=
 ⟨fun i H=>H d=some (.frz od (.dK kvs))/\i<ss.length,fun i H x H'=>H'=H/\(ss.map V.str)[i]?=some x,fun i H=>H d=some (.frz od (.dK kvs))/\ss.length<=i⟩
theorem Ji6 {K:W.Frag} {it:Addr} (rel:KV kvs vs) (hk:kvs.map (·.1)=ss.map Sum.inr) (hd:∀ h:Heap,h.get? d=some od->h.DictAt (JaE P w) d vs ep) :
  Turn P w K tg (Itk d od kvs ss) [it] it (fun i h=>h.IsKeyIter it d i vs.length ep) where
 mem:=by simp
 obj:=fun i h a b l=>by
  obtain rfl:b=it:=by simpa using l
  obtain ⟨o,e,c,z⟩:=a;exact ⟨o,e,fun v q=>by rw [z] at q;cases q⟩
 keep:=fun i h x a k=>a.at fun o e=>k it (by simp) o e
 item:=by
  intro X J N G O i f s σ H E I y a D;subst J N G;obtain ⟨j,F⟩:=D;obtain ⟨B,A,Q,C,M,L⟩:=y it (by simp);have g:=(I.hok d _ j).1;have T:=rel.length;have lk:kvs.length=ss.length:=by simpa using congrArg List.length hk
  obtain ⟨⟨k,U⟩,n⟩:∃ p,vs[i]?=some p:=⟨_,List.getElem?_eq_getElem (show i<vs.length by ac_nf)⟩;have u:(vs.map (·.1))[i]?=some k:=by rw [List.getElem?_map,n];rfl
  rw [JkR rel,hk,List.getElem?_map,List.getElem?_eq_getElem F] at u;have u:Sum.inr ss[i]=k:=Option.some.inj u;subst u;refine wpAny_pyNext_dict_item a (hd _ g) n fun key x m r S=>?_;obtain ⟨t,rfl⟩:=JkP m;have I1:Inv X f σ H { s with heap:=x }:=I.turned (t':=s.toks) (fun b o l e=>(S.2 b l).trans e) B A C M L;obtain ⟨o,e,c,z⟩:=id r;exact ⟨_,rfl,go_of (s:={ s with heap:=x }) e c z ⋯ ⟨.str ss[i],H,I1,⟨t,rfl⟩,⟨rfl,by rw [List.getElem?_map,List.getElem?_eq_getElem F];rfl⟩,r,fun b l=>(y b l).1⟩⟩
 done:=by
  intro X J N G O i f s σ H E I y a D;subst J N G;obtain ⟨j,F⟩:=D;obtain ⟨B,A,Q,C,M,L⟩:=y it (by simp);have g:=(I.hok d _ j).1;have T:=rel.length;have lk:kvs.length=ss.length:=by simpa using congrArg List.length hk
  exact wpAny_pyNext_dict_end (I.ok.hd O) a (hd _ g) (List.getElem?_eq_none ∅) fun x R=>⟨rfl,I.turned (t':=s.toks) (fun b o l e=>R b o l e) B A C M L⟩
 self:=fun _ _ _ _ _ a h=>wpAny_pyIter_keyiter a h
def iKeys (td:TE):TI:=fun σ H R=>td σ H fun x H1=>∃ (d:Addr) (kvs:List (Key × V)) (ss:List Str),x=.ref d/\H1 d=some (.dK kvs)/\kvs.map (·.1)=ss.map Sum.inr/\∀ od,R (Itk d od kvs ss) (upd H1 d (.frz od (.dK kvs)))
theorem JiM (ho:PE X o td):PI X tg o (iKeys td):=by
 intro c s σ H R I h;refine thn (ho c s σ H _ I h) fun v i ζ=>?_;obtain ⟨y,C,I1,u,d,kvs,A,r,e,m,n⟩:=ζ;subst r;obtain rfl:v=Value.ref d:=u;obtain ⟨B,l,vs,g,t⟩:=dk_of I1.hok e;obtain ⟨ep,k⟩:=t.dictAt;obtain ⟨j,x,a,rest⟩:=id k;refine wpAny_pyIter_dict (knd:=JaE X.prog X.w) (d:=d) (kvs:=vs) (ep:=ep) l k ?_;have p:∀ b o,i.heap.get? b=some o->(i.heap.push { cls:=.type "dict_keyiterator",data:=.fields #[.ref d, .int 0 0, .int vs.length 0, .int ep 0] }).get? b=some o:=fun b o z=>Heap.get?_push_of_some _ z;have I2:=(I1.freeze e a).kept (t':=i.toks) p;refine ⟨_,[_],_,_,_,rfl,I2,Ji6 (vs:=vs) (ep:=ep) g m (fun h q=>⟨j,x,q,rest⟩),⟨_,Heap.get?_push_size _ rfl,rfl,rfl⟩,fun b f=>?_,n j⟩;obtain rfl:=mem_singleton.mp f;exact I1.fpOk (Nat.le_refl _) ((I1.freeze e a).hok.fresh (Nat.le_refl _))
def Jmc (ts:TS):TS:=fun D σ H=>∃ d kvs,H d=some (.dK kvs)/\ts { nx:=fun σ' H'=>∃ od kvs',H' d=some (.frz od (.dK kvs'))/\D.nx σ' (upd H' d (.dK kvs')),rt:=fun _ _=>False } σ H
theorem ps_no {st:Stmt}:PS X st (fun _ _ _=>False):=fun _ _ _ _ _ _ h=>h.elim
section
variable {tl:TE} {k:Nat} {cs:List (Nat × Str)} {g:TG}
theorem y38y:JeU k cs (iKeys td) g tt te σ H Q=td σ H fun x H1=>∃ (d1:Addr) (kvs1:List (Key × V)) (ss:List Str),x=.ref d1/\H1 d1=some (.dK kvs1)/\kvs1.map (·.1)=ss.map Sum.inr/\∀ od,Jct (Itk d1 od kvs1 ss) k cs g tt te σ Q (upd H1 d1 (.frz od (.dK kvs1))):=rfl
theorem y3ay:tThaw (JeU k cs (iKeys td) g tt te) σ H Q=∃ d kvs,H d=some (.dK kvs)/\td σ H fun x H1=>∃ (d1:Addr) (kvs1:List (Key × V)) (ss:List Str),x=.ref d1/\H1 d1=some (.dK kvs1)/\kvs1.map (·.1)=ss.map Sum.inr/\∀ od,Jct (Itk d1 od kvs1 ss) k cs g tt te σ (fun v H'=>∃ od kvs',H' d=some (.frz od (.dK kvs'))/\Q v (upd H' d (.dK kvs'))) (upd H1 d1 (.frz od (.dK kvs1))):=rfl
variable {En:Ends}
theorem y94y {ts:TS}:Jmc ts En σ H=∃ d kvs,H d=some (.dK kvs)/\ts { nx:=fun σ' H'=>∃ od kvs',H' d=some (.frz od (.dK kvs'))/\En.nx σ' (upd H' d (.dK kvs')),rt:=fun _ _=>False } σ H:=rfl
theorem DGet.f {a:Addr} {k:Key} (e:H a=some (.frz od (.dK kvs))):DGet H a (kV k) (valV kvs k):=.inl ⟨kvs,k, .inr ⟨od,e⟩,rfl,rfl⟩
end
def subF (a c:Int × Int):Int × Int:=(Mth.top (a.1*c.2-c.1*a.2) (a.2*c.2),Mth.bot (a.1*c.2-c.1*a.2) (a.2*c.2))
structure Lo (a:Int × Int):Prop where
 b1:1<=a.2
 g1:Mth.g a.1 a.2=1
variable {a:Int × Int}
theorem FB.lo {A:Nat} (h:FB A B a):Lo a:=⟨h.b1,h.g1⟩
variable {c:Int × Int}
theorem Lo.inj (h:Lo a) (k:Lo c) (e:vl a=vl c):a=c:=Jmh h.b1 k.b1 h.g1 k.g1 e
variable {b:Int}
theorem JlM {t:Int} (hb:1<=b):Lo (Mth.top t b,Mth.bot t b):=⟨Mth.JbJ ∅,Mth.g_low ∅⟩
theorem Jkp {x y:Int} (hx:1<=x) (hy:1<=y):1<=x*y:=by
 have:=Int.mul_pos (show 0<x by ac_nf) (show 0<y by ac_nf);ac_nf
theorem Jmj (ha:1<=a.2) (hc:1<=c.2):vl (subF a c)=vl a-vl c:=by
 unfold subF;rw [Jmi (Jkp ha hc)];have b:=Jcq ha;have d:=Jcq hc;unfold vl;push_cast;generalize (a.1:Rat)=x at *;generalize (a.2:Rat)=y at *;generalize (c.1:Rat)=z at *;generalize (c.2:Rat)=t at *;grind
theorem Jhr (k:Int):vl (k,1)=(k:Rat):=by
 unfold vl;have : ((1:Int):Rat)=1:=rfl;grind
theorem Ji8:vl (0,1)=0:=Jhr 0
structure LidD where
 nm:Str
 rest:Int × Int
 ws:List (Str × Int)
 load:Int
 last:Int × Int
section
variable {w:Str->Rat} {e:LidD} {g:Gp} {m:Str}
end
section
variable {w:Str->Rat} {m:Str}
end
section
variable {a:Addr} {kv kw:List (Key × V)} {k:Key}
end
section
variable {Q:Int} {w:Str->Rat} {ms:List (Str × (Int × Int))} {lds:List LidD} {D:Int} {k:Nat}
end
structure ShD where
 nm:Str
 sl:Int × Int
 sp:Option Str
section
variable {ls:List PD} {es:List (GD × List Str)} {pl:Str->Int × Int} {p:PD} {f':Str->Rat} {rs rs':List ShD} {f:Str->Rat}
end
variable {ls:List PD} {es:List (GD × List Str)} {pl:Str->Int × Int} {lds:List LidD} {ms:List (Str × (Int × Int))} {q0:Int}
section
variable {a b c d B:TS} {D:Ends}
end
structure Nxt (R:St->Hp->Prop) (b:TS) (D:Ends):Prop where
 go:∀ {σ : St} {H:Hp},b D σ H->R σ H
theorem Jfo {a b:TS} {D:Ends} (h:∀ R,Nxt R b D->a { D with nx:=R } σ H):tSeq a b D σ H:=h _ ⟨fun z=>z⟩
structure SpS where
 src:Str
 tgt:Str
 cost:Int × Int
 wh:Int
 nm:Str
 fw:Bool
abbrev SumD:=List (Str × Int)
abbrev LasD:=List (Str × SpS)
def lk:List (Str × α)->Str->Option α
 | [],_=>none
 | p::r,f=>if p.1=f then some p.2 else lk r f
def pu (l:List (Str × α)) (f:Str) (a : α):List (Str × α):=if (l.any fun p=>decide (p.1=f))=true then l.map (fun p=>if p.1=f then (p.1,a) else p) else l++[(f,a)]
theorem Jit {f g:Str} {a : α} (h:f≠g):∀ l:List (Str × α),lk (l.map fun p=>if p.1=f then (p.1,a) else p) g=lk l g
 | []=>rfl
 | p::r=>by
  rw [map_cons];unfold lk;by_cases c:p.1=f
  ·rw [if_pos c];have : ¬ p.1=g:=fun e=>h (c.symm.trans e);rw [if_neg this,if_neg this];exact Jit h r
  ·rw [if_neg c];by_cases d:p.1=g
   ·rw [if_pos d,if_pos d]
   ·rw [if_neg d,if_neg d];exact Jit h r
theorem Jiu {f:Str} {a : α}:∀ l:List (Str × α),(l.any fun p=>decide (p.1=f))=true->lk (l.map fun p=>if p.1=f then (p.1,a) else p) f=some a
 | [],h=>by simp at h
 | p::r,h=>by
  rw [map_cons];unfold lk;by_cases c:p.1=f
  ·rw [if_pos c,if_pos c]
  ·rw [if_neg c,if_neg c];exact Jiu r (by simpa [c] using h)
theorem Jkn {g:Str} {a : α} {f:Str}:∀ l:List (Str × α),lk (l++[(f,a)]) g=match lk l g with | some b=>some b | none=>if f=g then some a else none
 | []=>rfl
 | p::r=>by
  rw [cons_append];unfold lk;by_cases c:p.1=g
  ·rw [if_pos c,if_pos c]
  ·rw [if_neg c,if_neg c];exact Jkn r
theorem Jiv {f:Str}:∀ l:List (Str × α), ¬ (l.any fun p=>decide (p.1=f))=true->lk l f=none
 | [],_=>rfl
 | p::r,h=>by
  unfold lk;by_cases c:p.1=f
  ·exact absurd (by simp [c]) h
  ·rw [if_neg c];exact Jiv r fun z=>h (by rw [any_cons,z,Bool.or_true])
theorem lk_pu {l:List (Str × α)} {f g:Str} {a : α}:lk (pu l f a) g=if f=g then some a else lk l g:=by
 unfold pu;by_cases c:(l.any fun p=>decide (p.1=f))=true
 ·rw [if_pos c];by_cases d:f=g
  ·subst d;rw [if_pos rfl];exact Jiu l c
  ·rw [if_neg d];exact Jit d l
 ·rw [if_neg c,Jkn];by_cases d:f=g
  ·subst d;rw [Jiv l c,if_pos rfl]
  ·rw [if_neg d];cases lk l g <;> simp [d]
theorem JaV {l:List (Str × α)} {f:Str} {a : α}:lk (pu l f a) f=some a:=by rw [lk_pu,if_pos rfl]
theorem lk_ne {l:List (Str × α)} {f g:Str} {a : α} (h:f≠g):lk (pu l f a) g=lk l g:=by rw [lk_pu,if_neg h]
structure BF where
 S:SumD
 P:LasD
 ch:Option Str
def gains (S:SumD) (s:SpS):Option Int :=
 match lk S s.src with
 | none=>none
 | some a=>match lk S s.tgt with
  | none=>some (a+s.wh)
  | some b=>if a+s.wh<b then some (a+s.wh) else none
def rlx (t:BF) (s:SpS):BF :=
 match gains t.S s with
 | none=>t
 | some a=>⟨pu t.S s.tgt a,pu t.P s.tgt s,some s.tgt⟩
def trn (ss:List SpS) (t:BF):BF:=ss.foldl rlx { t with ch:=none }
inductive Wk (ss:List SpS) (f0:Str):List SpS->Str->Prop
 | nil:Wk ss f0 [] f0
 | snoc {l:List SpS} {s:SpS}:Wk ss f0 l s.src->s∈ss->Wk ss f0 (l++[s]) s.tgt
def wgt (l:List SpS):Int:=(l.map (·.wh)).sum
variable {l:List SpS} {s:SpS}
theorem JbZ:wgt (l++[s])=wgt l+s.wh:=by simp [wgt]
section
variable {ss:List SpS} {f0:Str} {π:Str->Int} {fs:List Str} {t:BF}
def Pot (π : Str->Int) (ss:List SpS):Prop:=∀ s∈ss,π s.tgt<=π s.src+s.wh
structure BI (ss:List SpS) (fs:List Str) (π : Str->Int) (S:SumD) (P:LasD):Prop where
 z:∀ f∈fs, ∃ b,lk S f=some b/\b<=0
 p0:∀ v b,lk S v=some b->lk P v=none->v∈fs/\b=0
 st:∀ v s,lk P v=some s->s∈ss/\s.tgt=v/\∃ a b,lk S s.src=some a/\lk S v=some b/\a+s.wh<=b
 wk:∀ v b,lk S v=some b->∃ f∈fs, ∃ l,Wk ss f l v/\wgt l=b
 rk:∃ r:Str->Nat, ∀ v s,lk P v=some s->r s.src<r v
inductive Dsc (P:LasD) (v:Str):Str->Prop
 | refl:Dsc P v v
 | step {x:Str} {s:SpS}:lk P x=some s->Dsc P v s.src->Dsc P v x
variable {S:SumD} {P:LasD}
theorem Dsc.mono (hp:Pot π ss) (h:BI ss fs π S P) {v x:Str} (d:Dsc P v x):∀ a b,lk S v=some a->lk S x=some b->a-π v<=b-π x:=by
 induction d with
 | refl=>intro a b g f;rw [g] at f;cases f;ac_nf
 | step g _ ih=>
  intro a b j i;obtain ⟨m,e,c,d,f,k,l⟩:=h.st _ _ g;rw [k] at i;cases i;have:=ih a c j f;have:=hp _ m;rw [e] at this;ac_nf
theorem Jbo {c:Int} (h:gains S s=some c):∃ a,lk S s.src=some a/\c=a+s.wh/\∀ b,lk S s.tgt=some b->c<b:=by
 unfold gains at h;cases e:lk S s.src with
 | none=>rw [e] at h;cases h
 | some a=>
  rw [e] at h;refine ⟨a,rfl,?_⟩;cases e2:lk S s.tgt with
  | none=>rw [e2] at h;cases h;exact ⟨rfl,fun b d=>by cases d⟩
  | some b=>
   rw [e2] at h;dsimp only at h;split at h
   ·cases h;rename_i c;exact ⟨rfl,fun f d=>by cases d;exact c⟩
   ·cases h
theorem Jca (h:gains S s=none):∀ a,lk S s.src=some a->∃ b,lk S s.tgt=some b/\b<=a+s.wh:=by
 intro a d;unfold gains at h;rw [d] at h;cases e2:lk S s.tgt with
 | none=>rw [e2] at h;cases h
 | some b=>
  rw [e2] at h;dsimp only at h;split at h
  ·cases h
  ·rename_i c;exact ⟨b,rfl,by ac_nf⟩
theorem BI.put (hp:Pot π ss) (h:BI ss fs π S P) (hs:s∈ss) {c:Int} (hg:gains S s=some c):BI ss fs π (pu S s.tgt c) (pu P s.tgt s):=by
 obtain ⟨a,o,K,p⟩:=Jbo hg;have E:=hp s hs;have B:¬ Dsc P s.tgt s.src:=fun d=>by
  cases e:lk S s.tgt with
  | none=>
   have : ∀ x,Dsc P s.tgt x->lk S x=none:=fun x J=>by
    induction J with
    | refl=>exact e
    | step j _ ih=>
     obtain ⟨_,_,c,d,k,_⟩:=h.st _ _ j;rw [ih] at k;cases k
   rw [this _ d] at o;cases o
  | some b=>
   have j:=d.mono hp h b a e o;have k:=p b e;ac_nf
 have H:s.src≠s.tgt:=fun e=>B (by rw [e];exact .refl);have n:∀ v b,lk S v=some b->∃ i,lk (pu S s.tgt c) v=some i/\i<=b:=fun v b C=>by
  by_cases e:s.tgt=v
  ·subst e;exact ⟨c,JaV,Int.le_of_lt (p b C)⟩
  ·exact ⟨b,by rw [lk_ne e];exact C,Int.le_refl _⟩
 refine ⟨fun f w=>?_,fun v b g q=>?_,fun v t g=>?_,fun v b g=>?_,?_⟩
 ·obtain ⟨b,j,k⟩:=h.z f w;obtain ⟨i,y,A⟩:=n f b j;exact ⟨i,y,by ac_nf⟩
 ·by_cases e:s.tgt=v
  ·subst e;rw [JaV] at q;cases q
  ·rw [lk_ne e] at g q;exact h.p0 v b g q
 ·by_cases e:s.tgt=v
  ·subst e;rw [JaV] at g;cases g;exact ⟨hs,rfl,a,c,by rw [lk_ne (Ne.symm H)];exact o,JaV,by ac_nf⟩
  ·rw [lk_ne e] at g;obtain ⟨m,D,M,i,j,k,y⟩:=h.st v t g;obtain ⟨u,A,L⟩:=n _ _ j;exact ⟨m,D,u,i,A,by rw [lk_ne e];exact k,by ac_nf⟩
 ·by_cases e:s.tgt=v
  ·subst e;rw [JaV] at g;cases g;obtain ⟨f,w,l,F,I⟩:=h.wk _ _ o;exact ⟨f,w,l++[s], .snoc F hs,by rw [JbZ,I,K]⟩
  ·rw [lk_ne e] at g;exact h.wk v b g
 ·obtain ⟨r,G⟩:=h.rk;refine ⟨fun x=>open Classical in if Dsc P s.tgt x then r x+r s.src+1 else r x,fun v t g=>?_⟩;dsimp only;by_cases e:s.tgt=v
  ·subst e;rw [JaV] at g;cases g;rw [if_neg B,if_pos .refl];ac_nf
  ·rw [lk_ne e] at g;have:=G v t g;by_cases d:Dsc P s.tgt t.src
   ·rw [if_pos d,if_pos (.step g d)];ac_nf
   ·rw [if_neg d];split
    ·ac_nf
    ·exact this
end
section
variable {ss:List SpS} {f0:Str} {π:Str->Int} {fs:List Str} {t:BF}
theorem BI.rlx (hp:Pot π ss) (h:BI ss fs π t.S t.P) (hs:s∈ss):BI ss fs π (L2.rlx t s).S (L2.rlx t s).P:=by
 unfold L2.rlx;cases e:gains t.S s with
 | none=>exact h
 | some c=>exact h.put hp hs e
theorem BI.fold (hp:Pot π ss):∀ (l:List SpS) (t:BF),BI ss fs π t.S t.P->(∀ s∈l,s∈ss)->BI ss fs π (l.foldl L2.rlx t).S (l.foldl L2.rlx t).P
 | [],_,h,_=>h
 | s::l,t,h,hs=>by
  rw [foldl_cons];exact BI.fold hp l _ (h.rlx hp (hs s (by simp))) fun x hx=>hs x (by simp [hx])
def LeS (S S':SumD):Prop:=∀ v b,lk S v=some b->∃ b',lk S' v=some b'/\b'<=b
variable {S:SumD}
theorem LeS.refl:LeS S S:=fun v b h=>⟨b,h,Int.le_refl _⟩
theorem LeS.trans {S' S'':SumD} (h:LeS S S') (k:LeS S' S''):LeS S S'':=fun v b e=>by
 obtain ⟨c,a,i⟩:=h v b e;obtain ⟨d,f,g⟩:=k v c a;exact ⟨d,f,by ac_nf⟩
theorem LeS.rlx:LeS t.S (L2.rlx t s).S:=by
 unfold L2.rlx;cases e:gains t.S s with
 | none=>exact LeS.refl
 | some c=>
  obtain ⟨a,_,_,d⟩:=Jbo e;intro v b f;by_cases q:s.tgt=v
  ·subst q;exact ⟨c,JaV,Int.le_of_lt (d b f)⟩
  ·exact ⟨b,by show lk (pu t.S s.tgt c) v=_;rw [lk_ne q];exact f,Int.le_refl _⟩
theorem LeS.fold:∀ (l:List SpS) (t:BF),LeS t.S (l.foldl L2.rlx t).S
 | [],_=>LeS.refl
 | s::l,t=>by
  rw [foldl_cons];exact LeS.rlx.trans (LeS.fold l _)
theorem Jli {a:Int} (h:lk t.S s.src=some a):∃ b,lk (rlx t s).S s.tgt=some b/\b<=a+s.wh:=by
 unfold rlx;cases e:gains t.S s with
 | none=>exact Jca e a h
 | some c=>
  obtain ⟨f,d,g,_⟩:=Jbo e;rw [h] at d;cases d;exact ⟨c,JaV,by ac_nf⟩
theorem Jg7:∀ (l:List SpS) (t:BF) (s:SpS) (a:Int),s∈l->lk t.S s.src=some a->∃ b,lk (l.foldl rlx t).S s.tgt=some b/\b<=a+s.wh
 | [],_,_,_,h,_=>by cases h
 | x::l,t,s,a,h,ha=>by
  rw [foldl_cons];rcases mem_cons.mp h with e | h
  ·subst e;obtain ⟨b,h1,h2⟩:=Jli ha;obtain ⟨c,h3,h4⟩:=LeS.fold l _ _ _ h1;exact ⟨c,h3,by ac_nf⟩
  ·obtain ⟨a',h1,h2⟩:=LeS.rlx (s:=x) _ _ ha;obtain ⟨b,h3,h4⟩:=Jg7 l _ s a' h h1;exact ⟨b,h3,by ac_nf⟩
def itr (ss:List SpS):Nat->BF->BF
 | 0,t=>t
 | n+1,t=>trn ss (itr ss n t)
def bf0 (fs:List Str):BF:=⟨fs.foldl (fun S f=>pu S f 0) [],[],none⟩
theorem Jj7:∀ (fs:List Str) (S:SumD) (v:Str) (b:Int),lk (fs.foldl (fun S f=>pu S f 0) S) v=some b↔(v∈fs/\b=0)\/(v∉fs/\lk S v=some b)
 | [],S,v,b=>by simp
 | f::fs,S,v,b=>by
  rw [foldl_cons,Jj7 fs (pu S f 0) v b,lk_pu];by_cases c:v∈fs
  ·simp [c]
  ·by_cases d:f=v
   ·subst d;simp [c];exact eq_comm
   ·have d':v≠f:=fun e=>d e.symm;simp [c,d,d']
variable {v:Str}
theorem Jfx {fs:List Str}:lk (bf0 fs).S v=some b↔v∈fs/\b=0:=by
 unfold bf0;rw [Jj7 fs [] v b];simp [lk]
theorem BI.start:BI ss fs π (bf0 fs).S (bf0 fs).P where
 z:=fun f d=>⟨0,Jfx.mpr ⟨d,rfl⟩,Int.le_refl _⟩
 p0:=fun v b h _=>Jfx.mp h
 st:=fun v s h=>by cases h
 wk:=fun v b h=>by
  obtain ⟨a,c⟩:=Jfx.mp h;exact ⟨v,a,[], .nil,c.symm⟩
 rk:=⟨fun _=>0,fun v s h=>by cases h⟩
theorem BI.itr (hp:Pot π ss):∀ n,BI ss fs π (L2.itr ss n (bf0 fs)).S (L2.itr ss n (bf0 fs)).P
 | 0=>BI.start
 | n+1=>BI.fold hp ss _ (BI.itr hp n) fun _ h=>h
theorem Jkm (hf:f0∈fs):∀ (i:Nat) (l:List SpS) (v:Str),Wk ss f0 l v->l.length<=i->∃ b,lk (itr ss i (bf0 fs)).S v=some b/\b<=wgt l:=by
 intro i;induction i with
 | zero=>
  intro l v h d;cases h with
  | nil=>exact ⟨0,Jfx.mpr ⟨hf,rfl⟩,Int.le_refl _⟩
  | snoc _ _=>simp at d
 | succ i ih=>
  intro l v h d;cases h with
  | nil=>
   obtain ⟨b,a,g⟩:=ih [] f0 .nil (by simp);obtain ⟨c,e,f⟩:=LeS.fold ss { itr ss i (bf0 fs) with ch:=none } _ _ a;exact ⟨c,e,by ac_nf⟩
  | @snoc l s h hs=>
   obtain ⟨b,a,g⟩:=ih l _ h (by simpa using d);obtain ⟨c,e,f⟩:=Jg7 ss { itr ss i (bf0 fs) with ch:=none } s b hs a;exact ⟨c,e,by rw [JbZ];ac_nf⟩
theorem Wk.cut (hp:Pot π ss) {l:List SpS} {u:Str} (h:Wk ss f0 l u):∀ x,x∈f0::l.map (·.tgt)->(f0::l.map (·.tgt)).Nodup->∃ p,Wk ss f0 p x/\wgt p+(π u-π x)<=wgt l/\(f0::p.map (·.tgt)).Nodup:=by
 induction h with
 | nil=>
  intro x a b;have : x=f0:=by simpa using a
  subst this;exact ⟨[], .nil,by ac_nf,b⟩
 | @snoc l s h hs ih=>
  intro x a b;by_cases e:x=s.tgt
  ·subst e;exact ⟨l++[s], .snoc h hs,by ac_nf,b⟩
  ·have c:x∈f0::l.map (·.tgt):=by
    rw [map_append, <- cons_append] at a;rcases mem_append.mp a with a | a
    ·exact a
    ·exact absurd (by simpa using a) e
   have d:(f0::l.map (·.tgt)).Nodup:=by
    rw [map_append, <- cons_append] at b;exact (nodup_append.mp b).1
   obtain ⟨p,f,i,g⟩:=ih x c d;have:=hp s hs;exact ⟨p,f,by rw [JbZ];ac_nf,g⟩
theorem Wk.simple (hp:Pot π ss) {l:List SpS} {v:Str} (h:Wk ss f0 l v):∃ p,Wk ss f0 p v/\wgt p<=wgt l/\(f0::p.map (·.tgt)).Nodup:=by
 induction h with
 | nil=>exact ⟨[], .nil,Int.le_refl _,by simp⟩
 | @snoc l s h hs ih=>
  obtain ⟨p,d,m,f⟩:=ih;have:=hp s hs;by_cases c:s.tgt∈f0::p.map (·.tgt)
  ·obtain ⟨q,k,n,g⟩:=d.cut hp _ c f;exact ⟨q,k,by rw [JbZ];ac_nf,g⟩
  ·refine ⟨p++[s], .snoc d hs,by rw [JbZ,JbZ];ac_nf,?_⟩;rw [map_append, <- cons_append];exact nodup_append.mpr ⟨f,by simp,fun a i b j e=>c (by
    have q:b=s.tgt:=by simpa using j
    rw [<- q, <- e];exact i)⟩
theorem Wk.mem (h:Wk ss f0 l v):∀ s∈l,s∈ss:=by
 induction h with
 | nil=>intro s h;cases h
 | snoc _ hs ih=>
  intro x a;rcases mem_append.mp a with a | a
  ·exact ih x a
  ·rw [mem_singleton.mp a];exact hs
theorem Wk.len (h:Wk ss f0 l v) (hn:(f0::l.map (·.tgt)).Nodup):l.length<=ss.length:=by
 have:=sub_len (l.map (·.tgt)) (ss.map (·.tgt)) (nodup_cons.mp hn).2 fun x b=>by
  obtain ⟨s,a,rfl⟩:=mem_map.mp b;exact mem_map.mpr ⟨s,h.mem s a,rfl⟩
 simpa using this
theorem Jjs (hp:Pot π ss):∀ s∈ss,gains (itr ss ss.length (bf0 fs)).S s=none:=fun s n=>by
 cases e:gains (itr ss ss.length (bf0 fs)).S s with
 | none=>rfl
 | some c=>
  obtain ⟨a,i,t,d⟩:=Jbo e;obtain ⟨f,m,l,j,q⟩:=(BI.itr hp ss.length (fs:=fs)).wk _ _ i;obtain ⟨p,g,k,o⟩:=(Wk.snoc j n).simple hp;obtain ⟨b,h,r⟩:=Jkm m _ p _ g (g.len o);have:=d b h;rw [JbZ] at k;ac_nf
theorem Jgu:∀ (l:List SpS) (t:BF),(l.foldl rlx t).ch=none->l.foldl rlx t=t/\∀ s∈l,gains t.S s=none
 | [],t,_=>⟨rfl,fun s h=>by cases h⟩
 | x::l,t,h=>by
  rw [foldl_cons] at h ⊢;obtain ⟨h1,h2⟩:=Jgu l _ h;rw [h1] at h;cases e:gains t.S x with
  | none=>
   have ex:rlx t x=t:=by unfold rlx;rw [e]
   rw [ex] at h1 h2 ⊢;refine ⟨h1,fun s hs=>?_⟩;rcases mem_cons.mp hs with q | hs
   ·subst q;exact e
   ·exact h2 s hs
  | some c=>
   unfold rlx at h;rw [e] at h;cases h
theorem Jik:∀ (l:List SpS) (t:BF),(∀ s∈l,gains t.S s=none)->l.foldl rlx t=t
 | [],_,_=>rfl
 | x::l,t,h=>by
  have ex:rlx t x=t:=by unfold rlx;rw [h x (by simp)]
  rw [foldl_cons,ex];exact Jik l t fun s hs=>h s (by simp [hs])
def bfR (ss:List SpS):Nat->BF->BF
 | 0,t=>t
 | n+1,t=>if (trn ss t).ch=none then trn ss t else bfR ss n (trn ss t)
structure BE (ss:List SpS) (fs:List Str) (P:LasD):Prop where
 ex:∃ S:SumD, ∃ r:Str->Nat,(∀ f∈fs, ∃ b,lk S f=some b)/\(∀ v b,lk S v=some b->lk P v=none->v∈fs/\b=0)/\(∀ v s,lk P v=some s->s∈ss/\s.tgt=v/\r s.src<r v/\∃ a,lk S s.src=some a/\lk S v=some (a+s.wh))/\∀ s∈ss, ∀ a,lk S s.src=some a->∃ b,lk S s.tgt=some b/\b<=a+s.wh
theorem BE.of (hp:Pot π ss) (h:(itr ss (n+1) (bf0 fs)).ch=none):BE ss fs (itr ss (n+1) (bf0 fs)).P:=by
 have b:=BI.itr hp n (fs:=fs);obtain ⟨w,k⟩:=Jgu ss { itr ss n (bf0 fs) with ch:=none } h;have e:itr ss (n+1) (bf0 fs)={ itr ss n (bf0 fs) with ch:=none }:=w;rw [e];generalize itr ss n (bf0 fs)=t at *;obtain ⟨r,u⟩:=b.rk;refine ⟨t.S,r,fun f x=>⟨_,(b.z f x).choose_spec.1⟩,b.p0,fun v s g=>?_,fun s o a p=>Jca (k s o) a p⟩;obtain ⟨m,q,a,c,i,l,y⟩:=b.st v s g;obtain ⟨d,j,A⟩:=Jca (k s m) a i;rw [q,l] at j;cases j;exact ⟨m,q,u v s g,a,i,by rw [l];congr 1;ac_nf⟩
end
theorem Jid {n:Int} (h:1<=n):n∣b*n.fdiv (Mth.g b n):=by
 have i:=Mth.g_pos (a:=b) (b:=n) ∅;obtain ⟨c,d⟩:=Mth.JdY b n;have e:=Mth.Jbj (Mth.Jc8 b n) (by ac_nf:Mth.g b n≠0);refine ⟨c,?_⟩;generalize hg:Mth.g b n=g at *;generalize n.fdiv g=f at *;rw [d, <- e];rw [Int.mul_right_comm,Int.mul_comm g f]
theorem JeW:∀ i,(Ch.all (ts.take i)).length<=2*i:=fun i=>by
 induction i with
 | zero=>simp [Ch.all]
 | succ i ih=>
  rw [take_succ];cases ts[i]? with
  | none=>simp;ac_nf
  | some t=>
   have : (Ch.steps t).length<=2:=by unfold Ch.steps fwd bwd;cases t.hi <;> cases t.lo <;> simp
   simp only [Ch.all,List.flatMap_append,Option.toList_some,List.flatMap_cons,List.flatMap_nil,append_nil,length_append] at ih ⊢;ac_nf
section
variable {R R' : α->V->Prop}
def DV (R : α->V->Prop):List (Str × α)->List (Key × V)->Prop
 | [],kv=>kv=[]
 | p::P,kv=>∃ v r,kv=(Sum.inr p.1,v)::r/\R p.2 v/\DV R P r
theorem DV.len:∀ {P:List (Str × α)} {kv:List (Key × V)},DV R P kv->kv.length=P.length
 | [],_,h=>by rw [h];rfl
 | p::P,_,⟨v,r,e,_,h⟩=>by rw [e,length_cons,length_cons,h.len]
theorem DV.keys:∀ {P:List (Str × α)} {kv:List (Key × V)},DV R P kv->kv.map (·.1)=(P.map (·.1)).map Sum.inr
 | [],_,h=>by rw [h];rfl
 | p::P,_,⟨v,r,e,_,h⟩=>by rw [e,map_cons,map_cons,map_cons,h.keys]
theorem DV.mono (m:∀ a v,R a v->R' a v):∀ {P:List (Str × α)} {kv:List (Key × V)},DV R P kv->DV R' P kv
 | [],_,h=>h
 | p::P,_,⟨v,r,e,h1,h⟩=>⟨v,r,e,m _ _ h1,h.mono m⟩
theorem DV.no:∀ {P:List (Str × α)} {kv:List (Key × V)},DV R P kv->lk P z=none->valV kv (Sum.inr z)=none
 | [],_,h,_=>by rw [h];rfl
 | p::P,_,⟨v,r,e,_,h⟩,n=>by
  unfold lk at n;by_cases c:p.1=z
  ·rw [if_pos c] at n;cases n
  ·rw [if_neg c] at n;rw [e,Jdh (by simpa using c)];exact h.no n
theorem DV.at {a : α}:∀ {P:List (Str × α)} {kv:List (Key × V)},DV R P kv->lk P z=some a->∃ v,valV kv (Sum.inr z)=some v/\R a v
 | [],_,_,n=>by cases n
 | p::P,_,⟨v,r,e,h1,h⟩,n=>by
  unfold lk at n;by_cases c:p.1=z
  ·rw [if_pos c] at n;cases n;exact ⟨v,by rw [e];exact Jdi (by simpa using c),h1⟩
  ·rw [if_neg c] at n;rw [e,Jdh (by simpa using c)];exact h.at n
theorem DV.any {f:Str}:∀ {P:List (Str × α)} {kv:List (Key × V)},DV R P kv->(kv.any fun q=>decide (q.1=Sum.inr f))=(P.any fun p=>decide (p.1=f))
 | [],_,h=>by rw [h];rfl
 | p::P,_,⟨v,r,e,_,h⟩=>by
  rw [e,any_cons,any_cons,h.any]
  congr 1
  simp
variable {v:V}
theorem DV.map {f:Str} {a : α} (ra:R a v):∀ {P:List (Str × α)} {kv:List (Key × V)},DV R P kv->DV R (P.map fun p=>if p.1=f then (p.1,a) else p) (kv.map fun q=>if q.1=Sum.inr f then (q.1,v) else q)
 | [],_,h=>by rw [h];exact rfl
 | p::P,_,⟨w,r,e,h1,h⟩=>by
  rw [e,map_cons,map_cons];by_cases c:p.1=f
  ·rw [if_pos c,if_pos (by simpa using c)];exact ⟨v,_,rfl,ra,h.map ra⟩
  ·rw [if_neg c,if_neg (by simpa using c)];exact ⟨w,_,rfl,h1,h.map ra⟩
theorem DV.app {f:Str} {a : α} (ra:R a v):∀ {P:List (Str × α)} {kv:List (Key × V)},DV R P kv->DV R (P++[(f,a)]) (kv++[(Sum.inr f,v)])
 | [],_,h=>by rw [h];exact ⟨v,[],rfl,ra,rfl⟩
 | p::P,_,⟨w,r,e,h1,h⟩=>by
  rw [e];exact ⟨w,_,rfl,h1,h.app ra⟩
theorem DV.put {f:Str} {a : α} {P:List (Str × α)} {kv:List (Key × V)} (h:DV R P kv) (ra:R a v):DV R (pu P f a) (putK kv (Sum.inr f) v):=by
 unfold pu putK;rw [h.any];split
 ·exact h.map ra
 ·exact h.app ra
end
theorem Jdu:∀ {P:List (Str × α)},z∈P.map (·.1)->∃ a,lk P z=some a
 | [],h=>by cases h
 | p::P,h=>by
  unfold lk;by_cases c:p.1=z
  ·exact ⟨_,if_pos c⟩
  ·rw [if_neg c];refine Jdu ?_;rcases mem_cons.mp h with e | h
   ·exact absurd e.symm c
   ·exact h
theorem Jdx {l:List (Str × α)} {f:Str} {a : α}:(pu l f a).length<=l.length+1:=by
 unfold pu;split <;> simp
inductive Chn (P:LasD):Str->List SpS->Prop
 | nil {v:Str}:lk P v=none->Chn P v []
 | snoc {v:Str} {s:SpS} {l:List SpS}:lk P v=some s->Chn P s.src l->Chn P v (l++[s])
section
variable {ss:List SpS} {P:LasD} {fs:List Str} {v:Str}
theorem Chn.uniq (h:Chn P v l):∀ {k:List SpS},Chn P v k->l=k:=by
 induction h with
 | nil h0=>
  intro k a;cases a with
  | nil _=>rfl
  | snoc h _=>rw [h0] at h;cases h
 | snoc h _ ih=>
  intro k a;cases a with
  | nil h0=>rw [h] at h0;cases h0
  | snoc h' hk'=>
   rw [h] at h';cases h';rw [ih hk']
theorem BE.chain (h:BE ss fs P):∃ S:SumD,(∀ v,(∃ b,lk S v=some b)↔(v∈fs\/∃ s,lk P v=some s))/\(∀ v b,lk S v=some b->∃ l,Chn P v l/\wgt l=b/\∃ f∈fs,lk P f=none/\Wk ss f l v/\(f::l.map (·.tgt)).Nodup)/\∀ s∈ss, ∀ a,lk S s.src=some a->∃ b,lk S s.tgt=some b/\b<=a+s.wh:=by
 obtain ⟨S,r,H,u,p,E⟩:=h.ex;have key:∀ n v b,r v<=n->lk S v=some b->∃ l,Chn P v l/\wgt l=b/\∃ f∈fs,lk P f=none/\Wk ss f l v/\(f::l.map (·.tgt)).Nodup/\∀ x∈f::l.map (·.tgt),x=v\/r x<r v:=by
  intro n;induction n with
  | zero=>
   intro v b G d;cases e:lk P v with
   | none=>
    obtain ⟨i,g⟩:=u v b d e;exact ⟨[], .nil e,g.symm,v,i,e, .nil,by simp,fun x c=>.inl (by simpa using c)⟩
   | some s=>
    have:=(p v s e).2.2.1;ac_nf
  | succ n ih=>
   intro v b G d;cases e:lk P v with
   | none=>
    obtain ⟨i,g⟩:=u v b d e;exact ⟨[], .nil e,g.symm,v,i,e, .nil,by simp,fun x c=>.inl (by simpa using c)⟩
   | some s=>
    obtain ⟨m,q,F,a,i,g⟩:=p v s e;rw [d] at g;cases g;obtain ⟨l,w,t,f,j,o,k,A,D⟩:=ih s.src a ∅ i;subst q;have B:∀ x∈f::l.map (·.tgt),r x<r s.tgt:=fun x c=>by
     rcases D x c with z | z
     ·rw [z];exact F
     ·ac_nf
    refine ⟨l++[s], .snoc e w,by rw [JbZ,t],f,j,o, .snoc k m,?_,fun x c=>?_⟩
    ·rw [map_append, <- cons_append];refine nodup_append.mpr ⟨A,by simp,fun x c y I z=>?_⟩;have q:y=s.tgt:=by simpa using I
     have:=B x c;rw [z,q] at this;ac_nf
    ·rw [map_append, <- cons_append] at c;rcases mem_append.mp c with c | c
     ·exact .inr (B x c)
     ·exact .inl (by simpa using c)
 refine ⟨S,fun v=>⟨fun ⟨b,d⟩=>?_,fun C=>?_⟩,fun v b d=>?_,E⟩
 ·cases e:lk P v with
  | none=>exact .inl (u v b d e).1
  | some s=>exact .inr ⟨s,rfl⟩
 ·rcases C with e | ⟨s,e⟩
  ·exact H v e
  ·obtain ⟨_,_,_,a,_,g⟩:=p v s e;exact ⟨_,g⟩
 ·obtain ⟨l,w,t,f,j,o,k,A,_⟩:=key (r v) v b (Nat.le_refl _) d;exact ⟨l,w,t,f,j,o,k,A⟩
end
def Lnk (P:LasD):Str->List SpS->Prop
 | _,[]=>True
 | z,s::r=>s.src=z/\lk P s.tgt=some s/\Lnk P s.tgt r
def lnkE:Str->List SpS->Str
 | z,[]=>z
 | _,s::r=>lnkE s.tgt r
theorem Lnk.add {P:LasD} (h:Lnk P z l) (hs:lk P z=some s) (ht:s.tgt=z):Lnk P s.src (s::l):=⟨rfl,by rw [ht];exact hs,by rw [ht];exact h⟩
theorem Jhc (ht:s.tgt=z):lnkE s.src (s::l)=lnkE z l:=by
 show lnkE s.tgt l=_;rw [ht]
def Itb (K:W.Frag) (a:Addr) (n:Nat):It :=
 ⟨fun i H=>i<n/\∃ xs x,SqL K H a xs/\xs[n-1-i]?=some x,fun i H x H'=>H'=H/\∀ xs,SqL K H a xs->xs[n-1-i]?=some x,fun i _=>i=n⟩
theorem Jj1 {K:W.Frag} (a it:Addr) (n:Nat):Turn P w K tg (Itb K a n) [it] it (fun i h=>h.IsRevIter it a ((n:Int)-1-(i:Int))) where
 mem:=by simp
 obj:=fun i h f b l=>by
  have e:b=it:=by simpa using l
  subst e;obtain ⟨o,e,c,d⟩:=f;exact ⟨o,e,fun v z=>by rw [d] at z;cases z⟩
 keep:=fun i h q f k=>f.at fun o e=>k it (by simp) o e
 item:=by
  intro X C G B M i g s σ H E I r f m;subst C G B;obtain ⟨li,xs,x,J,L⟩:=m;obtain ⟨N,V,p,hz⟩:=I.list J;obtain ⟨u,T,O⟩:=V.get L;obtain ⟨y,t,Q,A,F,D⟩:=r it (by simp);have R:(n:Int)-1-(i:Int)=((n-1-i:Nat):Int):=by ac_nf
  rw [R] at f;refine wpAny_pyNext_rev_item f p.isList (x:=u) (by simpa using T) fun q j U=>?_;have I1:Inv X g σ H { s with heap:=q }:=I.turned (t':=s.toks) (fun b o l e=>(U.2 b l).trans e) y t A F D;have Z:((n-1-i:Nat):Int)-1=(n:Int)-1-((i+1:Nat):Int):=by ac_nf
  rw [Z] at j;obtain ⟨o,e,c,d⟩:=id j;exact ⟨u,rfl,go_of (s:={ s with heap:=q }) e c d ⋯ ⟨x,H,I1,O,⟨rfl,fun ys Y=>by rw [I.list_inj Y J];exact L⟩,j,fun b l=>(r b l).1⟩⟩
 done:=by
  intro X C G B M i g s σ H E I r f m;subst C G B;have m:i=n:=m;subst m;obtain ⟨y,t,Q,A,F,D⟩:=r it (by simp);have e:(i:Int)-1-(i:Int) = -1:=by ac_nf
  rw [e] at f;exact wpAny_pyNext_rev_end (I.ok.hd M) f fun q S=>⟨rfl,I.turned (t':=s.toks) (fun b o l e=>S b o l e) y t A F D⟩
 self:=fun _ _ _ _ _ f h=>wpAny_pyIter_revIter f h
def iRevL (K:W.Frag) (tl:TE):TI:=fun σ H R=>tl σ H fun x H1=>∃ a xs,x=.ref a/\SqL K H1 a xs/\R (Itb K a xs.length) H1
variable {p2 pos2:Pos} {y:Str}
theorem Jlb {t:TE} (hy:y="reversed") (hg2:Gl X y) (hm2:X.mg y=none) (hv2:bootBuiltins y=some (.type "reversed")) (ha:PE X e t) (he:starEach [e] X.env=(false,eval e X.env)::starEach [] X.env:=by rfl) :
  PI X tg (.Call (.Name y p2) [e] [] pos2) (iRevL X.K t):=by
 intro c s σ H R I h;have n:y≠"__name__":=by rw [hy];decide
 have k:(y == ("__debug__" : Str))=false:=by rw [hy];decide
 refine wpAny_Call_Name_kw (JcT I hg2 hm2 hv2 ?_ n k);refine PyProof.Rows.callWith_type1 ?_ he rfl;rw [he];show wpAny _ _ (spliced ((false,eval e X.env)::backTo pos2 (starEach [] X.env))) _ _ s;refine Calls.spliced_cons (thn (ha c s σ H _ I h) fun u d ζ=>?_);obtain ⟨x,v,I1,l,q⟩:=ζ;refine Calls.spliced_nil ?_;obtain ⟨a,g,rfl,i,q⟩:=q;obtain rfl:u=Value.ref a:=l;obtain ⟨f,m,p,z⟩:=I1.list i;refine call_reversed_list p.isList ?_;refine wpAny_pyIter_revIter ⟨_,Heap.get?_push_size _ rfl,rfl,rfl⟩ ?_;have w:=m.length;refine ⟨d.heap.objs.size,[d.heap.objs.size],_,_,v,rfl,I1.kept (t':=d.toks) fun b o e=>Heap.get?_push_of_some _ e,Jj1 a _ g.length,?_,fun b r=>?_,q⟩
 ·refine ⟨_,Heap.get?_push_size _ rfl,rfl,?_⟩;unfold revObj;have j:((f.toArray.size:Nat):Int)-1=(g.length:Int)-1-((0:Nat):Int):=by
   rw [size_toArray];ac_nf
  rw [j]
 ·have e:b=d.heap.objs.size:=by simpa using r
  subst e;exact I1.fpOk (Nat.le_refl _) (I1.hok.fresh (Nat.le_refl _))
theorem JjK {K:W.Frag} (hK:X.K=K) {e:Expr} {t:TE} {p2 pos2:Pos} {y:Str} (hy:y="reversed") (hg2:Gl X y) (hm2:X.mg y=none) (hv2:bootBuiltins y=some (.type "reversed")) (ha:PE X e t) (he:starEach [e] X.env=(false,eval e X.env)::starEach [] X.env:=by rfl) :
  PI X tg (.Call (.Name y p2) [e] [] pos2) (iRevL K t):=hK ▸ Jlb hy hg2 hm2 hv2 ha he
section
variable {tl:TE} {K:W.Frag} {g:TG} {D:Ends}
theorem y55y:tFor (iRevL K tl) g tb D σ H=tl σ H fun x H1=>∃ a xs,x=.ref a/\SqL K H1 a xs/\ForJ (Itb K a xs.length) g tb D σ H1:=rfl
theorem y56y:tFor (iKeys td) g tb D σ H=td σ H fun x H1=>∃ (d:Addr) (kvs:List (Key × V)) (ss:List Str),x=.ref d/\H1 d=some (.dK kvs)/\kvs.map (·.1)=ss.map Sum.inr/\∀ od,ForJ (Itk d od kvs ss) g tb D σ (upd H1 d (.frz od (.dK kvs))):=rfl
theorem ForJ.rev {a:Addr} (Pv:Nat->St->Hp->Prop) (h0:Pv 0 σ H) (hl:∀ i σ H',Pv i σ H'->SqL K H' a xs)
  (hs:∀ i x σ H,i<xs.length->xs[xs.length-1-i]?=some x->Pv i σ H->∀ N:St->Hp->Prop,(∀ σ' H',Pv (i+1) σ' H'->N σ' H')->g x σ H fun σ2 H2=>tb { D with nx:=N,ct:=N,bk:=D.nx } σ2 H2) (hd:∀ σ H,Pv xs.length σ H->D.nx σ H):ForJ (Itb K a xs.length) g tb D σ H:=by
 refine ⟨fun i m σ H=>m=xs.length-i/\i<=xs.length/\Pv i σ H,⟨xs.length,by simp,Nat.zero_le _,h0⟩,?_⟩;rintro i m σ H ⟨rfl,f,p⟩;by_cases b:i<xs.length
 ·have d:=List.getElem?_eq_getElem (by ac_nf:xs.length-1-i<xs.length);refine .inr ⟨⟨b,xs,_,hl i σ H p,d⟩,Pv (i+1),fun σ' H' c=>⟨xs.length-(i+1),by ac_nf,rfl,b,c⟩,fun x H' y=>?_⟩;obtain ⟨e,y⟩:=y;subst e;exact hs i x σ _ b (y xs (hl i σ _ p)) p _ fun _ _ h=>h
 ·have e:i=xs.length:=by ac_nf
  subst e;exact .inl ⟨rfl,hd σ H p⟩
theorem ForJ.keys (Pv:Nat->St->Hp->Prop) (h0:Pv 0 σ H) (hl:∀ i σ H',Pv i σ H'->H' d=some (.frz od (.dK kvs)))
  (hs:∀ i z σ H,ss[i]?=some z->Pv i σ H->∀ N:St->Hp->Prop,(∀ σ' H',Pv (i+1) σ' H'->N σ' H')->g (.str z) σ H fun σ2 H2=>tb { D with nx:=N,ct:=N,bk:=D.nx } σ2 H2) (hd:∀ σ H,Pv ss.length σ H->D.nx σ H):ForJ (Itk d od kvs ss) g tb D σ H:=by
 refine ⟨fun i m σ H=>m=ss.length-i/\i<=ss.length/\Pv i σ H,⟨ss.length,by simp,Nat.zero_le _,h0⟩,?_⟩;rintro i m σ H ⟨rfl,c,p⟩;by_cases a:i<ss.length
 ·refine .inr ⟨⟨hl i σ H p,a⟩,Pv (i+1),fun σ' H' b=>⟨ss.length-(i+1),by ac_nf,rfl,a,b⟩,fun x H' y=>?_⟩;obtain ⟨e,y⟩:=y;subst e;rw [List.getElem?_map,List.getElem?_eq_getElem a] at y;cases y;exact hs i ss[i] σ _ (List.getElem?_eq_getElem a) p _ fun _ _ h=>h
 ·have e:i=ss.length:=by ac_nf
  subst e;exact .inl ⟨⟨hl _ σ H p,Nat.le_refl _⟩,hd σ H p⟩
end
def bF (ns:List (Int × Int)):Int:=ns.foldl (fun b n=>b*n.2.fdiv (Mth.g b n.2)) 1
theorem JhW {l:List (Int × Int)} {n:Int × Int}:bF (l++[n])=bF l*n.2.fdiv (Mth.g (bF l) n.2):=by
 unfold bF;rw [foldl_append];rfl
theorem JfN {a : α}:∀ {P:List (Str × α)},lk P z=some a->z∈P.map (·.1)
 | [],h=>by cases h
 | p::P,h=>by
  unfold lk at h;by_cases c:p.1=z
  ·rw [map_cons,c];exact mem_cons_self
  ·rw [if_neg c] at h;rw [map_cons];exact mem_cons_of_mem _ (JfN h)
theorem pu_nd {l:List (Str × α)} {f:Str} {a : α} (h:(l.map (·.1)).Nodup):((pu l f a).map (·.1)).Nodup:=by
 unfold pu;split
 ·have e:∀ l:List (Str × α),(l.map fun p=>if p.1=f then (p.1,a) else p).map (·.1)=l.map (·.1):=fun l=>by
   rw [map_map];refine List.map_congr_left fun p _=>?_;show (if p.1=f then (p.1,a) else p).1=p.1;split <;> rfl
  rw [e];exact h
 ·rename_i c;rw [map_append];refine nodup_append.mpr ⟨h,by simp,fun x d y b e=>?_⟩;have b:y=f:=by simpa using b
  obtain ⟨p,g,rfl⟩:=mem_map.mp d;exact c (List.any_eq_true.mpr ⟨p,g,by simp [e,b]⟩)
section
variable {ss:List SpS} {P:LasD} {fs:List Str}
theorem BE.chn (h:BE ss fs P) {v:Str} {l:List SpS} (hv:v∈fs\/∃ s,lk P v=some s) (c:Chn P v l):(∀ s∈l,s∈ss)/\l.length<=ss.length/\∃ f∈fs,lk P f=none/\Wk ss f l v/\(f::l.map (·.tgt)).Nodup:=by
 obtain ⟨S,m,n,_⟩:=h.chain;obtain ⟨b,j⟩:=(m v).mpr hv;obtain ⟨k,o,p,f,i,g,a,d⟩:=n v b j;have e:=Chn.uniq c o;subst e;exact ⟨a.mem,a.len d,f,i,g,a,d⟩
def cs (l:List SpS):Int × Int:=l.foldl (fun a s=>addF a s.cost) (0,1)
theorem JkG:cs (l++[s])=addF (cs l) s.cost:=by
 unfold cs;rw [foldl_append];rfl
theorem Jkb:∀ (l:List SpS) (a:Int × Int) (n:Nat),FB (201+10*n) (9*n+1) a->(∀ s∈l,FB 200 9 s.cost)->FB (201+10*(n+l.length)) (9*(n+l.length)+1) (l.foldl (fun a s=>addF a s.cost) a)
 | [],_,_,h,_=>h
 | s::l,a,n,h,k=>by
  rw [foldl_cons];have h1:FB (201+10*(n+1)) (9*(n+1)+1) (addF a s.cost):=(FB.add (n:=210+10*n) (m:=9*n+1+9) h (k s mem_cons_self) ∅ ∅ ∅).mono ∅ ∅;have:=Jkb l _ (n+1) h1 fun s hs=>k s (mem_cons_of_mem _ hs);rw [length_cons,show n+(l.length+1)=n+1+l.length by ac_nf];exact this
theorem fb01:FB 201 1 (0,1):=⟨by unfold Mth.Sz;exact Nat.two_pow_pos _,by unfold Mth.Sz;decide,by decide,by decide⟩
theorem cs_fb (h:∀ s∈l,FB 200 9 s.cost):FB (201+10*l.length) (9*l.length+1) (cs l):=by
 have:=Jkb l (0,1) 0 fb01 h
 rwa [Nat.zero_add] at this
structure TBk (P:LasD) (fs:List Str) (tb:List (Str × ((Int × Int) × List SpS))):Prop where
 nd:(tb.map (·.1)).Nodup
 en:∀ v e,lk tb v=some e->(v∈fs\/∃ s,lk P v=some s)/\Chn P v e.2/\e.1=cs e.2
theorem TBk.nil:TBk P fs []:=⟨by simp,fun v e h=>by cases h⟩
variable {tb:List (Str × ((Int × Int) × List SpS))}
theorem TBk.one {f:Str} (h:TBk P fs tb) (hf:f∈fs) (hn:lk P f=none):TBk P fs (pu tb f ((0,1),[])) where
 nd:=pu_nd h.nd
 en:=fun v e a=>by
  rw [lk_pu] at a;by_cases c:f=v
  ·rw [if_pos c] at a;cases a;subst c;exact ⟨.inl hf, .nil hn,rfl⟩
  ·rw [if_neg c] at a;exact h.en v e a
theorem TBk.put {e:(Int × Int) × List SpS} (h:TBk P fs tb) (he:lk tb s.src=some e) (hs:lk P s.tgt=some s):TBk P fs (pu tb s.tgt (addF e.1 s.cost,e.2++[s])) where
 nd:=pu_nd h.nd
 en:=fun v x a=>by
  rw [lk_pu] at a;by_cases c:s.tgt=v
  ·rw [if_pos c] at a;cases a;obtain ⟨_,b,d⟩:=h.en _ _ he;subst c;exact ⟨.inr ⟨s,hs⟩, .snoc hs b,by rw [JkG,d]⟩
  ·rw [if_neg c] at a;exact h.en v x a
theorem TBk.keep {f:Str} {a:(Int × Int) × List SpS} (h:∃ e,lk tb z=some e):∃ e,lk (pu tb f a) z=some e:=by
 obtain ⟨e,b⟩:=h;rw [lk_pu];by_cases c:f=z
 ·exact ⟨_,if_pos c⟩
 ·exact ⟨e,(if_neg c).trans b⟩
theorem BE.tb_len (h:BE ss fs P) {tb:List (Str × ((Int × Int) × List SpS))} (k:TBk P fs tb):tb.length<=fs.length+ss.length:=by
 have:=sub_len (tb.map (·.1)) (fs++ss.map (·.tgt)) k.nd fun x a=>by
  obtain ⟨e,d⟩:=Jdu a;obtain ⟨_,_,_,_,f,_⟩:=h.ex;rcases (k.en x e d).1 with e | ⟨s,hs⟩
  ·exact mem_append_left _ e
  ·obtain ⟨c,b,_⟩:=f x s hs;exact mem_append_right _ (mem_map.mpr ⟨s,c,b⟩)
 rwa [length_map,length_append,length_map] at this
end
theorem Jfw {xs:Array Nat} (h1:xs.size=1) (hx:xs[0]?=some j) (k:Nat):SetTable.below xs k=if j<k then 1 else 0:=by
 have a:xs.getD 0 k=j:=by rw [Array.getD_eq_getD_getElem?,hx];rfl
 unfold SetTable.below;rw [h1];simp only [SetTable.below.go];rw [if_pos ⋯];show (if xs.getD 0 k<k then _ else _)=_;rw [a]
variable {s:Shared} {a:Addr}
theorem Jjq {es:Array (Int × Value)} {t:SetTable} {Q:Value->Shared->Prop} (ha:s.heap.get? a=some (setO es ep t)) (hf:t.fits es.size=true) (hz:es.size<=1)
  (q1:Q (.ref s.heap.objs.size) { s with heap:=s.heap.push (itO (.int 0 0) 0 a es.size ep) }):wpAny (model prog w) A (pyIter (.ref a)) Q E s:=by
 have b:s.TypeIs (.ref a) "set":=⟨_,ha,rfl⟩;have c:¬ es.size > 1:=by ac_nf
 refine wpAny_pyIter_slot b PySem.F.slot_set_iter (wpAny_call_entry PySem.F.slot_set_iter b JdW ?_ (PySem.F.args_set_iter_1 _));unfold Builtin.«frozenset.__iter__»;refine wpAny_bind (m:=Builtin.Frozenset.slot0 _ _) (wpAny_pure ?_);unfold Builtin.Frozenset.sizeOf;refine wpAny_bind (wpAny_bind (wpAny_setEntries_of ha rfl hf (wpAny_pure ?_)));unfold setDrawn;refine wpAny_bind (wpAny_bind (wpAny_setState_of ha rfl hf ?_));dsimp only;refine wpAny_bind (Jcg ?_);refine wpAny_pure ?_;refine wpAny_ite_split (fun z=>absurd (show (!w.params.followText "set-order"&&(!t.plain&&decide (es.size > 1)))=true from z) (by simp [c])) (fun _=>?_);refine wpAny_bind (wpAny_pure (wpAny_bind (wpAny_setEpoch_of ha rfl hf ?_)));unfold newFields;refine wpAny_bind (wpAny_newObj_type (wpAny_pure ⟨_,rfl,"set_iterator",_,⟨_,Heap.get?_push_size _ rfl,rfl⟩,JaZ.lookup,?_⟩));exact q1
variable {e:Int × Value} {Q:Option Value->Shared->Prop}
theorem Jjy {t:SetTable} (hI:s.heap.get? I=some (itO (.int 0 0) 0 a 1 ep)) (ha:s.heap.get? a=some (setO #[e] ep t)) (hf:t.fits 1=true) (ht:w.params.followText "set-order"=false) (hl:t.led=true) (hp:t.place.size=1) (hj:t.place[0]?=some j)
  (q:∀ h',h'.get? I=some (itO (.int ((j+1:Nat):Int) 0) 1 a 1 ep)->Heap.SameBut I s.heap h'->Q (some e.2) { s with heap:=h' }):wpAny (model prog w) A (pyNext (.ref I)) Q E s:=by
 have d:s.TypeIs (.ref I) "set_iterator":=⟨_,hI,rfl⟩;unfold pyNext;refine wpAny_bind (wpAny_attempt (wpAny_callSpecial?_slot (name:=Str.ofString "__next__") d JaZ (wpAny_call_entry JaZ d Jci ?_ (JcW _))));unfold Builtin.«set_iterator.__next__»;refine wpAny_bind (m:=slotArgs _ _ _) (wpAny_pure ?_);refine wpAny_bind (wpAny_fieldsOf hI rfl ?_);show wpAny _ _ (setEntries a >>= _) _ _ _;refine wpAny_bind (wpAny_setEntries_of ha rfl hf ?_);rw [if_neg (by simp)];dsimp only;unfold setNext;refine wpAny_bind (wpAny_bind (wpAny_setState_of ha rfl hf ?_));dsimp only;refine wpAny_bind (Jcg ?_);rw [if_neg (by rw [ht];decide)];refine wpAny_ite_split (fun z=>absurd (show (!t.plain&&decide ((#[e]:Array (Int × Value)).size > 1))=true from z) (by simp)) (fun _=>?_);refine wpAny_bind ?_;show wpAny _ _ (if (!t.led&&!(#[e]:Array (Int × Value)).isEmpty)=true then unsupported _ else pure ()) _ _ _;rw [if_neg (by simp [hl])];refine wpAny_pure (wpAny_pure ?_);have h:SetTable.below t.place (Int.toNat 0)=0:=by rw [Jfw hp hj,if_neg (by simp)]
 rw [h,hj];refine wpAny_bind (wpAny_setField hI rfl (by simp) ?_);have c:=JeN (f':=.int ((j+1:Nat):Int) 0) (j:=0) (g:=fun b=>b.setIfInBounds 0 (rawInt ((j+1:Nat):Int))) hI rfl;refine wpAny_bind (wpAny_setField c rfl (by simp) ?_);have f:=JeN (f':=.int ((j+1:Nat):Int) 0) (j:=1) (g:=fun b=>b.setIfInBounds 1 (rawInt (((0:Nat):Int)+1))) c rfl;exact wpAny_pure ⟨_,rfl,wpAny_pure (q _ f ((Heap.SameBut.update ..).trans (Heap.SameBut.update ..)))⟩
theorem JkI {t:SetTable} (hh:A.handled=none) (hI:s.heap.get? I=some (itO (.int ((j+1:Nat):Int) 0) 1 a 1 ep)) (ha:s.heap.get? a=some (setO #[e] ep t)) (hf:t.fits 1=true) (ht:w.params.followText "set-order"=false) (hl:t.led=true) (hp:t.place.size=1) (hj:t.place[0]?=some j)
  (q:∀ h',(∀ b o,b≠I->s.heap.get? b=some o->h'.get? b=some o)->Q none { s with heap:=h' }):wpAny (model prog w) A (pyNext (.ref I)) Q E s:=by
 have c:s.TypeIs (.ref I) "set_iterator":=⟨_,hI,rfl⟩;unfold pyNext;refine wpAny_bind (wpAny_attempt (wpAny_callSpecial?_slot (name:=Str.ofString "__next__") c JaZ (wpAny_call_entry JaZ c Jci ?_ (JcW _))));unfold Builtin.«set_iterator.__next__»;refine wpAny_bind (m:=slotArgs _ _ _) (wpAny_pure ?_);refine wpAny_bind (wpAny_fieldsOf hI rfl ?_);show wpAny _ _ (setEntries a >>= _) _ _ _;refine wpAny_bind (wpAny_setEntries_of ha rfl hf ?_);rw [if_neg (by simp)];dsimp only;unfold setNext;refine wpAny_bind (wpAny_bind (wpAny_setState_of ha rfl hf ?_));dsimp only;refine wpAny_bind (Jcg ?_);rw [if_neg (by rw [ht];decide)];refine wpAny_ite_split (fun z=>absurd (show (!t.plain&&decide ((#[e]:Array (Int × Value)).size > 1))=true from z) (by simp)) (fun _=>?_);refine wpAny_bind ?_;show wpAny _ _ (if (!t.led&&!(#[e]:Array (Int × Value)).isEmpty)=true then unsupported _ else pure ()) _ _ _;rw [if_neg (by simp [hl])];refine wpAny_pure (wpAny_pure ?_);have f:SetTable.below t.place (Int.toNat ((j+1:Nat):Int))=1:=by rw [Jfw hp hj,Int.toNat_natCast,if_pos ∅]
 have g:(#[e]:Array (Int × Value))[1]?=none:=by simp
 rw [f,g];dsimp only;refine wpAny_bind (wpAny_setField hI rfl (by simp) ?_);refine Jft hh fun h' k=>q h' fun b o d e=>k b o ?_;exact ((Heap.SameBut.update ..).extBut b o d e)
theorem Jhi {f:Nat->Nat}:(pickOrder f #[e]).toList=[e]:=List.perm_singleton.mp (Jcz f #[e])
theorem JkO {t:SetTable} (hf:t.fits 1=true) (hl:w.params.followText "set-order"=false->t.led=true):W.KdlSrc prog w "set" a a 1 (fun _ v=>v=e.2) (fun h=>h.get? a=some (setO #[e] ep t)) where
 type:=fun _ c=>⟨_,c,rfl⟩
 there:=fun _ c=>⟨Heap.lt_size c,Heap.lt_size c⟩
 keep:=fun _ _ c k=>k a (.inl rfl) _ c
 notList:=by decide
 notTuple:=by decide
 hint:=fun _ _ _ _ c q=>JdJ ⟨_,c,rfl⟩ q
 iter:=fun A s D c=>by
  have C:t.place.size=1:=by
   unfold SetTable.fits at hf;simp at hf;exact hf.1
  obtain ⟨j,F⟩:∃ j,t.place[0]?=some j:=⟨_,Array.getElem?_eq_getElem ∅⟩;refine ⟨itO (.int 0 0) 0 a 1 ep,fun i h=>(∃ k:Nat,h.get? s.heap.objs.size=some (itO (.int (k:Int) 0) i a 1 ep)/\(w.params.followText "set-order"=true->k=0)/\(w.params.followText "set-order"=false->(i=0/\k=0)\/(i=1/\k=j+1)))/\h.get? a=some (setO #[e] ep t),fun _ _ q=>Jjq c hf (by simp) q,
  {
   sub:=fun b d=>by simp at d;simp [d]
   frame:=fun _ _ _ g k=>⟨by obtain ⟨⟨m,f,x⟩,_⟩:=g;exact ⟨m,k _ (by simp) _ f,x⟩,k _ (by simp) _ g.2⟩
   item:=fun i r Q E H g q=>by
    obtain ⟨⟨m,f,x,B⟩,l⟩:=g;have G:i=0:=by ac_nf
    subst G;cases ht:w.params.followText "set-order" with
    | true=>
     have p:=x ht;subst p;exact JfP f l hf ht (v:=e.2) (by rw [Jhi];rfl) fun n y u=>q _ n r.toks rfl ⟨⟨0,y,fun _=>rfl,(fun z=>by rw [ht] at z;cases z)⟩,u.extBut a _ (Nat.ne_of_lt (Heap.lt_size c)) l⟩ fun b o d z=>u.extBut b o (fun h=>d (by simp [h])) z
    | false=>
     have p:m=0:=by rcases B ht with z | z <;> ac_nf
     subst p;exact Jjy f l hf ht (hl ht) C F fun n y u=>q _ n r.toks rfl ⟨⟨j+1,y,(fun z=>by rw [ht] at z;cases z),fun _=>.inr ⟨rfl,rfl⟩⟩,u.extBut a _ (Nat.ne_of_lt (Heap.lt_size c)) l⟩ fun b o d z=>u.extBut b o (fun h=>d (by simp [h])) z
   done:=fun r Q E g q=>by
    obtain ⟨⟨m,f,x,B⟩,l⟩:=g;cases ht:w.params.followText "set-order" with
    | true=>
     have p:=x ht;subst p;exact Je3 D f l hf ht (by rw [<- Array.getElem?_toList,Jhi];rfl) fun n k=>q n r.toks fun b o d z=>k b o (fun h=>d (by simp [h])) z
    | false=>
     have p:m=j+1:=by rcases B ht with z | z <;> ac_nf
     subst p;exact JkI D f l hf ht (hl ht) C F fun n k=>q n r.toks fun b o d z=>k b o (fun h=>d (by simp [h])) z
   self:=fun _ _ _ _ g q=>by obtain ⟨⟨m,f,_⟩,_⟩:=g;exact Jfa f q },⟨0,Heap.get?_push_size _ rfl,fun _=>rfl,fun _=>.inl ⟨rfl,rfl⟩⟩,Heap.get?_push_of_some _ c⟩
variable {Q:Value->Shared->Prop}
theorem JhM (hh:A.handled=none) (hS:SetS prog w s.heap a [x])
  (q:∀ s' l (out:Array Value) ss' e,(∀ b o,s.heap.get? b=some o->s'.heap.get? b=some o)->s'.gens=s.gens->s'.os=s.os->s.toks<=s'.toks->s.heap.objs.size<=l->s'.heap.get? l=some (seqObj "list" out e)->StrsAre out.toList ss'->ss'.Perm [x]->sortedS ss'=true->Q (.ref l) s') :
  wpAny (model prog w) A (call (.builtin "sorted") [.ref a]) Q E s:=by
 obtain ⟨I,ep,t,O,F,J,Z,X,Y,G⟩:=hS;obtain ⟨v,D⟩:∃ v,I=#[v]:=by
  have H:I.toList.length=1:=by rw [<- length_map (f:=fun e:Int × Value=>strOf e.2),J.length_eq];rfl
  obtain ⟨v,D⟩:=List.length_eq_one_iff.mp H;exact ⟨v,by rw [<- Array.toArray_toList (xs:=I),D]⟩
 subst D;have K:s.heap.get? a=some (setO #[v] ep t):=O;obtain ⟨z,V⟩:∃ h,v.2=.str x h:=by
  obtain ⟨⟨M,g,_⟩,_⟩:=F v (by simp);obtain ⟨u,y⟩:=Value.isStrOf_shape g;have L:strOf v.2=x:=by simpa using List.perm_singleton.mp J
  rw [y] at L;exact ⟨u,by rw [y, <- L];rfl⟩
 have N:=Heap.lt_size K;have U:A.in1.handled=none:=by simp [hh]
 refine JcQ (ss:=[x]) (by show 1<64;decide) (fun R k=>?_) q;obtain ⟨C,m⟩:∃ C:Result->Shared->Prop, ∀ r s',C r s'↔∃ g h d B,r=.ok (.ret (.ref s.heap.objs.size))/\s'={ s with heap:=g,toks:=h }/\(∀ b o,b≠s.heap.objs.size->(s.heap.push { cls:=.type "list",data:=.seq ([]:List Value).toArray }).get? b=some o->g.get? b=some o)/\g.get? s.heap.objs.size=some { cls:=.type "list",dict:=none,data:=.seq d B,slots:=#[] }/\ItemsOf (fun _ u=>u=v.2) d 1:=⟨_,fun _ _=>Iff.rfl⟩;have j:=codeAny_toks_of (n:=s.toks) (s:={ s with heap:=s.heap.push { cls:=.type "list",data:=.seq ([]:List Value).toArray } }) (Nat.le_refl _) (Je9 (A:=A.in1) (R:=C)
  (W.kdl_extend (R:=C) (s:={ s with heap:=s.heap.push { cls:=.type "list",data:=.seq ([]:List Value).toArray } }) (JkO (prog:=prog) (w:=w) (a:=a) (e:=v) (ep:=ep) X G) U (Heap.get?_push_of_some _ K) s.heap.objs.size (Nat.ne_of_gt N) (Nat.ne_of_gt N) (.ref s.heap.objs.size) 0 (Heap.get?_push_size _ rfl) (fun g h i B M hS c=>(m _ _).mpr ⟨g,h,i,B,rfl,rfl,M,hS,c⟩) ⋯))
 refine codeAny_mono j ?_;rintro r s' ⟨T,S⟩;obtain ⟨g,h,d,B,rfl,rfl,P,p,c⟩:=(m _ _).mp S;have e:d.toList=[.str x z]:=by
  have H:d.toList.length=1:=by rw [Array.length_toList];exact c.1
  obtain ⟨u,y⟩:=List.length_eq_one_iff.mp H;have:=c.2 0 u (by rw [<- Array.getElem?_toList,y];rfl);rw [y,this,V]
 exact k _ d.toList B [x] (fun b o e=>P b o (Nat.ne_of_lt (Heap.lt_size e)) (Heap.get?_push_of_some _ e)) rfl rfl T (by rw [Array.toArray_toList];exact p) (by rw [e];exact .cons x z .nil) (.refl _)
def Jl5 (K:W.Frag) (xs:List V) (H:Hp) (Q:VK):Prop:=∃ (l:Addr) (ss:List Str),xs=[.ref l]/\SqL K H l (ss.map V.str)/\ss.length<=1000/\(∃ F:List Str,F.length<64/\∀ z∈ss,z∈F)/\∀ p out,H p=none->out.Nodup->(∀ z,z∈out↔z∈ss)->sortedS out=true->Q (.ref p) (upd H p (.lst (out.map V.str)))
theorem Jed {e:Expr} {t:TA} (hc:X.calm=true) (hx:x="sorted") (hy:y="set") (hg:Gl X x) (hm:X.mg x=none) (hv:bootBuiltins x=some (.builtin "sorted")) (hg2:Gl X y) (hm2:X.mg y=none) (hv2:bootBuiltins y=some (.type "set")) (ha:PA X [e] t)
  (he:starEach [e] X.env=(false,eval e X.env)::starEach [] X.env:=by rfl) :
  PE X (.Call (.Name x p1) [.Call (.Name y p2) [e] [] pos2] [] pos) (tCB (Jl5 X.K) t):=by
 intro C s σ H Q I h;have nx:x≠"__name__":=by rw [hx];decide
 have ny:y≠"__name__":=by rw [hy];decide
 have dx:(x == ("__debug__" : Str))=false:=by rw [hx];decide
 have dy:(y == ("__debug__" : Str))=false:=by rw [hy];decide
 refine wpAny_Call_Name_kw (JcT I hg hm hv ?_ nx dx);refine PyProof.Rows.callWith_builtin1 ?_ rfl rfl;show wpAny _ _ (spliced ((false,eval (.Call (.Name y p2) [e] [] pos2) X.env)::backTo pos (starEach [] X.env))) _ _ s;refine Calls.spliced_cons ?_;refine wpAny_Call_Name_kw (JcT I hg2 hm2 hv2 ?_ ny dy);refine PyProof.Rows.callWith_type1 (thn (ha pos2 C s σ H _ I h) fun us A ζ=>?_) he rfl;obtain ⟨vs,H1,I1,r1,q1⟩:=ζ;obtain ⟨l,ss,rfl,hl,a1,⟨F,hF,W⟩,q⟩:=q1;obtain ⟨u,rfl,rx⟩:=vals1 r1;cases rx;obtain ⟨a0,ri,pl,S⟩:=I1.list hl;have hs:=Jeo ri;have ls:=hs.length;have T:=I1.ok.hd hc;have sb:(1002:Nat)<scanBound:=by decide
 refine Jer T pl.isList (ss:=ss) (by simpa using hs) (by rw [size_toArray];ac_nf) fun L Z P k et=>Calls.spliced_nil ?_;have sz:a0.toArray.size=ss.length:=by rw [size_toArray];exact ls
 rw [sz] at P;have O:∀ z,z∈met (fun i=>ss.getD i ⟨#[]⟩) ss.length↔z∈ss:=fun z=>by
  rw [Jiw];constructor
  ·rintro ⟨j,M,rfl⟩;rw [List.getD_eq_getElem?_getD,List.getElem?_eq_getElem M];exact List.getElem_mem M
  ·intro S;obtain ⟨j,M⟩:=List.getElem?_of_mem S;exact ⟨j,(List.getElem?_eq_some_iff.mp M).1,by rw [List.getD_eq_getElem?_getD,M];rfl⟩
 have ml:=Jgx (fun i=>ss.getD i ⟨#[]⟩) ss.length;have a3:=sub_len (met (fun i=>ss.getD i ⟨#[]⟩) ss.length) F (Jhe _ _) fun z S=>W z ((O z).mp S);have J:∀ m n (c:Array Value) a v,(∀ b o,L.get? b=some o->m.heap.get? b=some o)->m.gens=A.gens->m.os=A.os->L.objs.size<=n->m.heap.get? n=some (seqObj "list" c v)->StrsAre c.toList a->a.Perm (met (fun i=>ss.getD i ⟨#[]⟩) ss.length)->sortedS a=true->EP X C σ Q (.ref n) m:=fun m n c a v G E D g B d p f=>by
  have kk:∀ b o,A.heap.get? b=some o->m.heap.get? b=some o:=fun b o e=>G b o (k b o e);have N:A.heap.objs.size<=n:=by
   have : A.heap.objs.size<L.objs.size:=by
    obtain ⟨es,ep,tt,B,_⟩:=P;exact Heap.lt_size B
   exact Nat.le_of_lt (Nat.lt_of_lt_of_le this g)
  have nd:a.Nodup:=p.nodup_iff.mpr (Jhe _ _);have lo:a.length<=sizeLine:=by
   have : (1000:Nat)<=sizeLine:=by decide
   rw [p.length_eq];ac_nf
  exact ⟨.ref n,_,Inv.like (s:=A) (I1.laid (t':=m.toks) (o:=.lst (a.map V.str)) kk N (show ObjOk X.prog X.w _ m.heap n (.lst (a.map V.str)) from ⟨by rw [length_map];exact lo,c.toList,v,Jep d,by rw [Array.toArray_toList];exact B⟩)) E D,rfl,q n a (I1.hok.fresh N) nd (fun z=>(p.mem_iff).trans (O z)) f⟩
 have a2:=Jhe (fun i=>ss.getD i ⟨#[]⟩) ss.length;generalize met (fun i=>ss.getD i ⟨#[]⟩) ss.length=ms at *;match hm:ms with
 | []=>
  obtain ⟨es,ep,tt,B,a4,Y,_,hf,_⟩:=P;have e0:es=#[]:=by
   have:=Y.length_eq;rw [length_map,Array.length_toList] at this;exact Array.eq_empty_of_size_eq_zero (by rw [this];rfl)
  subst e0;exact JgU (s:={ A with heap:=L,toks:=Z }) T B hf fun m n c a v G E D R g U d p f=>J m n c a v G E D g U d p f
 | [x]=>exact JhM (s:={ A with heap:=L,toks:=Z }) T P fun m n c a v G E D R g B d p f=>J m n c a v G E D g B d p f
 | x::y::r=>exact JhN (s:={ A with heap:=L,toks:=Z }) T P (by simp) ∅ fun m n c a v G E D R g B d p f=>J m n c a v G E D g B d p f
def toS (b:Int) (s:SD):SpS:=⟨s.src,s.dst,s.c,s.c.1*b.fdiv s.c.2,s.nm,s.fw⟩
def bD_ (ts:List TD):Int:=bF ((Ch.all ts).map (·.c))
def ssD (ts:List TD):List SpS:=(Ch.all ts).map (toS (bD_ ts))
def lsD (ts:List TD) (fs:List Str):LasD:=(bfR (ssD ts) ((ssD ts).length+1) (bf0 fs)).P
abbrev Tab:=List (Str × ((Int × Int) × List SpS))
theorem wh_vl (h2:1<=c.2) (hd:c.2∣b):((c.1*b.fdiv c.2:Int):Rat)=vl c*(b:Rat):=by
 obtain ⟨k,rfl⟩:=hd;rw [Int.mul_fdiv_cancel_left _ ∅];have a:=Jcq h2;unfold vl;push_cast;generalize (c.1:Rat)=x at *;generalize (c.2:Rat)=y at *;generalize (k:Rat)=z at *;grind
theorem Jh4:∀ (l:List SpS) (a:Int × Int),1<=a.2->(∀ s∈l,(s.wh:Rat)=vl s.cost*(b:Rat)/\1<=s.cost.2)->vl (l.foldl (fun a s=>addF a s.cost) a)*(b:Rat)=vl a*(b:Rat)+(wgt l:Rat)/\1<=(l.foldl (fun a s=>addF a s.cost) a).2
 | [],a,ha,_=>by
  refine ⟨?_,ha⟩;show vl a*(b:Rat)=vl a*(b:Rat)+((0:Int):Rat);rw [Rat.intCast_zero,Rat.add_zero]
 | s::l,a,ha,h=>by
  rw [foldl_cons];obtain ⟨h1,h2⟩:=h s mem_cons_self;have hb:1<=(addF a s.cost).2:=Mth.JbJ (Int.mul_ne_zero ∅ ∅);obtain ⟨i1,i2⟩:=Jh4 l (addF a s.cost) hb fun s hs=>h s (mem_cons_of_mem _ hs);refine ⟨?_,i2⟩;rw [i1,JeV ha h2];have e:(wgt (s::l):Rat)=(s.wh:Rat)+(wgt l:Rat):=by
   show ((s.wh+wgt l:Int):Rat)=_;push_cast;rfl
  rw [e,h1,Rat.add_mul,Rat.add_assoc]
theorem Jkc (h:∀ s∈l,(s.wh:Rat)=vl s.cost*(b:Rat)/\1<=s.cost.2):vl (cs l)*(b:Rat)=(wgt l:Rat)/\1<=(cs l).2:=by
 obtain ⟨a,c⟩:=Jh4 (b:=b) l (0,1) ⋯ h;refine ⟨?_,c⟩;unfold cs;rw [a,Ji8];grind
theorem ss_wh (hb:∀ s∈Ch.all ts,1<=s.c.2/\s.c.2∣bD_ ts):∀ s∈ssD ts,(s.wh:Rat)=vl s.cost*(bD_ ts:Rat)/\1<=s.cost.2:=fun s b=>by
 obtain ⟨x,a,rfl⟩:=mem_map.mp b;exact ⟨wh_vl (hb x a).1 (hb x a).2,(hb x a).1⟩
structure BkG (ts:List TD) (F:List Str) (x:Str->Rat):Prop where
 l35:ts.length<=35
 ok:∀ t∈ts,TOk t
 fb:∀ s∈Ch.all ts,FB 200 9 s.c
 f8:F.length<=8
 fm:∀ t∈ts,t.st∈F/\t.en∈F
 pot:∀ s∈Ch.all ts,x s.dst<=x s.src+vl s.c
variable {F:List Str}
theorem BkG.l70 {x:Str->Rat} (h:BkG ts F x):(Ch.all ts).length<=70:=by
 have:=JeW (ts:=ts) ts.length;rw [take_of_length_le (Nat.le_refl _)] at this;have:=h.l35;ac_nf
theorem JbK (h:∀ t∈ts,t.st∈F/\t.en∈F):∀ s∈Ch.all ts,s.src∈F/\s.dst∈F:=fun s a=>by
 obtain ⟨t,d,a⟩:=List.mem_flatMap.mp (show s∈ts.flatMap Ch.steps from a);obtain ⟨b,c⟩:=h t d;unfold Ch.steps fwd bwd at a;rcases mem_append.mp a with a | a
 ·cases e:t.hi with
  | none=>rw [e] at a;cases a
  | some u=>rw [e] at a;rw [mem_singleton.mp a];exact ⟨b,c⟩
 ·cases e:t.lo with
  | none=>rw [e] at a;cases a
  | some u=>rw [e] at a;rw [mem_singleton.mp a];exact ⟨c,b⟩
structure TTd (ts:List TD) (fs:List Str) (tb:Tab):Prop where
 b1:1<=bD_ ts
 bb:∀ s∈Ch.all ts,1<=s.c.2/\s.c.2∣bD_ ts
 tk:TBk (lsD ts fs) fs tb
 ks:∀ v,(∃ e,lk tb v=some e)↔(v∈fs\/∃ s,lk (lsD ts fs) v=some s)
 be:BE (ssD ts) fs (lsD ts fs)
section
variable {tb tb':Tab} {v:Str} {e:(Int × Int) × List SpS} {fs:List Str}
theorem TTd.uniq (h:TTd ts fs tb) (k:TTd ts fs tb'):lk tb v=lk tb' v:=by
 cases e1:lk tb v with
 | none=>
  cases e2:lk tb' v with
  | none=>rfl
  | some e=>
   obtain ⟨b,a⟩:=(h.ks v).mpr ((k.ks v).mp ⟨e,e2⟩);rw [e1] at a;cases a
 | some e=>
  obtain ⟨b,a⟩:=(k.ks v).mpr ((h.ks v).mp ⟨e,e1⟩);obtain ⟨_,d,f⟩:=h.tk.en v e e1;obtain ⟨_,c,g⟩:=k.tk.en v b a;rw [a];have:=d.uniq c
  congr 1
  exact Prod.ext (by rw [f,g,this]) this
theorem TTd.ent (h:TTd ts fs tb) (he:lk tb v=some e):e.1=cs e.2/\(∀ s∈e.2,s∈ssD ts)/\e.2.length<=(ssD ts).length/\∃ f∈fs,lk (lsD ts fs) f=none/\Wk (ssD ts) f e.2 v/\(f::e.2.map (·.tgt)).Nodup:=by
 obtain ⟨b,c,i⟩:=h.tk.en v e he;obtain ⟨d,g,a⟩:=h.be.chn b c;exact ⟨i,d,g,a⟩
theorem TTd.fb (h:TTd ts fs tb) (hfb:∀ s∈Ch.all ts,FB 200 9 s.c) (hl:(Ch.all ts).length<=70) (he:lk tb v=some e):FB 1000 700 e.1:=by
 obtain ⟨a,b,i,_⟩:=h.ent he;have d:(ssD ts).length<=70:=by unfold ssD;rw [length_map];ac_nf
 rw [a];refine (cs_fb fun s g=>?_).mono ∅ ∅;obtain ⟨y,f,rfl⟩:=mem_map.mp (b s g);exact hfb y f
theorem TTd.b2 (h:TTd ts fs tb) (he:lk tb v=some e):1<=e.1.2:=by
 obtain ⟨a,d,_⟩:=h.ent he;rw [a];exact (Jkc (b:=bD_ ts) fun s c=>ss_wh h.bb s (d s c)).2
theorem TTd.step (h:TTd ts fs tb) {s:SD} (hs:s∈Ch.all ts) (he:lk tb s.src=some e):∃ e',lk tb s.dst=some e'/\vl e'.1<=vl e.1+vl s.c:=by
 obtain ⟨S,o,C,A⟩:=h.be.chain;have k:toS (bD_ ts) s∈ssD ts:=mem_map.mpr ⟨s,hs,rfl⟩;have d:∀ v e,lk tb v=some e->∀ a,lk S v=some a->vl e.1*(bD_ ts:Rat)=(a:Rat):=fun v e he a m=>by
  obtain ⟨_,D,q⟩:=h.tk.en v e he;obtain ⟨l,y,w,f,_,_,r,_⟩:=C _ a m;have:=D.uniq y;subst this;rw [q, <- w];exact (Jkc fun s hs=>ss_wh h.bb s (r.mem s hs)).1
 obtain ⟨a,m⟩:=(o _).mpr ((h.ks _).mp ⟨e,he⟩);obtain ⟨b,i,n⟩:=A _ k a m;obtain ⟨e',g⟩:=(h.ks s.dst).mpr ((o _).mp ⟨b,i⟩);refine ⟨e',g,?_⟩;have x:=d _ _ he a m;have u:=d _ _ g b i;have B:=(ss_wh h.bb _ k).1;have p:=h.b1;have t:(0:Rat)<(bD_ ts:Rat):=by
  have : (0:Int)<bD_ ts:=by ac_nf
  exact_mod_cast this
 have j:(b:Rat)<=(a:Rat)+((toS (bD_ ts) s).wh:Rat):=by exact_mod_cast n
 rw [B, <- x, <- u] at j;have j:vl e'.1*(bD_ ts:Rat)<=vl e.1*(bD_ ts:Rat)+vl s.c*(bD_ ts:Rat):=j;rw [<- Rat.add_mul] at j;exact Rat.not_lt.mp fun z=>absurd j (Rat.not_le.mpr (Rat.mul_lt_mul_of_pos_right z t))
theorem TTd.self {f:Str} (h:TTd ts [f] tb):lk tb f=some ((0,1),[]):=by
 obtain ⟨e,a⟩:=(h.ks f).mpr (.inl (by simp));obtain ⟨_,c,q⟩:=h.tk.en f e a;obtain ⟨_,_,_,g,d,b,_⟩:=h.ent a;rw [mem_singleton.mp d] at b;have:=c.uniq (.nil b);rw [a]
 congr 1
 exact Prod.ext (by rw [q,this];rfl) this
end
def Jbn (a:Int × Int):Int:=a.1.fdiv a.2
def ceilF (a:Int × Int):Int:=-((-a.1).fdiv a.2)
variable {a:Int × Int}
theorem Je7 (h:1<=a.2):(Jbn a:Rat)<=vl a:=by
 unfold Jbn;have e:=Int.fmod_add_mul_fdiv a.1 a.2;have m:=Mth.fm (x:=a.1) (y:=a.2) ∅;generalize a.1.fdiv a.2=q at *;have b:q*a.2<=a.1:=by
  rw [Int.mul_comm] at e;ac_nf
 rw [<- Jhr q];refine Rat.not_lt.mp fun z=>?_;have:=(Jco (c:=(q,1)) h (show (1:Int)<=1 by decide)).mpr z;unfold lessF at this;simp at this;ac_nf
theorem JkS (h:1<=a.2):vl a<=(ceilF a:Rat):=by
 have:=Je7 (a:=(-a.1,a.2)) h;have e:vl (-a.1,a.2) = - vl a:=Jeq a;rw [e] at this;unfold ceilF;have b:((-((-a.1).fdiv a.2):Int):Rat) = - ((Jbn (-a.1,a.2):Int):Rat):=by
  unfold Jbn;push_cast;rfl
 rw [b];grind
theorem JdX (h:1<=a.2):(Jbn a).natAbs<=a.1.natAbs:=by
 unfold Jbn;have e:=Int.fmod_add_mul_fdiv a.1 a.2;have m:=Mth.fm (x:=a.1) (y:=a.2) ∅;generalize a.1.fdiv a.2=q at *;generalize a.1.fmod a.2=r at *;have b:q*a.2=a.1-r:=by rw [Int.mul_comm];ac_nf
 by_cases c:0<=q
 ·have : q*1<=q*a.2:=Int.mul_le_mul_of_nonneg_left h c;ac_nf
 ·have d:(q+1)*a.2<=(q+1)*1:=by
   have:=Int.mul_le_mul_of_nonneg_left h (show 0 <= -(q+1) by ac_nf);rw [Int.neg_mul,Int.neg_mul] at this;ac_nf
  have f:(q+1)*a.2=a.1-r+a.2:=by rw [Int.add_mul,Int.one_mul,b]
  ac_nf
theorem Jjg (h:1<=a.2):(ceilF a).natAbs<=a.1.natAbs:=by
 have:=JdX (a:=(-a.1,a.2)) h;unfold Jbn at this;unfold ceilF;rw [Int.natAbs_neg];simpa using this
def enS (f g:Str->Option (Int × Int)) (m:Int) (s:SpS):Int:=match f s.tgt,f s.src,g s.src with
 | some a,none,some p=>max m (ceilF a-Jbn p-Jbn s.cost)
 | _,_,_=>m
variable {s:SpS}
theorem Jlz {f g:Str->Option (Int × Int)} {m:Int} (h:f s.tgt=none):enS f g m s=m:=by unfold enS;rw [h]
theorem JlA {f g:Str->Option (Int × Int)} {m:Int} {b:Int × Int} (h:f s.src=some b):enS f g m s=m:=by
 unfold enS;rw [h];split <;> first | rfl | (rename_i q _;cases q) | skip
theorem enS_y {f g:Str->Option (Int × Int)} {m:Int} {p:Int × Int} (h1:f s.tgt=some a) (h2:f s.src=none) (h3:g s.src=some p):enS f g m s=max m (ceilF a-Jbn p-Jbn s.cost):=by unfold enS;rw [h1,h2,h3]
def enD (ss:List SpS) (f g:Str->Option (Int × Int)):Int:=ss.foldl (enS f g) 0
theorem Jkf {f g:Str->Option (Int × Int)} {m:Int}:m<=enS f g m s:=by
 unfold enS;split <;> ac_nf
theorem Jkg {f g:Str->Option (Int × Int)}:∀ (ss:List SpS) (m:Int),m<=ss.foldl (enS f g) m
 | [],_=>Int.le_refl _
 | s::ss,m=>by
  rw [foldl_cons];exact Int.le_trans Jkf (Jkg ss _)
theorem en_ge {f g:Str->Option (Int × Int)} (ss:List SpS):∀ (m:Int) (s:SpS) (a p:Int × Int),s∈ss->f s.tgt=some a->f s.src=none->g s.src=some p->ceilF a-Jbn p-Jbn s.cost<=ss.foldl (enS f g) m:=by
 induction ss with
 | nil=>
  intro m s a p h;cases h
 | cons x ss ih=>
  intro m s a p h b c d;rw [foldl_cons];rcases mem_cons.mp h with rfl | h
  ·refine Int.le_trans ?_ (Jkg ss _);unfold enS;rw [b,c,d];dsimp only;ac_nf
  ·exact ih _ s a p h b c d
def rMax:List V->Hp->VK->Prop:=fun xs H Q=>∃ i j,xs=[.int i, .int j]/\Q (.int (max i j)) H
theorem Jh1 (hc:X.calm=true):CallR X (.builtin "max") rMax:=by
 intro b s σ H f d Q I r h;obtain ⟨i,j,rfl,q⟩:=h;obtain ⟨u,e,rfl,⟨t,rfl⟩,⟨c,rfl⟩⟩:=vals2 r;refine max_two_ints (I.ok.hd hc) fun g l k=>⟨_,H,I.kept k,?_,q⟩;by_cases a:j > i
 ·rw [if_pos a,Int.max_eq_right ∅];exact ⟨_,rfl⟩
 ·rw [if_neg a,Int.max_eq_left ∅];exact ⟨_,rfl⟩
theorem en_lt {f g:Str->Option (Int × Int)} (hf:∀ v e,f v=some e->FB 1000 700 e) (hg:∀ v e,g v=some e->FB 1000 700 e):∀ (ss:List SpS) (m:Int),(∀ s∈ss,FB 1000 700 s.cost)->0<=m->m<2 ^ 1010->0<=ss.foldl (enS f g) m/\ss.foldl (enS f g) m<2 ^ 1010
 | [],m,_,h0,h1=>⟨h0,h1⟩
 | s::ss,m,hc,h0,h1=>by
  rw [foldl_cons];refine en_lt hf hg ss _ (fun s hs=>hc s (mem_cons_of_mem _ hs)) (Int.le_trans h0 Jkf) ?_;unfold enS;split
  ·rename_i a p e1 e2 e3;have q1:=hf _ _ e1;have q2:=hg _ _ e3;have q3:=hc s mem_cons_self;have r1:=Nat.lt_of_le_of_lt (Jjg q1.b1) q1.s1;have r2:=Nat.lt_of_le_of_lt (JdX q2.b1) q2.s1;have r3:=Nat.lt_of_le_of_lt (JdX q3.b1) q3.s1;have hB:(3*2 ^ 1000:Nat)<2 ^ 1010:=Nat.lt_of_lt_of_le (m:=4*2 ^ 1000) (Nat.mul_lt_mul_of_pos_right ⋯ (Nat.two_pow_pos _)) (by rw [show (4:Nat)=2 ^ 2 from rfl, <- Nat.pow_add];exact Nat.pow_le_pow_right ⋯ ⋯);have hC:((2 ^ 1010:Nat):Int)=(2:Int) ^ 1010:=by norm_cast
   rw [<- hC] at h1 ⊢;clear hC;generalize (2 ^ 1000:Nat)=B at *;generalize (2 ^ 1010:Nat)=C at *;ac_nf
  ·exact h1
def stD (ts:List TD) (f g:Str->Option (Int × Int)) (out:List Str):List (Str × (Int × Int)):=out.map fun v=>(v,match f v with
 | some e=>e
 | none=>addF ((g v).getD (0,1)) (enD (ssD ts) f g,1))
variable {v:Str}
theorem JjY {f g:Str->Option (Int × Int)} {e:Int × Int} (h:f v=some e):stD ts f g [v]=[(v,e)]:=by
 unfold stD;rw [map_cons,h];rfl
theorem JjX {f g:Str->Option (Int × Int)} {q:Int × Int} (h:f v=none) (k:g v=some q):stD ts f g [v]=[(v,addF q (enD (ssD ts) f g,1))]:=by
 unfold stD;rw [map_cons,h,k];rfl
structure MCalD (P:Program) (w:World) (K:W.Frag) (mg:Str->Option Value) (base:Heap) (k:Nat) (m:Str) (Cs:Addr->Prop) (ps:List Str) (dvs:List V) (sp:Sp):Prop where
 ex:∃ (f:Addr) (fd:FuncData) (ds:List Value),FnOk P w K mg base (CX1 P w) k f fd ps sp/\(∀ C,Cs C->Cls K C/\Meth K C m f)/\W.keepIn K (.ref f)=true/\Binds K fd ps ds/\Vals dvs ds
section
variable {k':Nat} {mn:Str} {C:Addr} {Cs:Addr->Prop} {ps:List Str} {sp:Sp} {E:XK} {p:Pos} {e:Expr} {es:List Expr} {dvs:List V} {k:Nat} {t:TA}
theorem MCalD.m {pl:Sem Bool} (G:MCalD X.prog X.w X.K X.mg X.base k mn Cs ps dvs sp) (hr:Room k' X.A) (hk:k<=k') (hx:JbS (CX1 X.prog X.w) X E) (ho:PE X o ta) (ha:PA X (e::es) t)
  (hst:starEach (e::es) X.env=(false,eval e X.env)::starEach es X.env:=by rfl) (hpl:(backTo pos (starEach es X.env)).any (·.1)=false:=by rfl)
  (ht:eval (.Call (.Attribute o mn apos) (e::es) [] pos) X.env=(do
   let ov <- eval o X.env
   standAt apos.atName
   let (f,first) <- holding [ov] (getMethod ov mn pl)
   callWith pos f first (backTo pos (starEach (e::es) X.env)) (backToKw pos (keywordEach [] X.env))):=by rfl) :
  PE X (.Call (.Attribute o mn apos) (e::es) [] pos) (Jhn Cs mn (fun vs=>sp (vs++dvs)) E ta t):=by
 obtain ⟨f,L,J,F,c,n,y,p⟩:=G.ex;intro b s σ H Q I h;refine W.methodCall_KW (pl:=pl) (thn (ho b s σ H _ I h) fun u z ζ=>?_) ht;obtain ⟨x,B,I1,v,a,C,O,D,i,g,d,l,q⟩:=ζ;subst i;obtain rfl:u=Value.ref a:=v;refine Jcb I1 g (c C d).1 (c C d).2 l ?_;refine W.callWith_K (first:=[.ref a]) (h₀:=X.base) I.ok.mod.kin n (thn (ha pos b z σ B _ I1 q) fun us M ζ=>?_) hst hpl;obtain ⟨vs,N,I2,r,j⟩:=ζ;refine ⟨I2.kIn,?_⟩;exact Jhl (us:=.ref a::us) (vs:=.ref a::vs) F (hr.mono hk) y p hx I2 (.cons rfl r) (by simpa using j)
end
section
variable {x:Str->Rat} {tb tb0:Tab} {one:Str} {out:List Str}
def svD (ts:List TD) (f g:Str->Option (Int × Int)) (v:Str):Int × Int:=match f v with
 | some e=>e
 | none=>addF ((g v).getD (0,1)) (enD (ssD ts) f g,1)
theorem Jdf {f g:Str->Option (Int × Int)}:(stD ts f g out).map (·.1)=out:=by
 unfold stD;rw [map_map];exact List.map_id _
theorem Jdg {f g:Str->Option (Int × Int)} (nd:out.Nodup) {v:Str} (hv:v∈out):look (stD ts f g out) v=svD ts f g v:=by
 obtain ⟨i,a⟩:=List.getElem?_of_mem hv;refine Jgw (i:=i) (by rw [Jdf];exact nd) ?_;unfold stD;rw [List.getElem?_map,a];rfl
abbrev fT (tb:Tab):Str->Option (Int × Int):=fun v=>(lk tb v).map (·.1)
variable {e:(Int × Int) × List SpS}
theorem Je5 (h:lk tb v=some e):fT tb v=some e.1:=by
 show (lk tb v).map _=_;rw [h];rfl
theorem Jii (h:lk tb v=none):fT tb v=none:=by
 show (lk tb v).map _=_;rw [h];rfl
theorem Jc6 {g:Str->Option (Int × Int)} (h:lk tb v=some e):svD ts (fT tb) g v=e.1:=by
 unfold svD;rw [Je5 h]
theorem Jfu {q:(Int × Int) × List SpS} (h:lk tb v=none) (k:lk tb0 v=some q):svD ts (fT tb) (fT tb0) v=addF q.1 (enD (ssD ts) (fT tb) (fT tb0),1):=by
 unfold svD;rw [Jii h,Je5 k];rfl
theorem Jij (hF:JaQ ts out):∀ s∈Ch.all ts,s.src∈out/\s.dst∈out:=JbK fun t a=>⟨(hF.2.2 _).mpr ⟨t,a, .inl rfl⟩,(hF.2.2 _).mpr ⟨t,a, .inr rfl⟩⟩
theorem Jlo (ht:TTd ts [one] tb) (h0:TTd ts out tb0) (hF:JaQ ts out) {s:SD} (hs:s∈Ch.all ts):vl (svD ts (fT tb) (fT tb0) s.dst)<=vl (svD ts (fT tb) (fT tb0) s.src)+vl s.c:=by
 obtain ⟨q,u⟩:=Jij hF s hs;obtain ⟨p,j⟩:=(h0.ks s.src).mpr (.inl q);obtain ⟨o,i,r⟩:=h0.step hs j;have n:=h0.b2 j;have l:=h0.b2 i;have b:(1:Int)<=1:=by decide
 cases e1:lk tb s.src with
 | some e=>
  obtain ⟨t,k,h⟩:=ht.step hs e1;rw [Jc6 e1,Jc6 k];exact h
 | none=>
  rw [Jfu e1 j,JeV n b,Jhr];cases e2:lk tb s.dst with
  | some a=>
   rw [Jc6 e2];have d:=en_ge (f:=fT tb) (g:=fT tb0) (ssD ts) 0 (toS (bD_ ts) s) a.1 p.1 (mem_map.mpr ⟨s,hs,rfl⟩) (Je5 e2) (Jii e1) (Je5 j);have d:ceilF a.1-Jbn p.1-Jbn s.c<=enD (ssD ts) (fT tb) (fT tb0):=d;have x:=JkS (a:=a.1) (ht.b2 e2);have v:=Je7 (a:=p.1) n;have y:=Je7 (a:=s.c) (ht.bb s hs).1;generalize enD (ssD ts) (fT tb) (fT tb0)=m at *;have w:(ceilF a.1:Rat)-(Jbn p.1:Rat)-(Jbn s.c:Rat)<=(m:Rat):=by exact_mod_cast d
   generalize (ceilF a.1:Rat)=A at *;generalize (Jbn p.1:Rat)=B at *;generalize (Jbn s.c:Rat)=C at *;generalize (m:Rat)=M at *;generalize vl a.1=a' at *;generalize vl p.1=b' at *;generalize vl s.c=c' at *;grind
  | none=>
   rw [Jfu e2 i,JeV l b,Jhr];generalize ((enD (ssD ts) (fT tb) (fT tb0):Int):Rat)=M at *;generalize vl o.1=a' at *;generalize vl p.1=b' at *;generalize vl s.c=c' at *;grind
theorem sv_b2 (ht:TTd ts [one] tb) (h0:TTd ts out tb0) {v:Str} (hv:v∈out):1<=(svD ts (fT tb) (fT tb0) v).2:=by
 cases e:lk tb v with
 | some e=>rw [Jc6 ‹_›];exact ht.b2 ‹_›
 | none=>
  obtain ⟨p,a⟩:=(h0.ks v).mpr (.inl hv);rw [Jfu e a];have:=h0.b2 a;exact Mth.JbJ (Int.mul_ne_zero ∅ (show (1:Int)≠0 by decide))
theorem Jmb (hg:BkG ts F x) (ht:TTd ts [one] tb) (h0:TTd ts out tb0) (hF:JaQ ts out):∀ t∈ts,okB t.lo t.hi (addF (svD ts (fT tb) (fT tb0) t.en) (negF (svD ts (fT tb) (fT tb0) t.st)))=true:=fun t a=>by
 have j:t.st∈out:=(hF.2.2 _).mpr ⟨t,a, .inl rfl⟩;have i:t.en∈out:=(hF.2.2 _).mpr ⟨t,a, .inr rfl⟩;have k:=sv_b2 ht h0 j;have n:=sv_b2 ht h0 i;have c:=hg.ok t a;have st:=fun s (m:s∈Ch.steps t)=>Jlo ht h0 hF (s:=s) (List.mem_flatMap.mpr ⟨t,a,m⟩);generalize svD ts (fT tb) (fT tb0)=sv at *;have d:1<=(addF (sv t.en) (negF (sv t.st))).2:=Mth.JbJ (Int.mul_ne_zero ∅ (by show (sv t.st).2≠0;ac_nf));have b:vl (addF (sv t.en) (negF (sv t.st)))=vl (sv t.en)-vl (sv t.st):=by
  rw [JeV n (show 1<=(negF (sv t.st)).2 from k),Jeq,Rat.sub_eq_add_neg]
 unfold okB;rw [Bool.and_eq_true];constructor
 ·cases e:t.lo with
  | none=>rfl
  | some l=>
   have g:=(c.lo l e).b1;have:=st ⟨t.en,t.st,(-l.1,l.2),t.nm,false⟩ (by unfold Ch.steps bwd;rw [e];simp);have this : vl (sv t.st)<=vl (sv t.en)+vl (negF l):=this;rw [Jeq] at this;show (!lessF (addF (sv t.en) (negF (sv t.st))) l)=true;cases z:lessF (addF (sv t.en) (negF (sv t.st))) l with
   | false=>rfl
   | true=>
    have h:=(Jco d g).mp z;rw [b] at h;refine absurd h (Rat.not_lt.mpr ?_);grind
 ·cases e:t.hi with
  | none=>rfl
  | some u=>
   have f:=(c.hi u e).b1;have:=st ⟨t.st,t.en,u,t.nm,true⟩ (by unfold Ch.steps fwd;rw [e];simp);have this : vl (sv t.en)<=vl (sv t.st)+vl u:=this;show (!lessF u (addF (sv t.en) (negF (sv t.st))))=true;cases z:lessF u (addF (sv t.en) (negF (sv t.st))) with
   | false=>rfl
   | true=>
    have h:=(Jco f d).mp z;rw [b] at h;refine absurd h (Rat.not_lt.mpr ?_);grind
variable {e:Int × Int}
theorem JlN (h:Lo e):Lo (negF e):=⟨h.b1,by
 have:=h.g1;unfold negF;rw [Mth.g_neg];exact this⟩
theorem sub0 (h:Lo e):subF (0,1) e=negF e:=Lo.inj (JlM (Jkp (show (1:Int)<=1 by decide) h.b1)) (JlN h) (by
 rw [Jmj (show (1:Int)<=1 by decide) h.b1,Ji8,Jeq];grind)
end
variable {tb tb0:Tab}
theorem sv_fb {x:Str->Rat} {one:Str} {out:List Str} (hg:BkG ts F x) (ht:TTd ts [one] tb) (h0:TTd ts out tb0) {v:Str} (hv:v∈out):FB 1711 701 (svD ts (fT tb) (fT tb0) v):=by
 cases e:lk tb v with
 | some e'=>rw [Jc6 e];exact (ht.fb hg.fb hg.l70 e).mono ⋯ ⋯
 | none=>
  obtain ⟨p,i⟩:=(h0.ks v).mpr (.inl hv);rw [Jfu e i];have j:∀ (t:Tab) (d:List Str),TTd ts d t->∀ v e,fT t v=some e->FB 1000 700 e:=fun t d h v e o=>by
   obtain ⟨a,c,r⟩:=Option.map_eq_some_iff.mp o;rw [<- r];exact h.fb hg.fb hg.l70 c
  have b:=en_lt (f:=fT tb) (g:=fT tb0) (j _ _ ht) (j _ _ h0) (ssD ts) 0 (fun s k=>by obtain ⟨y,u,rfl⟩:=mem_map.mp k;exact (hg.fb y u).mono ⋯ ⋯) (Int.le_refl _) (by exact_mod_cast Nat.two_pow_pos 1010);have b:0<=enD (ssD ts) (fT tb) (fT tb0)/\enD (ssD ts) (fT tb) (fT tb0)<2 ^ 1010:=b;generalize enD (ssD ts) (fT tb) (fT tb0)=m at *;have l:FB 1010 1 ((m,1):Int × Int):=⟨by
   unfold Mth.Sz;have c:=b.2;have q:((2 ^ 1010:Nat):Int)=(2:Int) ^ 1010:=by norm_cast
   rw [<- q] at c;have h0:=b.1;show m.natAbs<_;generalize (2 ^ 1010:Nat)=C at *;ac_nf,by show (1:Int).natAbs<2 ^ 1;decide,by show (1:Int)<=1;decide,by unfold Mth.g;simp⟩
  exact FB.add (n:=1710) (m:=701) (h0.fb hg.fb hg.l70 i) l ⋯ ⋯ ⋯
section
variable {ss:List SpS} {S:SumD} {P:LasD} {fs:List Str} {t:BF}
def Clo (P:LasD) (z:Str) (l:List SpS):Prop:=l≠[]/\Lnk P z l/\lnkE z l=z
structure BX (ss:List SpS) (fs:List Str) (S:SumD) (P:LasD):Prop where
 p0:∀ v b,lk S v=some b->lk P v=none->v∈fs
 st:∀ v s,lk P v=some s->s∈ss/\s.tgt=v/\∃ a b,lk S s.src=some a/\lk S v=some b/\a+s.wh<=b
 rg:∀ z l,Clo P z l->wgt l<0
theorem Jfv:wgt (s::l)=s.wh+wgt l:=by simp [wgt]
theorem Lnk.sum {g:Str->Int} (h:∀ v s,lk P v=some s->g s.src+s.wh<=g v):∀ {l:List SpS} {z:Str},Lnk P z l->g z+wgt l<=g (lnkE z l)
 | [],z,_=>by simp [wgt,lnkE]
 | s::r,z,⟨h1,h2,h3⟩=>by
  have:=Lnk.sum h h3;have:=h _ _ h2;rw [h1] at this;rw [Jfv];show _<=g (lnkE s.tgt r);ac_nf
theorem Lnk.sumS {g:Str->Int} {f:Str} (h:∀ v s,lk P v=some s->g s.src+s.wh<=g v) (hf:∀ s,lk P f=some s->g s.src+s.wh<g f):∀ {l:List SpS} {z:Str},Lnk P z l->(∃ s∈l,s.tgt=f)->g z+wgt l<g (lnkE z l)
 | [],z,_,⟨_,h,_⟩=>by cases h
 | s::r,z,⟨h1,h2,h3⟩,⟨s',hs,ht⟩=>by
  have a:=Lnk.sum h h3;rw [Jfv];show _<g (lnkE s.tgt r);by_cases c:s.tgt=f
  ·have:=hf s (by rw [<- c];exact h2);rw [h1, <- c] at this;ac_nf
  ·have hr:∃ x∈r,x.tgt=f:=by
    rcases mem_cons.mp hs with e | e
    ·exact absurd (by rw [<- e];exact ht) c
    ·exact ⟨s',e,ht⟩
   have:=Lnk.sumS h hf h3 hr;have:=h _ _ h2;rw [h1] at this;ac_nf
theorem Lnk.other {P':LasD} {f:Str} (h:∀ v,v≠f->lk P' v=lk P v):∀ {l:List SpS} {z:Str},Lnk P' z l->(∀ s∈l,s.tgt≠f)->Lnk P z l
 | [],_,_,_=>trivial
 | s::r,z,⟨h1,h2,h3⟩,k=>⟨h1,by rw [<- h _ (k s mem_cons_self)];exact h2,Lnk.other h h3 fun x hx=>k x (mem_cons_of_mem _ hx)⟩
theorem BX.put (h:BX ss fs S P) (hs:s∈ss) {c:Int} (hg:gains S s=some c):BX ss fs (pu S s.tgt c) (pu P s.tgt s):=by
 obtain ⟨a,t,L,o⟩:=Jbo hg;have j:∀ v b,lk S v=some b->∃ k,lk (pu S s.tgt c) v=some k/\k<=b:=fun v b r=>by
  by_cases e:s.tgt=v
  ·subst e;exact ⟨c,JaV,Int.le_of_lt (o b r)⟩
  ·exact ⟨b,by rw [lk_ne e];exact r,Int.le_refl _⟩
 refine ⟨fun v b d p=>?_,fun v i d=>?_,fun z l J=>?_⟩
 ·by_cases e:s.tgt=v
  ·subst e;rw [JaV] at p;cases p
  ·rw [lk_ne e] at d p;exact h.p0 v b d p
 ·by_cases e:s.tgt=v
  ·subst e;rw [JaV] at d;cases d;obtain ⟨A,w,I⟩:=j _ _ t;exact ⟨hs,rfl,A,c,w,JaV,by ac_nf⟩
  ·rw [lk_ne e] at d;obtain ⟨m,F,A,k,y,B,D⟩:=h.st v i d;obtain ⟨u,w,I⟩:=j _ _ y;exact ⟨m,F,u,k,w,by rw [lk_ne e];exact B,by ac_nf⟩
 ·obtain ⟨G,C,E⟩:=J;by_cases q:∃ x∈l,x.tgt=s.tgt
  ·let g:Str->Int:=fun v=>match lk S v with | some b=>b | none=>if v=s.tgt then a+s.wh+1 else 0
   have n:∀ v b,lk S v=some b->g v=b:=fun v b r=>by show (match lk S v with | some b=>b | none=>_)=b;rw [r]
   have H:a+s.wh<g s.tgt:=by
    cases e:lk S s.tgt with
    | none=>show _<(match lk S s.tgt with | some b=>b | none=>if s.tgt=s.tgt then a+s.wh+1 else 0);rw [e,if_pos rfl];show a+s.wh<a+s.wh+1;ac_nf
    | some b=>rw [n _ _ e, <- L];exact o b e
   have key:∀ v i,lk (pu P s.tgt s) v=some i->g i.src+i.wh<=g v:=fun v i d=>by
    by_cases e:s.tgt=v
    ·subst e;rw [JaV] at d;cases d;rw [n _ _ t];ac_nf
    ·rw [lk_ne e] at d;obtain ⟨_,_,A,k,y,B,D⟩:=h.st v i d;rw [n _ _ y,n _ _ B];exact D
   have:=Lnk.sumS (g:=g) (f:=s.tgt) key (fun i d=>by
    rw [JaV] at d;cases d;rw [n _ _ t];exact H) C q
   rw [E] at this;ac_nf
  ·exact h.rg z l ⟨G,Lnk.other (f:=s.tgt) (fun v d=>lk_ne (Ne.symm d)) C fun x K e=>q ⟨x,K,e⟩,E⟩
theorem BX.fold:∀ (l:List SpS) (t:BF),BX ss fs t.S t.P->(∀ s∈l,s∈ss)->BX ss fs (l.foldl rlx t).S (l.foldl rlx t).P
 | [],_,h,_=>h
 | s::l,t,h,hs=>by
  rw [foldl_cons];refine BX.fold l _ ?_ fun x hx=>hs x (by simp [hx]);unfold rlx;cases e:gains t.S s with
  | none=>exact h
  | some c=>exact h.put (hs s (by simp)) e
theorem BX.itr:∀ n,BX ss fs (L2.itr ss n (bf0 fs)).S (L2.itr ss n (bf0 fs)).P
 | 0=>⟨fun v b h _=>(Jfx.mp h).1,(fun v s h=>by cases h),fun z l h=>by
   obtain ⟨h0,h1,_⟩:=h;cases l with
   | nil=>exact absurd rfl h0
   | cons s r=>cases h1.2.1⟩
 | n+1=>BX.fold ss _ (BX.itr n) fun _ h=>h
structure Cg (ss:List SpS) (i:Nat) (t:BF) (c:Str->Nat):Prop where
 le:∀ v,c v<=i
 has:∀ v,1<=c v->∃ s,lk t.P v=some s
 bk:∀ v s,lk t.P v=some s->c v<=c s.src+1
 ch:∀ f,t.ch=some f->c f=i
 ga:∀ s∈ss,gains t.S s=none\/i<=c s.src+1
theorem Jg8 {s':SpS} {f:Str} {c:Int} (hlt:∀ b,lk S f=some b->c<b) (hg:gains S s'=none) (hn:s'.src≠f):gains (pu S f c) s'=none:=by
 cases e:gains (pu S f c) s' with
 | none=>rfl
 | some d=>
  obtain ⟨a,h,k,i⟩:=Jbo e;rw [lk_ne (Ne.symm hn)] at h;obtain ⟨b,g,j⟩:=Jca hg a h;by_cases q:f=s'.tgt
  ·subst q;have m:=i c JaV;have l:=hlt b g;ac_nf
  ·have:=i b (by rw [lk_ne q];exact g);ac_nf
theorem Cg.turn:∀ (l:List SpS) (t:BF) (c:Str->Nat) {i:Nat} (d:List SpS),Cg ss i t c->(∀ s∈l,s∈ss)->(∀ s∈d,gains t.S s=none\/i<=c s.src)->∃ c',Cg ss i (l.foldl rlx t) c'/\∀ s∈d++l,gains (l.foldl rlx t).S s=none\/i<=c' s.src
 | [],t,c,i,d,h,_,hd=>⟨c,h,by simpa using hd⟩
 | s::l,t,c,i,d,h,hs,hd=>by
  rw [foldl_cons];have hm:=hs s (by simp);have step:∃ c',Cg ss i (rlx t s) c'/\∀ x∈d++[s],gains (rlx t s).S x=none\/i<=c' x.src:=by
   unfold rlx;cases e:gains t.S s with
   | none=>
    refine ⟨c,h,fun x hx=>?_⟩;rcases mem_append.mp hx with hx | hx
    ·exact hd x hx
    ·rw [mem_singleton.mp hx];exact .inl e
   | some a=>
    obtain ⟨a0,ha,hc,hlt⟩:=Jbo e;have hi:i<=c s.src+1:=(h.ga s hm).resolve_left (by rw [e];simp);refine ⟨fun v=>if v=s.tgt then i else c v,⟨fun v=>?_,fun v hv=>?_,fun v s' hv=>?_,fun f hf=>?_,fun x hx=>?_⟩,fun x hx=>?_⟩
    ·try dsimp only
     split
     ·exact Nat.le_refl _
     ·exact h.le v
    ·by_cases q:s.tgt=v
     ·subst q;exact ⟨s,JaV⟩
     ·try dsimp only at hv
      rw [if_neg (Ne.symm q)] at hv;obtain ⟨s',z⟩:=h.has v hv;exact ⟨s',by show lk (pu t.P s.tgt s) v=_;rw [lk_ne q];exact z⟩
    ·have up:∀ v,c v<=(if v=s.tgt then i else c v):=fun v=>by split;exact h.le v;exact Nat.le_refl _
     by_cases q:s.tgt=v
     ·subst q;have hv:lk (pu t.P s.tgt s) s.tgt=some s':=hv;rw [JaV] at hv;cases hv;try dsimp only
      rw [if_pos rfl];have:=up s.src;ac_nf
     ·have hv:lk (pu t.P s.tgt s) v=some s':=hv;rw [lk_ne q] at hv;try dsimp only
      rw [if_neg (Ne.symm q)];have:=h.bk v s' hv;have:=up s'.src;ac_nf
    ·cases hf;exact if_pos rfl
    ·by_cases q:x.src=s.tgt
     ·right
      try dsimp only
      rw [if_pos q];ac_nf
     ·try dsimp only
      rw [if_neg q];exact (h.ga x hx).imp (fun z=>Jg8 hlt z q) id
    ·by_cases q:x.src=s.tgt
     ·right
      try dsimp only
      rw [if_pos q];exact Nat.le_refl _
     ·try dsimp only
      rw [if_neg q];rcases mem_append.mp hx with hx | hx
      ·exact (hd x hx).imp (fun z=>Jg8 hlt z q) id
      ·rw [mem_singleton.mp hx] at q ⊢;left
       cases e':gains (pu t.S s.tgt a) s with
       | none=>rfl
       | some d'=>
        obtain ⟨a',h1,h2,h3⟩:=Jbo e';rw [lk_ne (Ne.symm q),ha] at h1;cases h1;have:=h3 a JaV;ac_nf
  obtain ⟨c1,h1,h2⟩:=step;obtain ⟨c2,h3,h4⟩:=Cg.turn l (rlx t s) c1 (d++[s]) h1 (fun x hx=>hs x (by simp [hx])) h2;exact ⟨c2,h3,by simpa using h4⟩
theorem Cg.itr:∀ n, ∃ c,Cg ss n (L2.itr ss n (bf0 fs)) c/\∀ s∈ss,gains (L2.itr ss n (bf0 fs)).S s=none\/n<=c s.src
 | 0=>⟨fun _=>0,⟨fun _=>Nat.le_refl _,fun _ h=>absurd h ⋯,fun v s h=>(by cases h),fun f h=>(by cases h),fun s _=>.inr (Nat.zero_le _)⟩,fun s _=>.inr (Nat.zero_le _)⟩
 | n+1=>by
  obtain ⟨c,h,h2⟩:=Cg.itr n;have h':Cg ss (n+1) { L2.itr ss n (bf0 fs) with ch:=none } c:=⟨fun v=>Nat.le_succ_of_le (h.le v),h.has,h.bk,(fun f hf=>by cases hf),fun s hs=>(h2 s hs).imp id fun z=>Nat.succ_le_succ z⟩;obtain ⟨c',h3,h4⟩:=Cg.turn ss _ c [] h' (fun _ z=>z) (fun s hs=>by cases hs);exact ⟨c',h3,fun s hs=>h4 s (by simpa using hs)⟩
theorem itr_z {f:Str} (hf:f∈fs):∃ b,lk (L2.itr ss n (bf0 fs)).S f=some b:=by
 obtain ⟨b,h,_⟩:=Jkm (ss:=ss) hf n [] f .nil (Nat.zero_le _);exact ⟨b,h⟩
theorem JjM (hsrc:∀ s∈ss,s.src∈fs) (h:(L2.itr ss (n+1) (bf0 fs)).ch=none):∃ π,Pot π ss:=by
 obtain ⟨i,g⟩:=Jgu ss { L2.itr ss n (bf0 fs) with ch:=none } h;refine ⟨fun v=>(lk (L2.itr ss n (bf0 fs)).S v).getD 0,fun s e=>?_⟩;obtain ⟨a,d⟩:=itr_z (ss:=ss) (n:=n) (hsrc s e);obtain ⟨b,f,c⟩:=Jca (g s e) a d;show (lk _ s.tgt).getD 0<=(lk _ s.src).getD 0+s.wh;rw [d,f];exact c
theorem Lnk.app:∀ {a b:List SpS} {z:Str},Lnk P z (a++b)↔Lnk P z a/\Lnk P (lnkE z a) b
 | [],b,z=>by simp [Lnk,lnkE]
 | s::r,b,z=>by
  show (s.src=z/\lk P s.tgt=some s/\Lnk P s.tgt (r++b))↔(s.src=z/\lk P s.tgt=some s/\Lnk P s.tgt r)/\Lnk P (lnkE s.tgt r) b;rw [Lnk.app];constructor
  ·exact fun ⟨h1,h2,h3,h4⟩=>⟨⟨h1,h2,h3⟩,h4⟩
  ·exact fun ⟨⟨h1,h2,h3⟩,h4⟩=>⟨h1,h2,h3,h4⟩
theorem JdK:∀ {a b:List SpS} {z:Str},lnkE z (a++b)=lnkE (lnkE z a) b
 | [],_,_=>rfl
 | s::r,b,z=>JdK (a:=r) (z:=s.tgt)
theorem Jhd:∀ {l:List SpS} {z:Str},l≠[]->lnkE z l∈l.map (·.tgt)
 | [],_,h=>absurd rfl h
 | [s],z,_=>by simp [lnkE]
 | s::x::r,z,_=>by
  have:=Jhd (l:=x::r) (z:=s.tgt) (by simp);exact mem_cons_of_mem _ this
theorem Lnk.lk_of:∀ {l:List SpS} {z:Str},Lnk P z l->∀ s∈l,lk P s.tgt=some s
 | [],_,_,_,h=>by cases h
 | x::r,z,⟨_,h2,h3⟩,s,h=>by
  rcases mem_cons.mp h with e | e
  ·rw [e];exact h2
  ·exact Lnk.lk_of h3 s e
theorem Lnk.srcs:∀ {l:List SpS} {z:Str},Lnk P z l->l.map (·.src)++[lnkE z l]=z::l.map (·.tgt)
 | [],_,_=>rfl
 | x::r,z,⟨h1,_,h3⟩=>by
  have:=Lnk.srcs h3;show x.src::(r.map (·.src)++[lnkE x.tgt r])=_;rw [this,h1];rfl
def RG (P:LasD) (f:Str) (R:List SpS):Prop:=∃ z l2,Clo P z R/\Lnk P z (R++l2)/\lnkE z (R++l2)=f/\((R++l2).map (·.tgt)).Nodup
variable {q:Str}
theorem RG.of {f:Str} {M:List SpS} (h:Lnk P q M) (he:lnkE q M=f) (hn:(M.map (·.tgt)).Nodup) (hq:q∈M.map (·.tgt)):∃ R l2,M=R++l2/\Clo P q R/\RG P f R:=by
 obtain ⟨s,b,rfl⟩:=mem_map.mp hq;obtain ⟨a,l2,rfl⟩:=List.append_of_mem b;have e:a++s::l2=(a++[s])++l2:=by simp
 rw [e] at h he hn ⊢;have c:Clo P s.tgt (a++[s]):=⟨by simp,(Lnk.app.mp h).1,by rw [JdK];rfl⟩;exact ⟨_,l2,rfl,c,s.tgt,l2,c,h,he,hn⟩
theorem Cg.next {c:Str->Nat} {ms:List SpS} (h:Cg ss (ss.length+1) t c) (hn:(ms.map (·.tgt)).Nodup) (hs:∀ x∈ms,x∈ss) (hN:ss.length+1<=c q+ms.length):∃ s,lk t.P q=some s/\ss.length+1<=c s.src+(ms++[s]).length:=by
 have:=sub_len (ms.map (·.tgt)) (ss.map (·.tgt)) hn fun x a=>by
  obtain ⟨y,b,rfl⟩:=mem_map.mp a;exact mem_map.mpr ⟨y,hs y b,rfl⟩
 rw [length_map,length_map] at this;obtain ⟨s,e⟩:=h.has q ∅;have:=h.bk q s e;exact ⟨s,e,by rw [length_append];simp;ac_nf⟩
structure Rng (ss R:List SpS):Prop where
 ne:R≠[]
 mem:∀ s∈R,s∈ss
 neg:wgt R<0
 nd:(R.map (·.src)).Nodup
 adj:∃ z,R.map (·.src)++[z]=z::R.map (·.tgt)
variable {R:List SpS}
theorem RG.rng {f:Str} (b:BX ss fs S P) (h:RG P f R):Rng ss R:=by
 obtain ⟨z,i,c,g,j,a⟩:=h;have e:=c.2.1.srcs;rw [c.2.2] at e;refine ⟨c.1,fun s d=>(b.st _ _ (c.2.1.lk_of s d)).1,b.rg z R c,?_,z,e⟩;have p:(z::R.map (·.src)).Perm (z::R.map (·.tgt)):=by
  rw [<- e];exact (List.perm_append_singleton z _).symm
 refine (p.cons_inv).nodup_iff.mpr ?_;rw [map_append] at a;exact (nodup_append.mp a).1
end
variable {c1 c2:Prop}
theorem iteOr [Decidable c1] [Decidable c2] {X Y:Prop} (h:c1\/c2) (x:X):if c1 then X else if c2 then X else Y:=by
 by_cases a:c1
 ·rw [if_pos a];exact x
 ·rw [if_neg a,if_pos (h.resolve_left a)];exact x
theorem All2.rev {P : α->V->Prop}:∀ {xs:List α} {ys:List V},All2 P xs ys->All2 P xs.reverse ys.reverse
 | [],ys,h=>by
  have h:ys=[]:=h;rw [h];exact rfl
 | x::xs,ys,h=>by
  obtain ⟨y,r,rfl,h1,h2⟩:=h;rw [List.reverse_cons,List.reverse_cons];exact (All2.rev h2).append (.one h1)
def RgD (ss:List SpS) (fs:List Str) (R:List SpS):Prop:=∃ f,(itr ss (ss.length+1) (bf0 fs)).ch=some f/\RG (itr ss (ss.length+1) (bf0 fs)).P f R
theorem RgD.rng {ss:List SpS} {fs:List Str} {R:List SpS} (h:RgD ss fs R):Rng ss R:=by
 obtain ⟨f,_,a⟩:=h;exact a.rng (BX.itr (ss.length+1))
structure BkH (ts:List TD) (F:List Str):Prop where
 l35:ts.length<=35
 ok:∀ t∈ts,TOk t
 fb:∀ s∈Ch.all ts,FB 200 9 s.c
 f8:F.length<=8
 fm:∀ t∈ts,t.st∈F/\t.en∈F
theorem BkH.l70 (h:BkH ts F):(Ch.all ts).length<=70:=by
 have:=JeW (ts:=ts) ts.length;rw [take_of_length_le (Nat.le_refl _)] at this;have:=h.l35;ac_nf
theorem Jlm {fs:List Str} (h:∀ s∈Ch.all ts,s.src∈fs):∀ s∈ssD ts,s.src∈fs:=fun s b=>by
 obtain ⟨y,a,rfl⟩:=mem_map.mp b;exact h y a
def plD (tb:Tab) (v:Str):Int × Int:=((lk tb v).getD ((0,1),[])).1
theorem Jhk {e:(Int × Int) × List SpS} (h:lk tb v=some e):plD tb v=e.1:=by
 unfold plD;rw [h];rfl
theorem Jfq:Slot "list_reverseiterator" "__length_hint__" "list_reverseiterator.__length_hint__" :=
 .of (owner:="list_reverseiterator") (n:="__length_hint__") (by rw [typeLookup_type,builtinLookup_eq_fast];kernel_rfl) (by decide +kernel) (by decide +kernel) (by decide +kernel)
  (by first | exact .inl (by decide +kernel) | exact .inr (by decide +kernel)) (by rw [isSubtype_type];kernel_rfl)
theorem JiA:typeLookup (.type "list_reverseiterator") "__len__"=pure none:=by rw [typeLookup_type,builtinLookup_eq_fast];kernel_rfl
variable {s:Shared} {l:Addr}
theorem JiV (hh:A.handled=none) (hit:s.heap.IsRevIter I l ((its.size:Int)-1)) (hl:s.heap.IsList l its) (hlI:l≠I) (hn:its.size<=sizeLine) (S:Addr) (hSI:S≠I) (hSl:S≠l) (res:Value) (c₀ : Nat) (hS:s.heap.get? S=some { cls:=.type "list",data:=.seq #[] c₀ })
  (hR:∀ h' tk acc' c',(∀ b o,b≠S->b≠I->s.heap.get? b=some o->h'.get? b=some o)->h'.get? S=some { cls:=.type "list",dict:=none,data:=.seq acc' c',slots:=#[] }->ItemsOf (fun i v=>its[its.size-1-i]?=some v) acc' its.size->R (.ok (.ret res)) { s with heap:=h',toks:=tk }) :
  wpAny (model prog w) A.in1 (Builtin.List.listExtendWith (.ref S) (.ref I) res)
   (fun fin s'=>match fin with | .done f=>R (.ok f) s' | .again c'=>c'.quiet=true/\codeAny (model prog w) A c' R s') (fun e s'=>R (.error e) s') s:=by
 have j:s.TypeIs (.ref I) "list_reverseiterator":=hit.typeIs;have r:Builtin.List.listSameRef (.ref S) (.ref I)=false:=by simp [Builtin.List.listSameRef,hSI]
 have W:=(Walks.listRev (prog:=prog) (w:=w) (A:=A.in1) hh I l hlI its);have k:S∉[I,l]:=by simp [hSI,hSl]
 unfold Builtin.List.listExtendWith;refine wpAny_bind (wpAny_typeOf j ?_);rw [if_neg (by rw [r];decide)];have q:0<=its.size/\s.heap.IsRevIter I l ((its.size:Int)-1-((0:Nat):Int))/\s.heap.IsList l its:=⟨Nat.zero_le _,by simpa using hit,hl⟩;refine wpAny_bind (W.self 0 _ _ _ q ?_);refine wpAny_bind (wpAny_holding ?_);unfold Builtin.List.listLengthHint;refine wpAny_bind (wpAny_specialOf j JiA ?_);show wpAny _ A.in1 (specialOf (Value.ref I) (Str.ofString "__length_hint__") >>= _) _ _ _;refine wpAny_bind (wpAny_specialOf j Jfq.lookup ?_)
 (generalize d:("list_reverseiterator.__length_hint__" : String)=h;(fail_if_success (clear d h));wp_delta;rw [show splitId h=some ("list_reverseiterator","__length_hint__") from by subst d;decide +kernel];subst d)
 refine wpAny_bind (wpAny_isInstance (b:=true) j (by rw [isSubtype_type];kernel_rfl) ?_);show wpAny _ A.in1 (pure false) _ _ _;refine wpAny_pure ?_;rw [if_neg ⋯];refine wpAny_pure ⟨plainId_quiet PySem.F.plain_extend_loop _,codeAny_extend_loopS W.toS hn _ k _ its.size 0 _ _ _ rfl (Nat.zero_le _) q hS (ItemsOf.nil _) fun s' acc' c' p n g=>?_⟩;rw [Moved.eq_with p];refine hR s'.heap s'.toks acc' c' (fun b o t m e=>p.heap b o (fun a=>?_) e) n g;rcases mem_cons.mp a with e' | a
 ·exact t e'
 ·exact m (mem_singleton.mp a)
theorem Jlh (hh:A.handled=none) (hit:s.heap.IsRevIter I l ((its.size:Int)-1)) (hl:s.heap.IsList l its) (hlI:l≠I) (hn:its.size<=sizeLine)
  (hQ:∀ h' tk acc' c',(∀ b o,b≠I->s.heap.get? b=some o->h'.get? b=some o)->h'.get? s.heap.objs.size=some { cls:=.type "list",dict:=none,data:=.seq acc' c',slots:=#[] }->ItemsOf (fun i v=>its[its.size-1-i]?=some v) acc' its.size->Q (.ref s.heap.objs.size) { s with heap:=h',toks:=tk }) :
  wpAny (model prog w) A (call (.type "list") [.ref I]) Q E s:=by
 refine callType_codes (Q₁:=fun j s₁=>j=.ref s.heap.objs.size/\s₁={ s with heap:=s.heap.push { cls:=.type "list",data:=.seq #[] } }) PySem.F.called_list (PySem.F.typeCall_list_1 _) PySem.F.entry_list_init
  (code_list_new _ ⟨rfl,rfl⟩) fun j s₁ h₁=>?_
 obtain ⟨rfl,rfl⟩:=h₁;have a:(s.heap.push { cls:=.type "list",data:=.seq #[] }).get? s.heap.objs.size=some { cls:=.type "list",data:=.seq #[] }:=Heap.get?_push_size _ rfl;obtain ⟨u,n,_⟩:=id hit;obtain ⟨t,k,_⟩:=id hl;have g:s.heap.objs.size≠I:=Nat.ne_of_gt (Heap.lt_size n);have d:s.heap.objs.size≠l:=Nat.ne_of_gt (Heap.lt_size k);refine ⟨⟨_,a,rfl⟩,PySem.F.args_list_init_2 _ _,?_⟩;show wpAny _ _ (do let p <- Builtin.List.listItems (.ref s.heap.objs.size);Builtin.List.listUpdate (.ref s.heap.objs.size) (fun _=>#[]);letGo p.toList.reverse;Builtin.List.listExtendWith (.ref s.heap.objs.size) (.ref I) .none) _ _ _;refine wpAny_bind ?_;unfold Builtin.List.listItems;refine wpAny_bind (wpAny_seqItems a rfl (wpAny_pure ?_));show wpAny _ _ (updateSeq s.heap.objs.size (fun _=>#[]) >>= fun _=>letGo (#[]:Array Value).toList.reverse >>= fun _=>Builtin.List.listExtendWith (.ref s.heap.objs.size) (.ref I) .none) _ _ _;refine wpAny_bind (wpAny_updateSeq a rfl ?_);have a₂:=Heap.get?_update_self (Obj.mapSeq (fun _=>(#[]:Array Value))) a rfl;refine wpAny_bind (wpAny_letGo ?_);refine JiV (A:=A.in1) hh (hit.at fun o e=>(Heap.get?_update_other _ _ g).trans (Heap.get?_push_of_some _ e)) (hl.at fun o e=>(Heap.get?_update_other _ _ d).trans (Heap.get?_push_of_some _ e)) hlI hn s.heap.objs.size g d .none _ a₂ fun h' tk acc' c' q m c=>?_;refine ⟨rfl,hQ h' tk acc' c' (fun b o r e=>?_) m c⟩;have f:b≠s.heap.objs.size:=Nat.ne_of_lt (Heap.lt_size e);exact q b o f r ((Heap.get?_update_other _ _ (Ne.symm f)).trans (Heap.get?_push_of_some _ e))
def tRevL (K:W.Frag) (te:TE):TE:=fun σ H Q=>te σ H fun v H1=>∃ a xs,v=.ref a/\SqL K H1 a xs/\∀ l,H1 l=none->Q (.ref l) (upd H1 l (.lst xs.reverse))
theorem Jj2 {us:List Value} {acc:Array Value} (r:Vals xs us) (h:ItemsOf (fun i v=>us.toArray[us.toArray.size-1-i]?=some v) acc us.toArray.size):Vals xs.reverse acc.toList:=by
 have e:acc.toList=us.reverse:=by
  refine List.ext_getElem? fun i=>?_;have a:acc.toList.length=us.length:=by rw [Array.length_toList,h.1];simp
  by_cases c:i<us.length
  ·have:=h.2 i (acc.toList[i]'∅) (by rw [<- Array.getElem?_toList];exact List.getElem?_eq_getElem ∅);rw [List.getElem?_eq_getElem ∅, <- this,List.getElem?_reverse c];simp
  ·rw [List.getElem?_eq_none ∅,List.getElem?_eq_none (by rw [List.length_reverse];ac_nf)]
 rw [e];have key:∀ (xs:List V) (us:List Value),Vals xs us->Vals xs.reverse us.reverse:=by
  intro xs us h;induction h with
  | nil=>exact .nil
  | cons h _ ih=>
   rw [List.reverse_cons,List.reverse_cons];exact ih.append (.cons h .nil)
 exact key _ _ r
theorem Jk9 {e:Expr} {t:TE} (hc:X.calm=true) (hx:x="list") (hy:y="reversed")
  (hg:Gl X x) (hm:X.mg x=none) (hv:bootBuiltins x=some (.type "list")) (hg2:Gl X y) (hm2:X.mg y=none) (hv2:bootBuiltins y=some (.type "reversed")) (ha:PE X e t)
  (he:starEach [e] X.env=(false,eval e X.env)::starEach [] X.env:=by rfl) :
  PE X (.Call (.Name x p1) [.Call (.Name y p2) [e] [] pos2] [] pos) (tRevL X.K t):=by
 intro l s σ H Q I h;have G:x≠"__name__":=by rw [hx];decide
 have O:y≠"__name__":=by rw [hy];decide
 have S:(x == ("__debug__" : Str))=false:=by rw [hx];decide
 have M:(y == ("__debug__" : Str))=false:=by rw [hy];decide
 refine wpAny_Call_Name_kw (JcT I hg hm hv ?_ G S);refine PyProof.Rows.callWith_type1 ?_ rfl rfl;show wpAny _ _ (spliced ((false,eval (.Call (.Name y p2) [e] [] pos2) X.env)::backTo pos (starEach [] X.env))) _ _ s;refine Calls.spliced_cons ?_;refine wpAny_Call_Name_kw (JcT I hg2 hm2 hv2 ?_ O M);refine PyProof.Rows.callWith_type1 ?_ he rfl;rw [he];show wpAny _ _ (spliced ((false,eval e X.env)::backTo pos2 (starEach [] X.env))) _ _ s;refine Calls.spliced_cons (thn (ha l s σ H _ I h) fun u f ζ=>?_);obtain ⟨v,Z,I1,N,a,B,R,F,q⟩:=ζ;refine Calls.spliced_nil ?_;subst R;obtain rfl:u=Value.ref a:=N;obtain ⟨m,C,p,P⟩:=I1.list F;have d:=p.isList;refine call_reversed_list d (Calls.spliced_nil ?_);generalize c:f.heap.push _=j;have V:j.objs.size=f.heap.objs.size+1:=by rw [<- c];exact Heap.size_push ..
 have A:∀ b o,f.heap.get? b=some o->j.get? b=some o:=fun b o z=>by rw [<- c];exact Heap.get?_push_of_some _ z
 have n:j.IsRevIter f.heap.objs.size a ((m.toArray.size:Int)-1):=⟨_,by rw [<- c];exact Heap.get?_push_size _ rfl,rfl,rfl⟩;obtain ⟨W,r,_⟩:=id d;have Y:=C.length;refine Jlh (s:={ f with heap:=j }) (I.ok.hd hc) n (d.at fun o e=>A _ _ e) (Nat.ne_of_lt (Heap.lt_size r)) (by simp;ac_nf) fun E U g T k L i=>?_;have J:∀ b o,f.heap.get? b=some o->E.get? b=some o:=fun b o z=>k b o (Nat.ne_of_lt (Heap.lt_size z)) (A b o z);have D:f.heap.objs.size<=j.objs.size:=by ac_nf
 exact ⟨.ref _,_,I1.laid (t':=U) (o:=.lst B.reverse) J D (show ObjOk X.prog X.w _ E _ (.lst B.reverse) from ⟨by rw [List.length_reverse];exact P,g.toList,T,Jj2 C i,by rw [Array.toArray_toList];exact L⟩),rfl,q _ (I1.hok.fresh D)⟩
variable {Q:VK}
theorem y89y {K:W.Frag}:tRevL K te σ H Q=te σ H fun v H1=>∃ a xs,v=.ref a/\SqL K H1 a xs/\∀ l,H1 l=none->Q (.ref l) (upd H1 l (.lst xs.reverse)):=rfl
noncomputable def dD (ts:List TD) (f v:Str):Option (Int × Int):=open Classical in if h:∃ tb e,TTd ts [f] tb/\lk tb v=some e then some h.choose_spec.choose.1 else none
theorem dD_eq {f:Str} (h:TTd ts [f] tb):dD ts f v=(lk tb v).map (·.1):=by
 unfold dD;split
 ·rename_i c;obtain ⟨a,b⟩:=c.choose_spec.choose_spec;have e:=h.uniq (v:=v) a;rw [b] at e;rw [e];rfl
 ·rename_i c;cases e:lk tb v with
  | none=>rfl
  | some q=>exact absurd ⟨tb,q,h,e⟩ c
noncomputable def nwT (ts:List TD) (t:TD):TD:=⟨t.nm,t.st,t.en,(dD ts t.en t.st).map (subF (0,1)),dD ts t.st t.en⟩
noncomputable def nwD (ts:List TD):List TD:=ts.map (nwT ts)
def tTryS (K:W.Frag) (D:Addr) (k:Nat) (t:TX) (ts:TS):TS:=fun Dn σ H=>t σ H (fun v H1=>Dn.nx (σ.set k (some v)) H1) fun cls od H1=>∃ C,cls=.ref C/\Jcf K C D/\∀ ea,H1 ea=none->ts Dn σ (upd H1 ea (ExcO ea C od))
variable {ts:TS}
theorem Jle {hpos np npos:Pos} {m:Str} {ce:Expr} {b0:Stmt} {suite:List Stmt} {D:Addr} {t:TX} {k:Nat} (hN:X.N.Nodup) (hk:X.N[k]?=some m) (hmL:Loc X.env.scope m) (hcall:PEx X ce t) (hg:Gl X x) (hm:X.mg x=some (.ref D)) (hsu:∀ e,PSs (X.inx e) (b0::suite) ts)
  (hex:X.ex=[]:=by rfl) (hst:X.stack=X.env::X.outer:=by rfl) (hfl:X.env.frame=some X.env.locals:=by rfl) (hdb:(x == ("__debug__" : Str))=false:=by decide)
  (hs:swapsWith ce (some (.Name m npos)) apos.line X.env=pure false:=by rfl) (hf:X.fn m=true\/X.env.scope.names.lookup m=some .local:=by first | exact .inl rfl | exact .inr rfl | assumption) :
  PS X (.Try [.Assign [.Name m npos] ce apos] [.ExceptHandler (some (.Name x np)) none (b0::suite) hpos] [] [] pos) (tTryS X.K D k t ts):=by
 intro d s σ H Dn I h;refine wpAny_Try_except (wpAny_execs_cons (wpAny_Assign_Name (wpAny_mono (hcall d s σ H _ _ I h) (fun v Y ⟨y,O,I1,T,Q⟩=>?_) (fun ev Y U=>?_)) hs))
 ·exact JdO I1 hN hk hmL T (fun S I2=>wpAny_execs_nil (wpAny_execs_nil ⟨_,O,I2,Q⟩)) hf
 ·obtain ⟨O,s0,I1,j,Z,W,a0,B,H',rfl,i,M,u,w,F,C,rfl,l,P⟩:=U;have J:X.A.frames=some (X.env::X.outer):=by rw [<- hst];exact I.ok.frames
  have F':=F.fly;rw [hst] at F';refine noteD J hfl F' F.dct fun h4 g q L=>?_;refine Jis g L fun h5 a p o=>?_;have E:=q.trans p;have c:=a;rw [<- hst] at c;have I5:=I1.landed hex u w F i M c E o rfl;obtain ⟨oe,vs,R,V,_,_⟩:=a.first;refine wpAny_handleBy_cons (codeAny_handlers_test (Jb0 (X:=X.inx j) (I5.inx j) hg hm ?_ hdb)) (by intro z;cases z);refine Jcw I5.kIn R V l (codeAny_handlers_suite ?_);refine JhT a o fun h6 n r G=>?_;have b:=n;rw [<- hst] at b;have I6:=I1.landed hex u w F i M b (E.trans r) G rfl;exact wpAny_mono (hsu j d _ σ _ Dn (I6.inx j) (P j F.free)) (fun f S z=>z.outx I.ok) (fun _ _ z=>z.elim)
variable {En:Ends}
theorem y95y {K:W.Frag} {D:Addr} {t:St->Hp->VK->XK->Prop}:tTry K D t ts En σ H=t σ H (fun _ H1=>En.nx σ H1) fun cls od H1=>∃ C,cls=.ref C/\Jcf K C D/\∀ ea,H1 ea=none->ts En σ (upd H1 ea (ExcO ea C od)):=rfl
theorem y98y {K:W.Frag} {D:Addr} {k:Nat} {t:TX}:tTryS K D k t ts En σ H=t σ H (fun v H1=>En.nx (σ.set k (some v)) H1) fun cls od H1=>∃ C,cls=.ref C/\Jcf K C D/\∀ ea,H1 ea=none->ts En σ (upd H1 ea (ExcO ea C od)):=rfl
theorem Jj3 (ha:1<=a.2) (hc:1<=c.2):vl (c.1*a.2-a.1*c.2,a.2*c.2)=vl c-vl a:=by
 unfold vl;have b:=Jcq ha;have d:=Jcq hc;push_cast;generalize (a.1:Rat)=x at *;generalize (a.2:Rat)=y at *;generalize (c.1:Rat)=z at *;generalize (c.2:Rat)=w at *;grind
def nm5L:List Str:=(List.range 5).map fun m=>(⟨#[97+m]⟩:Str)
structure TG6 (t:TD):Prop where
 ok:TOk t
 nm:t.nm∈nm5L
 st:t.st∈faceL
 en:t.en∈faceL
 lo:∀ u,t.lo=some u->FB 8 1 u
 hi:∀ u,t.hi=some u->FB 8 1 u
theorem TG6.fb {t:TD} (h:TG6 t):∀ s∈Ch.steps t,FB 8 1 s.c:=fun s a=>by
 unfold Ch.steps fwd bwd at a;rcases mem_append.mp a with a | a
 ·cases e:t.hi with
  | none=>rw [e] at a;cases a
  | some u=>
   rw [e] at a;rw [mem_singleton.mp a];exact h.hi u e
 ·cases e:t.lo with
  | none=>rw [e] at a;cases a
  | some u=>
   rw [e] at a;rw [mem_singleton.mp a];exact (h.lo u e).neg
variable {ts:List TD}
theorem JhU {P:SD->Prop} (h:∀ t∈ts, ∀ s∈Ch.steps t,P s):∀ s∈Ch.all ts,P s:=fun s a=>by
 obtain ⟨t,b,a⟩:=List.mem_flatMap.mp (show s∈ts.flatMap Ch.steps from a);exact h t b s a
theorem bkh6 (h:∀ t∈ts,TG6 t) (hn:(nms ts).Nodup):BkH ts faceL/\ts.length<=5:=by
 have c:ts.length<=5:=by
  have:=sub_len (nms ts) nm5L hn fun x b=>by
   obtain ⟨t,a,rfl⟩:=mem_map.mp b;exact (h t a).nm
  have e:nm5L.length=5:=by decide
  unfold nms at this;rw [length_map] at this;ac_nf
 exact ⟨⟨by ac_nf,fun t a=>(h t a).ok,JhU fun t a s d=>((h t a).fb s d).mono ⋯ ⋯,by decide,fun t a=>⟨(h t a).st,(h t a).en⟩⟩,c⟩
structure G6 (ts:List TD):Prop where
 all:∀ t∈ts,TG6 t
 nd:(nms ts).Nodup
theorem G6.put {t:TD} (g:G6 ts) (h:TG6 t):G6 (putT ts t) where
 nd:=by
  by_cases c:t.nm∈nms ts
  ·rw [JjP c];exact g.nd
  ·unfold putT;rw [if_neg c];unfold nms;rw [map_append,nodup_append];refine ⟨g.nd,by simp,fun a i b f=>?_⟩;rw [map_cons,map_nil,mem_singleton] at f;rw [f];exact fun e=>c (e ▸ i)
 all:=fun u d=>by
  rcases JjO d with rfl | d
  ·exact h
  ·exact g.all u d
theorem G6.drop (g:G6 ts):G6 (dropT ts z) where
 nd:=by
  have : (nms (dropT ts z)).Sublist (nms ts):=List.Sublist.map _ List.filter_sublist;exact g.nd.sublist this
 all:=fun u a=>g.all u (List.mem_filter.mp a).1
theorem iteAB [Decidable c1] [Decidable c2] {A B:Prop} (a:c1->c2->A) (b:B):if c1 then (if c2 then A else B) else B:=by
 by_cases c:c1
 ·rw [if_pos c];by_cases d:c2
  ·rw [if_pos d];exact a c d
  ·rw [if_neg d];exact b
 ·rw [if_neg c];exact b
def sumC (l:List SpS):Int:=(l.map (·.cost.1)).sum
theorem Ji1 {l:List SpS} {s:SpS}:sumC (l++[s])=sumC l+s.cost.1:=by simp [sumC]
theorem FB.one (h:FB 8 1 a):a.2=1/\-256<a.1/\a.1<256:=by
 have b:=h.s1;have c:=h.s2;have d:=h.b1;unfold Mth.Sz at b c;ac_nf
theorem Jjc:∀ l:List SpS,(∀ s∈l,s.wh=s.cost.1*b)->wgt l=sumC l*b
 | [],_=>by simp [wgt,sumC]
 | s::l,h=>by
  have:=Jjc l fun x hx=>h x (mem_cons_of_mem _ hx);rw [Jfv,this,h s mem_cons_self];show _=(s.cost.1+sumC l)*b;rw [Int.add_mul]
variable {R:List SpS}
theorem JiU (hT:∀ t∈ts,TG6 t) (h1:1<=bD_ ts) (h:Rng (ssD ts) R):sumC R<0:=by
 have e:=Jjc (b:=bD_ ts) R fun s a=>by
  obtain ⟨y,f,rfl⟩:=mem_map.mp (h.mem s a);have o:=(JhU (P:=fun s=>FB 8 1 s.c) (fun t d s a=>(hT t d).fb s a) y f).one.1;show y.c.1*(bD_ ts).fdiv y.c.2=y.c.1*bD_ ts;rw [o,Int.fdiv_one]
 have n:=h.neg;rw [e] at n;refine Int.not_le.mp fun z=>?_;have:=Int.mul_nonneg z (show 0<=bD_ ts by ac_nf);ac_nf
theorem Jhm:∀ l:List SpS,(∀ s∈l, -256<s.cost.1/\s.cost.1<256)->-256*(l.length:Int)<=sumC l/\sumC l<=256*(l.length:Int)
 | [],_=>by simp [sumC]
 | s::l,h=>by
  have:=Jhm l fun x hx=>h x (mem_cons_of_mem _ hx);have:=h s mem_cons_self;have e:sumC (s::l)=s.cost.1+sumC l:=rfl;rw [e];simp only [length_cons];ac_nf
theorem Rng.len (h:Rng (ssD ts) R):R.length<=(Ch.all ts).length:=by
 have:=sub_len (R.map (·.src)) ((ssD ts).map (·.src)) h.nd fun x b=>by
  obtain ⟨y,a,rfl⟩:=mem_map.mp b;exact mem_map.mpr ⟨y,h.mem y a,rfl⟩
 rw [length_map,length_map] at this;unfold ssD at this;rw [length_map] at this;exact this
theorem JjZ {y:SD} (h:y∈Ch.all ts):∃ (j:Nat) (t:TD),ts[j]?=some t/\y.nm=t.nm/\((y.fw=true/\t.hi=some y.c/\y.src=t.st/\y.dst=t.en)\/(y.fw=false/\∃ l,t.lo=some l/\y.c=negF l/\y.src=t.en/\y.dst=t.st)):=by
 obtain ⟨t,b,a⟩:=List.mem_flatMap.mp (show y∈ts.flatMap Ch.steps from h);obtain ⟨j,d⟩:=List.getElem?_of_mem b;refine ⟨j,t,d,?_⟩;unfold Ch.steps fwd bwd at a;rcases mem_append.mp a with a | a
 ·cases e:t.hi with
  | none=>rw [e] at a;cases a
  | some u=>rw [e] at a;rw [mem_singleton.mp a];exact ⟨rfl, .inl ⟨rfl,rfl,rfl,rfl⟩⟩
 ·cases e:t.lo with
  | none=>rw [e] at a;cases a
  | some u=>rw [e] at a;rw [mem_singleton.mp a];exact ⟨rfl, .inr ⟨rfl,u,rfl,rfl,rfl,rfl⟩⟩
theorem bF_ok:∀ (m:Nat) (ns:List (Int × Int)),ns.length=m->(∀ n∈ns,1<=n.2)->1<=bF ns/\∀ n∈ns,n.2∣bF ns
 | 0,ns,hl,_=>by
  rw [eq_nil_of_length_eq_zero hl];exact ⟨by decide,fun n hn=>by cases hn⟩
 | m+1,ns,hl,h=>by
  rcases List.eq_nil_or_concat ns with e | ⟨r,n,e⟩
  ·rw [e] at hl;cases hl
  ·rw [List.concat_eq_append] at e;subst e;obtain ⟨h1,h2⟩:=bF_ok m r (by simpa using hl) fun x hx=>h x (mem_append_left _ hx);have hn:=h n (by simp);have gp:0<Mth.g (bF r) n.2:=Mth.g_pos ∅;have gd:=Jid (b:=bF r) hn;rw [JhW];have hq:1<=n.2.fdiv (Mth.g (bF r) n.2):=by
    rw [Int.fdiv_eq_ediv_of_nonneg _ ∅];have:=Mth.g_le (a:=bF r) (b:=n.2) ∅;exact (Int.le_ediv_iff_mul_le gp).mpr ∅
   refine ⟨Int.le_trans h1 (by
    have:=Int.mul_le_mul_of_nonneg_left hq (show 0<=bF r by ac_nf);rw [Int.mul_one] at this;exact this),fun x hx=>?_⟩
   rcases mem_append.mp hx with hx | hx
   ·exact Int.dvd_trans (h2 x hx) (Int.dvd_mul_right ..)
   ·rw [mem_singleton.mp hx];exact gd
theorem bDok (hg:BkH ts F):1<=bD_ ts/\∀ s∈Ch.all ts,1<=s.c.2/\s.c.2∣bD_ ts:=by
 obtain ⟨b,d⟩:=bF_ok _ ((Ch.all ts).map (·.c)) rfl fun n e=>by
  obtain ⟨s,a,rfl⟩:=mem_map.mp e;exact (hg.fb s a).b1
 exact ⟨b,fun s a=>⟨(hg.fb s a).b1,d _ (mem_map.mpr ⟨s,a,rfl⟩)⟩⟩
theorem JlR {out:List Str} {t:TD} (hg:BkH ts F) (h:TTd ts out tb) (hF:JaQ ts out) (ht:t∈ts):okB t.lo t.hi (addF (plD tb t.en) (negF (plD tb t.st)))=true:=by
 have q:t.st∈out:=(hF.2.2 _).mpr ⟨t,ht, .inl rfl⟩;have p:t.en∈out:=(hF.2.2 _).mpr ⟨t,ht, .inr rfl⟩;obtain ⟨a,f⟩:=(h.ks t.st).mpr (.inl q);obtain ⟨b,i⟩:=(h.ks t.en).mpr (.inl p);rw [Jhk f,Jhk i];have r:=h.b2 f;have o:=h.b2 i;have n:1<=(addF b.1 (negF a.1)).2:=Mth.JbJ (Int.mul_ne_zero ∅ (by show a.1.2≠0;ac_nf));have l:vl (addF b.1 (negF a.1))=vl b.1-vl a.1:=by
  rw [JeV o (show 1<=(negF a.1).2 from r),Jeq,Rat.sub_eq_add_neg]
 have m:=hg.ok t ht;have g:∀ s∈Ch.steps t,s∈Ch.all ts:=fun s f=>List.mem_flatMap.mpr ⟨t,ht,f⟩;unfold okB;rw [Bool.and_eq_true];constructor
 ·cases e:t.lo with
  | none=>rfl
  | some u=>
   have k:(⟨t.en,t.st,negF u,t.nm,false⟩:SD)∈Ch.steps t:=by unfold Ch.steps fwd bwd;rw [e];exact mem_append_right _ (mem_singleton.mpr rfl)
   obtain ⟨j,c,d⟩:=h.step (g _ k) i;have c:lk tb t.st=some j:=c;rw [f] at c;cases c;have d:vl a.1<=vl b.1+vl (negF u):=d;rw [Jeq] at d;show (!lessF (addF b.1 (negF a.1)) u)=true;cases z:lessF (addF b.1 (negF a.1)) u with
   | false=>rfl
   | true=>
    have:=(Jco n (m.lo u e).b1).mp z;rw [l] at this;refine absurd this (Rat.not_lt.mpr ?_);grind
 ·cases e:t.hi with
  | none=>rfl
  | some u=>
   have k:(⟨t.st,t.en,u,t.nm,true⟩:SD)∈Ch.steps t:=by unfold Ch.steps fwd bwd;rw [e];exact mem_append_left _ (by simp)
   obtain ⟨j,c,d⟩:=h.step (g _ k) f;have c:lk tb t.en=some j:=c;rw [i] at c;cases c;have d:vl b.1<=vl a.1+vl u:=d;show (!lessF u (addF b.1 (negF a.1)))=true;cases z:lessF u (addF b.1 (negF a.1)) with
   | false=>rfl
   | true=>
    have:=(Jco (m.hi u e).b1 n).mp z;rw [l] at this;refine absurd this (Rat.not_lt.mpr ?_);grind
theorem Jke:∀ l:List TD,depL (l.map tdD)<=3
 | []=>by simp [depL]
 | t::l=>by
  have:=Jke l;rw [map_cons,depL];have e:depD (tdD t)<=3:=by
   have hb:∀ o:Option (Int × Int),depD (bD o)<=1:=fun o=>by cases o <;> simp [bD,depD,frD,depL]
   have h1:=hb t.lo;have h2:=hb t.hi;simp only [tdD,depD,depL];ac_nf
  ac_nf
theorem Jlu (hg:BkH ts F) (h:∃ π,Pot π (ssD ts)):∃ x,BkG ts F x:=by
 obtain ⟨π,hπ⟩:=h;obtain ⟨p,k⟩:=bDok hg;refine ⟨fun f=>(π f:Rat)/(bD_ ts:Rat),hg.l35,hg.ok,hg.fb,hg.f8,hg.fm,fun s o=>?_⟩;have m:toS (bD_ ts) s∈ssD ts:=mem_map.mpr ⟨s,o,rfl⟩;have l:=hπ _ m;have i:((toS (bD_ ts) s).wh:Rat)=vl s.c*(bD_ ts:Rat):=(ss_wh k _ m).1;have a:(0:Rat)<(bD_ ts:Rat):=by
  have : (0:Int)<bD_ ts:=by ac_nf
  exact_mod_cast this
 have d:(π s.dst:Rat)<=(π s.src:Rat)+((toS (bD_ ts) s).wh:Rat):=by
  have e : π s.dst<=π s.src+(toS (bD_ ts) s).wh:=l;exact_mod_cast e
 rw [i] at d;show (π s.dst:Rat)/(bD_ ts:Rat)<=(π s.src:Rat)/(bD_ ts:Rat)+vl s.c;generalize (π s.dst:Rat)=x at *;generalize (π s.src:Rat)=y at *;generalize (bD_ ts:Rat)=b at *;generalize vl s.c=c at *;have g:b≠0:=fun z=>by rw [z] at a;exact absurd a ⋯
 have n:x/b*b=x:=Rat.div_mul_cancel g;have j:(y/b+c)*b=y+c*b:=by rw [Rat.add_mul,Rat.div_mul_cancel g]
 refine Rat.not_lt.mp fun z=>?_;have:=Rat.mul_lt_mul_of_pos_right z a;rw [n,j] at this;exact absurd d (Rat.not_le.mpr this)
abbrev plL (tb:Tab) (out:List Str):Pl:=out.map fun v=>(v,plD tb v)
theorem JgI {out:List Str}:(plL tb out).map (·.1)=out:=by
 unfold plL;rw [map_map];exact List.map_id _
theorem JgJ {out:List Str} (nd:out.Nodup) {v:Str} (hv:v∈out):look (plL tb out) v=plD tb v:=by
 obtain ⟨i,a⟩:=List.getElem?_of_mem hv;refine Jgw (i:=i) (by rw [JgI];exact nd) ?_;unfold plL;rw [List.getElem?_map,a];rfl
theorem pl_fb {out:List Str} (hg:BkH ts F) (h:TTd ts out tb) (hF:JaQ ts out):∀ z∈(plL tb out).map (·.1),FB 1711 701 (look (plL tb out) z):=fun z a=>by
 rw [JgI] at a;rw [JgJ hF.1 a];obtain ⟨e,b⟩:=(h.ks z).mpr (.inl a);rw [Jhk b];exact (h.fb hg.fb hg.l70 b).mono ⋯ ⋯
theorem pl_ok {out:List Str} (hg:BkH ts F) (h:TTd ts out tb) (hF:JaQ ts out):∀ t∈ts,okT (plL tb out) t=true:=fun t a=>by
 unfold okT apart;rw [JgJ hF.1 ((hF.2.2 _).mpr ⟨t,a, .inr rfl⟩),JgJ hF.1 ((hF.2.2 _).mpr ⟨t,a, .inl rfl⟩)];exact JlR hg h hF a
variable {x:Str->Rat}
theorem st_fb {out:List Str} {one:Str} (hg:BkG ts F x) (ht:TTd ts [one] tb) (h:TTd ts out tb0) (hF:JaQ ts out):∀ z∈(stD ts (fT tb) (fT tb0) out).map (·.1),FB 1711 701 (look (stD ts (fT tb) (fT tb0) out) z):=fun z a=>by
 rw [Jdf] at a;rw [Jdg hF.1 a];exact sv_fb hg ht h a
theorem st_ok {out:List Str} {one:Str} (hg:BkG ts F x) (h1:TTd ts [one] tb) (h:TTd ts out tb0) (hF:JaQ ts out):∀ t∈ts,okT (stD ts (fT tb) (fT tb0) out) t=true:=fun t a=>by
 unfold okT apart;rw [Jdg hF.1 ((hF.2.2 _).mpr ⟨t,a, .inr rfl⟩),Jdg hF.1 ((hF.2.2 _).mpr ⟨t,a, .inl rfl⟩)];exact Jmb hg h1 h hF t a
theorem Jks {out:List Str} {a b:Str} {e:(Int × Int) × List SpS} (h1:TTd ts [a] tb) (hF:JaQ ts out) (ha:a∈out) (hb:b∈out) (he:lk tb b=some e):look (stD ts (fT tb) (fT tb0) out) a=(0,1)/\look (stD ts (fT tb) (fT tb0) out) b=e.1:=by
 rw [Jdg hF.1 ha,Jdg hF.1 hb,Jc6 h1.self,Jc6 he];exact ⟨rfl,rfl⟩
section
variable {ta:TA} {k:Nat} {cs:List (Nat × Str)} {g:TG}
theorem y39y:JeU k cs (iRng1 ta) g tt te σ H Q=ta σ H fun vs H1=>∃ j:Int,vs=[.int j]/\-(2 ^ 62)<=j/\j<2 ^ 62/\Jct (Itr 0 j.toNat) k cs g tt te σ Q H1:=rfl
theorem Jct.range {lo:Int} (Pv:Nat->List V->Hp->Prop) (h0:Pv 0 [] H1) (hl:∀ i ys H',i<=n->Pv i ys H'->ys.length<=sizeLine)
  (hs:∀ i ys H2,i<n->Pv i ys H2->g (.int (lo+i)) (List.replicate k none++Jaz cs σ) H2 fun σ4 H4=>tt σ4 H4 fun b H5=>if b=true then te σ4 H5 fun y H6=>Pv (i+1) (ys++[y]) H6 else Pv (i+1) ys H5) (hd:∀ ys H2,Pv n ys H2->∀ p,H2 p=none->Q (.ref p) (upd H2 p (.lst ys))) :
  Jct (Itr lo n) k cs g tt te σ Q H1:=by
 refine ⟨fun i m ys H'=>Pv i ys H'/\i<=n/\m=n-i,⟨_,h0,Nat.zero_le _,rfl⟩,?_⟩;rintro i m ys H2 ⟨d,j,rfl⟩;refine ⟨hl i ys H2 j d,?_⟩;by_cases c:i<n
 ·refine .inr ⟨c,?_⟩;rintro v o ⟨rfl,rfl⟩;have w:∀ (f:List V) (H5:Hp),Pv (i+1) f H5=∃ m',m'<n-i/\Pv (i+1) f H5/\i+1<=n/\m'=n-(i+1):=fun f H5=>
   propext ⟨fun q=>⟨_,Nat.sub_lt_sub_left c (Nat.lt_succ_self i),q,c,rfl⟩,fun ζ=>by obtain ⟨_,_,q,_⟩:=ζ;exact q⟩
  have l:(fun (y:V) (H6:Hp)=>Pv (i+1) (ys++[y]) H6)=fun y H6=>∃ m',m'<n-i/\Pv (i+1) (ys++[y]) H6/\i+1<=n/\m'=n-(i+1):=by
   funext y H6
   exact w _ _
  have e:(fun (σ4:St) (H4:Hp)=>tt σ4 H4 fun b H5=>if b=true then te σ4 H5 fun y H6=>Pv (i+1) (ys++[y]) H6 else Pv (i+1) ys H5)=fun σ4 H4=>tt σ4 H4 fun b H5=>if b=true then te σ4 H5 fun y H6=>∃ m',m'<n-i/\Pv (i+1) (ys++[y]) H6/\i+1<=n/\m'=n-(i+1) else ∃ m',m'<n-i/\Pv (i+1) ys H5/\i+1<=n/\m'=n-(i+1):=by
   funext σ4 H4
   congr 1
   funext b H5
   by_cases a:b=true
   ·rw [if_pos a,if_pos a, <- l]
   ·rw [if_neg a,if_neg a];exact w ys H5
  have:=hs i ys _ c d;rw [e] at this;exact this
 ·have h:i=n:=by ac_nf
  subst h;exact .inl ⟨Nat.le_refl _,hd ys H2 d⟩
end
theorem Jbt {cs:List (Nat × Str)} {g:TG} (hc:X.calm=true) (hi:PI X tg iter wi)
  (hg:∀ fp s2 H2 C,PG (X.inc (own++cs.map (·.2)) scope (Jbm X.env.cells scope.names []) fp s2 H2 C) tg g) (he:∀ fp s2 H2 C,PE (X.inc (own++cs.map (·.2)) scope (Jbm X.env.cells scope.names []) fp s2 H2 C) elt te)
  (hfree:∀ p∈scope.names,p.2=.free->X.env.scope.names.lookup p.1=some .cell) (hcell:∀ y∈scope.names,y.2≠.cell) (hkind:scope.kind=.function) (hnames:∀ y∈scope.names,y.2=.local->scope.names.lookup y.1=some .local)
  (hcs:∀ p∈cs,X.N[p.1]?=some p.2/\X.env.scope.names.lookup p.2=some .cell/\(relabel scope X.env).names.lookup p.2=some .cell)
  (hs:∀ x,foldedSetIterable iter X.env x=pure x:=by intro _;rfl):PE X (.ListComp elt [⟨tg,iter,[],0⟩] scope pos) (tComp own.length cs wi g te):=by
 intro a s σ H Q I h;have d:∀ p∈scope.names,p.2=.free->∃ c,X.env.cells.lookup p.1=some c:=fun p u o=>I.ok.has p.1 (.inl (hfree p u o));have m:=Jb8 (cells:=X.env.cells) scope.names [] (fun _ _ z=>by simp at z) d;rw [eval_ListComp];refine wpAny_comprehension_free (use:=none) rfl hs (JeZ d) hkind hnames (thn (hi a s σ H _ I h) fun v Z E=>thn E fun G s2 L=>?_);obtain ⟨V,fp,S,J,H2,rfl,I2,T,e,B,W,⟨P,F⟩,b⟩:=L;refine JeG (QN:=fun n k=>∀ p,k p=none->Q (.ref p) (upd k p (.lst n))) (RR:=fun i C=>compPost (model X.prog X.w) X.A X.xe none (EP X a σ Q) i C) hc hg he hcell hkind m (fun z M=>Jb7 scope.names [] z (.inr (Je8 hcell M))) hcs I2 T e B F b ?_;intro D' C R k n j K Y O D U q;obtain ⟨r,l⟩:=D;exact ⟨r,l,fun t f=>⟨.ref D',_,j t f,rfl,q D' K⟩⟩
end L2
open PySem L2
local macro_rules|`(tactic|rename_i $p:ident $h:ident $q:ident $H:ident $G:ident $S:ident $e:ident)=>`(tactic|(intro $p:ident $h:ident;generalize $q:ident:upd $H $p _=$G;have $S:ident:=newS $h $q;have $e:ident:=newE $q))
local macro_rules|`(tactic|bv_decide)=>`(tactic|exact ⟨rfl,rfl,rfl,by decide +kernel,rfl,by decide +kernel,by decide +kernel⟩)
local macro_rules|`(tactic|simpa! only [$xs,*])=>do let l<-(("y52y y53y y54y y78y y2by y73y y87y y88y y49y y2fy y7fy y9ey y31y y3ey y79y y30y y92y y23y y29y y80y y7by y2ay y81y y7dy y60y ya0y y26y y90y y77y y70y y4ey y6fy y84y y34y y4cy y75y y4dy y76y y4by y74y y99y y6ay y66y y9by y9dy y9ay y9cy y25y y6ey y24y yby ydy yay ycy yey y15y y17y y14y y16y y18y y6y y8y y5y y7y y9y y1y y3y y0y y2y y4y y10y y12y yfy y11y y13y y1ay y1cy y19y y1by y1dy y1fy y21y y1ey y20y y22y y8ey y83y y7ay y96y ya1y y85y y27y V.int.injEq V.str.injEq V.bl.injEq y5cy y5ey y2dy y2ey y71y y65y y7cy y6by y6dy y3fy y48y y43y y82y y44y y35y y37y y3cy y42y y46y y57y y59y y61y y3ay y94y y38y y39y y55y y56y y9fy y98y y95y y47y y86y y6cy y2cy y8dy y50y ya4y y89y".splitOn " ").map (`L2++·.toName)++("true_and if_true if_false Bool.not_true Bool.not_false Bool.false_eq_true List.set_cons_zero List.set_cons_succ List.getElem?_cons_zero List.getElem?_cons_succ Option.some.injEq exists_eq_left exists_eq_left' Int.reduceToNat Int.reducePow append_nil nil_append cons_append reduceCtorEq decide_false decide_true".splitOn " ").map (·.toName)).toArray.mapM fun s=>`(Lean.Parser.Tactic.simpLemma|$(Lean.mkIdent s):term);`(tactic|simp only [$(l.foldl (fun a x=>a.push ⟨x.raw⟩) xs.getElems),*])
local macro_rules|`(tactic|mstop)=>`(tactic|simpa! only [y8by])
local macro_rules|`(tactic|mstart)=>`(tactic|simpa! only [y8by,y4fy])
local macro_rules|`(tactic|cutsat)=>`(tactic|simpa! only [y8by,y8cy])
local macro_rules|`(tactic|mvcgen)=>`(tactic|((try simpa! only [y4fy,y8cy]);repeat ((first | (with_reducible refine Jfo fun _ _=>?_) | (with_reducible refine Nxt.go (by assumption) ?_));(try simpa! only [y4fy,y8cy]))))
local macro_rules|`(tactic|mexact)=>`(tactic|((try simpa! only [y8cy]);repeat ((first | (with_reducible refine Jfo fun _ _=>?_) | (with_reducible refine Nxt.go (by assumption) ?_));(try simpa! only [y8cy]))))
local macro_rules|`(tactic|mleave)=>`(tactic|((try simpa! only [y4fy]);repeat ((first | (with_reducible refine Jfo fun _ _=>?_) | (with_reducible refine Nxt.go (by assumption) ?_));(try simpa! only [y4fy]))))
local macro_rules|`(tactic|cbv)=>`(tactic|((try simpa! only [true_and]);repeat ((first | (with_reducible refine Jfo fun _ _=>?_) | (with_reducible refine Nxt.go (by assumption) ?_));(try simpa! only [true_and]))))
local macro_rules|`(tactic|mspec)=>`(tactic|(try ((with_reducible refine Nxt.go (by assumption) ?_);cbv)))
local macro_rules|`(tactic|mframe)=>`(tactic|(mspec;cbv))
local macro_rules|`(tactic|mpure)=>`(tactic|repeat (refine And.intro (by first | exact Jbr ⋯ | exact powOkL ⋯ | exact Jbs ⋯ | exact mulOkL' ⋯ | exact Int.one_ne_zero | decide) ?_))
local macro_rules|`(tactic|simpa only [$xs,*])=>`(tactic|simpa! only [y8by, $xs,*])
namespace Prg
open PySem L2 Ch
variable {fd:FuncData} {dV:Value} {f:Addr}
def top (i:Nat):Stmt:=PySem.Challenge.pw_slackchain_k36_books_asked_between_deeds.main.body.getD i (.Pass ⟨0,0,0,0⟩)
structure Adr where
 SlackError:Addr
 NoTie:Addr
 NoName:Addr
 NoFace:Addr
 Impossible:Addr
 Tie:Addr
 Free:Addr
 AtLeast:Addr
 AtMost:Addr
 Just:Addr
 Between:Addr
 Scale:Addr
 Step:Addr
 Book:Addr
 SMALL_LETTERS:Value
 LONGEST_NAME:Value
 ZERO:Addr
structure TieC (K:W.Frag) (C:Addr):Prop where
 cls:Cls K C
 n1:Jbd K C "name"
 n2:Jbd K C "start"
 n3:Jbd K C "end"
 n4:Jbd K C "least"
 n5:Jbd K C "greatest"
def IsTie (Ad:Adr) (C:Addr):Prop:=C=Ad.Free\/C=Ad.AtLeast\/C=Ad.AtMost\/C=Ad.Just\/C=Ad.Between
def TieV (H:Hp) (v:V) (C:Addr) (n s e l g:V):Prop:=∃ p dx,v=.ref p/\H p=some (.ins C dx (tieF n s e l g))
def kindC (Ad:Adr) (l g:D):Addr:=if nonD l then (if nonD g then Ad.Free else Ad.AtMost) else if nonD g then Ad.AtLeast else if eqD l g then Ad.Just else Ad.Between
theorem Jfb (Ad:Adr) (l g:D):IsTie Ad (kindC Ad l g):=by
 unfold kindC IsTie;split
 ·split
  ·exact .inl rfl
  ·exact .inr (.inr (.inl rfl))
 ·split
  ·exact .inr (.inl rfl)
  ·split
   ·exact .inr (.inr (.inr (.inl rfl)))
   ·exact .inr (.inr (.inr (.inr rfl)))
structure Jlt (K:W.Frag) (C:Addr):Prop where
 cls:Cls K C
 n1:Jbd K C "bottom"
 n2:Jbd K C "factors"
def Jgi (Ad:Adr) (C:Addr):Prop:=C=Ad.Scale
structure StepC (K:W.Frag) (C:Addr):Prop where
 cls:Cls K C
 n1:Jbd K C "source"
 n2:Jbd K C "target"
 n3:Jbd K C "cost"
 n4:Jbd K C "whole"
 n5:Jbd K C "pair"
def Jls (Ad:Adr) (C:Addr):Prop:=C=Ad.Step
variable {H:Hp} {x a C:Addr}
theorem SqT.put {K:W.Frag} {dx:Addr} {fs fs':List (Str × V)} {xs:List V} (hx:H x=some (.ins C dx fs)) (h:SqT K H a xs):SqT K (upd H x (.ins C dx fs')) a xs:=by
 rcases h with (h | ⟨o,h⟩) | h
 ·exact .inl (.inl (by rw [Jah (ne_of h hx (by intro z;cases z))];exact h))
 ·exact .inl (.inr ⟨o,by rw [Jah (ne_of h hx (by intro z;cases z))];exact h⟩)
 ·exact .inr h
def partF (n s e z m w:V):List (Str × V):=[("name",n),("start",s),("end",e),("size",z),("most",m),("weight",w)]
def gapF (n s e l g:V):List (Str × V):=[("name",n),("one",s),("other",e),("low",l),("high",g)]
variable {H':Hp} {v:V}
theorem TieV.same {n s e l g:V} (S:Same H H') (h:TieV H v C n s e l g):TieV H' v C n s e l g:=by
 obtain ⟨p,c,a,b⟩:=h;exact ⟨p,c,a,S _ _ b⟩
structure BookC (K:W.Frag) (C:Addr):Prop where
 cls:Cls K C
 n1:Jbd K C "by_name"
def Jay (Ad:Adr) (C:Addr):Prop:=C=Ad.Book
structure Txt (K:W.Frag) (mg:Str->Option Value) (Ad:Adr):Prop where
 Bck:mg "abs"=none
 BaV:mg "isinstance"=none
 Bbl:mg "len"=none
 Bcn:mg "all"=none
 Bcg:mg "int"=none
 Bcl:mg "bool"=none
 Bca:mg "tuple"=none
 Bco:mg "str"=none
 Bb4:mg "range"=none
 Bcb:mg "list"=none
 n_reversed:mg "reversed"=none
 Bbx:mg "sorted"=none
 n_set:mg "set"=none
 n_max:mg "max"=none
 n_dict:mg "dict"=none
 m_SlackError:mg "SlackError"=some (.ref Ad.SlackError)
 m_NoTie:mg "NoTie"=some (.ref Ad.NoTie)
 Bcd:mg "NoName"=some (.ref Ad.NoName)
 m_NoFace:mg "NoFace"=some (.ref Ad.NoFace)
 m_Impossible:mg "Impossible"=some (.ref Ad.Impossible)
 m_Tie:mg "Tie"=some (.ref Ad.Tie)
 m_Free:mg "Free"=some (.ref Ad.Free)
 m_AtLeast:mg "AtLeast"=some (.ref Ad.AtLeast)
 m_AtMost:mg "AtMost"=some (.ref Ad.AtMost)
 m_Just:mg "Just"=some (.ref Ad.Just)
 m_Between:mg "Between"=some (.ref Ad.Between)
 Bcp:mg "Scale"=some (.ref Ad.Scale)
 m_Step:mg "Step"=some (.ref Ad.Step)
 m_Book:mg "Book"=some (.ref Ad.Book)
 BbF:mg "SMALL_LETTERS"=some Ad.SMALL_LETTERS
 BbG:RelV (.str "abcdefghijklmnopqrstuvwxyz") Ad.SMALL_LETTERS
 BbP:mg "LONGEST_NAME"=some Ad.LONGEST_NAME
 BbQ:RelV (.int 8) Ad.LONGEST_NAME
 Bb8:mg "ZERO"=some (.ref Ad.ZERO)
 Bb9:RelV (.ref Ad.ZERO) (.ref Ad.ZERO)
 Bb3:∀ H:Hp,SqT K H Ad.ZERO [.int 0, .int 1]
 x_SlackError:W.excIn K Ad.SlackError [.type "ValueError", .type "Exception", .type "BaseException", .type "object"] "ValueError.__new__"=true
 x_NoTie:W.excIn K Ad.NoTie [.type "ValueError", .type "Exception", .type "BaseException", .type "object"] "ValueError.__new__"=true
 x_NoFace:W.excIn K Ad.NoFace [.type "ValueError", .type "Exception", .type "BaseException", .type "object"] "ValueError.__new__"=true
 Bby:W.excIn K Ad.NoName [.type "ValueError", .type "Exception", .type "BaseException", .type "object"] "ValueError.__new__"=true
 tie:∀ C,IsTie Ad C->TieC K C
 BbS:∀ C,Jgi Ad C->Jlt K C
 c_Step:∀ C,Jls Ad C->StepC K C
 book:∀ C,Jay Ad C->BookC K C
 xn:Jcf K Ad.NoFace Ad.NoFace
 xa:ExcA K Ad.Impossible "around"
 xl:ExcL K Ad.Impossible "around"
 slk:SlkI K Ad.SlackError
 xc:Jcf K Ad.Impossible Ad.Impossible
def Jmk (dl dg:D) (a b:Int):Bool:=!lessD (.tup [.int a, .int b]) dl&&!lessD dg (.tup [.int a, .int b])
def negD:D->D
 | .tup [.int a, .int b]=>.tup [.int (-a), .int b]
 | d=>d
def Jem (ds de dl dg:D):List D:=(if nonD dg then [] else [.tup [ds,de,dg, .bl true]])++(if nonD dl then [] else [.tup [de,ds,negD dl, .bl false]])
structure Bnd (K:W.Frag) (H:Hp) (d:D) (v:V):Prop where
 rep:Rep K H d v
 ok:Jcu d=true
 sz:szD d
variable {d:D}
theorem Bnd.same {K:W.Frag} (S:Same H H') (b:Bnd K H d v):Bnd K H' d v:=⟨b.rep.same S,b.ok,b.sz⟩
theorem Bnd.frac {K:W.Frag} (b:Bnd K H d v) (h:nonD d=false):∃ x y,d=.tup [.int x, .int y]/\1<=y/\Mth.g x y=1/\FrV K H v x y/\Mth.Sz 4000 x/\Mth.Sz 4000 y:=by
 have f:fracB d=true:=by have:=b.ok;cases d <;> first | exact this | (simp [nonD] at h)
 obtain ⟨x,y,rfl,c,e⟩:=Jb9 f;have a:=b.sz;simp only [szD,szL] at a;exact ⟨x,y,rfl,c,e,FrV.of_rep b.rep,a.1,a.2.1⟩
section
variable {K:W.Frag}
theorem repS {z:Str}:Rep K H (.str z) (.str z):=by simp only [Rep]
end
theorem Jj0 (t:TD):Jem (.str t.st) (.str t.en) (bD t.lo) (bD t.hi)=(Ch.steps t).map pD:=by
 unfold Jem Ch.steps fwd bwd;cases t.lo <;> cases t.hi <;> simp [bD,frD,nonD,negD,pD]
theorem Jj8 {K:W.Frag} {o:Option (Int × Int)} (h:BV K H o v) (k:∀ a,o=some a->FOk 600 a):Bnd K H (bD o) v:=⟨h.rep,(bD_ok k).1,(bD_ok k).2⟩
def OV (K:W.Frag) (Ad:Adr) (H:Hp) (t:TD) (v:V):Prop:=∃ C vl vg,TieV H v C (.str t.nm) (.str t.st) (.str t.en) vl vg/\IsTie Ad C/\BV K H t.lo vl/\BV K H t.hi vg
variable {Ad:Adr}
theorem OV.same {K:W.Frag} {t:TD} (S:Same H H'):OV K Ad H t v->OV K Ad H' t v:=by rintro ⟨C,vl,c,b,d,e,a⟩;exact ⟨C,vl,c,b.same S,d,e.sameT S.t,a.sameT S.t⟩
section
variable {p d:Addr} {kvs:List (Key × V)} {ts:List TD} {K:W.Frag}
def Sx (d:Addr) (H H':Hp):Prop:=∀ b u,b≠d->H b=some u->H' b=some u
theorem Same.sx (S:Same H H'):Sx d H H':=fun b u _ h=>S b u h
theorem Sx.t (S:Sx d H H') (hd:H d=some (.dK kvs)):SameT H H':=fun b u t h=>S b u (fun z=>by rw [z,hd] at h;cases h;simp [isTF] at t) h
theorem OV.sx {t:TD} (S:Sx d H H') (hd:H d=some (.dK kvs)):OV K Ad H t v->OV K Ad H' t v:=fun ⟨C,vl,c,⟨q,g,e,a⟩,f,h,b⟩=>⟨C,vl,c,⟨q,g,e,S _ _ (fun z=>by rw [z,hd] at a;cases a) a⟩,f,h.sameT (S.t hd),b.sameT (S.t hd)⟩
def BK (K:W.Frag) (Ad:Adr) (H:Hp) (p d:Addr) (ts:List TD):Prop:=(∃ dx,H p=some (.ins Ad.Book dx [("by_name", .ref d)]))/\∃ kvs,H d=some (.dK kvs)/\BD (OV K Ad H) ts kvs
theorem BK.same (S:Same H H') (h:BK K Ad H p d ts):BK K Ad H' p d ts:=by
 obtain ⟨⟨f,e⟩,a,b,c⟩:=h;exact ⟨⟨f,S _ _ e⟩,a,S _ _ b,c.mono fun _ _ z=>z.same S⟩
theorem BK.sl {l:Addr} {zs:List V} (h:BK K Ad H p d ts) (hl:H l=some (.lst zs)) (S:Sx l H H'):BK K Ad H' p d ts:=by
 obtain ⟨⟨i,f⟩,c,g,n⟩:=h;have j:SameT H H':=fun b u t h=>S b u (fun z=>by rw [z,hl] at h;cases h;simp [isTF] at t) h;refine ⟨⟨i,S _ _ (fun z=>by rw [z,hl] at f;cases f) f⟩,c,S _ _ (fun z=>by rw [z,hl] at g;cases g) g,n.mono ?_⟩;rintro t v ⟨C,vl,k,⟨q,i,e,a⟩,m,o,r⟩;exact ⟨C,vl,k,⟨q,i,e,S _ _ (fun z=>by rw [z,hl] at a;cases a) a⟩,m,o.sameT j,r.sameT j⟩
end
def SCK (Ad:Adr) (H:Hp) (x:Addr) (b:Int) (fs:List Int):Prop:=∃ dx fl,H x=some (.ins Ad.Scale dx [("bottom", .int b),("factors", .ref fl)])/\H fl=some (.lst (fs.map V.int))/\Scl b fs/\Mth.Sz 2000 b/\fs.length<=70
variable {b:Int}
theorem SCK.same {fs:List Int} (S:Same H H'):SCK Ad H x b fs->SCK Ad H' x b fs:=by rintro ⟨e,c,a,d,f⟩;exact ⟨e,c,S _ _ a,S _ _ d,f⟩
def TOb (K:W.Frag) (Ad:Adr) (H:Hp) (t:TD) (v:V):Prop:=∃ vl vg,TieV H v (kindC Ad (bD t.lo) (bD t.hi)) (.str t.nm) (.str t.st) (.str t.en) vl vg/\BV K H t.lo vl/\BV K H t.hi vg
theorem TOb.same {K:W.Frag} {t:TD} (S:Same H H'):TOb K Ad H t v->TOb K Ad H' t v:=by
 rintro ⟨vl,a,b,d,c⟩;exact ⟨vl,a,b.same S,d.sameT S.t,c.sameT S.t⟩
def SRV (K:W.Frag) (H:Hp) (s:SD) (x:V):Prop:=∃ b v,x=.ref b/\SqT K H b [.str s.nm,v]/\PV K H s v
variable {s:SD} {x:V}
theorem SRV.sameT {K:W.Frag} (S:SameT H H'):SRV K H s x->SRV K H' s x:=by
 rintro ⟨b,v,a,c,d⟩;exact ⟨b,v,a,c.sameT S,d.sameT S⟩
def SOV (K:W.Frag) (Ad:Adr) (b:Int) (H:Hp) (s:SD) (x:V):Prop:=∃ p dx vc pr,x=.ref p/\H p=some (.ins Ad.Step dx [("source", .str s.src),("target", .str s.dst),("cost",vc),("whole", .int (s.c.1*b.fdiv s.c.2)),("pair", .ref pr)])/\FrV K H vc s.c.1 s.c.2/\H pr=some (.tup [.str s.nm, .bl s.fw])
theorem SOV.same {K:W.Frag} (S:Same H H'):SOV K Ad b H s x->SOV K Ad b H' s x:=by
 rintro ⟨p,f,g,d,c,e,h,a⟩;exact ⟨p,f,g,d,c,S _ _ e,h.same S,S _ _ a⟩
def SOS (K:W.Frag) (Ad:Adr) (H:Hp) (s:SpS) (x:V):Prop:=∃ p dx vc pr,x=.ref p/\H p=some (.ins Ad.Step dx [("source", .str s.src),("target", .str s.tgt),("cost",vc),("whole", .int s.wh),("pair", .ref pr)])/\FrV K H vc s.cost.1 s.cost.2/\H pr=some (.tup [.str s.nm, .bl s.fw])
theorem SOS.same {K:W.Frag} {s:SpS} (S:Same H H'):SOS K Ad H s x->SOS K Ad H' s x:=by
 rintro ⟨p,e,f,c,b,d,g,a⟩;exact ⟨p,e,f,c,b,S _ _ d,g.same S,S _ _ a⟩
def RI (a:Int) (v:V):Prop:=v=.int a
def chV:Option Str->V
 | none=>.non
 | some f=>.str f
def RT (K:W.Frag) (H0 H:Hp) (e:(Int × Int) × List SpS) (v:V):Prop:=∃ p qv l xs,v=.ref p/\SqT K H p [qv, .ref l]/\FrV K H qv e.1.1 e.1.2/\H l=some (.lst xs)/\All2 (CV H) (e.2.map fun s=>(s.nm,s.fw)) xs/\H0 l=none
variable {H0:Hp} {e:(Int × Int) × List SpS}
theorem RT.same {K:W.Frag} (S:Same H H'):RT K H0 H e v->RT K H0 H' e v:=by
 rintro ⟨p,g,l,a,c,f,i,b,d,h⟩;exact ⟨p,g,l,a,c,f.same S,i.same S,S _ _ b,(d.mono fun _ _ z=>z.sameT S.t),h⟩
theorem RT.putL {K:W.Frag} {o:HO} {kv:List (Key × V)} (u:upd H a o=H') (h:H a=some (.dK kv)):RT K H0 H e v->RT K H0 H' e v:=by
 rintro ⟨p,i,l,c,d,g,k,b,f,j⟩;have T:SameT H H':=SameT.put u h rfl;have n:l≠a:=fun z=>by rw [z,h] at b;cases b
 exact ⟨p,i,l,c,d,g.sameT T,k.sameT T,by rw [<- u,Jah n];exact b,(f.mono fun _ _ z=>z.sameT T),j⟩
def RF (K:W.Frag) (H:Hp) (e:Int × Int) (v:V):Prop:=FrV K H v e.1 e.2
def TDk (K:W.Frag) (H0 H:Hp) (tb:Tab) (td:Addr):Prop:=∃ kt,H td=some (.dK kt)/\DV (RT K H0 H) tb kt/\H0 td=none
variable {tb:Tab} {td:Addr}
theorem TDk.same {K:W.Frag} (S:Same H H'):TDk K H0 H tb td->TDk K H0 H' tb td:=by rintro ⟨b,a,c,d⟩;exact ⟨b,S _ _ a,c.mono fun _ _ z=>z.same S,d⟩
variable {H1:Hp}
theorem RT.base {K:W.Frag} (S:Same H1 H0):RT K H0 H e v->RT K H1 H e v:=by rintro ⟨p,g,l,a,c,f,i,b,d,h⟩;exact ⟨p,g,l,a,c,f,i,b,d,JaD S h⟩
theorem TDk.base {K:W.Frag} (S:Same H1 H0):TDk K H0 H tb td->TDk K H1 H tb td:=by rintro ⟨b,a,c,d⟩;exact ⟨b,a,c.mono fun _ _ z=>z.base S,JaD S d⟩
theorem Jma {K:W.Frag} (h:SOV K Ad b H s x):SOS K Ad H (toS b s) x:=h
theorem Jfr {K:W.Frag}:∀ {ss:List SD} {xs:List V},All2 (SOV K Ad b H) ss xs->All2 (SOS K Ad H) (ss.map (toS b)) xs
 | [],_,h=>h
 | s::ss,_,⟨x,r,e,h1,h2⟩=>⟨x,r,e,Jma h1,Jfr h2⟩
structure STp (K:W.Frag) (Ad:Adr) (H:Hp) (ts:List TD) (sL:Addr):Prop where
 ex:∃ sx,SqL K H sL sx/\All2 (SOS K Ad H) (ssD ts) sx
 b1:1<=bD_ ts
 bb:∀ s∈Ch.all ts,1<=s.c.2/\s.c.2∣bD_ ts
variable {ts:List TD}
theorem STp.same {K:W.Frag} {sL:Addr} (S:Same H H') (h:STp K Ad H ts sL):STp K Ad H' ts sL:=by
 obtain ⟨⟨d,b,c⟩,e,a⟩:=h;exact ⟨⟨d,b.same S,c.mono fun _ _ z=>z.same S⟩,e,a⟩
def PDk (K:W.Frag) (H:Hp) (pb:List (Str × (Int × Int))) (pd:Addr):Prop:=∃ kp,H pd=some (.dK kp)/\DV (RF K H) pb kp
theorem PDk.same {K:W.Frag} {pb:List (Str × (Int × Int))} {pd:Addr} (S:Same H H'):PDk K H pb pd->PDk K H' pb pd:=fun ⟨a,b,c⟩=>⟨a,S _ _ b,c.mono fun _ _ z=>FrV.same S z⟩
def ShV (K:W.Frag) (H0 H:Hp) (e:(Int × Int) × List SpS) (pl:List (Str × (Int × Int))) (q:Addr):Prop:=∃ qv l cx zl zs,H q=some (.tup [qv, .ref l, .ref zl])/\FrV K H qv e.1.1 e.1.2/\H l=some (.lst cx)/\All2 (CV H) (e.2.map fun s=>(s.nm,s.fw)) cx/\H0 l=none/\H zl=some (.lst zs)/\All2 (QV K H) pl zs/\H0 zl=none
theorem ShV.same {K:W.Frag} {pl:List (Str × (Int × Int))} {q:Addr} (S:Same H H'):ShV K H0 H e pl q->ShV K H0 H' e pl q:=by rintro ⟨j,l,h,i,b,c,f,n,a,d,m,k,g⟩;exact ⟨j,l,h,i,b,S _ _ c,f.same S,S _ _ n,(a.mono fun _ _ z=>z.sameT S.t),d,S _ _ m,(k.mono fun _ _ z=>z.sameT S.t),g⟩
def Ans (K:W.Frag) (ts:List TD) (k:Nat) (one other:Str) (H0 H:Hp) (v:V):Prop :=
 (k=0/\∃ l ys out tb,v=.ref l/\H l=some (.lst ys)/\JaQ ts out/\TTd ts out tb/\All2 (QV K H) (out.map fun v=>(v,plD tb v)) ys) \/
 (k=1/\∃ q vl vg,v=.ref q/\H q=some (.tup [vl,vg])/\BV K H ((dD ts other one).map (subF (0,1))) vl/\BV K H (dD ts one other) vg) \/
 ((k=2\/k=3)/\∃ tb,TTd ts [if k=3 then one else other] tb/\((v=.non/\lk tb (if k=3 then other else one)=none)\/∃ q e tb0 out,v=.ref q/\lk tb (if k=3 then other else one)=some e/\JaQ ts out/\TTd ts out tb0/\ShV K H0 H (if k=3 then e.1 else subF (0,1) e.1,e.2) (stD ts (fT tb) (fT tb0) out) q)) \/
 (k=4/\∃ l ys,v=.ref l/\H l=some (.lst ys)/\All2 (TV K H) (nwD ts) ys/\∀ t∈ts,(∃ tb,TTd ts [t.st] tb)/\∃ tb,TTd ts [t.en] tb)
theorem Ans.same {K:W.Frag} {k:Nat} {one other:Str} (S:Same H H'):Ans K ts k one other H0 H v->Ans K ts k one other H0 H' v:=by
 rintro (⟨b,l,i,d,h,a,c,f,g,r⟩ | ⟨b,q,vl,m,a,c,f,g⟩ | ⟨b,h,a,c⟩ | ⟨b,l,i,a,c,f,g⟩)
 ·exact .inl ⟨b,l,i,d,h,a,S _ _ c,f,g,r.mono fun _ _ z=>z.sameT S.t⟩
 ·exact .inr (.inl ⟨b,q,vl,m,a,S _ _ c,f.sameT S.t,g.sameT S.t⟩)
 ·refine .inr (.inr (.inl ⟨b,h,a,c.imp id ?_⟩));rintro ⟨q,e,j,d,o,p,s,u,n⟩;exact ⟨q,e,j,d,o,p,s,u,n.same S⟩
 ·exact .inr (.inr (.inr ⟨b,l,i,a,S _ _ c,f.mono fun _ _ z=>z.sameT S.t,g⟩))
theorem Ans.base {K:W.Frag} {k:Nat} {one other:Str} (S:Same H1 H0):Ans K ts k one other H0 H v->Ans K ts k one other H1 H v:=by
 rintro (h | h | ⟨s,g,n,x⟩ | h)
 ·exact .inl h
 ·exact .inr (.inl h)
 ·refine .inr (.inr (.inl ⟨s,g,n,x.imp id ?_⟩));rintro ⟨q,e,a,b,i,m,w,B,r,l,y,z,u,p,j,t,f,A,d,o,c⟩;exact ⟨q,e,a,b,i,m,w,B,r,l,y,z,u,p,j,t,f,JaD S A,d,o,JaD S c⟩
 ·exact .inr (.inr (.inr h))
section
variable {P:Program} {w:World} {mg:Str->Option Value} {K:W.Frag} {base:Heap}
seal PE PA PS PSs PT PW PG PGs PI PO
abbrev Bah:Stmt:=top 9
theorem JaL:Jao ["one","other","greater","lesser","rest"] ["one","other"] (Jac Bah):=by bv_decide
def JaM  : Sp:=fun vs H Q E=>∃ (a b:Int),vs=[.int a, .int b]/\Q (.int (Mth.g a b)) H
theorem Jdo (F:FunD K "common_divisor" "common_divisor" Bah dV f fd) (T:Txt K mg Ad)  : FnOk P w K mg base (CX1 P w) 1 f fd ["one","other"] (JaM):=by
 refine F.okn JaL (by subst_eqs) (fun p A d s H n Q E o h=>?_)
 obtain ⟨a,b,rfl,h⟩:=h;have k:=o.units;refine ⟨_,(Jab (Jaj 2 JaL.nd (Jav JfC rfl T.Bck Jj9 (Jaa (pv 0) Jag))) (Jab (Jaj 3 JaL.nd (Jav JfC rfl T.Bck Jj9 (Jaa (pv 1) Jag))) (Jab (JdN PassesOwn.never (Jan (Jcx k) (pv 3) Jad (Jar _)) (Jab (Jaj 4 JaL.nd (pe_op JaR (pv 2) (pv 3))) (Jab (Jaj 2 JaL.nd (pv 3)) (Jaf (Jaj 3 JaL.nd (pv 4)))))) (Jaf (Jal (pv 2)))))),?_⟩
 clear k;show tSeq _ _ _ [some (.int a),some (.int b),none,none,none] H;try mstop
 refine ⟨fun m σ l=>∃ (x y:Int) (z:Option V),σ=[some (.int a),some (.int b),some (.int x),some (.int y),z]/\l=H/\0<=x/\0<=y/\Mth.g x y=Mth.g a b/\y.toNat=m,⟨_,_,_,none,rfl,rfl,Mth.Jj6 a,Mth.Jj6 b,Mth.Bcm a b,rfl⟩,?_⟩;rintro m σ l ⟨x,y,z,rfl,rfl,t,r,j,rfl⟩;try mstop
 by_cases c:y=0
 ·subst c;rw [if_neg (by simp)];have e:Mth.g a b=x:=by rw [<- j,Mth.JlC];ac_nf
  rw [e] at h;exact h
 ·rw [if_pos (by simp [c])];have f:=Mth.fm (x:=x) (y:=y) ∅;exact ⟨_,fun _ _ q=>q,c,(x.fmod y).toNat,by ac_nf,y,x.fmod y,_,rfl,rfl,r,f.1,by rw [Mth.JkM ∅];exact j,rfl⟩
abbrev BbR:Stmt:=top 10
theorem Jfn:Jao ["one","other","shared","top","rest"] ["one","other"] (Jac BbR):=by bv_decide
def Jel (K:W.Frag):Sp:=fun vs H Q E=>∃ (x y:V) (a b c d:Int),vs=[x,y]/\FrV K H x a b/\FrV K H y c d/\Mth.Sz 4000 a/\Mth.Sz 4000 b/\Mth.Sz 4000 c/\Mth.Sz 4000 d/\1<=b/\1<=d/\Mth.g a b=1/\Mth.g c d=1/\∀ p H',Same H H'->H' p=some (.tup [.int (Mth.top (a*d+c*b) (b*d)), .int (Mth.bot (a*d+c*b) (b*d))])->Q (.ref p) H'
theorem JkY (F:FunD K "plus" "plus" BbR dV f fd) (T:Txt K mg Ad) (Bac:Cal P w K mg base 1 "common_divisor" ["one","other"] [] (JaM)):FnOk P w K mg base (CX1 P w) 2 f fd ["one","other"] (Jel K):=by
 refine F.okn Jfn (by subst_eqs) (fun V A l s H D Q E r h=>?_)
 obtain ⟨x,y,a,b,c,d,rfl,h⟩:=h;refine ⟨_,(Jab (Jaj 2 Jfn.nd (Bac.ev r ⋯ rfl passF (Jaa (pe_ix ix_U (pv 0) Jad) (Jaa (pe_ix ix_U (pv 1) Jad) Jag)))) (Jab (Jaj 3 Jfn.nd (pe_op Jbx (pe_op JaH (pe_ix ix_U (pv 0) Jad) (pe_op Jaw (pe_ix ix_U (pv 1) Jad) (pv 2))) (pe_op JaH (pe_ix ix_U (pv 1) Jad) (pe_op Jaw (pe_ix ix_U (pv 0) Jad) (pv 2))))) (Jab (Jaj 4 Jfn.nd (Bac.ev r ⋯ rfl passF (Jaa (pv 3) (Jaa (pv 2) Jag)))) (Jaf (Jal (JaP (Jaa (pe_op Jaw (pv 3) (pv 4)) (Jaa (pe_op JaH (pe_op Jaw (pe_ix ix_U (pv 0) Jad) (pv 2)) (pe_op Jaw (pe_ix ix_U (pv 1) Jad) (pv 4))) Jag)))))))),?_⟩
 obtain ⟨e,j,N,M,G,o,O,J,U,B,k⟩:=h;show tSeq _ _ _ [some x,some y,none,none,none] H;try mstop
 refine ixF1 e (ixF1 j ?_);try mstop
 refine ⟨_,_,rfl,?_⟩;try mstop
 have Y:=Mth.g_pos (a:=b) (b:=d) ∅;have W:=Mth.JdY b d;have u:=Mth.Jc8 b d;have v:Mth.Sz 4000 (Mth.g b d):=Nat.lt_of_le_of_lt (by have:=Mth.g_le (a:=b) (b:=d) ∅;ac_nf:(Mth.g b d).natAbs<=d.natAbs) o;have m:DivOk (Mth.g b d):=divOk ∅ v;have q:=M.fdiv W ∅;have L:=o.fdiv u ∅;refine ixF0 e (ixF1 j ?_);try mstop
 refine ⟨m,mulOk N L,ixF0 j (ixF1 e ?_)⟩;try mstop
 refine ⟨m,mulOk G q,?_⟩;refine ⟨_,_,rfl,?_⟩;have n:=Mth.Jlc O J U B (s:=Mth.g b d) rfl rfl rfl;generalize ht:a*d.fdiv (Mth.g b d)+c*b.fdiv (Mth.g b d)=t at n ⊢;have Z:=Mth.g_pos (a:=t) (b:=Mth.g b d) ∅;have R:=Mth.Jc8 t (Mth.g b d);have I:Mth.Sz 4000 (Mth.g t (Mth.g b d)):=Nat.lt_of_le_of_lt (by have:=Mth.g_le (a:=t) (b:=Mth.g b d) ∅;ac_nf:(Mth.g t (Mth.g b d)).natAbs<=(Mth.g b d).natAbs) v;have z:DivOk (Mth.g t (Mth.g b d)):=divOk ∅ I;try mstop
 refine ⟨z,ixF1 e ?_⟩;try mstop
 refine ⟨m,ixF1 j ?_⟩;try mstop
 refine ⟨z,mulOk q (o.fdiv (Int.dvd_trans R u) ∅),len2,?_⟩;refine Jiz fun p X S C=>k p X S ?_;rw [C,n.1,n.2]
abbrev BbA:Stmt:=top 11
theorem JjT:Jao ["one","other"] ["one","other"] (Jac BbA):=by bv_decide
def Jdd (K:W.Frag):Sp:=fun vs H Q E=>∃ (x y:V) (a b c d:Int),vs=[x,y]/\FrV K H x a b/\FrV K H y c d/\Mth.Sz 4000 a/\Mth.Sz 4000 b/\Mth.Sz 4000 c/\Mth.Sz 4000 d/\1<=b/\1<=d/\Mth.g a b=1/\Mth.g c d=1/\∀ p H',Same H H'->H' p=some (.tup [.int (Mth.top (a*d-c*b) (b*d)), .int (Mth.bot (a*d-c*b) (b*d))])->Q (.ref p) H'
theorem JjB (F:FunD K "minus" "minus" BbA dV f fd) (T:Txt K mg Ad) (Bbz:Cal P w K mg base 2 "plus" ["one","other"] [] (Jel K)):FnOk P w K mg base (CX1 P w) 3 f fd ["one","other"] (Jdd K):=by
 refine F.okn JjT (by subst_eqs) (fun L A e s H l Q E q h=>?_)
 obtain ⟨x,y,a,b,c,d,rfl,h⟩:=h;refine ⟨_,(Jaf (Jal (Bbz.ev q ⋯ rfl passF (Jaa (pv 0) (Jaa (JaP (Jaa (pe_un Jgf (pe_ix ix_U (pv 1) Jad)) (Jaa (pe_ix ix_U (pv 1) Jad) Jag))) Jag))))),?_⟩;obtain ⟨I,g,C,B,m,z,D,t,G,i,k⟩:=h;show tRet _ _ [some x,some y] H;try mstop
 refine ixF0 g ?_;try mstop
 refine ixF1 g ?_;try mstop
 refine ⟨len2,?_⟩;rename_i p u v H M S j;refine ⟨_,_,a,b, -c,d,rfl,I.same S,FrV.of j,C,B,m.neg,z,D,t,G,by rw [Mth.g_neg];exact i,fun r J n o=>k r J (S.trans n) ?_⟩;rw [o,Int.neg_mul, <- Int.sub_eq_add_neg]
abbrev BbB:Stmt:=top 12
theorem JjU:Jao ["one","other"] ["one","other"] (Jac BbB):=by bv_decide
def Jfs (K:W.Frag):Sp:=fun vs H Q E=>∃ (x y:V) (a b c d:Int),vs=[x,y]/\FrV K H x a b/\FrV K H y c d/\Mth.Sz 4000 a/\Mth.Sz 4000 b/\Mth.Sz 4000 c/\Mth.Sz 4000 d/\Q (.bl (decide (a*d<c*b))) H
theorem JjC (F:FunD K "under" "under" BbB dV f fd) (T:Txt K mg Ad)  : FnOk P w K mg base (CX1 P w) 1 f fd ["one","other"] (Jfs K):=by
 refine F.okn JjU (by subst_eqs) (fun p A e s H j Q E q h=>?_)
 obtain ⟨x,y,a,b,c,d,rfl,h⟩:=h;refine ⟨_,(Jaf (Jal (Ja4 Jd9 (pe_op JaH (pe_ix ix_U (pv 0) Jad) (pe_ix ix_U (pv 1) Jad)) (pe_op JaH (pe_ix ix_U (pv 1) Jad) (pe_ix ix_U (pv 0) Jad)) (Jar _)))),?_⟩;obtain ⟨g,i,o,n,l,m,k⟩:=h;show tRet _ _ [some x,some y] H;try mstop
 refine ixF0 g (ixF1 i ?_);try mstop
 refine ⟨mulOk o m,ixF0 i (ixF1 g ?_)⟩;try mstop
 exact ⟨mulOk l n,k⟩
abbrev Bbb:Stmt:=top 18
theorem JhK:Jao ["thing"] ["thing"] (Jac Bbb):=by bv_decide
def JcR (K:W.Frag):Sp:=fun vs H Q E=>∃ (x:V) (d:D),vs=[x]/\Rep K H d x/\szD d/\∀ H',Same H H'->Q (.bl (nameB d)) H'
theorem JhE (F:FunD K "is_name" "is_name" Bbb dV f fd) (T:Txt K mg Ad)  : FnOk P w K mg base (CX1 P w) 1 f fd ["thing"] (JcR K):=by
 refine F.okn JhK (by subst_eqs) (fun I A a s H y Q E N h=>?_)
 obtain ⟨x,d,rfl,h⟩:=h;refine ⟨_,(Jab (ps_if (JcA (Jce (Jav Ja2 rfl T.BaV Jbq (Jaa (pv 0) (Jaa (Jec (v:=.ty "str") rfl T.Bco Jlx rfl) Jag))))) (Jaf (Jal pe_bl))
   Jap) (Jab (ps_if (PW.pt (pw_or (Jan Jd9 (Jav JaF rfl T.Bbl Jbw (Jaa (pv 0) Jag)) Jad (Jar _)) (Jcp (Jan JiF (Jav JaF rfl T.Bbl Jbw (Jaa (pv 0) Jag)) (Jdp (v:=.int 8) rfl T.BbP T.BbQ) (Jar _))))) (Jaf (Jal pe_bl))
   Jap) (Jaf (Jal (Jav (JhZ rfl) rfl T.Bcn Jlv (Jaa (Jbt (own:=["sign"]) (cs:=[]) rfl (JlZ (pv 0)) (fun _ _ _ _=>(Jat 0 (show [("sign" : Str)].Nodup by decide))) (fun _ _ _ _=>(Ja4 (Jkq (K:=K) rfl) (pv 0) (Jdp (v:=.str "abcdefghijklmnopqrstuvwxyz") rfl T.BbF T.BbG) (by with_unfolding_all rfl))) (JbU rfl) ⋯ rfl ⋯ hcs0) Jag)))))),?_⟩
 obtain ⟨l,t,k⟩:=h;show tSeq _ _ _ [some x] H;try mstop
 refine ⟨_,l.tyN,?_⟩;by_cases b:∃ z,d=.str z
 ·obtain ⟨z,rfl⟩:=b;simp only [Rep] at l;subst l;simp only [szD] at t;simpa only [tyD];have u:z.length<=sizeLine:=Nat.le_trans t ⋯;simp only [nameB,nameS] at k;refine ⟨u,?_⟩;try mstop
  by_cases U:z.length<1
  ·rw [if_pos (by simp;ac_nf)];have e:decide (1<=z.length)=false:=by simp;ac_nf
   rw [e] at k;exact k H (.refl H)
  ·rw [if_neg (by simp;ac_nf)];have e:decide (1<=z.length)=true:=by simp;ac_nf
   rw [e] at k;refine ⟨u,?_⟩;try mstop
   by_cases J:8<z.length
   ·rw [if_pos (by simp;ac_nf)];have e:decide (z.length<=8)=false:=by simp;ac_nf
    rw [e] at k;exact k H (.refl H)
   ·rw [if_neg (by simp;ac_nf)];have e:decide (z.length<=8)=true:=by simp;ac_nf
    rw [e] at k;try mstop
    simpa only [tComp,iStr];refine ⟨fun i m r j=>j=H/\i<=z.cps.size/\m=z.cps.size-i/\r=(z.cps.toList.take i).map fun c=>V.bl (lowB c),⟨_,rfl,Nat.zero_le _,rfl,by simp⟩,?_⟩;rintro i m r j ⟨rfl,O,rfl,rfl⟩;have M:z.cps.size=z.length:=rfl;refine ⟨by simp;ac_nf,?_⟩;by_cases g:i<z.cps.size
    ·refine .inr ⟨g,?_⟩;rintro x o ⟨rfl,c,G,rfl⟩;simpa only [length_singleton,List.replicate,Jaz,map_nil,y62y,Jhw];refine ⟨_,Nat.sub_lt_sub_left g (Nat.lt_succ_self i),g,rfl,?_⟩;have n:z.cps.toList[i]?=some c:=by simpa using G
     rw [take_succ,n];simp
    ·have q:i=z.cps.size:=by ac_nf
     refine .inl ⟨q,?_⟩;subst q;rw [take_of_length_le (by simp)];rename_i p L R j o S B;refine ⟨p,z.cps.toList.map lowB,rfl,SqL.of (by rw [B,map_map];rfl),?_⟩;have:=k o S;simpa [List.all_map] using this
 ·have C:nameB d=false:=by cases d <;> first | rfl | exact absurd ⟨_,rfl⟩ b
  rw [C] at k;have D:isiB (tyD d) "str"=false:=by cases d <;> first | rfl | exact absurd ⟨_,rfl⟩ b
  simpa only [D];exact k H (.refl H)
abbrev BaX:Stmt:=top 19
theorem JgR:Jao ["thing"] ["thing"] (Jac BaX):=by bv_decide
def Jc3 (K:W.Frag):Sp:=fun vs H Q E=>∃ (x:V) (d:D),vs=[x]/\Rep K H d x/\Q (.bl (JdB d)) H
theorem JgD (F:FunD K "is_whole" "is_whole" BaX dV f fd) (T:Txt K mg Ad)  : FnOk P w K mg base (CX1 P w) 1 f fd ["thing"] (Jc3 K):=by
 refine F.okn JgR (by subst_eqs) (fun e A b s H g Q E i h=>?_)
 obtain ⟨x,d,rfl,h⟩:=h;refine ⟨_,(Jaf (Jal (Jda (Jav Ja2 rfl T.BaV Jbq (Jaa (pv 0) (Jaa (Jec (v:=.ty "int") rfl T.Bcg JhY rfl) Jag))) (Jdw (Jkr (Jav Ja2 rfl T.BaV Jbq (Jaa (pv 0) (Jaa (Jec (v:=.ty "bool") rfl T.Bcl JkD rfl) Jag)))))))),?_⟩;obtain ⟨c,k⟩:=h;show tRet _ _ [some x] H;try mstop
 refine ⟨_,c.tyN,?_⟩;have a:=c.tyN;cases d <;> simp only [tyD,JdB,y8by,y52y,y53y,y54y,y78y,y2by,y73y,y87y,y88y,y49y,y2fy,y7fy,y9ey,y31y,y3ey,y79y,y30y,y92y,y23y,y29y,y80y,y7by,y2ay,y81y,y7dy,y60y,ya0y,y26y,y90y,y77y,y70y,y4ey,y6fy,y84y,y34y,y4cy,y75y,y4dy,y76y,y4by,y74y,y99y,y6ay,y66y,y9by,y9dy,y9ay,y9cy,y25y,y6ey,y24y,true_and,if_true,if_false,Bool.not_true,Bool.not_false,Bool.false_eq_true,yby,ydy,yay,ycy,yey,y15y,y17y,y14y,y16y,y18y,y6y,y8y,y5y,y7y,y9y,y1y,y3y,y0y,y2y,y4y,y10y,y12y,yfy,y11y,y13y,y1ay,y1cy,y19y,y1by,y1dy,y1fy,y21y,y1ey,y20y,y22y,y8ey,y83y,y7ay,y96y,ya1y,y85y,y27y,V.int.injEq,V.str.injEq,List.set_cons_zero,List.set_cons_succ,List.getElem?_cons_zero,List.getElem?_cons_succ,Option.some.injEq,exists_eq_left,exists_eq_left',V.bl.injEq,Int.reduceToNat,Int.reducePow,append_nil,nil_append,cons_append,y5cy,y5ey,y2dy,y2ey,y71y,y65y,y7cy,y6by,y6dy,y3fy,y48y,y43y,y82y,y44y,y35y,y37y,y3cy,y42y,y46y,y57y,y59y,y61y,y3ay,y94y,y38y,y39y,y55y,y56y,y9fy,y98y,y95y,y47y,y86y,y6cy,y2cy,y8dy,y50y,ya4y,y89y,reduceCtorEq,decide_false,decide_true] at k a ⊢ <;> first | exact k | exact ⟨_,a,by simpa only [y8by,y52y,y53y,y54y,y78y,y2by,y73y,y87y,y88y,y49y,y2fy,y7fy,y9ey,y31y,y3ey,y79y,y30y,y92y,y23y,y29y,y80y,y7by,y2ay,y81y,y7dy,y60y,ya0y,y26y,y90y,y77y,y70y,y4ey,y6fy,y84y,y34y,y4cy,y75y,y4dy,y76y,y4by,y74y,y99y,y6ay,y66y,y9by,y9dy,y9ay,y9cy,y25y,y6ey,y24y,true_and,if_true,if_false,Bool.not_true,Bool.not_false,Bool.false_eq_true,yby,ydy,yay,ycy,yey,y15y,y17y,y14y,y16y,y18y,y6y,y8y,y5y,y7y,y9y,y1y,y3y,y0y,y2y,y4y,y10y,y12y,yfy,y11y,y13y,y1ay,y1cy,y19y,y1by,y1dy,y1fy,y21y,y1ey,y20y,y22y,y8ey,y83y,y7ay,y96y,ya1y,y85y,y27y,V.int.injEq,V.str.injEq,List.set_cons_zero,List.set_cons_succ,List.getElem?_cons_zero,List.getElem?_cons_succ,Option.some.injEq,exists_eq_left,exists_eq_left',V.bl.injEq,Int.reduceToNat,Int.reducePow,append_nil,nil_append,cons_append,y5cy,y5ey,y2dy,y2ey,y71y,y65y,y7cy,y6by,y6dy,y3fy,y48y,y43y,y82y,y44y,y35y,y37y,y3cy,y42y,y46y,y57y,y59y,y61y,y3ay,y94y,y38y,y39y,y55y,y56y,y9fy,y98y,y95y,y47y,y86y,y6cy,y2cy,y8dy,y50y,ya4y,y89y,reduceCtorEq,decide_false,decide_true] using k⟩
abbrev Bat:Stmt:=top 20
theorem JeB:Jao ["thing"] ["thing"] (Jac Bat):=by bv_decide
def Jb1 (K:W.Frag):Sp:=fun vs H Q E=>∃ (x:V) (d:D),vs=[x]/\Rep K H d x/\Q (.bl (fracB d)) H
theorem Jev (F:FunD K "is_fraction" "is_fraction" Bat dV f fd) (T:Txt K mg Ad) (Bbo:Cal P w K mg base 1 "is_whole" ["thing"] [] (Jc3 K)) (Bac:Cal P w K mg base 1 "common_divisor" ["one","other"] [] (JaM)):FnOk P w K mg base (CX1 P w) 2 f fd ["thing"] (Jb1 K):=by
 refine F.okn JeB (by subst_eqs) (fun J A n s H B Q E b h=>?_)
 obtain ⟨x,d,rfl,h⟩:=h;have p:=b.units;refine ⟨_,(Jab (ps_if (PW.pt (pw_or (JcA (Jce (Jav Ja2 rfl T.BaV Jbq (Jaa (pv 0) (Jaa (Jec (v:=.ty "tuple") rfl T.Bca Jg0 rfl) Jag))))) (Jcp (Jan (Jcx p) (Jav JaF rfl T.Bbl Jbw (Jaa (pv 0) Jag)) Jad (Jar _))))) (Jaf (Jal pe_bl))
   Jap) (Jab (ps_if (PW.pt (pw_or (JcA (Jce (Bbo.ev b ⋯ rfl passF (Jaa (pe_ix ix_U (pv 0) Jad) Jag)))) (Jcp (JcA (Jce (Bbo.ev b ⋯ rfl passF (Jaa (pe_ix ix_U (pv 0) Jad) Jag))))))) (Jaf (Jal pe_bl))
   Jap) (Jaf (Jal (Jda (Ja4 JlV (pe_ix ix_U (pv 0) Jad) Jad (Jar _)) (Jdw (Ja4 (JaX p) (Bac.ev b ⋯ rfl passF (Jaa (pe_ix ix_U (pv 0) Jad) (Jaa (pe_ix ix_U (pv 0) Jad) Jag))) Jad (Jar _)))))))),?_⟩
 clear p;obtain ⟨y,k⟩:=h;show tSeq _ _ _ [some x] H;try mstop
 refine ⟨_,y.tyN,?_⟩;by_cases q:∃ m,d=.tup m
 ·obtain ⟨m,rfl⟩:=q;simpa only [tyD];simp only [Rep] at y;obtain ⟨a,I,rfl,l,b⟩:=y;have M:=b.length;refine ⟨I, .inr l,?_⟩;try mstop
  by_cases z:m.length=2
  ·match m,z with
   | [d0,d1],_=>
    simp only [RepL] at b;obtain ⟨G,L,rfl,u,D,N,rfl,r,rfl⟩:=b;simpa only [length_cons,length_nil];rw [if_neg (by simp)];try mstop
    refine ixT0 l ?_;refine ⟨G,d0,rfl,u,?_⟩;try mstop
    by_cases t:JdB d0=true
    ·rw [if_neg (by simp [t])];refine ixT1 l ?_;refine ⟨D,d1,rfl,r,?_⟩;try mstop
     by_cases o:JdB d1=true
     ·rw [if_neg (by simp [o])];obtain ⟨i,rfl⟩:∃ i,d0=.int i:=by cases d0 <;> simp [JdB] at t;exact ⟨_,rfl⟩
      obtain ⟨j,rfl⟩:∃ j,d1=.int j:=by cases d1 <;> simp [JdB] at o;exact ⟨_,rfl⟩
      simp only [Rep] at u r;subst u r;simp only [fracB] at k;try mstop
      refine ixT1 l ?_;try mstop
      by_cases c:1<=j
      ·rw [if_pos (by simpa using c)];refine ixT0 l (ixT1 l ?_);refine ⟨_,_,rfl,?_⟩;try mstop
       simpa [c] using k
      ·rw [if_neg (by simpa using c)];simpa [c] using k
     ·rw [if_pos (by simp [o])];try mstop
      have g:fracB (.tup [d0,d1])=false:=by cases d0 <;> cases d1 <;> simp_all [fracB,JdB]
      rw [g] at k;exact k
    ·rw [if_pos (by simp [t])];try mstop
     have g:fracB (.tup [d0,d1])=false:=by cases d0 <;> cases d1 <;> simp_all [fracB,JdB]
     rw [g] at k;exact k
  ·rw [if_pos (by simp;ac_nf)];have g:fracB (.tup m)=false:=by
    unfold fracB;split
    ·rename_i e;cases e;simp at z
    ·rfl
   rw [g] at k;exact k
 ·have g:fracB d=false:=by cases d <;> first | rfl | exact absurd ⟨_,rfl⟩ q
  rw [g] at k;have C:isiB (tyD d) "tuple"=false:=by cases d <;> first | rfl | exact absurd ⟨_,rfl⟩ q
  simpa only [C];exact k
abbrev BaY:Stmt:=top 21
theorem JgQ:Jao ["thing"] ["thing"] (Jac BaY):=by bv_decide
def Jc2 (K:W.Frag):Sp:=fun vs H Q E=>∃ (x:V) (d:D),vs=[x]/\Rep K H d x/\Q (.bl (Jcu d)) H
theorem JgC (F:FunD K "is_bound" "is_bound" BaY dV f fd) (T:Txt K mg Ad) (Bbe:Cal P w K mg base 2 "is_fraction" ["thing"] [] (Jb1 K)):FnOk P w K mg base (CX1 P w) 3 f fd ["thing"] (Jc2 K):=by
 refine F.okn JgQ (by subst_eqs) (fun e A b s H l Q E i h=>?_)
 obtain ⟨x,d,rfl,h⟩:=h;refine ⟨_,(Jaf (Jal (pe_or (Ja4 Jbb (pv 0) JaI (Jar _)) (Jdw (Bbe.ev i ⋯ rfl passF (Jaa (pv 0) Jag)))))),?_⟩;obtain ⟨a,k⟩:=h;show tRet _ _ [some x] H;try mstop
 by_cases c:d=.non
 ·subst c;simp only [Rep] at a;subst a;simpa only [decide_true];exact k
 ·have j:x≠.non:=by
   rintro rfl;cases d <;> simp [Rep] at a
   exact c rfl
  rw [if_neg (by simpa using j)];have g:Jcu d=fracB d:=by cases d <;> first | rfl | exact absurd rfl c
  rw [g] at k;exact ⟨x,d,rfl,a,k⟩
abbrev BaI:Stmt:=top 22
theorem Jf9:Jao ["one","other"] ["one","other"] (Jac BaI):=by bv_decide
def JcJ (K:W.Frag):Sp:=fun vs H Q E=>∃ (x y:V) (d e:D),vs=[x,y]/\Rep K H d x/\Rep K H e y/\szD d/\szD e/\∀ H',Same H H'->Q (.bl (JeM d e)) H'
theorem JfW (F:FunD K "are_faces" "are_faces" BaI dV f fd) (T:Txt K mg Ad) (Ba5:Cal P w K mg base 1 "is_name" ["thing"] [] (JcR K)):FnOk P w K mg base (CX1 P w) 2 f fd ["one","other"] (JcJ K):=by
 refine F.okn Jf9 (by subst_eqs) (fun v A i s H r Q E l h=>?_)
 obtain ⟨x,y,d,e,rfl,h⟩:=h;have n:=l.units;refine ⟨_,(Jaf (Jal (Jda (Ba5.ev l ⋯ rfl passF (Jaa (pv 0) Jag)) (Jda (Ba5.ev l ⋯ rfl passF (Jaa (pv 1) Jag)) (Jdw (Ja4 (Jcx n) (pv 0) (pv 1) (Jar _))))))),?_⟩;clear n;obtain ⟨p,q,u,t,k⟩:=h;show tRet _ _ [some x,some y] H;try mstop
 refine ⟨x,d,rfl,p,u,fun B c=>?_⟩;try mstop
 unfold JeM at k;by_cases a:nameB d=true
 ·rw [if_pos a];refine ⟨y,e,rfl,q.same c,t,fun o m=>?_⟩;try mstop
  by_cases b:nameB e=true
  ·rw [if_pos b];obtain ⟨z,rfl,_⟩:=JeP a;obtain ⟨C,rfl,_⟩:=JeP b;have g:=p.str;have j:=q.str;subst g j;try mstop
   have:=k o (c.trans m);rw [a,b] at this;simpa [eqD,BEq.beq] using this
  ·rw [if_neg b];have:=k o (c.trans m);have j:nameB e=false:=by simpa using b
   rw [a,j] at this;exact this
 ·rw [if_neg a];have:=k B c;have g:nameB d=false:=by simpa using a
  rw [g] at this;exact this
abbrev BaE:Stmt:=top 23
theorem Jfm:Jao ["least","greatest"] ["least","greatest"] (Jac BaE):=by bv_decide
def Jcm (K:W.Frag):Sp:=fun vs H Q E=>∃ (x y:V) (d e:D),vs=[x,y]/\Rep K H d x/\Rep K H e y/\szD d/\szD e/\Q (.bl (JdR d e)) H
theorem Jfg (F:FunD K "are_bounds" "are_bounds" BaE dV f fd) (T:Txt K mg Ad) (Bbp:Cal P w K mg base 3 "is_bound" ["thing"] [] (Jc2 K)) (Bb5:Cal P w K mg base 1 "under" ["one","other"] [] (Jfs K)):FnOk P w K mg base (CX1 P w) 4 f fd ["least","greatest"] (Jcm K):=by
 refine F.okn Jfm (by subst_eqs) (fun D A l s H v Q E m h=>?_)
 obtain ⟨x,y,d,e,rfl,h⟩:=h;refine ⟨_,(Jab (ps_if (PW.pt (pw_or (JcA (Jce (Bbp.ev m ⋯ rfl passF (Jaa (pv 0) Jag)))) (Jcp (JcA (Jce (Bbp.ev m ⋯ rfl passF (Jaa (pv 1) Jag))))))) (Jaf (Jal pe_bl))
   Jap) (Jab (ps_if (PW.pt (pw_or (Jan Jbb (pv 0) JaI (Jar _)) (Jcp (Jan Jbb (pv 1) JaI (Jar _))))) (Jaf (Jal pe_bl))
   Jap) (Jaf (Jal (Jkr (Bb5.ev m ⋯ rfl passF (Jaa (pv 1) (Jaa (pv 0) Jag)))))))),?_⟩
 obtain ⟨o,q,p,n,k⟩:=h;show tSeq _ _ _ [some x,some y] H;try mstop
 unfold JdR at k;refine ⟨x,d,rfl,o,?_⟩;try mstop
 by_cases c:Jcu d=true
 ·rw [if_neg (by simp [c])];refine ⟨y,e,rfl,q,?_⟩;try mstop
  by_cases g:Jcu e=true
  ·rw [if_neg (by simp [g])];simpa only [o.nonV,q.nonV];rw [c,g] at k;by_cases i:d=.non
   ·rw [if_pos (by simp [i,nonD])];try mstop
    have : lessD e d=false:=by subst i;unfold lessD;split <;> first | rfl | simp_all
    rw [this] at k;exact k
   ·rw [if_neg (by simp [JiB i])];by_cases j:e=.non
    ·rw [if_pos (by simp [j,nonD])];try mstop
     have : lessD e d=false:=by subst j;rfl
     rw [this] at k;exact k
    ·rw [if_neg (by simp [JiB j])];try mstop
     have r:fracB d=true:=by cases d <;> first | exact c | exact absurd rfl i
     have z:fracB e=true:=by cases e <;> first | exact g | exact absurd rfl j
     obtain ⟨a,b,rfl,_,_⟩:=Jb9 r;obtain ⟨C,t,rfl,_,_⟩:=Jb9 z;simp only [szD,szL] at p n;refine ⟨y,x,C,t,a,b,rfl,FrV.of_rep q,FrV.of_rep o,n.1,n.2.1,p.1,p.2.1,?_⟩;try mstop
     simpa [lessD] using k
  ·rw [if_pos (by simp [g])];try mstop
   have B:Jcu e=false:=by simpa using g
   rw [c,B] at k;exact k
 ·rw [if_pos (by simp [c])];try mstop
  have u:Jcu d=false:=by simpa using c
  rw [u] at k;exact k
abbrev Bbq:Stmt:=top 24
theorem JiX:Jao ["thing"] ["thing"] (Jac Bbq):=by bv_decide
def Jek (K:W.Frag):Sp:=fun vs H Q E=>∃ (x:V) (d:D),vs=[x]/\Rep K H d x/\szD d/\∀ H',Same H H'->Q (.bl (tieB d)) H'
theorem JiD (F:FunD K "is_tie" "is_tie" Bbq dV f fd) (T:Txt K mg Ad) (Ba5:Cal P w K mg base 1 "is_name" ["thing"] [] (JcR K)) (Bbt:Cal P w K mg base 2 "are_faces" ["one","other"] [] (JcJ K)) (Bbm:Cal P w K mg base 4 "are_bounds" ["least","greatest"] [] (Jcm K)):FnOk P w K mg base (CX1 P w) 5 f fd ["thing"] (Jek K):=by
 refine F.okn JiX (by subst_eqs) (fun a0 A o s H G Q E c h=>?_)
 obtain ⟨x,d,rfl,h⟩:=h;have u:=c.units;refine ⟨_,(Jab (ps_if (PW.pt (pw_or (JcA (Jce (Jav Ja2 rfl T.BaV Jbq (Jaa (pv 0) (Jaa (Jec (v:=.ty "tuple") rfl T.Bca Jg0 rfl) Jag))))) (Jcp (Jan (Jcx u) (Jav JaF rfl T.Bbl Jbw (Jaa (pv 0) Jag)) Jad (Jar _))))) (Jaf (Jal pe_bl))
   Jap) (Jaf (Jal (Jda (Ba5.ev c ⋯ rfl passF (Jaa (pe_ix ix_U (pv 0) Jad) Jag)) (Jda (Bbt.ev c ⋯ rfl passF (Jaa (pe_ix ix_U (pv 0) Jad) (Jaa (pe_ix ix_U (pv 0) Jad) Jag))) (Jdw (Bbm.ev c ⋯ rfl passF (Jaa (pe_ix ix_U (pv 0) Jad) (Jaa (pe_ix ix_U (pv 0) Jad) Jag))))))))),?_⟩
 clear u;obtain ⟨r,y,k⟩:=h;show tSeq _ _ _ [some x] H;try mstop
 refine ⟨_,r.tyN,?_⟩;by_cases q:∃ l,d=.tup l
 ·obtain ⟨l,rfl⟩:=q;simpa only [tyD];simp only [Rep] at r;obtain ⟨a,Z,rfl,g,c⟩:=r;have hl:=c.length;refine ⟨Z, .inr g,?_⟩;try mstop
  by_cases t:l.length=5
  ·match l,t with
   | [d0,d1,d2,d3,d4],_=>
    simp only [RepL] at c;obtain ⟨X,r0,rfl,Y,V,r1,rfl,S,v2,r2,rfl,h2,W,r3,rfl,O,L,r4,rfl,R,rfl⟩:=c;simp only [szD,szL] at y;obtain ⟨J,s1,U,C,M,_⟩:=y;simp only [tieB] at k;simpa only [length_cons,length_nil];rw [if_neg (by simp)];try mstop
    refine ixT (i:=0) g rfl ?_;refine ⟨X,d0,rfl,Y,J,fun H1 j=>?_⟩;try mstop
    by_cases m:nameB d0=true
    ·rw [if_pos m];rw [m] at k;refine ixT (i:=1) (g.same j) rfl ?_;refine ixT (i:=2) (g.same j) rfl ?_;refine ⟨V,v2,d1,d2,rfl,S.same j,h2.same j,s1,U,fun z I=>?_⟩;try mstop
     have b:=j.trans I;by_cases n:JeM d1 d2=true
     ·rw [if_pos n];rw [n] at k;refine ixT (i:=3) (g.same b) rfl ?_;refine ixT (i:=4) (g.same b) rfl ?_;exact ⟨W,L,d3,d4,rfl,O.same b,R.same b,C,M,k z b⟩
     ·rw [if_neg n];have D:JeM d1 d2=false:=by simpa using n
      rw [D] at k;exact k z b
    ·rw [if_neg m];have B:nameB d0=false:=by simpa using m
     rw [B] at k;exact k H1 j
  ·rw [if_pos (by simp;ac_nf)];have p:tieB (.tup l)=false:=by
    unfold tieB;split
    ·rename_i e;cases e;simp at t
    ·rfl
   rw [p] at k;try mstop
   exact k H (.refl H)
 ·have p:tieB d=false:=by cases d <;> first | rfl | exact absurd ⟨_,rfl⟩ q
  rw [p] at k;have N:isiB (tyD d) "tuple"=false:=by cases d <;> first | rfl | exact absurd ⟨_,rfl⟩ q
  simpa only [N];exact k H (.refl H)
abbrev Bap:Stmt:=inClass (top 25) 0
theorem Jeh:Jao ["self","row"] ["self","row"] (Jac Bap):=by bv_decide
def Jax (K:W.Frag):Sp:=fun vs H Q E=>∃ (x C dx a:Addr) (n st en l g:V),vs=[.ref x, .ref a]/\H x=some (.ins C dx [])/\TieC K C/\SqT K H a [n,st,en,l,g]/\∀ H',H' x=some (.ins C dx (tieF n st en l g))->(∀ b,b≠x->H' b=H b)->Q .non H'
theorem Jd7 (F:FunD K "__init__" "Tie.__init__" Bap dV f fd) (T:Txt K mg Ad)  : FnOk P w K mg base (CX1 P w) 1 f fd ["self","row"] (Jax K):=by
 refine F.okn Jeh (by subst_eqs) (fun S A u s H I Q E U h=>?_)
 obtain ⟨x,C,d,a,n,j,r,l,g,rfl,h⟩:=h;refine ⟨_,(Jab (JbW (pv 0) (pe_ix ix_U (pv 1) Jad) rfl) (Jab (JbW (pv 0) (pe_ix ix_U (pv 1) Jad) rfl) (Jab (JbW (pv 0) (pe_ix ix_U (pv 1) Jad) rfl) (Jab (JbW (pv 0) (pe_ix ix_U (pv 1) Jad) rfl) (Jaf (JbW (pv 0) (pe_ix ix_U (pv 1) Jad) rfl)))))),?_⟩
 obtain ⟨y,e,t,k⟩:=h;show tSeq _ _ _ [some (.ref x),some (.ref a)] H;try cutsat
 refine ixT (i:=0) t rfl ?_;try cutsat
 refine ⟨x,C,d,_,rfl,y,e.cls,e.n1,by simp,?_⟩;have m:=SqT.put (fs':=putF "name" n []) y t;generalize u1:upd H x _=H1 at m ⊢;have z:H1 x=some (.ins C d [("name",n)]):=by rw [<- u1];exact Jas.trans rfl
 have M:∀ b,b≠x->H1 b=H b:=fun b c=>by rw [<- u1,Jah c]
 try cutsat
 refine ixT (i:=1) m rfl ?_;try cutsat
 refine ⟨x,C,d,_,rfl,z,e.cls,e.n2,by simp,?_⟩;have p:=SqT.put (fs':=putF "start" j [("name",n)]) z m;generalize u2:upd H1 x _=H2 at p ⊢;have D:H2 x=some (.ins C d [("name",n),("start",j)]):=by rw [<- u2];exact Jas.trans rfl
 have J:∀ b,b≠x->H2 b=H1 b:=fun b c=>by rw [<- u2,Jah c]
 try cutsat
 refine ixT (i:=2) p rfl ?_;try cutsat
 refine ⟨x,C,d,_,rfl,D,e.cls,e.n3,by simp,?_⟩;have o:=SqT.put (fs':=putF "end" r [("name",n),("start",j)]) D p;generalize u3:upd H2 x _=H3 at o ⊢;have B:H3 x=some (.ins C d [("name",n),("start",j),("end",r)]):=by rw [<- u3];exact Jas.trans rfl
 have N:∀ b,b≠x->H3 b=H2 b:=fun b c=>by rw [<- u3,Jah c]
 try cutsat
 refine ixT (i:=3) o rfl ?_;try cutsat
 refine ⟨x,C,d,_,rfl,B,e.cls,e.n4,by simp,?_⟩;have q:=SqT.put (fs':=putF "least" l [("name",n),("start",j),("end",r)]) B o;generalize u4:upd H3 x _=H4 at q ⊢;have G:H4 x=some (.ins C d [("name",n),("start",j),("end",r),("least",l)]):=by rw [<- u4];exact Jas.trans rfl
 have R:∀ b,b≠x->H4 b=H3 b:=fun b c=>by rw [<- u4,Jah c]
 try cutsat
 refine ixT (i:=4) q rfl ?_;try cutsat
 refine ⟨x,C,d,_,rfl,G,e.cls,e.n5,by simp,?_⟩;have v:=SqT.put (fs':=putF "greatest" g [("name",n),("start",j),("end",r),("least",l)]) G q;generalize u5:upd H4 x _=H5 at v ⊢;have L:H5 x=some (.ins C d [("name",n),("start",j),("end",r),("least",l),("greatest",g)]):=by rw [<- u5];exact Jas.trans rfl
 have O:∀ b,b≠x->H5 b=H4 b:=fun b c=>by rw [<- u5,Jah c]
 try cutsat
 exact k H5 L fun b c=>by rw [O b c,R b c,N b c,J b c,M b c]
abbrev BaJ:Stmt:=inClass (top 25) 1
theorem Jf8:Jao ["self"] ["self"] (Jac BaJ):=by bv_decide
def JcH (K:W.Frag) (Ad:Adr):Sp:=fun vs H Q E=>∃ (v:V) (C:Addr) (n st en l g:V),vs=[v]/\TieV H v C n st en l g/\IsTie Ad C/\∀ p H',Same H H'->H' p=some (.tup [n,st,en,l,g])->Q (.ref p) H'
theorem JfU (F:FunD K "plain" "Tie.plain" BaJ dV f fd) (T:Txt K mg Ad)  : FnOk P w K mg base (CX1 P w) 1 f fd ["self"] (JcH K Ad):=by
 refine F.okn Jf8 (by subst_eqs) (fun t A d s H o Q E x h=>?_)
 obtain ⟨v,C,n,i,j,l,g,rfl,h⟩:=h;refine ⟨_,(Jaf (Jal (JaP (Jaa (Jau (pv 0) rfl) (Jaa (Jau (pv 0) rfl) (Jaa (Jau (pv 0) rfl) (Jaa (Jau (pv 0) rfl) (Jaa (Jau (pv 0) rfl) Jag)))))))),?_⟩;obtain ⟨m,r,k⟩:=h;obtain ⟨p,c,rfl,b⟩:=m;have a:=T.tie C r;show tRet _ _ [some (.ref p)] H;mstart;refine ⟨p,C,c,_,n,rfl,b,a.cls,a.n1,rfl,?_⟩;refine ⟨p,C,c,_,i,rfl,b,a.cls,a.n2,rfl,?_⟩;refine ⟨p,C,c,_,j,rfl,b,a.cls,a.n3,rfl,?_⟩;refine ⟨p,C,c,_,l,rfl,b,a.cls,a.n4,rfl,?_⟩;refine ⟨p,C,c,_,g,rfl,b,a.cls,a.n5,rfl,?_⟩;try mstop
 refine ⟨len5,?_⟩;exact Jiz fun q u S e=>k q u S e
abbrev Bbr:Stmt:=top 31
theorem Jei:Jao ["thing","least","greatest"] ["thing"] (Jac Bbr):=by bv_decide
def Jde (K:W.Frag) (Ad:Adr):Sp:=fun vs H Q E=>∃ (x:V) (d:D),vs=[x]/\Rep K H d x/\szD d/\(tieB d=false->∀ H',Same H H'->E (.ref Ad.NoTie) none H')/\(tieB d=true->∃ (a:Addr) (n s e l g:D) (vn vs ve vl vg:V),x=.ref a/\SqT K H a [vn,vs,ve,vl,vg]/\d=.tup [n,s,e,l,g]/\Rep K H l vl/\Rep K H g vg/\∀ v H',Same H H'->TieV H' v (kindC Ad l g) vn vs ve vl vg->Q v H')
theorem JiE (F:FunD K "tie_of" "tie_of" Bbr dV f fd) (T:Txt K mg Ad) (BbT:Cal P w K mg base 5 "is_tie" ["thing"] [] (Jek K)) (k_Free:KCal P w K mg base 1 "Free" Ad.Free ["self","row"] (Jax K)) (k_AtLeast:KCal P w K mg base 1 "AtLeast" Ad.AtLeast ["self","row"] (Jax K)) (k_AtMost:KCal P w K mg base 1 "AtMost" Ad.AtMost ["self","row"] (Jax K)) (k_Just:KCal P w K mg base 1 "Just" Ad.Just ["self","row"] (Jax K)) (k_Between:KCal P w K mg base 1 "Between" Ad.Between ["self","row"] (Jax K)):FnOk P w K mg base (CX1 P w) 6 f fd ["thing"] (Jde K Ad):=by
 refine F.okx Jei (fun B H Q E h=>?_) (fun a0 A W s H B Q E C h=>?_)
 ·obtain ⟨x,d,rfl,_⟩:=h;rfl
 obtain ⟨x,d,rfl,h⟩:=h;have X:=C.units;refine ⟨_,(Jab (ps_if (JcA (Jce (BbT.ev C ⋯ rfl pass1 (Jaa (pv 0) Jag)))) (Jaf (Jfi PySem.F.excBase_ValueError T.x_NoTie rfl T.m_NoTie (Jaa Jbf Jag)))
   Jap) (Jab (Jaj 1 Jei.nd (pe_ix ix_U (pv 0) Jad)) (Jab (Jaj 2 Jei.nd (pe_ix ix_U (pv 0) Jad)) (Jab (ps_if (PW.pt (Jdy (Jan Jbb (pv 1) JaI (Jar _)) (JcB (Jan Jbb (pv 2) JaI (Jar _))))) (Jaf (Jal (k_Free.ev C ⋯ rfl pass1 (Jaa (pv 0) Jag))))
   Jap) (Jab (ps_if (Jan Jbb (pv 2) JaI (Jar _)) (Jaf (Jal (k_AtLeast.ev C ⋯ rfl pass1 (Jaa (pv 0) Jag))))
   Jap) (Jab (ps_if (Jan Jbb (pv 1) JaI (Jar _)) (Jaf (Jal (k_AtMost.ev C ⋯ rfl pass1 (Jaa (pv 0) Jag))))
   Jap) (Jab (ps_if (Jan (JaX X) (pv 1) (pv 2) (Jar _)) (Jaf (Jal (k_Just.ev C ⋯ rfl pass1 (Jaa (pv 0) Jag))))
   Jap) (Jaf (Jal (k_Between.ev C ⋯ rfl pass1 (Jaa (pv 0) Jag))))))))))),?_⟩
 clear X;obtain ⟨k,sz,k1,D⟩:=h;show tSeq _ _ _ [some x,none,none] H;try mstop
 refine ⟨x,d,rfl,k,sz,fun H1 p=>?_⟩;try mstop
 by_cases c:tieB d=true
 ·rw [if_neg (by simp [c])];try mstop
  obtain ⟨a,n,s,e,l,g,R,B,O,vl,N,rfl,z,rfl,S,U,D⟩:=D c;refine ixT (i:=3) (z.same p) rfl ?_;try mstop
  refine ixT (i:=4) (z.same p) rfl ?_;simpa only [S.nonV,U.nonV];by_cases J:nonD l=true
  ·by_cases y:nonD g=true
   ·simpa only [J,y];try mstop
    intro x r k j V;refine ⟨x,_,r,a,R,B,O,vl,N,rfl,Jas,T.tie _ ?_,?_,fun v e o=>⟨rfl,D _ v ?_ ⟨x,r,rfl,?_⟩⟩⟩
    ·exact .inl rfl
    ·exact (z.same p).same fun b u q=>by rw [Jah (Jae q k),Jah (Jae q j)];exact q
    ·exact p.trans fun b u q=>by rw [o b (Jae q k),Jah (Jae q k),Jah (Jae q j)];exact q
    ·rw [e,show kindC Ad l g=Ad.Free from by simp [kindC,J,y]]
   ·have m:nonD g=false:=by simpa using y
    simpa only [J,m];try simpa only [S.nonV,U.nonV,J,m]
    try mstop
    intro x r k j V;refine ⟨x,_,r,a,R,B,O,vl,N,rfl,Jas,T.tie _ ?_,?_,fun v e o=>⟨rfl,D _ v ?_ ⟨x,r,rfl,?_⟩⟩⟩
    ·exact .inr (.inr (.inl rfl))
    ·exact (z.same p).same fun b u q=>by rw [Jah (Jae q k),Jah (Jae q j)];exact q
    ·exact p.trans fun b u q=>by rw [o b (Jae q k),Jah (Jae q k),Jah (Jae q j)];exact q
    ·rw [e,show kindC Ad l g=Ad.AtMost from by simp [kindC,J,m]]
  ·have t:nonD l=false:=by simpa using J
   by_cases y:nonD g=true
   ·simpa only [t,y];try simpa only [S.nonV,U.nonV,t,y]
    try mstop
    intro x r k j V;refine ⟨x,_,r,a,R,B,O,vl,N,rfl,Jas,T.tie _ ?_,?_,fun v e o=>⟨rfl,D _ v ?_ ⟨x,r,rfl,?_⟩⟩⟩
    ·exact .inr (.inl rfl)
    ·exact (z.same p).same fun b u q=>by rw [Jah (Jae q k),Jah (Jae q j)];exact q
    ·exact p.trans fun b u q=>by rw [o b (Jae q k),Jah (Jae q k),Jah (Jae q j)];exact q
    ·rw [e,show kindC Ad l g=Ad.AtLeast from by simp [kindC,t,y]]
   ·have m:nonD g=false:=by simpa using y
    simpa only [t,m];try simpa only [S.nonV,U.nonV,t,m]
    simp only [tieB,JdR,Bool.and_eq_true] at c;have Y:fracB l=true:=by have:=c.2.1.1;cases l <;> first | exact this | (simp [nonD] at t)
    have f2:fracB g=true:=by have:=c.2.1.2;cases g <;> first | exact this | (simp [nonD] at m)
    obtain ⟨M,G,rfl,_,_⟩:=Jb9 Y;obtain ⟨L,I,rfl,_,_⟩:=Jb9 f2;have g3:=(FrV.of_rep S).same p;have g4:=(FrV.of_rep U).same p;refine eqF g3 g4 ?_;have ee:eqD (.tup [.int M, .int G]) (.tup [.int L, .int I])=(decide (M=L)&&decide (G=I)):=by
     simp only [eqD,eqL,Bool.and_true]
     congr 1 <;> simp [BEq.beq]
    try mstop
    rw [<- ee];by_cases q:eqD (.tup [.int M, .int G]) (.tup [.int L, .int I])=true
    ·rw [if_pos q];try mstop
     intro x r k j V;refine ⟨x,_,r,a,R,B,O,vl,N,rfl,Jas,T.tie _ ?_,?_,fun v e o=>⟨rfl,D _ v ?_ ⟨x,r,rfl,?_⟩⟩⟩
     ·exact .inr (.inr (.inr (.inl rfl)))
     ·exact (z.same p).same fun b u q=>by rw [Jah (Jae q k),Jah (Jae q j)];exact q
     ·exact p.trans fun b u q=>by rw [o b (Jae q k),Jah (Jae q k),Jah (Jae q j)];exact q
     ·rw [e,show kindC Ad (.tup [.int M, .int G]) (.tup [.int L, .int I])=Ad.Just from by simp [kindC,nonD,q]]
    ·rw [if_neg q];have Z:eqD (.tup [.int M, .int G]) (.tup [.int L, .int I])=false:=by simpa using q
     try mstop
     intro x r k j V;refine ⟨x,_,r,a,R,B,O,vl,N,rfl,Jas,T.tie _ ?_,?_,fun v e o=>⟨rfl,D _ v ?_ ⟨x,r,rfl,?_⟩⟩⟩
     ·exact .inr (.inr (.inr (.inr rfl)))
     ·exact (z.same p).same fun b u q=>by rw [Jah (Jae q k),Jah (Jae q j)];exact q
     ·exact p.trans fun b u q=>by rw [o b (Jae q k),Jah (Jae q k),Jah (Jae q j)];exact q
     ·rw [e,show kindC Ad (.tup [.int M, .int G]) (.tup [.int L, .int I])=Ad.Between from by simp [kindC,nonD,Z]]
 ·rw [if_pos (by simp [c])];try mstop
  exact ⟨by show 1<=sizeLine;decide,k1 (by simpa using c) H1 p⟩
abbrev BaK:Stmt:=inClass (top 25) 3
theorem JdA:Jao ["self","told"] ["self"] (Jac BaK):=by bv_decide
def JcI (K:W.Frag) (Ad:Adr):Sp:=fun vs H Q E=>∃ (v:V) (C:Addr) (n st en l g:V) (ds de dl dg:D),vs=[v]/\TieV H v C n st en l g/\IsTie Ad C/\Rep K H ds st/\Rep K H de en/\Bnd K H dl l/\Bnd K H dg g/\∀ p xs H',H p=none->Same H H'->H' p=some (.lst xs)->RepL K H' (Jem ds de dl dg) xs->Q (.ref p) H'
theorem JfV (F:FunD K "steps" "Tie.steps" BaK dV f fd) (T:Txt K mg Ad) (Bbf:Cal P w K mg base 3 "minus" ["one","other"] [] (Jdd K)):FnOk P w K mg base (CX1 P w) 4 f fd ["self"] (JcI K Ad):=by
 refine F.okn JdA (by subst_eqs) (fun a2 A Y s H vs Q E hr h=>?_)
 obtain ⟨v,C,n,V,W,l,g,ds,de,S,dg,rfl,h⟩:=h;refine ⟨_,(Jab (Jaj 1 JdA.nd (Jbp Jag)) (Jab (ps_if (Jan Jck (Jau (pv 0) rfl) JaI (Jar _)) (Jaf (JaW (pe_bm PySem.F.plainAttrs_list PySem.F.slot_list_append PySem.F.type_list_append Jbe (pv 1) (Jaa (JaP (Jaa (Jau (pv 0) rfl) (Jaa (Jau (pv 0) rfl) (Jaa (Jau (pv 0) rfl) (Jaa pe_bl Jag))))) Jag) (hs:=by exact Jai rfl))))
   Jap) (Jab (ps_if (Jan Jck (Jau (pv 0) rfl) JaI (Jar _)) (Jaf (JaW (pe_bm PySem.F.plainAttrs_list PySem.F.slot_list_append PySem.F.type_list_append Jbe (pv 1) (Jaa (JaP (Jaa (Jau (pv 0) rfl) (Jaa (Jau (pv 0) rfl) (Jaa (Bbf.ev hr ⋯ rfl passF (Jaa (Jdp (v:=.ref _) rfl T.Bb8 T.Bb9) (Jaa (Jau (pv 0) rfl) Jag))) (Jaa pe_bl Jag))))) Jag) (hs:=by exact Jai rfl))))
   Jap) (Jaf (Jal (pv 1)))))),?_⟩
 obtain ⟨hv,hC,hs,he,O,hg,k⟩:=h;obtain ⟨p,r,rfl,o⟩:=hv;have a:=T.tie C hC;show tSeq _ _ _ [some (.ref p),none] H;try mstart
 refine ⟨len0,?_⟩;rename_i t j a3 H H1 d I;refine ⟨p,C,r,_,g,rfl,d _ _ o,a.cls,a.n5,rfl,?_⟩;try simpa only [y4fy,(hg.same d).rep.nonV]
 by_cases X:nonD dg=true
 ·rw [X];try mstart
  by_cases L:nonD S=true
  ·refine ⟨p,C,r,_,l,rfl,d _ _ o,a.cls,a.n4,rfl,?_⟩;try simpa only [y4fy,(O.same d).rep.nonV,L]
   refine k t _ H1 j d I ?_;simp only [Jem,X,L,if_true,append_nil,RepL]
  ·have e:nonD S=false:=by simpa using L
   refine ⟨p,C,r,_,l,rfl,d _ _ o,a.cls,a.n4,rfl,?_⟩;try simpa only [y4fy,(O.same d).rep.nonV,e]
   refine ⟨.inl ⟨rfl,_,SqL.of I⟩,?_⟩;refine ⟨p,C,r,_,W,rfl,d _ _ o,a.cls,a.n3,rfl,?_⟩;refine ⟨p,C,r,_,V,rfl,d _ _ o,a.cls,a.n2,rfl,?_⟩;try mstart
   refine ⟨p,C,r,_,l,rfl,d _ _ o,a.cls,a.n4,rfl,?_⟩;try mstart
   obtain ⟨la,lb,rfl,J,c,fl,s1,s2⟩:=(O.same d).frac e;refine ⟨.ref Ad.ZERO,l,0,1,la,lb,rfl,⟨_,rfl,T.Bb3 _⟩,fl, .lit ⋯ ⋯, .lit ⋯ ⋯,s1,s2,by decide,J,by decide,c,fun m H4 B U=>?_⟩;rw [(Jfc J c).1,(Jfc J c).2] at U;try mstart
   refine ⟨len4,?_⟩;rename_i w a0 a1 H4 H5 x e5;refine ⟨t,_,_,rfl,rfl,x _ _ (B _ _ I),by first | (show 0<sizeLine;decide) | (show 1<sizeLine;decide),?_⟩;generalize G:upd H5 t _=R;have e6:=putE G;have m6:=putN G (x _ _ (B _ _ I)) (x _ _ U) (by intro z;cases z);have w6:=putN G (x _ _ (B _ _ I)) e5 (by intro z;cases z);have D:Same H R:=fun b u q=>by rw [<- G,Jah (Jae q j)];exact x _ _ (B _ _ (d _ _ q))
   refine k t _ R j D e6 ?_;simp only [Jem,X,e,if_true,Bool.false_eq_true,if_false,nil_append,RepL,Rep,negD];exact ⟨_,_,rfl,⟨w,_,rfl,SqT.of w6,_,_,rfl,he.same D,_,_,rfl,hs.same D,_,_,rfl,⟨m,_,rfl,SqT.of m6,_,_,rfl,rfl,_,_,rfl,rfl,rfl⟩,_,_,rfl,rfl,rfl⟩,rfl⟩
 ·have M:nonD dg=false:=by simpa using X
  rw [M];try mstart
  refine ⟨.inl ⟨rfl,_,SqL.of I⟩,?_⟩;refine ⟨p,C,r,_,V,rfl,d _ _ o,a.cls,a.n2,rfl,?_⟩;refine ⟨p,C,r,_,W,rfl,d _ _ o,a.cls,a.n3,rfl,?_⟩;refine ⟨p,C,r,_,g,rfl,d _ _ o,a.cls,a.n5,rfl,?_⟩;try mstart
  refine ⟨len4,?_⟩;rename_i f a5 a4 H1 H2 S2 e2;refine ⟨t,_,_,rfl,rfl,S2 _ _ I,by show 0<sizeLine;decide,?_⟩;generalize Z:upd H2 t _=H3;have N:=putE Z;have f3:=putN Z (S2 _ _ I) e2 (by intro z;cases z);have y:Same H H3:=fun b u q=>by rw [<- Z,Jah (Jae q j)];exact S2 _ _ (d _ _ q)
  try mstart
  by_cases L:nonD S=true
  ·refine ⟨p,C,r,_,l,rfl,y _ _ o,a.cls,a.n4,rfl,?_⟩;try simpa only [y4fy,(O.same y).rep.nonV,L]
   refine k t _ H3 j y N ?_;simp only [Jem,M,L,if_true,Bool.false_eq_true,if_false,append_nil,nil_append,RepL,Rep];exact ⟨_,_,rfl,⟨f,_,rfl,SqT.of f3,_,_,rfl,hs.same y,_,_,rfl,he.same y,_,_,rfl,(hg.same y).rep,_,_,rfl,rfl,rfl⟩,rfl⟩
  ·have e:nonD S=false:=by simpa using L
   refine ⟨p,C,r,_,l,rfl,y _ _ o,a.cls,a.n4,rfl,?_⟩;try simpa only [y4fy,(O.same y).rep.nonV,e]
   refine ⟨.inl ⟨rfl,_,SqL.of N⟩,?_⟩;refine ⟨p,C,r,_,W,rfl,y _ _ o,a.cls,a.n3,rfl,?_⟩;refine ⟨p,C,r,_,V,rfl,y _ _ o,a.cls,a.n2,rfl,?_⟩;try mstart
   refine ⟨p,C,r,_,l,rfl,y _ _ o,a.cls,a.n4,rfl,?_⟩;try mstart
   obtain ⟨la,lb,rfl,J,c,fl,s1,s2⟩:=(O.same y).frac e;refine ⟨.ref Ad.ZERO,l,0,1,la,lb,rfl,⟨_,rfl,T.Bb3 _⟩,fl, .lit ⋯ ⋯, .lit ⋯ ⋯,s1,s2,by decide,J,by decide,c,fun m H4 B U=>?_⟩;rw [(Jfc J c).1,(Jfc J c).2] at U;try mstart
   refine ⟨len4,?_⟩;rename_i w a0 a1 H4 H5 x e5;refine ⟨t,_,_,rfl,rfl,x _ _ (B _ _ N),by first | (show 0<sizeLine;decide) | (show 1<sizeLine;decide),?_⟩;generalize G:upd H5 t _=R;have e6:=putE G;have m6:=putN G (x _ _ (B _ _ N)) (x _ _ U) (by intro z;cases z);have w6:=putN G (x _ _ (B _ _ N)) e5 (by intro z;cases z);have D:Same H R:=fun b u q=>by rw [<- G,Jah (Jae q j)];exact x _ _ (B _ _ (y _ _ q))
   have f6:=putN G (x _ _ (B _ _ N)) (x _ _ (B _ _ f3)) (by intro z;cases z);refine k t _ R j D e6 ?_;simp only [Jem,M,e,Bool.false_eq_true,if_false,nil_append,cons_append,RepL,Rep,negD];exact ⟨_,_,rfl,⟨f,_,rfl,SqT.of f6,_,_,rfl,hs.same D,_,_,rfl,he.same D,_,_,rfl,(hg.same D).rep,_,_,rfl,rfl,rfl⟩,_,_,rfl,⟨w,_,rfl,SqT.of w6,_,_,rfl,he.same D,_,_,rfl,hs.same D,_,_,rfl,⟨m,_,rfl,SqT.of m6,_,_,rfl,rfl,_,_,rfl,rfl,rfl⟩,_,_,rfl,rfl,rfl⟩,rfl⟩
abbrev Bai:Stmt:=inClass (top 13) 0
theorem Jby:Jao ["self","numbers","number","factor"] ["self","numbers"] (Jac Bai):=by bv_decide
def Jbz (K:W.Frag) (Ad:Adr):Sp:=fun vs H Q E=>∃ (x dx a:Addr) (xs:List V) (ns:List Fr2),vs=[.ref x, .ref a]/\H x=some (.ins Ad.Scale dx [])/\H a=some (.lst xs)/\All2 (FLV K H) ns xs/\ns.length<=70/\(∀ n∈ns,1<=n.2/\Mth.Sz 20 n.2)/\∀ b fs fl H',H' x=some (.ins Ad.Scale dx [("bottom", .int b),("factors", .ref fl)])->H fl=none->H' fl=some (.lst (fs.map V.int))->(∀ c u,c≠x->H c=some u->H' c=some u)->b=bF ns->(∀ n∈ns,n.2∣b)->Scl b fs->Mth.Sz 2000 b->fs.length<=70->Q .non H'
theorem Jdn (F:FunD K "__init__" "Scale.__init__" Bai dV f fd) (T:Txt K mg Ad) (Bac:Cal P w K mg base 1 "common_divisor" ["one","other"] [] (JaM)):FnOk P w K mg base (CX1 P w) 2 f fd ["self","numbers"] (Jbz K Ad):=by
 refine F.okn Jby (by subst_eqs) (fun a5 A a0 s H vs Q E hr h=>?_)
 obtain ⟨x,o,a,xs,C,rfl,h⟩:=h;refine ⟨_,(Jab (JbW (pv 0) Jad rfl) (Jab (JbW (pv 0) (Jbp Jag) rfl) (Jaf (Jbg PassesOwn.never rfl (pi_U (pv 1)) (Jat 2 Jby.nd) (Jab (Jaj 3 Jby.nd (pe_op Jaw (pe_ix ix_U (pv 2) Jad) (Bac.ev hr ⋯ rfl passF (Jaa (Jau (pv 0) rfl) (Jaa (pe_ix ix_U (pv 2) Jad) Jag))))) (Jaf (ps_if (Jan JiF (pv 3) Jad (Jar _)) (Jab (JbW (pv 0) (pe_op JaH (Jau (pv 0) rfl) (pv 3)) rfl) (Jaf (JaW (pe_bm PySem.F.plainAttrs_list PySem.F.slot_list_append PySem.F.type_list_append Jbe (Jau (pv 0) rfl) (Jaa (pv 3) Jag) (hs:=by exact Jai rfl)))))
   Jap))))))),?_⟩
 obtain ⟨e0,hA,hN,hl,a2,k⟩:=h;have e:=T.BbS Ad.Scale rfl;have sl:(1000:Nat)<=sizeLine:=by decide
 have lx:=hN.length;show tSeq _ _ _ [some (.ref x),some (.ref a),none,none] H;mvcgen;refine ⟨x,_,o,_,rfl,e0,e.cls,e.n1,by simp,?_⟩;generalize u1:upd H x _=H1;mvcgen;have e1:H1 x=some (.ins Ad.Scale o [("bottom", .int 1)]):=by rw [<- u1];exact Jas.trans rfl
 have o1:∀ b,b≠x->H1 b=H b:=fun b hb=>by rw [<- u1,Jah hb]
 mvcgen;refine ⟨len0,?_⟩;rename_i d j a4 H1 H2 S2 e2;mvcgen;mvcgen;refine ⟨x,_,o,_,rfl,S2 _ _ e1,e.cls,e.n2,by simp,?_⟩;generalize X:upd H2 x _=Z;mvcgen;have e3:Z x=some (.ins Ad.Scale o [("bottom", .int 1),("factors", .ref d)]):=by rw [<- X];exact Jas.trans rfl
 have nx:d≠x:=fun z=>by rw [z,e1] at j;cases j
 have f3:Z d=some (.lst []):=by rw [<- X,Jah nx];exact e2
 have o3:∀ c u,c≠x->H c=some u->Z c=some u:=fun c u S h=>by rw [<- X,Jah S];exact S2 _ _ (by rw [o1 c S];exact h)
 have B:H d=none:=by rw [<- o1 d nx];exact j
 have U:a≠x:=fun z=>by rw [z,e0] at hA;cases hA
 have a3:SameT H Z:=(SameT.put u1 e0 rfl).trans (S2.t.trans (SameT.put X (S2 _ _ e1) rfl));mvcgen;refine ⟨a,rfl,ForA.byL (xs:=xs) (SqL.of (o3 _ _ U hA)) (fun i σ O=>i<=xs.length/\∃ (v2 v3:Option V) (b:Int) (r:List Int),σ=[some (.ref x),some (.ref a),v2,v3]/\O x=some (.ins Ad.Scale o [("bottom", .int b),("factors", .ref d)])/\O d=some (.lst (r.map V.int))/\(∀ c u,c≠x->H c=some u->O c=some u)/\SameT H O/\b=bF (C.take i)/\(∀ m∈C.take i,m.2∣b)/\Scl b r/\Mth.Sz (1+20*i) b/\r.length<=i) ⟨Nat.zero_le _,none,none,1,[],rfl,e3,f3,o3,a3,rfl,(fun m v=>by simp at v),Scl.nil, .lit ⋯ ⋯,Nat.le_refl _⟩ (fun i σ O q=>by obtain ⟨_,_,_,_,_,_,_,_,q,_⟩:=q;exact SqL.of (q _ _ U hA)) ?_ ?_⟩
 ·rintro i y σ N hy ⟨hi,v2,v3,b,r,rfl,J,hf,ho,W,p,l,hs,R,lf⟩;have li:=(List.getElem?_eq_some_iff.mp hy).1;obtain ⟨n,hn,fn⟩:=hN.at_ hy;have fn:FrV K N y n.1 n.2:=FrV.sameT W fn;have I:=a2 n (List.mem_of_getElem? hn);have L:∀ m∈C.take (i+1),m∈C.take i\/m=n:=fun m v=>by
   rw [take_succ,hn] at v;simpa using v
  have R:Mth.Sz 2000 b:=R.mono ∅;have gp:=Mth.g_pos (a:=b) (b:=n.2) ∅;have gd:=Mth.Jc8 b n.2;have G:n.2∣b*n.2.fdiv (Mth.g b n.2):=Jid ∅;have D:b*n.2.fdiv (Mth.g b n.2)=bF (C.take (i+1)):=by
   rw [take_succ,hn];show _=bF (C.take i++[n]);rw [JhW, <- p]
  have gl:=Mth.g_le (a:=b) (b:=n.2) ∅;have d1:DivOk (Mth.g b n.2):=divOk (n:=20) ∅ (Nat.lt_of_le_of_lt (by ac_nf:(Mth.g b n.2).natAbs<=n.2.natAbs) I.2);have f1:=Mth.JdI gd ∅ I.1;have sf:Mth.Sz 20 (n.2.fdiv (Mth.g b n.2)):=I.2.fdiv gd ∅;mvcgen;refine ixF1 fn ?_;refine ⟨x,_,o,_, .int b,rfl,J,e.cls,e.n1,rfl,?_⟩;refine ixF1 fn ?_;mvcgen;refine ⟨_,_,rfl,?_⟩;mvcgen;refine ⟨d1,?_⟩;generalize n.2.fdiv (Mth.g b n.2)=f at *;mvcgen;by_cases c:1<f
  ·rw [if_pos (by simpa using c)];mvcgen;try simpa only [y4fy,y8cy]
   refine ⟨x,_,o,_, .int b,rfl,J,e.cls,e.n1,rfl,?_⟩;try simpa only [y4fy,y8cy]
   refine ⟨mulOk R sf,?_⟩;refine ⟨x,_,o,_,rfl,J,e.cls,e.n1,by simp,?_⟩;generalize u5:upd N x _=M;mvcgen;have e5:M x=some (.ins Ad.Scale o [("bottom", .int (b*f)),("factors", .ref d)]):=by rw [<- u5];exact Jas.trans rfl
   have f5:M d=some (.lst (r.map V.int)):=by rw [<- u5,Jah nx];exact hf
   have T5:SameT N M:=SameT.put u5 J rfl;try simpa only [y4fy,y8cy]
   refine ⟨x,_,o,_, .ref d,rfl,e5,e.cls,e.n2,rfl,?_⟩;refine ⟨.inl ⟨rfl,_,SqL.of f5⟩,?_⟩;mvcgen;refine ⟨d,_,_,rfl,rfl,f5,by rw [length_map];ac_nf,?_⟩;generalize Y:upd M d _=H6;mvcgen;have f6:=putE Y;have T6:SameT M H6:=SameT.put Y f5 rfl;mvcgen;refine ⟨li,_,_,b*f,r++[f],rfl,by rw [<- Y,Jah (Ne.symm nx)];exact e5,by rw [f6];simp,fun c u S h=>by rw [<- Y,Jah (Jae h B), <- u5,Jah S];exact ho c u S h,W.trans (T5.trans T6),D,(fun m v=>(L m v).elim (fun h=>Int.dvd_trans (l m h) (Int.dvd_mul_right ..)) fun h=>h ▸ G),hs.snoc ∅,?_,by simp;ac_nf⟩;have:=(show Mth.Sz (1+20*i) b by assumption).mul sf;exact this.mono ∅
  ·rw [if_neg (by simpa using c)];mvcgen;mvcgen;have a1:f=1:=by ac_nf
   rw [a1,Int.mul_one] at G D;exact ⟨li,_,_,b,r,rfl,J,hf,ho,W,D,(fun m v=>(L m v).elim (l m) fun h=>h ▸ G),hs,(show Mth.Sz (1+20*i) b by assumption).mono ∅,by ac_nf⟩
 ·rintro σ N ⟨hi,v2,v3,b,r,rfl,J,hf,ho,W,p,l,hs,R,lf⟩;mvcgen;rw [take_of_length_le ∅] at l p;exact k b r d N J B hf ho p l hs (R.mono ∅) ∅
abbrev Baq:Stmt:=inClass (top 13) 1
theorem JaO:Jao ["self","number","top","rest","factor","shared"] ["self","number"] (Jac Baq):=by bv_decide
def JbP (K:W.Frag) (Ad:Adr):Sp:=fun vs H Q E=>∃ (x:Addr) (v:V) (n:Fr2) (b:Int) (fs:List Int),vs=[.ref x,v]/\SCK Ad H x b fs/\FrV K H v n.1 n.2/\FB 400 20 n/\n.2∣b/\∀ p H',Same H H'->H' p=some (.tup [.int (n.1*b.fdiv n.2), .int 1])->Q (.ref p) H'
theorem Jd6 (F:FunD K "lifted" "Scale.lifted" Baq dV f fd) (T:Txt K mg Ad) (Bac:Cal P w K mg base 1 "common_divisor" ["one","other"] [] (JaM)):FnOk P w K mg base (CX1 P w) 2 f fd ["self","number"] (JbP K Ad):=by
 refine F.okn JaO (by subst_eqs) (fun J A e s H y Q E j h=>?_)
 obtain ⟨x,v,n,b,r,rfl,h⟩:=h;have m:=j.units;refine ⟨_,(Jab (ps_if (Jan (JaX m) (pe_op JaR (Jau (pv 0) rfl) (pe_ix ix_U (pv 1) Jad)) Jad (Jar _)) (Jaf (Jal (JaP (Jaa (pe_op JaH (pe_ix ix_U (pv 1) Jad) (pe_op Jaw (Jau (pv 0) rfl) (pe_ix ix_U (pv 1) Jad))) (Jaa Jad Jag)))))
   Jap) (Jab (Jaj 2 JaO.nd (pe_ix ix_U (pv 1) Jad)) (Jab (Jaj 3 JaO.nd (pe_ix ix_U (pv 1) Jad)) (Jab (Jbg PassesOwn.never rfl (pi_U (Jau (pv 0) rfl)) (Jat 4 JaO.nd) (Jab (Jaj 5 JaO.nd (Bac.ev j ⋯ rfl passF (Jaa (pv 3) (Jaa (pv 4) Jag)))) (Jab (Jaj 2 JaO.nd (pe_op JaH (pv 2) (pe_op Jaw (pv 4) (pv 5)))) (Jaf (Jaj 3 JaO.nd (pe_op Jaw (pv 3) (pv 5))))))) (Jaf (Jal (JaP (Jaa (pv 2) (Jaa (pv 3) Jag))))))))),?_⟩
 clear m;obtain ⟨⟨q,N,o,O,M,I,t⟩,d,g,l,k⟩:=h;have a:=T.BbS Ad.Scale rfl;have B:=g.b1;have G:DivOk n.2:=divOk (n:=20) ∅ g.s2;have c:b.fmod n.2=0:=by
  rw [Int.fmod_eq_emod_of_nonneg _ ∅];exact Int.emod_eq_zero_of_dvd l
 show tSeq _ _ _ [some (.ref x),some v,none,none,none,none] H;mleave;refine ⟨x,_,q,_, .int b,rfl,o,a.cls,a.n1,rfl,?_⟩;refine ixF1 d ?_;mleave;refine ⟨by ac_nf,?_⟩;rw [if_pos (by simpa using c)];mleave;mleave;refine ixF0 d ?_;refine ⟨x,_,q,_, .int b,rfl,o,a.cls,a.n1,rfl,?_⟩;refine ixF1 d ?_;mleave;refine ⟨G,mulOk g.s1 (I.fdiv l B),len2,?_⟩;rename_i p C D H L z u;mleave;exact k p L z u
abbrev Bak:Stmt:=inClass (top 35) 0
theorem JdG:Jao ["self","name","row","scale"] ["self","name","row","scale"] (Jac Bak):=by bv_decide
def JbH (K:W.Frag) (Ad:Adr):Sp:=fun vs H Q E=>∃ (x dx sc r:Addr) (nm vs_ vt vc:V) (b:Int) (fs:List Int) (n:Fr2) (w:V),vs=[.ref x,nm, .ref r, .ref sc]/\H x=some (.ins Ad.Step dx [])/\SqT K H r [vs_,vt,vc,w]/\FrV K H vc n.1 n.2/\FB 400 20 n/\n.2∣b/\SCK Ad H sc b fs/\∀ pr H',(∀ c u,c≠x->H c=some u->H' c=some u)->H' pr=some (.tup [nm,w])->H' x=some (.ins Ad.Step dx [("source",vs_),("target",vt),("cost",vc),("whole", .int (n.1*b.fdiv n.2)),("pair", .ref pr)])->Q .non H'
theorem JdF (F:FunD K "__init__" "Step.__init__" Bak dV f fd) (T:Txt K mg Ad) (BbU:MCal P w K mg base 2 "lifted" (Jgi Ad) ["self","number"] (JbP K Ad)):FnOk P w K mg base (CX1 P w) 3 f fd ["self","name","row","scale"] (JbH K Ad):=by
 refine F.okn JdG (by subst_eqs) (fun a3 A S s H vs Q E hr h=>?_)
 obtain ⟨x,g,v,r,nm,a,B,C,b,fs,n,w,rfl,h⟩:=h;refine ⟨_,(Jab (JbW (pv 0) (pe_ix ix_U (pv 2) Jad) rfl) (Jab (JbW (pv 0) (pe_ix ix_U (pv 2) Jad) rfl) (Jab (JbW (pv 0) (pe_ix ix_U (pv 2) Jad) rfl) (Jab (JbW (pv 0) (pe_ix ix_U (BbU.m hr ⋯ passF (pv 3) (Jaa (pe_ix ix_U (pv 2) Jad) Jag)) Jad) rfl) (Jaf (JbW (pv 0) (JaP (Jaa (pv 1) (Jaa (pe_ix ix_U (pv 2) Jad) Jag))) rfl)))))),?_⟩
 obtain ⟨N,e,fv,fb,dv,V,k⟩:=h;have j:=T.c_Step Ad.Step rfl;have a4:=T.BbS Ad.Scale rfl;show tSeq _ _ _ [some (.ref x),some nm,some (.ref r),some (.ref v)] H;mexact;refine ixT (i:=0) e rfl ?_;mexact;refine ⟨x,_,g,_,rfl,N,j.cls,j.n1,by simp,?_⟩;generalize W:upd H x _=M;mexact;have e1:M x=some (.ins Ad.Step g [("source",a)]):=by rw [<- W];exact Jas.trans rfl
 have T1:SameT H M:=SameT.put W N rfl;have o1:∀ c u,c≠x->H c=some u->M c=some u:=fun c u d h=>by rw [<- W,Jah d];exact h
 mexact;refine ixT (i:=1) (e.sameT T1) rfl ?_;mexact;refine ⟨x,_,g,_,rfl,e1,j.cls,j.n2,by simp,?_⟩;generalize u2:upd M x _=L;mexact;have e2:L x=some (.ins Ad.Step g [("source",a),("target",B)]):=by rw [<- u2];exact Jas.trans rfl
 have T2:SameT H L:=T1.trans (SameT.put u2 e1 rfl);have o2:∀ c u,c≠x->H c=some u->L c=some u:=fun c u d h=>by rw [<- u2,Jah d];exact o1 c u d h
 mexact;refine ixT (i:=2) (e.sameT T2) rfl ?_;mexact;refine ⟨x,_,g,_,rfl,e2,j.cls,j.n3,by simp,?_⟩;generalize U:upd L x _=J;mexact;have e3:J x=some (.ins Ad.Step g [("source",a),("target",B),("cost",C)]):=by rw [<- U];exact Jas.trans rfl
 have T3:SameT H J:=T2.trans (SameT.put U e2 rfl);have R:∀ c u,c≠x->H c=some u->J c=some u:=fun c u d h=>by rw [<- U,Jah d];exact o2 c u d h
 obtain ⟨G,fl,l,q,Z⟩:=id V;have y:v≠x:=fun z=>by rw [z,N] at l;simp at l
 have a1:fl≠x:=fun z=>by rw [z,N] at q;cases q
 have D:SCK Ad J v b fs:=⟨G,fl,R _ _ y l,R _ _ a1 q,Z⟩;mexact;refine ⟨v,_,G,_,rfl,R _ _ y l,rfl,rfl,?_⟩;refine ixT (i:=2) (e.sameT T3) rfl ?_;mexact;refine ⟨v,C,n,b,fs,rfl,D,FrV.sameT T3 fv,fb,dv,fun p H4 O e4=>?_⟩;mexact;refine ixT (i:=0) (SqT.of e4) rfl ?_;mexact;refine ⟨x,_,g,_,rfl,O _ _ e3,j.cls,j.n4,by simp,?_⟩;generalize Y:upd H4 x _=I;mexact;have e5:I x=some (.ins Ad.Step g [("source",a),("target",B),("cost",C),("whole", .int (n.1*b.fdiv n.2))]):=by rw [<- Y];exact Jas.trans rfl
 have T5:SameT H I:=T3.trans (O.t.trans (SameT.put Y (O _ _ e3) rfl));have o5:∀ c u,c≠x->H c=some u->I c=some u:=fun c u d h=>by rw [<- Y,Jah d];exact O _ _ (R c u d h)
 mexact;refine ixT (i:=3) (e.sameT T5) rfl ?_;mexact;refine ⟨len2,?_⟩;rename_i pr o a2 I H6 S6 e6;mexact;mexact;refine ⟨x,_,g,_,rfl,S6 _ _ e5,j.cls,j.n5,by simp,?_⟩;generalize X:upd H6 x _=H7;mexact;have e7:H7 x=some (.ins Ad.Step g [("source",a),("target",B),("cost",C),("whole", .int (n.1*b.fdiv n.2)),("pair", .ref pr)]):=by rw [<- X];exact Jas.trans rfl
 have a0:pr≠x:=fun z=>by rw [z,e5] at o;cases o
 mexact;exact k pr H7 (fun c u d h=>by rw [<- X,Jah d];exact S6 _ _ (o5 c u d h)) (by rw [<- X,Jah a0];exact e6) e7
abbrev BaZ:Stmt:=top 36
theorem Jcl:Jao ["ties","rows","tie","scale"] ["ties"] (Jac BaZ):=by bv_decide
def JbR (K:W.Frag) (Ad:Adr):Sp:=fun vs H Q E=>∃ (a:Addr) (xs:List V) (ts:List TD),vs=[.ref a]/\SqL K H a xs/\All2 (OV K Ad H) ts xs/\(∀ t∈ts,TOk t)/\(∀ s∈Ch.all ts,FB 400 20 s.c)/\ts.length<=35/\∀ l ys (b:Int) H',Same H H'->H' l=some (.lst ys)->b=bF ((Ch.all ts).map (·.c))->1<=b->Mth.Sz 2000 b->(∀ s∈Ch.all ts,s.c.2∣b)->All2 (SOV K Ad b H') (Ch.all ts) ys->Q (.ref l) H'
theorem JgG (F:FunD K "steps_of" "steps_of" BaZ dV f fd) (T:Txt K mg Ad) (m_steps:MCal P w K mg base 4 "steps" (IsTie Ad) ["self"] (JcI K Ad)) (Bb6:KCal P w K mg base 2 "Scale" Ad.Scale ["self","numbers"] (Jbz K Ad)) (k_Step:KCal P w K mg base 3 "Step" Ad.Step ["self","name","row","scale"] (JbH K Ad)):FnOk P w K mg base (CX1 P w) 6 f fd ["ties"] (JbR K Ad):=by
 refine F.okn Jcl (by subst_eqs) (fun d2 A a8 s H vs Q E hr h=>?_)
 obtain ⟨a,xs,l,rfl,h⟩:=h;refine ⟨_,(Jab (Jaj 1 Jcl.nd (Jbp Jag)) (Jab (Jbg PassesOwn.never rfl (pi_U (pv 0)) (Jat 2 Jcl.nd rfl (Or.inr rfl)) (Jaf (JaW (pe_bm PySem.F.plainAttrs_list PySem.F.slot_list_extend PySem.F.type_list_extend Jix (pv 1) (Jaa (Jbt (own:=["row"]) (cs:=[(2,"tie")]) rfl (pi_U (m_steps.m0 hr ⋯ passF (pv 2))) (fun _ _ _ _=>(Jat 0 (show [("row" : Str),("tie" : Str)].Nodup by decide))) (fun _ _ _ _=>(JaP (Jaa (Jk6 (K:=K) rfl (pv 1) rfl) (Jaa (pv 0) Jag)))) (JbU rfl) ⋯ rfl ⋯ (hcs1 rfl rfl rfl)) Jag))))) (Jab (Jaj 3 Jcl.nd (Bb6.ev hr ⋯ rfl passF (Jaa (Jbt (own:=["name","row"]) (cs:=[]) rfl (pi_U (pv 1)) (fun _ _ _ _=>(JiL (K:=K) (n:=2) rfl rfl (JaT (Jat 0 (show [("name" : Str),("row" : Str)].Nodup by decide) (hf:=Or.inr rfl)) (JaT (Jat 1 (show [("name" : Str),("row" : Str)].Nodup by decide) (hf:=Or.inr rfl)) Jdq)))) (fun _ _ _ _=>(pe_ix (ix_UK (K:=K) rfl) (pv 1) Jad)) (JbU rfl) ⋯ rfl ⋯ hcs0) Jag)) rfl (Or.inr rfl)) (Jaf (Jal (Jbt (own:=["name","row"]) (cs:=[(3,"scale")]) rfl (pi_U (pv 1)) (fun _ _ _ _=>(JiL (K:=K) (n:=2) rfl rfl (JaT (Jat 0 (show [("name" : Str),("row" : Str),("scale" : Str)].Nodup by decide) (hf:=Or.inr rfl)) (JaT (Jat 1 (show [("name" : Str),("row" : Str),("scale" : Str)].Nodup by decide) (hf:=Or.inr rfl)) Jdq)))) (fun _ _ _ _=>(k_Step.ev hr ⋯ rfl passF (Jaa (pv 0) (Jaa (pv 1) (Jaa (pv 2) Jag))))) (JbU rfl) ⋯ rfl ⋯ (hcs1 rfl rfl rfl))))))),?_⟩
 obtain ⟨hS,hR,hT,S,hl,k⟩:=h;have sl:(1000:Nat)<=sizeLine:=by decide
 have lR:=hR.length;have N:∀ i,(Ch.all (l.take i)).length<=2*i:=fun i=>JeW i;show tSeq _ _ _ [some (.ref a),none,none,none] H;mleave;refine ⟨len0,?_⟩;rename_i rl a5 c4 H H1 S1 e1;mleave;refine ⟨a,rfl,ForA.byLN (xs:=xs) (hS.same S1) (fun i σ g=>i<=xs.length/\∃ (v2:Option V) (G:List V),σ=[some (.ref a),some (.ref rl),v2,none]/\Same H g/\g rl=some (.lst G)/\All2 (SRV K g) (Ch.all (l.take i)) G) ⟨Nat.zero_le _,none,[],rfl,S1,e1,by rw [take_zero];exact rfl⟩ (fun i σ g z=>by obtain ⟨_,_,_,_,z,_⟩:=z;exact hS.same z) ?_ ?_⟩
 ·rintro i x σ H2 hx ⟨hi,v2,G,rfl,S2,m,W⟩ N0 a7;have li:=(List.getElem?_eq_some_iff.mp hx).1;obtain ⟨t,ht,b6⟩:=hR.at_ hx;have ok:=hT t (List.mem_of_getElem? ht);obtain ⟨C,vl,vg,tv,hC,b5,c3⟩:=b6.same S2;have c1:=tv;obtain ⟨p',X,rfl,D⟩:=tv;have tc:=T.tie _ hC;mleave;refine ⟨.inl ⟨rfl,_,SqL.of m⟩,?_⟩;refine ⟨p',_,X,_,rfl,D,hC,rfl,?_⟩;refine ⟨_,_,_,_,_,_,_, .str t.st, .str t.en,bD t.lo,bD t.hi,rfl,c1,hC,repS,repS,Jj8 b5 ok.lo,Jj8 c3 ok.hi,fun q ys Z hn S4 e4 r4=>?_⟩;rw [Jj0] at r4;have pv:=All2.ofRepL (P:=PV K Z) (fun s x=>PV.of) r4;have l2:(Ch.steps t).length<=2:=by unfold Ch.steps fwd bwd;cases t.hi <;> cases t.lo <;> simp
  have d4:=pv.length;mleave;refine ⟨q,rfl, .inl ⟨⟨_,SqL.of e4⟩,CompJ.list (xs:=ys) (fun j d g=>Same Z g/\All2 (SRV K g) ((Ch.steps t).take j) d) ⟨Same.refl _,by rw [take_zero];exact rfl⟩ (fun j d g hj z=>⟨SqL.of (z.1 _ _ e4),by have:=z.2.length;rw [length_take] at this;ac_nf⟩) ?_ ?_⟩⟩
  ·rintro j y d H5 hy ⟨S5,o⟩;obtain ⟨s,U,b2⟩:=pv.at_ hy;have nm:s.nm=t.nm:=Jjz (List.mem_of_getElem? U);simpa only [length_singleton,length_cons,length_nil,List.replicate,Jaz,map_cons,map_nil,Option.join_some,y4fy];refine ⟨p',_,X,_, .str t.nm,rfl,S5 _ _ (S4 _ _ D),tc.cls,tc.n1,rfl,?_⟩;mleave;refine ⟨by show 2<=sizeLine;ac_nf,?_⟩;rename_i c d1 d3 H5 r Y e6;mleave;refine ⟨S5.trans Y,?_⟩;rw [take_succ,U];exact (o.mono (P':=SRV K r) fun _ _ z=>z.sameT Y.t).append (.one ⟨c,y,rfl,by rw [nm];exact SqT.of e6,b2.sameT (S5.t.trans Y.t)⟩)
  ·rintro d H5 ⟨S5,o⟩;rw [take_of_length_le ∅] at o;rename_i cl c9 c8 H5 r Y e6;mleave;have M:=S4.trans (S5.trans Y);have lD:=W.length;have lA:=o.length;have a0:=N i;refine ⟨rl,cl,G,d,rfl,rfl,M _ _ m,e6,by ac_nf,?_⟩;generalize u7:upd r rl _=I;mleave;have e7:=putE u7;have T7:SameT r I:=SameT.put u7 (M _ _ m) rfl;refine a7 _ _ ⟨li,_,G++d,rfl,fun b w h=>by rw [<- u7,Jah (Jae h a5)];exact M _ _ (S2 _ _ h),e7,?_⟩;rw [show Ch.all (l.take (i+1))=Ch.all (l.take i)++Ch.steps t by rw [take_succ,ht];simp [Ch.all]];exact (W.mono (P':=SRV K I) fun _ _ z=>z.sameT (M.t.trans T7)).append (o.mono (P':=SRV K I) fun _ _ z=>z.sameT (Y.t.trans T7))
 ·rintro σ H2 ⟨hi,v2,G,rfl,S2,m,W⟩;have a0:=N l.length;rw [take_of_length_le ∅] at W;rw [take_of_length_le (Nat.le_refl _)] at a0;have lD:=W.length;mleave;refine ⟨rl,rfl, .inl ⟨⟨_,SqL.of m⟩,CompJ.list (xs:=G) (fun j d g=>g=H2/\All2 (FLV K H2) (((Ch.all l).map (·.c)).take j) d) ⟨rfl,by rw [take_zero];exact rfl⟩ (fun j d g hj z=>⟨by rw [z.1];exact SqL.of m,by have:=z.2.length;rw [length_take] at this;ac_nf⟩) ?_ ?_⟩⟩
  ·rintro j y d H3 hy ⟨rfl,o⟩;obtain ⟨s,U,b,v,rfl,hb,b',vc,rfl,b4,hc⟩:=W.at_ hy;simpa only [length_singleton,length_cons,length_nil,List.replicate,Jaz,map_cons,map_nil,Option.join_some];refine ⟨b,_,rfl,hb,rfl,?_⟩;mleave;refine ixT (i:=2) b4 rfl ?_;mleave;rw [take_succ,List.getElem?_map,U];exact o.append (.one hc)
  ·rintro d H3 ⟨rfl,o⟩;rw [take_of_length_le (by rw [length_map];ac_nf)] at o;rename_i nl d0 c7 H3 Z S4 e4;mleave;mleave;intro sc ds U b3 a1;have O:Same Z (upd (upd Z ds (.own sc)) sc (.ins Ad.Scale ds [])):=fun b u q=>by rw [Jah (Jae q U),Jah (Jae q b3)];exact q
   refine ⟨sc,ds,nl,d,(Ch.all l).map (·.c),rfl,Jas,O _ _ e4,o.mono (fun _ _ z=>FLV.sameT (S4.t.trans O.t) z),by rw [length_map];ac_nf,fun n hn=>?_,fun b fs fl r h1 h2 h3 h4 b0 L a2 a3 b7=>⟨rfl,?_⟩⟩
   ·obtain ⟨s,e,rfl⟩:=mem_map.mp hn;exact ⟨(S s e).b1,(S s e).s2⟩
   have b8:Same Z r:=fun c u h=>h4 c u (Jae h U) (O _ _ h);have B:=S4.trans b8;have b9:SCK Ad r sc b fs:=⟨ds,fl,h1,h3,a2,a3,b7⟩;have L:∀ s∈Ch.all l,s.c.2∣b:=fun s e=>L s.c (mem_map.mpr ⟨s,e,rfl⟩);have a9:All2 (SRV K r) (Ch.all l) G:=W.mono fun _ _ z=>z.sameT B.t;mleave;refine ⟨rl,rfl, .inl ⟨⟨_,SqL.of (B _ _ m)⟩,CompJ.list (xs:=G) (fun j d g=>Same r g/\All2 (SOV K Ad b g) ((Ch.all l).take j) d) ⟨Same.refl _,by rw [take_zero];exact rfl⟩ (fun j d g hj z=>⟨SqL.of (z.1 _ _ (B _ _ m)),by have:=z.2.length;rw [length_take] at this;ac_nf⟩) ?_ ?_⟩⟩
   ·rintro j y a4 I hy ⟨S7,J⟩;obtain ⟨s,e,c0⟩:=a9.at_ hy;have a6:=List.mem_of_getElem? e;obtain ⟨p,v,rfl,hp,p',vc,rfl,D,hc⟩:=c0.sameT S7.t;simpa only [length_singleton,length_cons,length_nil,List.replicate,Jaz,map_cons,map_nil,Option.join_some];refine ⟨p,_,rfl,hp,rfl,?_⟩;mleave;intro x X hx c2 a1;have O:Same I (upd (upd I X (.own x)) x (.ins Ad.Step X [])):=fun b u q=>by rw [Jah (Jae q hx),Jah (Jae q c2)];exact q
    refine ⟨x,X,sc,p', .str s.nm, .str s.src, .str s.dst,vc,b,fs,s.c, .bl s.fw,rfl,Jas,D.same O,FrV.same O hc,S s a6,L s a6,(b9.same S7).same O,fun pr H8 ho e1 m=>?_⟩;have R:Same I H8:=fun c u h=>ho c u (Jae h hx) (O _ _ h);refine ⟨rfl,S7.trans R,?_⟩;rw [take_succ,e];exact (J.mono (P':=SOV K Ad b H8) fun _ _ z=>z.same R).append (.one ⟨x,X,vc,pr,rfl,m,FrV.same R hc,e1⟩)
   ·rintro a4 I ⟨S7,J⟩;rw [take_of_length_le (Nat.le_of_eq ∅)] at J;rename_i ol c5 c6 I H8 S8 e8;mleave;exact k ol a4 b H8 (S2.trans (B.trans (S7.trans S8))) e8 b0 a2.b1 a3 L (J.mono fun _ _ z=>z.same S8)
abbrev Bad:Stmt:=inClass (top 7) 0
theorem Jcs:Jao ["self","words","around"] ["self","words","around"] (Jac Bad):=by bv_decide
def Ja5 (K:W.Frag) (Ad:Adr):Sp:=fun vs H Q E=>∃ (e:Addr) (w:Str) (a:Addr) (xs:List V) (S f:Addr),vs=[.ref e, .str w, .ref a]/\H e=some (ExcN e Ad.Impossible none)/\ExcI K Ad.Impossible S f/\SqL K H a xs/\∀ (l dx:Addr) (H':Hp),(∀ b u,b≠e->H b=some u->H' b=some u)->H l=none->H' l=some (.lst xs)->H dx=none->dx≠e->H' e=some (ExcN e Ad.Impossible (some dx))->H' dx=some (.xd [("around", .ref l)])->Q .non H'
theorem Jcr (F:FunD K "__init__" "Impossible.__init__" Bad dV f fd) (T:Txt K mg Ad)  : FnOk P w K mg base (CX1 P w) 1 f fd ["self","words","around"] (Ja5 K Ad):=by
 refine F.okn Jcs (by subst_eqs) (fun D A o s H B Q E G h=>?_)
 obtain ⟨e,w,a,t,S,f,rfl,h⟩:=h;refine ⟨_,(Jab (JaW (JjE T.slk rfl T.m_SlackError (Jaa (pv 0) (Jaa (pv 1) Jag)))) (Jaf (Jld (pv 0) (JjH (Jan Jbb (pv 2) JaI (Jar _)) (Jbp Jag) (Jcy Jht rfl T.Bcb Jgl (Jaa (pv 2) Jag))) rfl))),?_⟩
 obtain ⟨m,q,y,k⟩:=h;show tSeq _ _ _ [some (.ref e),some (.str w),some (.ref a)] H;cbv;refine ⟨e,_,_,_,_,_,rfl,by show 1<=sizeLine;decide,m,q,?_⟩;rw [show upd H e (ExcN e Ad.Impossible none)=H from funext fun b=>by
  by_cases c:b=e
  ·rw [c,Jas,m]
  ·rw [Jah c]]
 mframe;refine ⟨a,t,rfl, .inl y,?_⟩;rename_i l g x H I j r;cbv;refine ⟨e,_,S,f,rfl,j _ _ m,q,T.xa,fun v d i=>?_⟩;have p:l≠e:=fun z=>by rw [z,m] at g;cases g
 have n:l≠v:=Jae r d;exact k l v _ (fun b u C h=>by rw [Jah (Jae (j _ _ h) d),Jah C];exact j _ _ h) g (by rw [Jah n,Jah p];exact r) (JaD j d) i (by rw [Jah (Ne.symm i),Jas]) Jas
abbrev Bau:Stmt:=top 37
theorem JaS:Jao ["lasts","face","passed","at","backward","turn"] ["lasts","face"] (Jac Bau):=by bv_decide
def Jb4 (K:W.Frag) (Ad:Adr):Sp:=fun vs H Q E=>∃ (ld:Addr) (f:Str) (kw:List (Key × V)) (ss:List SpS) (t:BF) (c:Str->Nat),vs=[.ref ld, .str f]/\H ld=some (.dK kw)/\DV (SOS K Ad H) t.P kw/\Cg ss (ss.length+1) t c/\c f=ss.length+1/\(∀ v s,lk t.P v=some s->s∈ss/\s.tgt=v)/\ss.length<=70/\∀ l xs R H',Same H H'->H l=none->H' l=some (.lst xs)->RG t.P f R->All2 (CV H') (R.map fun s=>(s.nm,s.fw)) xs->Q (.ref l) H'
theorem Jey (F:FunD K "ring_behind" "ring_behind" Bau dV f fd) (T:Txt K mg Ad)  : FnOk P w K mg base (CX1 P w) 1 f fd ["lasts","face"] (Jb4 K Ad):=by
 refine F.okn JaS (by subst_eqs) (fun c7 A b0 s H vs Q E hr h=>?_)
 obtain ⟨N,f,kw,u,t,c,rfl,h⟩:=h;have J:=hr.units;refine ⟨_,(Jab (Jaj 2 JaS.nd JbV) (Jab (Jaj 3 JaS.nd (pv 1)) (Jab (JdN PassesOwn.never (Jcd (JbL (hu1 J) (pv 3) (pv 2)) (by with_unfolding_all rfl)) (Jab (JbD (hu1 J) (pv 2) (pv 3) pe_bl rfl) (Jaf (Jaj 3 JaS.nd (Jau (JaA (hu1 J) (pv 0) (pv 3) (fun _ _=>rfl)) rfl))))) (Jab (Jaj 4 JaS.nd (Jbp Jag)) (Jab (Jaj 5 JaS.nd (pv 3)) (Jab (JdN PassesOwn.never (PW.pt (pw_or (Jan (JaX J) (Jav JaF rfl T.Bbl Jbw (Jaa (pv 4) Jag)) Jad (Jar _)) (Jcp (Jan (Jcx J) (pv 5) (pv 3) (Jar _))))) (Jab (JaW (pe_bm PySem.F.plainAttrs_list PySem.F.slot_list_append PySem.F.type_list_append Jbe (pv 4) (Jaa (Jau (JaA (hu1 J) (pv 0) (pv 5) (fun _ _=>rfl)) rfl) Jag) (hs:=by exact Jai rfl))) (Jaf (Jaj 5 JaS.nd (Jau (JaA (hu1 J) (pv 0) (pv 5) (fun _ _=>rfl)) rfl))))) (Jaf (Jal (Jk9 rfl rfl rfl rfl T.Bcb Jgl rfl T.n_reversed JdS (pv 4)))))))))),?_⟩
 clear J;obtain ⟨hd,hD,hC,c9,b1,c6,k⟩:=h;have sl:(100000:Nat)<=sizeLine:=by decide
 have tc:=T.c_Step Ad.Step rfl;show tSeq _ _ _ [some (.ref N),some (.str f),none,none,none,none] H;mleave;rename_i pd a4 c2 H H1 S1 e1;mleave;mleave;refine ⟨fun m σ r=>∃ (q:Str) (d:List SpS) (W:List (Str × Unit)) (kp:List (Key × V)),σ=[some (.ref N),some (.str f),some (.ref pd),some (.str q),none,none]/\Same H r/\r pd=some (.dK kp)/\DV (fun _ _=>True) W kp/\(∀ x,(∃ e,lk W x=some e)↔x∈d.map (·.tgt))/\W.length<=d.length/\Lnk t.P q d.reverse/\lnkE q d.reverse=f/\(d.map (·.tgt)).Nodup/\(∀ x∈d,x∈u)/\u.length+1<=c q+d.length/\m+d.length=u.length+1,⟨u.length+1,f,[],[],[],rfl,S1,e1,rfl,(fun x=>by simp [lk]),Nat.le_refl _,trivial,rfl, .nil,(fun x n=>by cases n),by ac_nf,rfl⟩,?_⟩;rintro m σ H7 ⟨q,d,W,kp,rfl,S7,a1,G,O,c5,a2,a0,j,D,b8,c3⟩;mleave;refine ⟨pd,_,rfl,DGet.k (k:=Sum.inr q) a1,?_⟩;cases eq_:lk W q with
 | none=>
  rw [G.no eq_];try simpa only [Option.isSome_none]
  obtain ⟨s,hs,b6⟩:=hC.next j D b8;obtain ⟨b2,o⟩:=b1 q s hs;obtain ⟨v,hv,M⟩:=hD.at hs;obtain ⟨p,dx,vc,pr,rfl,C,b9,I⟩:=id M;have d1:=G.len;have nq:q∉d.map (·.tgt):=fun z=>by
   obtain ⟨e,he⟩:=(O q).mpr z;rw [eq_] at he;cases he
  have b4:d.length<=u.length:=by
   have:=sub_len (d.map (·.tgt)) (u.map (·.tgt)) j fun x n=>by
    obtain ⟨y,U,rfl⟩:=mem_map.mp n;exact mem_map.mpr ⟨y,D y U,rfl⟩
   rw [length_map,length_map] at this;exact this
  refine ⟨_,fun _ _ h=>h,?_⟩;mleave;refine ⟨pd,_,rfl,DPut.k (k:=Sum.inr q) a1 ∅,?_⟩;generalize u8:upd H7 pd _=H8;mleave;have e8:=putE u8;have S8:Same H H8:=fun b w h=>by rw [<- u8,Jah (Jae h a4)];exact S7 _ _ h
  mleave;refine ⟨N, .ref p,rfl,by rw [<- hv];exact DGet.k (k:=Sum.inr q) (S8 _ _ hd),?_⟩;refine ⟨p,_,dx,_, .str s.src,rfl,S8 _ _ C,tc.cls,tc.n1,rfl,?_⟩;mleave;have d0:=Jdx (l:=W) (f:=q) (a:=());refine ⟨m-1,by ac_nf,s.src,d++[s],pu W q (),_,rfl,S8,e8,G.put trivial,fun x=>?_,by rw [length_append];simp;ac_nf,by rw [List.reverse_append];exact a2.add hs o,by rw [List.reverse_append];exact (Jhc o).trans a0,?_,fun x n=>?_,b6,by rw [length_append];simp;ac_nf⟩
  ·rw [lk_pu,map_append];by_cases z:q=x
   ·rw [if_pos z];mleave;exact ⟨fun _=>mem_append_right _ (by simp [o,z]),fun _=>by simp⟩
   ·rw [if_neg z,O];mleave;refine ⟨fun h=>mem_append_left _ h,fun h=>?_⟩;rcases mem_append.mp h with h | h
    ·exact h
    ·exact absurd (by simpa [o] using h) (Ne.symm z)
  ·rw [map_append];refine nodup_append.mpr ⟨j,by simp,fun x n y U e=>nq ?_⟩;have U:y=s.tgt:=by simpa using U
   rw [<- o, <- U, <- e];exact n
  ·rcases mem_append.mp n with n | n
   ·exact D x n
   ·rw [mem_singleton.mp n];exact b2
 | some e=>
  rw [(G.at eq_).choose_spec.1];try simpa only [Option.isSome_some]
  (try ((with_reducible refine Nxt.go (by assumption) ?_);mleave))
  have hq:q∈d.reverse.map (·.tgt):=by
   rw [List.map_reverse,List.mem_reverse];exact (O q).mp ⟨e,eq_⟩
  obtain ⟨R,l2,hR,a7,b7⟩:=RG.of a2 a0 (by rw [List.map_reverse];exact (List.reverse_perm _).nodup_iff.mpr j) hq;mleave;refine ⟨len0,?_⟩;rename_i bl a9 c0 H7 H8 S8 e8;mleave;have a5:=JaD S7 a9
  (try ((with_reducible refine Nxt.go (by assumption) ?_);mleave))
  mleave
  (try ((with_reducible refine Nxt.go (by assumption) ?_);mleave))
  mleave;have c8:∀ r,Same H r->DV (SOS K Ad r) t.P kw:=fun r S=>hD.mono fun _ _ z=>z.same S;obtain ⟨r0,r1,r2⟩:=a7;have b5:(R.map (·.tgt)).Nodup:=by
   have : ((R++l2).map (·.tgt)).Nodup:=by rw [<- hR,List.map_reverse];exact (List.reverse_perm _).nodup_iff.mpr j
   rw [map_append] at this;exact (nodup_append.mp this).1
  refine ⟨fun m σ r=>∃ (A B:List SpS) (Y:List V),σ=[some (.ref N),some (.str f),some (.ref pd),some (.str q),some (.ref bl),some (.str (lnkE q A))]/\Same H r/\r bl=some (.lst Y)/\All2 (CV r) (B.reverse.map fun s=>(s.nm,s.fw)) Y/\A++B=R/\m=A.length,⟨R.length,R,[],[],by rw [r2],S7.trans S8,e8,rfl,append_nil _,rfl⟩,?_⟩;rintro m' σ H9 ⟨A,B,Y,rfl,S9,e9,L,g,rfl⟩;have a8:=L.length;rw [length_map,List.length_reverse] at a8;have c4:A.length+B.length=R.length:=by rw [<- g,length_append]
  have lR:R.length<=d.length:=by
   have:=congrArg List.length hR;rw [List.length_reverse,length_append] at this;ac_nf
  mleave;refine ⟨_, .inl (SqL.of e9),?_⟩;mleave;rcases List.eq_nil_or_concat A with hA | ⟨A',s,hA⟩
  ·subst hA;rw [nil_append] at g;subst g;have nb:Y.length≠0:=by
    have : B.length≠0:=fun z=>r0 (eq_nil_of_length_eq_zero z);ac_nf
   rw [if_neg (by simp;intro z;exact nb (by rw [z];rfl)),if_neg (by simp [lnkE])];mleave
   (try ((with_reducible refine Nxt.go (by assumption) ?_);mleave))
   mleave;refine ⟨bl,Y,rfl,SqL.of e9,?_⟩;rename_i rl a3 c1 H9 HA Z eA;mleave;refine k rl _ B HA (S9.trans Z) (JaD S9 a3) eA b7 ?_;have:=(L.mono (P':=CV HA) fun _ _ z=>z.sameT Z.t).rev;rw [<- List.map_reverse,List.reverse_reverse] at this;exact this
  ·rw [List.concat_eq_append] at hA;subst hA;have a6:=r1;rw [<- g] at a6;obtain ⟨q1,q2⟩:=Lnk.app.mp a6;obtain ⟨_,q3,q4,_⟩:=Lnk.app.mp q1;have eE:lnkE q (A'++[s])=s.tgt:=by rw [JdK];rfl
   rw [eE];refine iteOr ?_ ?_
   ·by_cases hB:B=[]
    ·left
     have : Y.length=0:=by rw [a8,hB];rfl
     simp [this]
    ·right
     have m1:=Jhd (z:=s.tgt) hB;have e1:lnkE s.tgt B=q:=by rw [<- eE, <- JdK,g];exact r2
     rw [e1] at m1;have rn:=b5;rw [<- g,map_append] at rn;have:=(nodup_append.mp rn).2.2 s.tgt (by simp) q m1;simpa using this
   obtain ⟨v,hv,M⟩:=hD.at q4;obtain ⟨p,dx,vc,pr,rfl,C,b9,I⟩:=id M;have b4:d.length<=u.length:=by
    have:=sub_len (d.map (·.tgt)) (u.map (·.tgt)) j fun x n=>by
     obtain ⟨y,U,rfl⟩:=mem_map.mp n;exact mem_map.mpr ⟨y,D y U,rfl⟩
    rw [length_map,length_map] at this;exact this
   refine ⟨_,fun _ _ h=>h,?_⟩;mleave;refine ⟨.inl ⟨rfl,_,SqL.of e9⟩,?_⟩;refine ⟨N, .ref p,rfl,by rw [<- hv];exact DGet.k (k:=Sum.inr s.tgt) (S9 _ _ hd),?_⟩;refine ⟨p,_,dx,_, .ref pr,rfl,S9 _ _ C,tc.cls,tc.n5,rfl,?_⟩;mleave;refine ⟨bl,Y,_,rfl,rfl,e9,by ac_nf,?_⟩;generalize X:upd H9 bl _=HA;mleave;have b3:=putE X;have TA:SameT H9 HA:=SameT.put X e9 rfl;have Z:Same H HA:=fun b w h=>by rw [<- X,Jah (Jae h a5)];exact S9 _ _ h
   mleave;refine ⟨N, .ref p,rfl,by rw [<- hv];exact DGet.k (k:=Sum.inr s.tgt) (Z _ _ hd),?_⟩;refine ⟨p,_,dx,_, .str s.src,rfl,Z _ _ C,tc.cls,tc.n1,rfl,?_⟩;mleave;refine ⟨A'.length,by rw [length_append];simp,A',s::B,_,by rw [<- q3],Z,b3,?_,by simpa using g,rfl⟩;rw [List.reverse_cons,map_append];exact (L.mono (P':=CV HA) fun _ _ z=>z.sameT TA).append (.one ⟨pr,rfl,Z _ _ I⟩)
abbrev BaF:Stmt:=top 38
theorem JaG:Jao ["steps","starts","sums","face","lasts","changed","turn","step","total"] ["steps","starts"] (Jac BaF):=by bv_decide
def Jcn (K:W.Frag) (Ad:Adr):Sp:=fun vs H Q E=>∃ (sL fL:Addr) (sx:List V) (ss:List SpS) (fs:List Str),vs=[.ref sL, .ref fL]/\SqL K H sL sx/\All2 (SOS K Ad H) ss sx/\SqL K H fL (fs.map V.str)/\fs.length<=8/\ss.length<=70/\((∀ s∈ss,s.src∈fs)\/∃ π,Pot π ss)/\(∀ ld kv P H',Same H H'->H ld=none->H' ld=some (.dK kv)->DV (SOS K Ad H) P kv->P=(bfR ss (ss.length+1) (bf0 fs)).P->BE ss fs P->(∃ π,Pot π ss)->Q (.ref ld) H')/\∀ (l dx:Addr) (xs:List V) (R:List SpS) (H':Hp),Same H H'->H l=none->H' l=some (.lst xs)->H dx=none->H' dx=some (.xd [("around", .ref l)])->(¬ ∃ π,Pot π ss)->RgD ss fs R->All2 (CV H') (R.map fun s=>(s.nm,s.fw)) xs->E (.ref Ad.Impossible) (some dx) H'
theorem Jfh (F:FunD K "last_steps" "last_steps" BaF dV f fd) (T:Txt K mg Ad) (Bbg:Cal P w K mg base 1 "ring_behind" ["lasts","face"] [] (Jb4 K Ad)) (k_Impossible:XCal P w K mg base 1 "Impossible" Ad.Impossible Ad.SlackError ["self","words","around"] (Ja5 K Ad)):FnOk P w K mg base (CX1 P w) 3 f fd ["steps","starts"] (Jcn K Ad):=by
 refine F.okx JaG (fun vs H Q E h=>?_) (fun d6 A c4 s H vs Q E hr h=>?_)
 ·obtain ⟨sL,fL,sx,ss,fs,rfl,_⟩:=h;rfl
 obtain ⟨sL,fL,sx,ss,fs,rfl,h⟩:=h;have C:=hr.units;refine ⟨_,(Jab (Jaj 2 JaG.nd JbV) (Jab (Jbg PassesOwn.leaving rfl (pi_U (pv 1)) (Jat 3 JaG.nd) (Jaf (JbD (hu1 C) (pv 2) (pv 3) Jad rfl))) (Jab (Jaj 4 JaG.nd JbV) (Jab (Jaj 5 JaG.nd JaI) (Jab (Jbg PassesOwn.leaving rfl (Jee rfl T.Bb4 (Jaa (pe_op Jbx (Jav JaF rfl T.Bbl Jbw (Jaa (pv 0) Jag)) Jad) Jag)) (Jat 6 JaG.nd) (Jab (Jaj 5 JaG.nd JaI) (Jab (Jbg PassesOwn.leaving rfl (pi_U (pv 0)) (Jat 7 JaG.nd) (Jaf (ps_if (Jcd (JeQ (hu1 C) (Jau (pv 7) rfl) (pv 2)) (by with_unfolding_all rfl)) (Jab (Jaj 8 JaG.nd (pe_op Jbx (JaA (hu1 C) (pv 2) (Jau (pv 7) rfl) (fun _ _=>rfl)) (Jau (pv 7) rfl))) (Jaf (ps_if (PW.pt (pw_or (Jcd (JbL (hu1 C) (Jau (pv 7) rfl) (pv 2)) (by with_unfolding_all rfl)) (Jcp (Jan Jd9 (pv 8) (JaA (hu1 C) (pv 2) (Jau (pv 7) rfl) (fun _ _=>rfl)) (Jar _))))) (Jab (JbD (hu1 C) (pv 2) (Jau (pv 7) rfl) (pv 8) rfl) (Jab (JbD (hu1 C) (pv 4) (Jau (pv 7) rfl) (pv 7) rfl) (Jaf (Jaj 5 JaG.nd (Jau (pv 7) rfl)))))
   Jap)))
   Jap))) (Jaf (ps_if (Jan Jbb (pv 5) JaI (Jar _)) (Jaf (Jal (pv 4)))
   Jap))))) (Jaf (JiQ (k_Impossible.ev hr ⋯ rfl pass1 (Jaa Jbf (Jaa (Bbg.ev hr ⋯ rfl pass1 (Jaa (pv 4) (Jaa (pv 5) Jag))) Jag)))))))))),?_⟩
 clear C;obtain ⟨hS,hX,hF,l8,c8,b7,k,kE⟩:=h;have sl:(100000:Nat)<=sizeLine:=by decide
 have lX:=hX.length;have q:=T.c_Step Ad.Step rfl;show tSeq _ _ _ [some (.ref sL),some (.ref fL),none,none,none,none,none,none,none] H;mleave;rename_i x W d2 H H1 S1 e1;mleave;refine ⟨fL,rfl,ForA.byLN (xs:=fs.map V.str) (hF.same S1) (fun i σ L=>i<=fs.length/\∃ (v3:Option V) (r:List (Key × V)),σ=[some (.ref sL),some (.ref fL),some (.ref x),v3,none,none,none,none,none]/\Same H L/\L x=some (.dK r)/\DV RI ((fs.take i).foldl (fun S f=>pu S f 0) []) r/\r.length<=i) ⟨Nat.zero_le _,none,[],rfl,S1,e1,rfl,Nat.le_refl _⟩ (fun i σ L z=>by obtain ⟨_,_,_,_,z,_⟩:=z;exact hF.same z) ?_ ?_⟩
 ·rintro i y σ H2 hy ⟨hi,v3,r,rfl,S2,d,hD,d9⟩ N0 a7;rw [List.getElem?_map] at hy;obtain ⟨f,hf,rfl⟩:=Option.map_eq_some_iff.mp hy;have li:=(List.getElem?_eq_some_iff.mp hf).1;mleave;refine ⟨x,_,rfl,DPut.k (k:=Sum.inr f) d ∅,?_⟩;generalize u3:upd H2 x _=H3;mleave;have e3:=putE u3;have b6:DV RI ((fs.take (i+1)).foldl (fun S f=>pu S f 0) []) (putK r (Sum.inr f) (.int 0)):=by
   rw [take_succ,hf,foldl_append];exact DV.put hD rfl
  refine a7 _ _ ⟨li,_,_,rfl,fun c w h=>by rw [<- u3,Jah (Jae h W)];exact S2 _ _ h,e3,b6,?_⟩;have l1:=b6.len;have l2:=hD.len;have l3:=Jdx (l:=(fs.take i).foldl (fun S f=>pu S f 0) []) (f:=f) (a:=(0:Int));rw [take_succ,hf,foldl_append] at l1;have l4:(putK r (Sum.inr f) (.int 0)).length=(pu ((fs.take i).foldl (fun S f=>pu S f 0) []) f (0:Int)).length:=l1;ac_nf
 ·rintro σ H2 ⟨_,v3,c2,rfl,S2,a5,U,c3⟩;rw [length_map] at c3;rw [take_of_length_le (by rw [length_map];exact Nat.le_refl _)] at U;have U:DV RI (bf0 fs).S c2:=U;have e2:=U.len;mleave;rename_i J Y d1 H2 H3 S3 e3;mleave;have M:=JaD S2 Y;have a2:J≠x:=fun z=>by rw [z,a5] at Y;cases Y
  mleave;refine ⟨_, .inl ((hS.same S2).same S3),?_⟩;mleave;refine ⟨_,rfl,by ac_nf,by ac_nf,?_⟩;refine ForR.byN (fun i σ L=>∃ (v5 v6 v7 v8:Option V) (t:BF) (r B:List (Key × V)),σ=[some (.ref sL),some (.ref fL),some (.ref x),v3,some (.ref J),v5,v6,v7,v8]/\Same H L/\L x=some (.dK r)/\DV RI t.S r/\L J=some (.dK B)/\DV (SOS K Ad H) t.P B/\t=itr ss i (bf0 fs)/\bfR ss (ss.length+1) (bf0 fs)=bfR ss (ss.length+1-i) t/\t.S.length<=8+70*i/\t.P.length<=70*i/\(i≠0->t.ch≠none/\v5=some (chV t.ch))) ⟨_,none,none,none,bf0 fs,c2,[],rfl,S2.trans S3,S3 _ _ a5,U,e3,rfl,rfl,rfl,by ac_nf,by simp [bf0],fun z=>absurd rfl z⟩ ?_ ?_
  ·rintro i σ H4 hi ⟨v5,v6,v7,v8,t,r,B,rfl,S4,d,g,o,m,ht,a9,lS,lP,b2⟩ N0 a7;have d5:i<=ss.length:=by ac_nf
   rw [Int.zero_add];mleave;refine ⟨sL,rfl,ForA.byLN (xs:=sx) (hS.same S4) (fun j σ L=>j<=sx.length/\∃ (u:BF) (v7 v8:Option V) (r B:List (Key × V)),σ=[some (.ref sL),some (.ref fL),some (.ref x),v3,some (.ref J),some (chV u.ch),some (.int (i:Int)),v7,v8]/\Same H L/\L x=some (.dK r)/\DV RI u.S r/\L J=some (.dK B)/\DV (SOS K Ad H) u.P B/\u=(ss.take j).foldl rlx { t with ch:=none }/\u.S.length<=8+70*i+j/\u.P.length<=70*i+j) ⟨Nat.zero_le _,{ t with ch:=none },v7,v8,r,B,rfl,S4,d,g,o,m,rfl,lS,lP⟩ (fun j σ L z=>by obtain ⟨_,_,_,_,_,_,_,z,_⟩:=z;exact hS.same z) ?_ ?_⟩
   ·clear d g o m lS lP;rintro j y σ H5 a0 ⟨hj,u,v7,v8,r,B,rfl,I,d,g,o,m,C,lS,lP⟩ N1 a4;have lj:=(List.getElem?_eq_some_iff.mp a0).1;obtain ⟨s,a8,p,G,vc,pr,rfl,X,e0,d0⟩:=hX.at_ a0;have D:=I _ _ X;have a3:(ss.take (j+1)).foldl rlx { t with ch:=none }=rlx ((ss.take j).foldl rlx { t with ch:=none }) s:=by rw [take_succ,a8,foldl_append];rfl
    have d4:=g.len;have d8:=m.len;mleave;refine ⟨p,_,G,_, .str s.src,rfl,D,q.cls,q.n1,rfl,?_⟩;refine ⟨x,_,rfl,DGet.k (k:=Sum.inr s.src) d,?_⟩;cases ea:lk u.S s.src with
    | none=>
     have gn:gains u.S s=none:=by unfold gains;rw [ea]
     rw [g.no ea];try simpa only [Option.isSome_none]
     exact a4 _ _ ⟨lj,u,_,_,r,B,rfl,I,d,g,o,m,by rw [a3, <- C];unfold rlx;rw [gn],by ac_nf,by ac_nf⟩
    | some a=>
     obtain ⟨v,hv,rv⟩:=g.at ea;have rv:v=.int a:=rv;subst rv;rw [hv];try simpa only [y4fy,Option.isSome_some]
     refine ⟨p,_,G,_, .str s.src,rfl,D,q.cls,q.n1,rfl,?_⟩;refine ⟨x, .int a,rfl,by rw [<- hv];exact DGet.k (k:=Sum.inr s.src) d,?_⟩;refine ⟨p,_,G,_, .int s.wh,rfl,D,q.cls,q.n4,rfl,?_⟩;mleave;refine ⟨p,_,G,_, .str s.tgt,rfl,D,q.cls,q.n2,rfl,?_⟩;refine ⟨x,_,rfl,DGet.k (k:=Sum.inr s.tgt) d,?_⟩;cases eb:lk u.S s.tgt with
     | none=>
      have gn:gains u.S s=some (a+s.wh):=by unfold gains;rw [ea];dsimp only;rw [eb]
      rw [g.no eb];try simpa only [y4fy,Option.isSome_none]
      mleave;refine ⟨p,_,G,_, .str s.tgt,rfl,D,q.cls,q.n2,rfl,?_⟩;refine ⟨x,_,rfl,DPut.k (k:=Sum.inr s.tgt) d ∅,?_⟩;generalize u7:upd H5 x _=H7;mleave;have e7:=putE u7;have O:Same H H7:=fun c w h=>by rw [<- u7,Jah (Jae h W)];exact I _ _ h
      have p7:H7 p=_:=O _ _ X;have b1:H7 J=some (.dK B):=by rw [<- u7,Jah a2];exact o
      mleave;refine ⟨p,_,G,_, .str s.tgt,rfl,p7,q.cls,q.n2,rfl,?_⟩;refine ⟨J,_,rfl,DPut.k (k:=Sum.inr s.tgt) b1 ∅,?_⟩;generalize u8:upd H7 J _=H8;mleave;have e8:=putE u8;have N:Same H H8:=fun c w h=>by rw [<- u8,Jah (Jae h M)];exact O _ _ h
      have p8:H8 p=_:=N _ _ X;mleave;refine ⟨p,_,G,_, .str s.tgt,rfl,p8,q.cls,q.n2,rfl,?_⟩;mleave;refine a4 _ _ ⟨lj,⟨pu u.S s.tgt (a+s.wh),pu u.P s.tgt s,some s.tgt⟩,_,_,_,_,rfl,N,by rw [<- u8,Jah (Ne.symm a2)];exact e7,DV.put g rfl,e8,DV.put m (hX.at_ a0 |> fun ⟨s',h1,h2⟩=>by rw [a8] at h1;cases h1;exact h2),?_,by have:=Jdx (l:=u.S) (f:=s.tgt) (a:=a+s.wh);show (pu u.S s.tgt (a+s.wh)).length<=_;ac_nf,by have:=Jdx (l:=u.P) (f:=s.tgt) (a:=s);show (pu u.P s.tgt s).length<=_;ac_nf⟩;rw [a3, <- C];unfold rlx;rw [gn]
     | some b=>
      obtain ⟨w,hw,b0⟩:=g.at eb;have b0:w=.int b:=b0;subst b0;rw [hw];try simpa only [y4fy,Option.isSome_some]
      refine ⟨p,_,G,_, .str s.tgt,rfl,D,q.cls,q.n2,rfl,?_⟩;refine ⟨x, .int b,rfl,by rw [<- hw];exact DGet.k (k:=Sum.inr s.tgt) d,?_⟩;mleave;by_cases c:a+s.wh<b
      ·rw [if_pos (by simpa using c)];mleave;have gn:gains u.S s=some (a+s.wh):=by unfold gains;rw [ea];dsimp only;rw [eb];exact if_pos c
       mleave;refine ⟨p,_,G,_, .str s.tgt,rfl,D,q.cls,q.n2,rfl,?_⟩;refine ⟨x,_,rfl,DPut.k (k:=Sum.inr s.tgt) d ∅,?_⟩;generalize u7:upd H5 x _=H7;mleave;have e7:=putE u7;have O:Same H H7:=fun c w h=>by rw [<- u7,Jah (Jae h W)];exact I _ _ h
       have p7:H7 p=_:=O _ _ X;have b1:H7 J=some (.dK B):=by rw [<- u7,Jah a2];exact o
       mleave;refine ⟨p,_,G,_, .str s.tgt,rfl,p7,q.cls,q.n2,rfl,?_⟩;refine ⟨J,_,rfl,DPut.k (k:=Sum.inr s.tgt) b1 ∅,?_⟩;generalize u8:upd H7 J _=H8;mleave;have e8:=putE u8;have N:Same H H8:=fun c w h=>by rw [<- u8,Jah (Jae h M)];exact O _ _ h
       have p8:H8 p=_:=N _ _ X;mleave;refine ⟨p,_,G,_, .str s.tgt,rfl,p8,q.cls,q.n2,rfl,?_⟩;mleave;refine a4 _ _ ⟨lj,⟨pu u.S s.tgt (a+s.wh),pu u.P s.tgt s,some s.tgt⟩,_,_,_,_,rfl,N,by rw [<- u8,Jah (Ne.symm a2)];exact e7,DV.put g rfl,e8,DV.put m (hX.at_ a0 |> fun ⟨s',h1,h2⟩=>by rw [a8] at h1;cases h1;exact h2),?_,by have:=Jdx (l:=u.S) (f:=s.tgt) (a:=a+s.wh);show (pu u.S s.tgt (a+s.wh)).length<=_;ac_nf,by have:=Jdx (l:=u.P) (f:=s.tgt) (a:=s);show (pu u.P s.tgt s).length<=_;ac_nf⟩;rw [a3, <- C];unfold rlx;rw [gn]
      ·rw [if_neg (by simpa using c)];mleave;have gn:gains u.S s=none:=by unfold gains;rw [ea];dsimp only;rw [eb];exact if_neg c
       mleave;exact a4 _ _ ⟨lj,u,_,_,r,B,rfl,I,d,g,o,m,by rw [a3, <- C];unfold rlx;rw [gn],by ac_nf,by ac_nf⟩
   ·clear d g o m lS lP;rintro σ H5 ⟨hj,u,v7,v8,r,B,rfl,I,d,g,o,m,C,lS,lP⟩;rw [take_of_length_le ∅] at C;have b3:trn ss t=u:=C.symm;have a1:u=itr ss (i+1) (bf0 fs):=by rw [<- b3,ht];rfl
    have b5:bfR ss (ss.length+1-i) t=if u.ch=none then u else bfR ss (ss.length-i) u:=by
     rw [show ss.length+1-i=(ss.length-i)+1 by ac_nf,bfR,b3]
    mleave;cases ec:u.ch with
    | none=>
     try simpa only [chV]
     obtain ⟨π,hp⟩:=b7.elim (fun h=>JjM (n:=i) h (by rw [<- a1];exact ec)) id;refine k J B u.P H5 I M o m (by rw [a9,b5,if_pos ec]) ?_ ⟨π,hp⟩;rw [a1];exact BE.of hp (by rw [<- a1];exact ec)
    | some f=>
     try simpa only [chV]
     exact a7 _ _ ⟨_,_,_,_,u,r,B,rfl,I,d,g,o,m,a1,by rw [a9,b5,if_neg (by rw [ec];simp)];congr 1;ac_nf,by ac_nf,by ac_nf,fun _=>⟨by rw [ec];simp,by rw [ec];rfl⟩⟩
  ·rintro σ H4 ⟨v5,v6,v7,v8,t,r,B,rfl,S4,d,g,o,m,ht,a9,lS,lP,b2⟩;rw [show ((sx.length:Int)+1).toNat=ss.length+1 by ac_nf] at ht b2;obtain ⟨h1,rfl⟩:=b2 ∅;obtain ⟨f,hf⟩:∃ f,t.ch=some f:=by
    cases e:t.ch with
    | none=>exact absurd e h1
    | some f=>exact ⟨f,rfl⟩
   have np:¬ ∃ π,Pot π ss:=fun ⟨π,hp⟩=>h1 (by
    rw [ht];show (ss.foldl rlx { itr ss ss.length (bf0 fs) with ch:=none }).ch=none;rw [Jik ss { itr ss ss.length (bf0 fs) with ch:=none } (Jjs hp)])
   obtain ⟨c,hC,_⟩:=Cg.itr (ss:=ss) (fs:=fs) (ss.length+1);rw [<- ht] at hC;have hB:=BX.itr (ss:=ss) (fs:=fs) (ss.length+1);rw [<- ht] at hB;rw [hf];simp only [chV]
   (try ((with_reducible refine Nxt.go (by assumption) ?_);mleave))
   mleave;refine ⟨J,f,B,ss,t,c,rfl,o,m.mono fun _ _ z=>z.same S4,hC,hC.ch f hf,fun v s h=>⟨(hB.st v s h).1,(hB.st v s h).2.1⟩,c8,fun l xs R H5 I d7 e5 c7 c9=>?_⟩;refine ⟨by show 2<=sizeLine;ac_nf,fun ex a6=>?_⟩;obtain ⟨fI,d3,_,_,hI,_⟩:=k_Impossible.ex;have b9:=JaD I a6;have c0:=JaD S4 b9;refine ⟨ex,_,l,xs,_,fI,rfl,Jas,hI,SqL.of (by rw [Jah (Jae e5 a6)];exact e5),fun l2 G H6 ho Z e6 c1 b8 c5 c6=>⟨rfl,ex,_,_,fI,some G,rfl,c5,hI,c0,?_⟩⟩;have b4:l2≠ex:=fun z=>by rw [z,Jas] at Z;cases Z
   rw [Jah b4] at Z;rw [Jah b8] at c1;have S6:∀ b u,H5 b=some u->unt H6 ex b=some u:=fun b u h=>by
    have hb:=Jae h a6;rw [JcV hb];exact ho b u hb (by rw [Jah hb];exact h)
   refine kE l2 G xs R (unt H6 ex) (fun b u h=>S6 _ _ (I _ _ (S4 _ _ h))) (JaD S4 (JaD I Z)) (by rw [JcV b4];exact e6) (JaD S4 (JaD I c1)) (by rw [JcV b8];exact c6) np ⟨f,by rw [<- ht];exact hf,by rw [<- ht];exact c7⟩ (c9.mono ?_);rintro a v ⟨b,rfl,h⟩;exact ⟨b,rfl,S6 _ _ h⟩
abbrev Bav:Stmt:=top 39
theorem JaB:Jao ["steps","starts","lasts","told","face","missing","at","step","ahead"] ["steps","starts"] (Jac Bav):=by bv_decide
def Jbi (K:W.Frag) (Ad:Adr):Sp:=fun vs H Q E=>∃ (sL fL:Addr) (sx:List V) (ss:List SpS) (fs:List Str),vs=[.ref sL, .ref fL]/\SqL K H sL sx/\All2 (SOS K Ad H) ss sx/\SqL K H fL (fs.map V.str)/\fs.length<=8/\ss.length<=70/\((∀ s∈ss,s.src∈fs)\/∃ π,Pot π ss)/\(∀ s∈ss,FB 200 9 s.cost)/\(∀ (td:Addr) (kt:List (Key × V)) (tb:List (Str × ((Int × Int) × List SpS))) (P:LasD) (H':Hp),Same H H'->H td=none->H' td=some (.dK kt)->DV (RT K H H') tb kt->P=(bfR ss (ss.length+1) (bf0 fs)).P->BE ss fs P->(∀ v,(∃ e,lk tb v=some e)↔(v∈fs\/∃ s,lk P v=some s))->TBk P fs tb->(∃ π,Pot π ss)->Q (.ref td) H')/\∀ (l dx:Addr) (xs:List V) (R:List SpS) (H':Hp),Same H H'->H l=none->H' l=some (.lst xs)->H dx=none->H' dx=some (.xd [("around", .ref l)])->(¬ ∃ π,Pot π ss)->RgD ss fs R->All2 (CV H') (R.map fun s=>(s.nm,s.fw)) xs->E (.ref Ad.Impossible) (some dx) H'
theorem Jet (F:FunD K "chains_from" "chains_from" Bav dV f fd) (T:Txt K mg Ad) (Bbn:Cal P w K mg base 3 "last_steps" ["steps","starts"] [] (Jcn K Ad)) (Bbz:Cal P w K mg base 2 "plus" ["one","other"] [] (Jel K)):FnOk P w K mg base (CX1 P w) 4 f fd ["steps","starts"] (Jbi K Ad):=by
 refine F.okx JaB (fun vs H Q E h=>?_) (fun l2 A g3 s H vs Q E hr h=>?_)
 ·obtain ⟨sL,fL,sx,ss,fs,rfl,_⟩:=h;rfl
 obtain ⟨sL,fL,sx,ss,fs,rfl,h⟩:=h;have hu:=hr.units;refine ⟨_,(Jab (Jaj 2 JaB.nd (Bbn.ev hr ⋯ rfl pass1 (Jaa (pv 0) (Jaa (pv 1) Jag)))) (Jab (Jaj 3 JaB.nd JbV) (Jab (Jbg PassesOwn.leaving rfl (pi_U (pv 1)) (Jat 4 JaB.nd) (Jaf (ps_if (Jcd (JbL (hu1 hu) (pv 4) (pv 2)) (by with_unfolding_all rfl)) (Jaf (JbD (hu1 hu) (pv 3) (pv 4) (JaP (Jaa (Jdp (v:=.ref _) rfl T.Bb8 T.Bb9) (Jaa (Jbp Jag) Jag))) rfl))
   Jap))) (Jab (Jbg PassesOwn.leaving rfl (JiM (pv 2)) (Jat 4 JaB.nd) (Jab (Jaj 5 JaB.nd (Jbp Jag)) (Jab (Jaj 6 JaB.nd (pv 4)) (Jab (JdN PassesOwn.leaving (Jcd (JbL (hu1 hu) (pv 6) (pv 3)) (by with_unfolding_all rfl)) (Jab (JaW (pe_bm PySem.F.plainAttrs_list PySem.F.slot_list_append PySem.F.type_list_append Jbe (pv 5) (Jaa (JaA (hu1 hu) (pv 2) (pv 6) (fun _ _=>rfl)) Jag) (hs:=by exact Jai rfl))) (Jaf (Jaj 6 JaB.nd (Jau (JaA (hu1 hu) (pv 2) (pv 6) (fun _ _=>rfl)) rfl))))) (Jaf (Jbg PassesOwn.leaving rfl (JjK (K:=K) rfl rfl rfl T.n_reversed JdS (pv 5)) (Jat 7 JaB.nd) (Jab (Jaj 8 JaB.nd (JaA (hu1 hu) (pv 3) (Jau (pv 7) rfl) (fun _ _=>rfl))) (Jaf (JbD (hu1 hu) (pv 3) (Jau (pv 7) rfl) (JaP (Jaa (Bbz.ev hr ⋯ rfl pass1 (Jaa (pe_ix ix_U (pv 8) Jad) (Jaa (Jau (pv 7) rfl) Jag))) (Jaa (pe_op Jbx (pe_ix ix_U (pv 8) Jad) (Jbp (Jaa (Jau (pv 7) rfl) Jag))) Jag))) rfl))))))))) (Jaf (Jal (pv 3))))))),?_⟩
 clear hu;obtain ⟨hS,hX,hF,l8,j0,e0,f0,k,kE⟩:=h;have sl:(100000:Nat)<=sizeLine:=by decide
 have tc:=T.c_Step Ad.Step rfl;show tSeq _ _ _ [some (.ref sL),some (.ref fL),none,none,none,none,none,none,none] H;mleave;refine ⟨sL,fL,sx,ss,fs,rfl,hS,hX,hF,l8,j0,e0,fun N kv P H1 S1 h0 e1 hD hP hB hp=>?_,kE⟩;have b9:=hB;obtain ⟨S,r,b1,b2,b3,b5⟩:=hB.ex;mleave;rename_i C X k6 H1 H2 S2 e2;mleave;have d1:C≠N:=fun z=>by rw [z,e1] at X;cases X
 mleave;have c7:=JaD S1 X;refine ⟨fL,rfl,ForA.byLN (xs:=fs.map V.str) ((hF.same S1).same S2) (fun i σ I=>i<=fs.length/\∃ (v4:Option V) (G:List (Key × V)) (n:List (Str × ((Int × Int) × List SpS))),σ=[some (.ref sL),some (.ref fL),some (.ref N),some (.ref C),v4,none,none,none,none]/\Same H1 I/\I C=some (.dK G)/\DV (RT K H I) n G/\TBk P fs n/\∀ f∈fs.take i,lk P f=none->∃ e,lk n f=some e) ⟨Nat.zero_le _,none,[],[],rfl,S2,e2,rfl,TBk.nil,fun f hf=>by simp at hf⟩ (fun i σ I z=>by obtain ⟨_,_,_,_,_,z,_⟩:=z;exact (hF.same S1).same z) ?_ ?_⟩
 ·rintro i y σ H3 hy ⟨hi,v4,G,n,rfl,S3,Y,hT,a8,a6⟩ N0 b8;rw [List.getElem?_map] at hy;obtain ⟨f,hf,rfl⟩:=Option.map_eq_some_iff.mp hy;have li:=(List.getElem?_eq_some_iff.mp hf).1;have f8:fs.take (i+1)=fs.take i++[f]:=by rw [take_succ,hf];rfl
  have i2:=b9.tb_len a8;have g5:=hT.len;mleave;refine ⟨N,_,rfl,DGet.k (k:=Sum.inr f) (S3 _ _ e1),?_⟩;cases ef:lk P f with
  | some s=>
   rw [(hD.at ef).choose_spec.1];try simpa only [Option.isSome_some]
   refine b8 _ _ ⟨li,_,G,n,rfl,S3,Y,hT,a8,fun g hg hn=>?_⟩;rw [f8] at hg;rcases mem_append.mp hg with hg | hg
   ·exact a6 g hg hn
   ·rw [mem_singleton.mp hg,ef] at hn;cases hn
  | none=>
   rw [hD.no ef];try simpa only [Option.isSome_none]
   refine ⟨len0,?_⟩;rename_i el b7 l1 H3 H4 S4 e4;mleave;refine ⟨len2,?_⟩;rename_i tp c6 l0 H4 H5 S5 e5;mleave;mleave;have d:=S5 _ _ (S4 _ _ Y);refine ⟨C,_,rfl,DPut.k (k:=Sum.inr f) d ∅,?_⟩;generalize u6:upd H5 C _=H6;mleave;have e6:=putE u6;have h6:el≠C:=fun z=>by rw [z,Y] at b7;cases b7
   have d6:tp≠C:=fun z=>by rw [z,S4 _ _ Y] at c6;cases c6
   have j8:RT K H H6 (((0:Int),(1:Int)),([]:List SpS)) (.ref tp):=⟨tp, .ref Ad.ZERO,el,[],rfl,SqT.of (by rw [<- u6,Jah d6];exact e5),⟨Ad.ZERO,rfl,T.Bb3 _⟩,by rw [<- u6,Jah h6];exact S5 _ _ e4,rfl,JaD S1 (JaD S3 b7)⟩;refine b8 _ _ ⟨li,_,_,pu n f ((0,1),[]),rfl,fun c w h=>by rw [<- u6,Jah (Jae h X)];exact S5 _ _ (S4 _ _ (S3 _ _ h)),e6,(hT.mono fun _ _ z=>(z.same (S4.trans S5)).putL u6 d).put j8,a8.one (List.mem_of_getElem? hf) ef,fun g hg hn=>?_⟩;rw [f8] at hg;rcases mem_append.mp hg with hg | hg
   ·exact TBk.keep (a6 g hg hn)
   ·rw [mem_singleton.mp hg];exact ⟨_,JaV⟩
 ·rintro σ H3 ⟨_,v4,G,n,rfl,S3,Y,hT,a8,a6⟩;rw [take_of_length_le (by rw [length_map];exact Nat.le_refl _)] at a6;have ht:C≠N:=d1;mleave;refine ⟨N,kv,P.map (·.1),rfl,S3 _ _ e1,hD.keys,fun od=>?_⟩;generalize uf:upd H3 N _=H4;mleave;have ef:H4 N=some (.frz od (.dK kv)):=by rw [<- uf];exact Jas
  have j3:Same H H4:=fun c w h=>by rw [<- uf,Jah (Jae h h0)];exact S3 _ _ (S1 _ _ h)
  have f6:H4 C=some (.dK G):=by rw [<- uf,Jah d1];exact Y
  refine ForJ.keys (fun i σ I=>∃ (v4 v5 v6 v7 v8:Option V) (G:List (Key × V)) (n:List (Str × ((Int × Int) × List SpS))),σ=[some (.ref sL),some (.ref fL),some (.ref N),some (.ref C),v4,v5,v6,v7,v8]/\Same H I/\I N=some (.frz od (.dK kv))/\I C=some (.dK G)/\DV (RT K H I) n G/\TBk P fs n/\(∀ f∈fs,lk P f=none->∃ e,lk n f=some e)/\(∀ j z,j<i->(P.map (·.1))[j]?=some z->∃ e,lk n z=some e)) ⟨v4,none,none,none,none,G,_,rfl,j3,ef,f6,hT.mono fun _ _ z=>z.putL uf (S3 _ _ e1),a8,a6,fun j z hj=>absurd hj (Nat.not_lt_zero _)⟩ (fun i σ I z=>by obtain ⟨_,_,_,_,_,_,_,_,_,z,_⟩:=z;exact z) ?_ ?_
  ·rintro i z σ H5 hz ⟨v4,v5,v6,v7,v8,G,n,rfl,S5,c2,d,M,a0,a2,b0⟩ N0 b8;mleave;refine ⟨len0,?_⟩;rename_i ml D k8 H5 H6 S6 e6;mleave;have l5:ml≠N:=fun q=>by rw [q,c2] at D;cases D
   have g9:ml≠C:=fun q=>by rw [q,d] at D;cases D
   have k7:=JaD S5 D;have h8:∃ s,lk P z=some s:=Jdu (List.mem_of_getElem? hz);have i1:∃ b,lk S z=some b:=by
    obtain ⟨s,hs⟩:=h8;obtain ⟨_,_,_,a,_,k2⟩:=b3 z s hs;exact ⟨_,k2⟩
   mleave;refine ⟨fun m σ I=>∃ (q:Str) (L:List SpS) (mx:List V),σ=[some (.ref sL),some (.ref fL),some (.ref N),some (.ref C),some (.str z),some (.ref ml),some (.str q),v7,v8]/\Same H5 I/\I ml=some (.lst mx)/\All2 (SOS K Ad H) L mx/\Lnk P q L.reverse/\lnkE q L.reverse=z/\(∃ b,lk S q=some b)/\r q=m/\(L.map (·.tgt)).Nodup/\(∀ x∈L.map (·.tgt),r q<r x)/\(∀ x∈L,x∈ss),⟨_,z,[],[],rfl,S6,e6,rfl,trivial,rfl,i1,rfl, .nil,(fun x u=>by cases u),fun x u=>by cases u⟩,?_⟩;rintro m σ H7 ⟨q,L,mx,rfl,S7,O,c1,e3,d9,g6,rfl,f5,f3,d2⟩;have c0:=S7 _ _ c2;have W:=S7 _ _ d;mleave;refine ⟨C,_,rfl,DGet.k (k:=Sum.inr q) W,?_⟩;cases eq_:lk n q with
   | none=>
    rw [M.no eq_];try simpa only [Option.isSome_none]
    obtain ⟨bq,h9⟩:=g6;obtain ⟨s,hs⟩:∃ s,lk P q=some s:=by
     cases e:lk P q with
     | some s=>exact ⟨s,rfl⟩
     | none=>
      obtain ⟨e',f4⟩:=a2 q (b2 q bq h9 e).1 e;rw [eq_] at f4;cases f4
    obtain ⟨g4,c4,d8,sa,j5,l4⟩:=b3 q s hs;obtain ⟨v,hv,e7⟩:=hD.at hs;obtain ⟨p,dx,vc,pr,rfl,Z,f9,a4⟩:=id e7;have l3:L.length<=70:=by
     have:=sub_len (L.map (·.tgt)) (ss.map (·.tgt)) f5 fun x u=>by
      obtain ⟨y,hy,rfl⟩:=mem_map.mp u;exact mem_map.mpr ⟨y,d2 y hy,rfl⟩
     rw [length_map,length_map] at this;ac_nf
    have h5:=c1.length;refine ⟨_,fun _ _ h=>h,?_⟩;mleave;refine ⟨.inl ⟨rfl,_,SqL.of O⟩,?_⟩;refine ⟨N, .ref p,rfl,by rw [<- hv];exact DGet.f (k:=Sum.inr q) c0,?_⟩;refine ⟨ml,mx,_,rfl,rfl,O,by ac_nf,?_⟩;generalize u8:upd H7 ml _=H8;mleave;have e8:=putE u8;have T8:SameT H7 H8:=SameT.put u8 O rfl;have S8:Same H5 H8:=fun c w h=>by rw [<- u8,Jah (Jae h D)];exact S7 _ _ h
    have a3:=S8 _ _ c2;mleave;refine ⟨N, .ref p,rfl,by rw [<- hv];exact DGet.f (k:=Sum.inr q) a3,?_⟩;refine ⟨p,_,dx,_, .str s.src,rfl,S8 _ _ (S5 _ _ Z),tc.cls,tc.n1,rfl,?_⟩;mleave;refine ⟨r s.src,d8,s.src,L++[s],mx++[.ref p],rfl,S8,e8,c1.append (.one e7),by rw [List.reverse_append];exact e3.add hs c4,by rw [List.reverse_append];exact (Jhc c4).trans d9,⟨sa,j5⟩,rfl,?_,fun x u=>?_,fun x u=>?_⟩
    ·rw [map_append];refine nodup_append.mpr ⟨f5,by simp,fun x u y hy e=>?_⟩;have hy:y=s.tgt:=by simpa using hy
     have:=f3 x u;rw [e,hy,c4] at this;ac_nf
    ·rw [map_append] at u;rcases mem_append.mp u with u | u
     ·have:=f3 x u;ac_nf
     ·have u:x=s.tgt:=by simpa using u
      rw [u,c4];exact d8
    ·rcases mem_append.mp u with u | u
     ·exact d2 x u
     ·rw [mem_singleton.mp u];exact g4
   | some e=>
    rw [(M.at eq_).choose_spec.1];try simpa only [Option.isSome_some]
    (try ((with_reducible refine Nxt.go (by assumption) ?_);mleave))
    have h5:=c1.length;refine ⟨ml,mx,rfl,SqL.of O,ForJ.rev (fun j σ I=>∃ (v7 v8:Option V) (G:List (Key × V)) (n:List (Str × ((Int × Int) × List SpS))) (y:Str),σ=[some (.ref sL),some (.ref fL),some (.ref N),some (.ref C),some (.str z),some (.ref ml),some (.str q),v7,v8]/\Same H I/\I N=some (.frz od (.dK kv))/\I ml=some (.lst mx)/\I C=some (.dK G)/\DV (RT K H I) n G/\TBk P fs n/\(∀ f∈fs,lk P f=none->∃ e,lk n f=some e)/\(∀ j z,j<i->(P.map (·.1))[j]?=some z->∃ e,lk n z=some e)/\(∃ e,lk n y=some e)/\Lnk P y (L.reverse.drop j)/\lnkE y (L.reverse.drop j)=z) ⟨v7,v8,G,n,q,rfl,S5.trans S7,c0,O,W,M.mono fun _ _ z=>z.same S7,a0,a2,b0,⟨e,eq_⟩,e3,d9⟩ (fun j σ I z=>by obtain ⟨_,_,_,_,_,_,_,_,z,_⟩:=z;exact SqL.of z) ?_ ?_⟩
    ·clear W d M a0 a2 b0 eq_ c0 O;rintro j x σ H8 hj u ⟨v7,v8,G,n,y,rfl,S8,a3,f7,B,b6,a9,d7,d0,⟨e,a7⟩,d4,U⟩ N1 j9;obtain ⟨s,hs,sv⟩:=c1.at_ u;have k0:L.reverse[j]?=some s:=by rw [List.getElem?_reverse ∅,show L.length=mx.length by ac_nf];exact hs
     have i4:L.reverse.drop j=s::L.reverse.drop (j+1):=by
      obtain ⟨h1,h2⟩:=List.getElem?_eq_some_iff.mp k0;rw [<- h2];exact List.drop_eq_getElem_cons h1
     rw [i4] at d4 U;obtain ⟨rfl,i5,j7⟩:=d4;have i9:=d2 s (List.mem_of_getElem? hs);obtain ⟨p,dx,vc,pr,rfl,Z,f9,a4⟩:=sv.same S8;obtain ⟨v,hv,i8⟩:=b6.at a7;obtain ⟨w,qv,l,xs,rfl,hw,g7,hl,g2,_⟩:=id i8;obtain ⟨i7,i6,i0⟩:=a9.en _ _ a7;obtain ⟨j2,k4,_⟩:=b9.chn i7 i6;have a5:=cs_fb fun s hs=>f0 s (j2 s hs);rw [<- i0] at a5;have c3:=f0 s i9;have i2:=b9.tb_len a9;have g5:=b6.len;have j6:=g2.length;rw [length_map] at j6;mleave;refine ⟨p,_,dx,_, .str s.src,rfl,Z,tc.cls,tc.n1,rfl,?_⟩;refine ⟨C, .ref w,rfl,by rw [<- hv];exact DGet.k (k:=Sum.inr s.src) B,?_⟩;mleave;refine ixT (i:=0) hw rfl ?_;refine ⟨p,_,dx,_,vc,rfl,Z,tc.cls,tc.n3,rfl,?_⟩;mleave;refine ⟨qv,vc,e.1.1,e.1.2,s.cost.1,s.cost.2,rfl,g7,f9,a5.s1.mono ∅,a5.s2.mono ∅,c3.s1.mono ∅,c3.s2.mono ∅,a5.b1,c3.b1,a5.g1,c3.g1,fun ap H9 S9 e9=>?_⟩;mleave;refine ixT (i:=1) (hw.same S9) rfl ?_;refine ⟨p,_,dx,_, .ref pr,rfl,S9 _ _ Z,tc.cls,tc.n5,rfl,?_⟩;refine ⟨by show 1<=sizeLine;ac_nf,?_⟩;rename_i ol k1 k3 H9 h4 a1 h3;mleave;refine .inl ⟨l,ol,xs,[.ref pr],rfl,rfl,a1 _ _ (S9 _ _ hl),h3,by simp;ac_nf,?_⟩;rename_i nl b4 k5 h4 g8 c8 i3;mleave;refine ⟨len2,?_⟩;rename_i np c5 k9 g8 f1 d3 j1;mleave;have o:=S9.trans (a1.trans (c8.trans d3));mleave;refine ⟨p,_,dx,_, .str s.tgt,rfl,o _ _ Z,tc.cls,tc.n2,rfl,?_⟩;have R:=o _ _ B;refine ⟨C,_,rfl,DPut.k (k:=Sum.inr s.tgt) R ∅,?_⟩;generalize J:upd f1 C _=d5;mleave;have j4:=putE J;have g0:SameT f1 d5:=SameT.put J R rfl;have h7:nl≠C:=fun z=>by rw [z,a1 _ _ (S9 _ _ B)] at b4;cases b4
     have d6:np≠C:=fun z=>by rw [z,c8 _ _ (a1 _ _ (S9 _ _ B))] at c5;cases c5
     have f2:RT K H d5 (addF e.1 s.cost,e.2++[s]) (.ref np):=by
      refine ⟨np, .ref ap,nl,xs++[.ref pr],rfl,SqT.of (by rw [<- J,Jah d6];exact j1),⟨ap,rfl,SqT.sameT g0 (SqT.of (d3 _ _ (c8 _ _ (a1 _ _ e9))))⟩,by rw [<- J,Jah h7];exact d3 _ _ i3,?_,JaD S8 (JaD S9 (JaD a1 b4))⟩;rw [map_append];exact (g2.mono (P':=CV d5) fun _ _ z=>z.sameT (o.t.trans g0)).append (.one ⟨pr,rfl,by rw [<- J,Jah (ne_of a4 B (by intro z;cases z))];exact o _ _ a4⟩)
     exact j9 _ _ ⟨_,_,_,pu n s.tgt (addF e.1 s.cost,e.2++[s]),s.tgt,rfl,fun c w h=>by rw [<- J,Jah (Jae h c7)];exact o _ _ (S8 _ _ h),by rw [<- J,Jah (Ne.symm d1)];exact o _ _ a3,by rw [<- J,Jah g9];exact o _ _ f7,j4,(b6.mono fun _ _ z=>(z.same o).putL J R).put f2,a9.put a7 i5,fun f hf hn=>TBk.keep (d7 f hf hn),fun j z hj hz=>TBk.keep (d0 j z hj hz),⟨_,JaV⟩,j7,U⟩
    ·clear W d M a0 a2 b0 eq_ c0 O;rintro σ H8 ⟨v7,v8,G,n,y,rfl,S8,a3,f7,B,b6,a9,d7,d0,a7,d4,U⟩;rw [List.drop_of_length_le (by rw [List.length_reverse];ac_nf)] at U;have U:y=z:=U;subst U;refine b8 _ _ ⟨_,_,_,_,_,G,n,rfl,S8,a3,B,b6,a9,d7,fun j z hj c9=>?_⟩;by_cases c:j<i
     ·exact d0 j z c c9
     ·have : j=i:=by ac_nf
      subst this;rw [hz] at c9;cases c9;exact a7
  ·rintro σ H5 ⟨v4,v5,v6,v7,v8,G,n,rfl,S5,c2,d,M,a0,a2,b0⟩;mleave;refine k C G n P H5 S5 c7 d M hP b9 (fun v=>⟨fun ⟨e,he⟩=>(a0.en v e he).1,fun hv=>?_⟩) a0 hp;cases hn:lk P v with
   | none=>exact a2 v (hv.resolve_right fun ⟨s,hs⟩=>by rw [hn] at hs;cases hs) hn
   | some s=>
    have hs:=hn;obtain ⟨j,hj⟩:=List.getElem?_of_mem (JfN hs);exact b0 j v (List.getElem?_eq_some_iff.mp hj).1 hj
abbrev Ba0:Stmt:=top 33
theorem JcZ:Jao ["ties","found","tie"] ["ties"] (Jac Ba0):=by bv_decide
def Jc1 (K:W.Frag) (Ad:Adr):Sp:=fun vs H Q E=>∃ (a:Addr) (xs:List V) (ts:List TD) (F:List Str),vs=[.ref a]/\SqL K H a xs/\All2 (OV K Ad H) ts xs/\ts.length<=35/\F.length<=8/\(∀ t∈ts,t.st∈F/\t.en∈F)/\∀ p out H',Same H H'->H p=none->H' p=some (.lst (out.map V.str))->JaQ ts out->Q (.ref p) H'
theorem JgB (F:FunD K "faces_of" "faces_of" Ba0 dV f fd) (T:Txt K mg Ad)  : FnOk P w K mg base (CX1 P w) 1 f fd ["ties"] (Jc1 K Ad):=by
 refine F.okn JcZ (by subst_eqs) (fun a1 A L s H vs Q E hr h=>?_)
 obtain ⟨a,xs,ts,F,rfl,h⟩:=h;have R:=hr.units;refine ⟨_,(Jab (Jaj 1 JcZ.nd JbV) (Jab (Jbg PassesOwn.never rfl (pi_U (pv 0)) (Jat 2 JcZ.nd) (Jab (JbD (hu1 R) (pv 1) (Jau (pv 2) rfl) pe_bl rfl) (Jaf (JbD (hu1 R) (pv 1) (Jau (pv 2) rfl) pe_bl rfl)))) (Jaf (Jal (Jav (Jdj rfl) rfl T.Bbx Jcv (Jaa (pv 1) Jag)))))),?_⟩
 clear R;obtain ⟨hS,hR,hl,a4,m,k⟩:=h;show tSeq _ _ _ [some (.ref a),none,none] H;try mstop
 rename_i d r a2 H H1 S1 e1;have sl:(1000:Nat)<=sizeLine:=by decide
 have lx:=hR.length;refine ⟨a,rfl,ForA.byL (xs:=xs) (hS.same S1) (fun i σ U=>i<=xs.length/\∃ (W:Option V) (b:List (Key × V)) (c:List Str),σ=[some (.ref a),some (.ref d),W]/\Same H U/\U d=some (.dK b)/\b.map (·.1)=c.map Sum.inr/\c.Nodup/\c.length<=2*i/\∀ z,z∈c↔∃ t∈ts.take i,z=t.st\/z=t.en) ⟨Nat.zero_le _,none,[],[],rfl,S1,e1,rfl,by simp,by simp,by simp⟩ (fun i σ U z=>by obtain ⟨_,_,_,_,_,z,_⟩:=z;exact hS.same z) ?_ ?_⟩
 ·rintro i x σ H2 hx ⟨hi,W,b,c,rfl,n,G,D,y,a0,v⟩;have li:i<xs.length:=(List.getElem?_eq_some_iff.mp hx).1;obtain ⟨t,B,ov⟩:=hR.at_ hx;obtain ⟨C,vl,vg,⟨p,dx,rfl,hp⟩,hC,a6,a3⟩:=ov.same n;have I:=T.tie C hC;mstart;refine ⟨p,C,dx,_, .str t.st,rfl,hp,I.cls,I.n2,rfl,?_⟩;try mstart
  have lk:b.length=c.length:=by simpa using congrArg List.length D
  refine ⟨d,_,rfl,DPut.k (k:=Sum.inr t.st) G ∅,?_⟩;generalize M:upd H2 d _=H3;have e3:=putE M;have J:=putN M G hp (by intro z;cases z);try mstart
  refine ⟨p,C,dx,_, .str t.en,rfl,J,I.cls,I.n3,rfl,?_⟩;try mstart
  have q:=Jhb D t.st (.bl true);have a5:(putK b (Sum.inr t.st) (V.bl true)).length=(addS c t.st).length:=by simpa using congrArg List.length q
  have la:=JgY c t.st;have lb:=JgY (addS c t.st) t.en;refine ⟨d,_,rfl,DPut.k (k:=Sum.inr t.en) e3 ∅,?_⟩;generalize u4:upd H3 d _=H4;have e4:=putE u4;have S:=Jhb q t.en (.bl true);refine ⟨li,_,_,addS (addS c t.st) t.en,rfl,fun bb u N=>?_,e4,S,JhS _ (JhS _ y),by ac_nf,fun z=>?_⟩
  ·rw [<- u4,Jah (Jae N r), <- M,Jah (Jae N r)];exact n _ _ N
  ·rw [JgZ,JgZ,v,take_succ,B];simp only [mem_append,Option.toList_some,mem_singleton];constructor
   ·rintro ((⟨X,Z,g⟩ | h) | h)
    ·exact ⟨X, .inl Z,g⟩
    ·exact ⟨t, .inr rfl, .inl h⟩
    ·exact ⟨t, .inr rfl, .inr h⟩
   ·rintro ⟨X,Z | rfl,g⟩
    ·exact .inl (.inl ⟨X,Z,g⟩)
    ·rcases g with g | g
     ·exact .inl (.inr g)
     ·exact .inr g
 ·rintro σ H2 ⟨hi,W,b,c,rfl,n,G,D,y,a0,v⟩;try mstop
  rw [take_of_length_le ∅] at v;have l8:=sub_len c F y fun z hz=>by
   obtain ⟨t,B,h | h⟩:=(v z).mp hz
   ·rw [h];exact (m t B).1
   ·rw [h];exact (m t B).2
  refine ⟨d,b,c,rfl,G,D,by ac_nf,fun l O j Y=>?_⟩;have hH:H l=none:=by
   cases e:H l with
   | none=>rfl
   | some o=>rw [n _ _ e] at j;cases j
  refine k l O _ (n.trans (newS j rfl)) hH (newE rfl) ⟨Y.1.nodup_iff.mpr y,Y.2,fun z=>?_⟩;rw [Y.1.mem_iff,v]
abbrev BaL:Stmt:=inClass (top 47) 1
theorem Jf6:Jao ["self"] ["self"] (Jac BaL):=by bv_decide
def JaY (K:W.Frag) (Ad:Adr):Sp:=fun vs H Q E=>∃ (p d:Addr) (ts:List TD),vs=[.ref p]/\BK K Ad H p d ts/\∀ l ys H',Same H H'->H l=none->H' l=some (.lst ys)->All2 (OV K Ad H') ts ys->Q (.ref l) H'
theorem JfR (F:FunD K "kept" "Book.kept" BaL dV f fd) (T:Txt K mg Ad)  : FnOk P w K mg base (CX1 P w) 1 f fd ["self"] (JaY K Ad):=by
 refine F.okn Jf6 (by subst_eqs) (fun t A a s H n Q E x h=>?_)
 obtain ⟨p,d,q,rfl,h⟩:=h;refine ⟨_,(Jaf (Jal (Jla rfl rfl rfl T.Bcb Jgl (Jau (pv 0) rfl)))),?_⟩;obtain ⟨⟨⟨r,j⟩,b,u,o⟩,k⟩:=h;have e:=T.book Ad.Book rfl;show tRet _ _ [some (.ref p)] H;try mstart
 refine ⟨p,_,r,_, .ref d,rfl,j,e.cls,e.n1,rfl,?_⟩;try mstart
 refine ⟨d,b,rfl,u,?_⟩;rename_i l c i H v g m;exact k l _ v g c m (o.2.mono fun _ _ z=>z.same g)
abbrev BaM:Stmt:=inClass (top 47) 2
theorem Jf7:Jao ["self"] ["self"] (Jac BaM):=by bv_decide
def JcG (K:W.Frag) (Ad:Adr):Sp:=fun vs H Q E=>∃ (p d:Addr) (ts:List TD),vs=[.ref p]/\BK K Ad H p d ts/\ts.length<=35/\∀ l ys H',Same H H'->H l=none->H' l=some (.lst ys)->All2 (TV K H') ts ys->Q (.ref l) H'
theorem JfT (F:FunD K "ties" "Book.ties" BaM dV f fd) (T:Txt K mg Ad) (m_kept:MCal P w K mg base 1 "kept" (Jay Ad) ["self"] (JaY K Ad)) (Bb7:MCal P w K mg base 1 "plain" (IsTie Ad) ["self"] (JcH K Ad)):FnOk P w K mg base (CX1 P w) 2 f fd ["self"] (JcG K Ad):=by
 refine F.okn Jf7 (by subst_eqs) (fun a0 A u s H W Q E L h=>?_)
 obtain ⟨p,d,x,rfl,h⟩:=h;refine ⟨_,(Jaf (Jal (Jbt (own:=["tie"]) (cs:=[]) rfl (pi_U (m_kept.m0 L ⋯ passF (pv 0))) (fun _ _ _ _=>(Jat 0 (show [("tie" : Str)].Nodup by decide))) (fun _ _ _ _=>(Bb7.m0 L ⋯ passF (pv 0))) (JbU rfl) ⋯ rfl ⋯ hcs0))),?_⟩;obtain ⟨O,hl,k⟩:=h;obtain ⟨⟨dx,V⟩,_⟩:=id O;have sl:(1000:Nat)<=sizeLine:=by decide
 show tRet _ _ [some (.ref p)] H;try mstop
 refine ⟨p,_,dx,_,rfl,V,rfl,rfl,?_⟩;try try mstop
 refine ⟨p,d,x,rfl,O,fun l N H1 I Z G J=>?_⟩;try try mstop
 have ly:=J.length;refine ⟨l,rfl, .inl ⟨⟨N,SqL.of G⟩,CompJ.list (xs:=N) (fun i j m=>Same H1 m/\All2 (TV K m) (x.take i) j) ⟨.refl _,rfl⟩ (fun i j H' hi z=>⟨SqL.of (z.1 _ _ G),by have:=z.2.length;rw [length_take] at this;ac_nf⟩) ?_ ?_⟩⟩
 ·rintro i y j m hy ⟨c,a⟩;simpa only [length_singleton,List.replicate,Jaz,map_cons,map_nil,Option.join_some];obtain ⟨t,X,ov⟩:=J.at_ hy;obtain ⟨C,vl,D,B,M,Y,h2⟩:=ov.same c;obtain ⟨q,dq,rfl,R⟩:=id B;refine ⟨q,C,dq,_,rfl,R,M,rfl,?_⟩;refine ⟨_,C,_,_,_,vl,D,rfl,B,M,fun r v b n=>?_⟩;refine ⟨c.trans b,?_⟩;rw [take_succ,X];exact (a.mono (P':=TV K v) fun _ _ z=>z.sameT b.t).append (.one ⟨r,vl,D,rfl,SqT.of n,Y.sameT b.t,h2.sameT b.t⟩)
 ·rintro j m ⟨c,a⟩;rw [take_of_length_le ∅] at a;rename_i r g U m v b n;have S:H r=none:=by
   cases e:H r with
   | none=>rfl
   | some o=>rw [c _ _ (I _ _ e)] at g;cases g
  exact k r j v (I.trans (c.trans b)) S n (a.mono fun _ _ z=>z.sameT b.t)
abbrev BaG:Stmt:=inClass (top 47) 3
theorem Jfl:Jao ["self"] ["self"] (Jac BaG):=by bv_decide
def Ja1 (K:W.Frag) (Ad:Adr):Sp:=fun vs H Q E=>∃ (p d:Addr) (ts:List TD) (F:List Str),vs=[.ref p]/\BK K Ad H p d ts/\ts.length<=35/\F.length<=8/\(∀ t∈ts,t.st∈F/\t.en∈F)/\∀ l out H',Same H H'->H l=none->H' l=some (.lst (out.map V.str))->JaQ ts out->Q (.ref l) H'
theorem Jfe (F:FunD K "faces" "Book.faces" BaG dV f fd) (T:Txt K mg Ad) (m_kept:MCal P w K mg base 1 "kept" (Jay Ad) ["self"] (JaY K Ad)) (BbC:Cal P w K mg base 1 "faces_of" ["ties"] [] (Jc1 K Ad)):FnOk P w K mg base (CX1 P w) 2 f fd ["self"] (Ja1 K Ad):=by
 refine F.okn Jfl (by subst_eqs) (fun M A c s H x Q E n h=>?_)
 obtain ⟨p,d,g,F,rfl,h⟩:=h;refine ⟨_,(Jaf (Jal (BbC.ev n ⋯ rfl passF (Jaa (m_kept.m0 n ⋯ passF (pv 0)) Jag)))),?_⟩;obtain ⟨r,B,a,b,k⟩:=h;obtain ⟨⟨L,v⟩,_⟩:=id r;show tRet _ _ [some (.ref p)] H;try mstop
 refine ⟨p,_,L,_,rfl,v,rfl,rfl,?_⟩;try try mstop
 refine ⟨p,d,g,rfl,r,fun l G N m D u C=>?_⟩;try try mstop
 refine ⟨l,G,g,F,rfl,SqL.of u,C,B,a,b,fun q i J y j z I=>?_⟩;have t:H q=none:=by
  cases e:H q with
  | none=>rfl
  | some o=>rw [m _ _ e] at j;cases j
 exact k q i J (m.trans y) t z I
abbrev Bal:Stmt:=inClass (top 47) 0
theorem JbE:Jao ["self","ties","row","tie"] ["self","ties"] (Jac Bal):=by bv_decide
def Jbl (K:W.Frag) (Ad:Adr):Sp:=fun vs H Q E=>∃ (x dx a:Addr) (xs:List V) (ts:List TD) (H0:Hp),vs=[.ref x, .ref a]/\H x=some (.ins Ad.Book dx [])/\H0 x=none/\Same H0 H/\SqL K H0 a xs/\All2 (TV K H0) ts xs/\(∀ t∈ts,TOk t)/\(nms ts).Nodup/\ts.length<=35/\∀ d H',Same H0 H'->H0 d=none->BK K Ad H' x d ts->Q .non H'
theorem JdE (F:FunD K "__init__" "Book.__init__" Bal dV f fd) (T:Txt K mg Ad) (Bbs:Cal P w K mg base 6 "tie_of" ["thing"] [] (Jde K Ad)):FnOk P w K mg base (CX1 P w) 7 f fd ["self","ties"] (Jbl K Ad):=by
 refine F.okn JbE (by subst_eqs) (fun a6 A Y s H vs Q E hr h=>?_)
 obtain ⟨x,n,a,xs,g,W,rfl,h⟩:=h;have hu:=hr.units;refine ⟨_,(Jab (JbW (pv 0) JbV rfl) (Jaf (Jbg PassesOwn.never rfl (pi_U (pv 1)) (Jat 2 JbE.nd) (Jab (Jaj 3 JbE.nd (Bbs.ev hr ⋯ rfl passF (Jaa (pv 2) Jag))) (Jab (ps_if (Jcd (JeQ (hu1 hu) (Jau (pv 3) rfl) (Jau (pv 0) rfl)) (by with_unfolding_all rfl)) (Jaf ps_no)
   Jap) (Jaf (JbD (hu1 hu) (Jau (pv 0) rfl) (Jau (pv 3) rfl) (pv 3) rfl))))))),?_⟩
 clear hu;obtain ⟨hx,a4,S0,hS,hE,hT,a0,hl,k⟩:=h;have o:=T.book Ad.Book rfl;have sl:(1000:Nat)<=sizeLine:=by decide
 have le:=hE.length;show tSeq _ _ _ [some (.ref x),some (.ref a),none,none] H;mvcgen;rename_i d J a7 H H1 S1 e1;mvcgen;refine ⟨x,_,n,_,rfl,S1 _ _ hx,o.cls,o.n1,by simp,?_⟩;generalize u2:upd H1 x _=H2;mvcgen;have e2:H2 x=some (.ins Ad.Book n [("by_name", .ref d)]):=by rw [<- u2];exact Jas.trans rfl
 have C:x≠d:=fun z=>by rw [z,J] at hx;cases hx
 have a2:H2 d=some (.dK []):=by rw [<- u2,Jah (Ne.symm C)];exact e1
 have N:W d=none:=JaD S0 J;have r:Same W H2:=fun b u h=>by rw [<- u2,Jah (Jae h a4)];exact S1 _ _ (S0 _ _ h)
 mvcgen;refine ⟨a,rfl,ForA.byLN (xs:=xs) (hS.same r) (fun i σ L=>i<=xs.length/\∃ (v2 v3:Option V) (e:List (Key × V)),σ=[some (.ref x),some (.ref a),v2,v3]/\Same W L/\L x=some (.ins Ad.Book n [("by_name", .ref d)])/\L d=some (.dK e)/\BD (OV K Ad L) (g.take i) e) ⟨Nat.zero_le _,none,none,[],rfl,r,e2,a2,by rw [take_zero];exact ⟨rfl,rfl⟩⟩ (fun i σ L z=>by obtain ⟨_,_,_,_,_,z,_⟩:=z;exact hS.same z) ?_ ?_⟩
 ·rintro i y σ H3 hy ⟨hi,v2,v3,e,rfl,U,e3,l,I⟩ N0 X;have li:i<xs.length:=(List.getElem?_eq_some_iff.mp hy).1;obtain ⟨t,ht,a3⟩:=hE.at_ hy;have ok:=hT t (List.mem_of_getElem? ht);have M:=a3.sameT U.t;have Z:=I.length;rw [length_take] at Z;try simpa only [y4fy,y8cy]
  refine ⟨y,tdD t,rfl,M.rep,ok.sz,fun z=>absurd z (by rw [ok.tie];simp),fun _=>?_⟩;obtain ⟨b,vl,vg,rfl,hq,G,O⟩:=M;refine ⟨b,_,_,_,_,_,_,_,_,_,_,rfl,hq,rfl,G.rep,O.rep,fun w R p tv=>?_⟩;have ov:OV K Ad R t w:=⟨_,vl,vg,tv,Jfb Ad _ _,G.sameT p.t,O.sameT p.t⟩;obtain ⟨q,dq,rfl,B⟩:=id tv;have S:=T.tie _ (Jfb Ad (bD t.lo) (bD t.hi));have j:=p _ _ e3;have m:=p _ _ l;have v:=I.mono (P':=OV K Ad R) fun _ _ z=>z.same p
  (try ((with_reducible refine Nxt.go (by assumption) ?_);mvcgen))
  try simpa only [y4fy,y8cy]
  refine ⟨q,_,dq,_, .str t.nm,rfl,B,S.cls,S.n1,rfl,?_⟩;refine ⟨x,_,n,_, .ref d,rfl,j,o.cls,o.n1,rfl,?_⟩;refine ⟨d,_,rfl,DGet.k (k:=Sum.inr t.nm) m,?_⟩;rw [v.val];have a5:g.take (i+1)=g.take i++[t]:=by rw [take_succ,ht];rfl
  have c:t.nm∉nms (g.take i):=fun z=>by
   have e0:g=g.take i++t::g.drop (i+1):=by
    obtain ⟨h1,h2⟩:=List.getElem?_eq_some_iff.mp ht;rw [<- h2, <- List.drop_eq_getElem_cons h1,List.take_append_drop]
   have nd:=a0;unfold nms at nd z;rw [e0,map_append,map_cons] at nd;exact (nodup_append.mp nd).2.2 _ z _ mem_cons_self rfl
  rw [decide_eq_false c];try simpa only [y4fy,y8cy]
  (try ((with_reducible refine Nxt.go (by assumption) ?_);mvcgen))
  try simpa only [y4fy,y8cy]
  refine ⟨x,_,n,_, .ref d,rfl,j,o.cls,o.n1,rfl,?_⟩;refine ⟨q,_,dq,_, .str t.nm,rfl,B,S.cls,S.n1,rfl,?_⟩;refine ⟨d,_,rfl,DPut.k (k:=Sum.inr t.nm) m ∅,?_⟩;generalize u5:upd R d _=H5;mvcgen;have e5:=putE u5;have sx:Sx d R H5:=fun b u hb h=>by rw [<- u5,Jah hb];exact h
  have a1:putT (g.take i) t=g.take i++[t]:=by unfold putT;rw [if_neg c]
  have D:=(v.put ov).mono (P':=OV K Ad H5) fun _ _ z=>z.sx sx m;rw [a1, <- a5] at D;exact X _ _ ⟨li,_,_,_,rfl,fun b u h=>sx b u (Jae h N) (p _ _ (U _ _ h)),sx _ _ C j,e5,D⟩
 ·rintro σ H3 ⟨hi,v2,v3,e,rfl,U,e3,l,I⟩;rw [take_of_length_le ∅] at I;try simpa only [y4fy,y8cy]
  exact k d H3 U N ⟨⟨n,e3⟩,e,l,I⟩
abbrev BaN:Stmt:=top 41
theorem JbX:Jao ["steps","faces","told","places","face"] ["steps","faces"] (Jac BaN):=by bv_decide
def JbC (K:W.Frag) (Ad:Adr):Sp:=fun vs H Q E=>∃ (sL fL:Addr) (ts:List TD) (F:List Str) (fs:List Str),vs=[.ref sL, .ref fL]/\STp K Ad H ts sL/\BkH ts F/\SqL K H fL (fs.map V.str)/\fs.length<=8/\(∀ s∈Ch.all ts,s.src∈fs)/\(∀ (pd:Addr) (kp:List (Key × V)) (tb:Tab) (pb:List (Str × (Int × Int))) (H':Hp),Same H H'->H pd=none->H' pd=some (.dK kp)->DV (RF K H') pb kp->(pb.map (·.1)).Nodup->TTd ts fs tb->(∀ v,lk pb v=(lk tb v).map (·.1))->(∃ π,Pot π (ssD ts))->Q (.ref pd) H')/\∀ (l dx:Addr) (xs:List V) (R:List SpS) (H':Hp),Same H H'->H l=none->H' l=some (.lst xs)->H dx=none->H' dx=some (.xd [("around", .ref l)])->(¬ ∃ π,Pot π (ssD ts))->RgD (ssD ts) fs R->All2 (CV H') (R.map fun s=>(s.nm,s.fw)) xs->E (.ref Ad.Impossible) (some dx) H'
theorem Jf1 (F:FunD K "places_of" "places_of" BaN dV f fd) (T:Txt K mg Ad) (Bag:Cal P w K mg base 4 "chains_from" ["steps","starts"] [] (Jbi K Ad)):FnOk P w K mg base (CX1 P w) 5 f fd ["steps","faces"] (JbC K Ad):=by
 refine F.okx JbX (fun vs H Q E h=>?_) (fun b4 A a1 s H vs Q E hr h=>?_)
 ·obtain ⟨sL,fL,M,F,fs,rfl,_⟩:=h;rfl
 obtain ⟨sL,fL,M,F,fs,rfl,h⟩:=h;have hu:=hr.units;refine ⟨_,(Jab (Jaj 2 JbX.nd (Bag.ev hr ⋯ rfl pass1 (Jaa (pv 0) (Jaa (pv 1) Jag)))) (Jab (Jaj 3 JbX.nd JbV) (Jab (Jbg PassesOwn.leaving rfl (JiM (pv 2)) (Jat 4 JbX.nd) (Jaf (JbD (hu1 hu) (pv 3) (pv 4) (pe_ix ix_U (JaA (hu1 hu) (pv 2) (pv 4) (fun _ _=>rfl)) Jad) rfl))) (Jaf (Jal (pv 3)))))),?_⟩
 clear hu;obtain ⟨a2,hg,hF,l8,N,k,kE⟩:=h;obtain ⟨⟨sx,hS,hX⟩,a6,a7⟩:=a2;have sl:(1000:Nat)<=sizeLine:=by decide
 have a5:(ssD M).length<=70:=by unfold ssD;rw [length_map];exact hg.l70
 show tSeq _ _ _ [some (.ref sL),some (.ref fL),none,none,none] H;cbv;refine ⟨sL,fL,sx,ssD M,fs,rfl,hS,hX,hF,l8,a5, .inl (Jlm N),fun s hs=>?_,fun x X n P H1 S1 h0 t hT hP hB hi hk U=>?_,kE⟩
 ·obtain ⟨s',a8,rfl⟩:=mem_map.mp hs;exact hg.fb s' a8
 have hP:P=lsD M fs:=hP;subst hP;have a4:TTd M fs n:=⟨a6,a7,hk,hi,hB⟩;have b5:=hB.tb_len hk
 mframe;rename_i C b b3 H1 H2 S2 S;cbv;have R:C≠x:=fun z=>by rw [z,t] at b;cases b
 mframe;refine ⟨x,X,n.map (·.1),rfl,S2 _ _ t,hT.keys,fun od=>?_⟩;generalize Z:upd H2 x _=H3;cbv;have ef:H3 x=some (.frz od (.dK X)):=by rw [<- Z];exact Jas
 have b0:Same H H3:=fun c w h=>by rw [<- Z,Jah (Jae h h0)];exact S2 _ _ (S1 _ _ h)
 have b1:H3 C=some (.dK []):=by rw [<- Z,Jah R];exact S
 have b2:DV (RT K H H3) n X:=(hT.mono fun _ _ z=>z.same S2).mono fun _ _ z=>z.putL Z (S2 _ _ t);have r:=JaD S1 b;refine ForJ.keys (fun i σ J=>i<=n.length/\∃ (v4:Option V) (Y:List (Key × V)) (g:List (Str × (Int × Int))),σ=[some (.ref sL),some (.ref fL),some (.ref x),some (.ref C),v4]/\Same H J/\J x=some (.frz od (.dK X))/\DV (RT K H J) n X/\J C=some (.dK Y)/\DV (RF K J) g Y/\(g.map (·.1)).Nodup/\g.length<=i/\(∀ v e,lk g v=some e->∃ I,lk n v=some I/\I.1=e)/\∀ j z,j<i->(n.map (·.1))[j]?=some z->∃ e,lk g z=some e) ⟨Nat.zero_le _,none,[],[],rfl,b0,ef,b2,b1,rfl,by simp,Nat.le_refl _,(fun v e h=>by cases h),fun j z L=>absurd L (Nat.not_lt_zero _)⟩ (fun i σ J z=>by obtain ⟨_,_,_,_,_,_,z,_⟩:=z;exact z) ?_ ?_
 ·rintro i z σ H4 hz ⟨a3,v4,Y,g,rfl,S4,G,B,d,m,u,a9,o,D⟩ N0 a0;have li:=(List.getElem?_eq_some_iff.mp hz).1;rw [length_map] at li;obtain ⟨e,he⟩:=Jdu (List.mem_of_getElem? hz);obtain ⟨v,hv,p,qv,l,xs,rfl,hp,hq,hl,b7,hf⟩:=B.at he;have b6:=m.len;cbv;refine ⟨x, .ref p,rfl,by rw [<- hv];exact DGet.f (k:=Sum.inr z) G,?_⟩;cbv;refine ixT (i:=0) hp rfl ?_;cbv;refine ⟨C,_,rfl,DPut.k (k:=Sum.inr z) d ∅,?_⟩;generalize W:upd H4 C _=H5;cbv;have e5:=putE W;have T5:SameT H4 H5:=SameT.put W d rfl;refine a0 _ _ ⟨li,_,_,pu g z e.1,rfl,fun c w h=>by rw [<- W,Jah (Jae h r)];exact S4 _ _ h,by rw [<- W,Jah (Ne.symm R)];exact G,B.mono (fun _ _ z=>z.putL W d),e5,(m.mono (R':=RF K H5) fun _ _ z=>FrV.sameT T5 z).put (FrV.sameT T5 hq),pu_nd u,by have:=Jdx (l:=g) (f:=z) (a:=e.1);ac_nf,fun v I h=>?_,fun j y L hy=>?_⟩
  ·rw [lk_pu] at h;by_cases c:z=v
   ·rw [if_pos c] at h;cases h;exact ⟨e,by rw [<- c];exact he,rfl⟩
   ·rw [if_neg c] at h;exact o v I h
  ·rw [lk_pu];by_cases c:z=y
   ·exact ⟨_,if_pos c⟩
   ·rw [if_neg c];cbv;refine D j y ?_ hy;have : j≠i:=fun q=>by
     rw [q,hz] at hy;cases hy;exact c rfl
    ac_nf
 ·rintro σ H4 ⟨a3,v4,Y,g,rfl,S4,G,B,d,m,u,a9,o,D⟩;cbv;refine k C Y n g H4 S4 r d m u a4 (fun v=>?_) U;cases t:lk n v with
  | none=>
   cases S:lk g v with
   | none=>rfl
   | some e=>
    obtain ⟨I,h,_⟩:=o v e S;rw [t] at h;cases h
  | some e=>
   obtain ⟨j,L⟩:=List.getElem?_of_mem (JfN t);obtain ⟨S,O⟩:=D j v (List.getElem?_eq_some_iff.mp L).1 L;obtain ⟨I,h,q⟩:=o v S O;rw [t] at h;cases h;rw [O, <- q];rfl
abbrev Bar:Stmt:=inClass (top 47) 7
theorem JcC:Jao ["self","places"] ["self"] (Jac Bar):=by bv_decide
def Jbu (K:W.Frag) (Ad:Adr):Sp:=fun vs H Q E=>∃ (p d:Addr) (ts:List TD) (F:List Str),vs=[.ref p]/\BK K Ad H p d ts/\BkH ts F/\(∀ (l:Addr) (ys:List V) (out:List Str) (tb:Tab) (H':Hp),Same H H'->H l=none->H' l=some (.lst ys)->JaQ ts out->TTd ts out tb->All2 (QV K H') (out.map fun v=>(v,plD tb v)) ys->(∃ π,Pot π (ssD ts))->Q (.ref l) H')/\∀ (l dx:Addr) (xs:List V) (R:List SpS) (H':Hp),Same H H'->H l=none->H' l=some (.lst xs)->H dx=none->H' dx=some (.xd [("around", .ref l)])->(¬ ∃ π,Pot π (ssD ts))->(∃ out,JaQ ts out/\RgD (ssD ts) out R)->All2 (CV H') (R.map fun s=>(s.nm,s.fw)) xs->E (.ref Ad.Impossible) (some dx) H'
theorem Jd5 (F:FunD K "placing" "Book.placing" Bar dV f fd) (T:Txt K mg Ad) (m_kept:MCal P w K mg base 1 "kept" (Jay Ad) ["self"] (JaY K Ad)) (m_faces:MCal P w K mg base 2 "faces" (Jay Ad) ["self"] (Ja1 K Ad)) (Baw:Cal P w K mg base 6 "steps_of" ["ties"] [] (JbR K Ad)) (Bao:Cal P w K mg base 5 "places_of" ["steps","faces"] [] (JbC K Ad)):FnOk P w K mg base (CX1 P w) 8 f fd ["self"] (Jbu K Ad):=by
 refine F.okx JcC (fun vs H Q E h=>?_) (fun b9 A a3 s H vs Q E X h=>?_)
 ·obtain ⟨p,d,r,F,rfl,_⟩:=h;rfl
 obtain ⟨p,d,r,F,rfl,h⟩:=h;have hu:=X.units;refine ⟨_,(Jab (Jaj 1 JcC.nd (Bao.ev X ⋯ rfl pass1 (Jaa (Baw.ev X ⋯ rfl pass1 (Jaa (m_kept.m0 X ⋯ pass1 (pv 0)) Jag)) (Jaa (m_faces.m0 X ⋯ pass1 (pv 0)) Jag))) rfl (Or.inr rfl)) (Jaf (Jal (Jbt (own:=["face"]) (cs:=[(1,"places")]) rfl (pi_U (Jav (Jdj rfl) rfl T.Bbx Jcv (Jaa (pv 1) Jag))) (fun _ _ _ _=>(Jat 0 (show [("face" : Str),("places" : Str)].Nodup by decide))) (fun _ _ _ _=>(JaP (Jaa (pv 0) (Jaa (JaA (hu1 hu) (pv 1) (pv 0) (fun _ _=>rfl)) Jag)))) (JbU rfl) ⋯ rfl ⋯ (hcs1 rfl rfl rfl))))),?_⟩
 clear hu;obtain ⟨hb,g,k,kE⟩:=h;obtain ⟨⟨dx,hp⟩,_⟩:=id hb;have sl:(1000:Nat)<=sizeLine:=by decide
 have b8:(ssD r).length<=70:=by unfold ssD;rw [length_map];exact g.l70
 show tSeq _ _ _ [some (.ref p),none] H;cbv;refine ⟨p,_,dx,_,rfl,hp,rfl,rfl,?_⟩;cbv;refine ⟨p,d,r,rfl,hb,fun l ys H1 S1 c0 e1 hA=>?_⟩;cbv;refine ⟨l,ys,r,rfl,SqL.of e1,hA,g.ok,fun s B=>(g.fb s B).mono ⋯ ⋯,g.l35,fun sL sx b H2 S2 e2 G a5 b7 a8 a6=>?_⟩;have G:b=bD_ r:=G;subst G;have a4:STp K Ad H2 r sL:=⟨⟨sx,SqL.of e2,Jfr a6⟩,a5,fun s B=>⟨(g.fb s B).b1,a8 s B⟩⟩;have D:=S1.trans S2;cbv;refine ⟨p,_,dx,_,rfl,D _ _ hp,rfl,rfl,?_⟩;cbv;refine ⟨p,d,r,F,rfl,hb.same D,g.l35,g.f8,g.fm,fun fl a H3 S3 b0 e3 c=>?_⟩;have Y:a.length<=8:=by
  have:=sub_len a F c.1 fun z o=>by
   obtain ⟨t,x,h | h⟩:=(c.2.2 z).mp o
   ·rw [h];exact (g.fm t x).1
   ·rw [h];exact (g.fm t x).2
  have:=g.f8;ac_nf
 have n:=D.trans S3;have S:∀ s∈Ch.all r,s.src∈a:=fun s B=>(JbK (F:=a) (fun t x=>⟨(c.2.2 _).mpr ⟨t,x, .inl rfl⟩,(c.2.2 _).mpr ⟨t,x, .inr rfl⟩⟩) s B).1;cbv;refine ⟨sL,fl,r,F,a,rfl,a4.same S3,g,SqL.of e3,Y,S,fun pd kp tb N H4 S4 b4 e4 a0 U m J W=>?_,fun l2 a2 xs R H4 S4 h1 h2 h3 h4 h5 h6 h7=>kE l2 a2 xs R H4 (n.trans S4) (JaD n h1) h2 (JaD n h3) h4 h5 ⟨a,c,h6⟩ h7⟩
 mframe;have a1:∀ z,z∈N.map (·.1)↔z∈a:=fun z=>by
  constructor
  ·intro o;obtain ⟨e,he⟩:=Jdu o;rw [J z] at he;obtain ⟨e',a7,_⟩:=Option.map_eq_some_iff.mp he;rcases (m.ks z).mp ⟨e',a7⟩ with q | ⟨s,B⟩
   ·exact q
   ·obtain ⟨_,_,_,_,b3,_⟩:=m.be.ex;obtain ⟨m1,m2,_⟩:=b3 z s B;obtain ⟨y,hy,rfl⟩:=mem_map.mp m1;rw [<- m2];exact (JbK (F:=a) (fun t x=>⟨(c.2.2 _).mpr ⟨t,x, .inl rfl⟩,(c.2.2 _).mpr ⟨t,x, .inr rfl⟩⟩) y hy).2
  ·intro o;obtain ⟨e,he⟩:=(m.ks z).mpr (.inl o);have : lk N z=some e.1:=by rw [J z,he];rfl
   exact JfN this
 have b6:N.length<=8:=by
  have:=sub_len (N.map (·.1)) a U fun z o=>(a1 z).mp o;rw [length_map] at this;ac_nf
 refine ⟨pd,kp,N.map (·.1),rfl,e4,a0.keys,by rw [length_map];ac_nf,?_⟩;intro so o2 Z I;generalize C:upd H4 so _=H5;have S5:=newS Z C;have e5:=newE C;have eo:o2=a:=Jej I.2 c.2.1 (I.1.nodup_iff.mpr U) c.1 fun z=>by rw [I.1.mem_iff,a1]
 subst eo;refine ⟨so,rfl, .inl ⟨⟨_,SqL.of e5⟩,CompJ.list (xs:=o2.map V.str) (fun j zs H'=>Same H5 H'/\All2 (QV K H') ((o2.take j).map fun v=>(v,plD tb v)) zs) ⟨Same.refl _,by rw [take_zero];exact rfl⟩ (fun j zs H' hj z=>⟨SqL.of (z.1 _ _ e5),by have:=z.2.length;rw [length_map,length_take] at this;ac_nf⟩) ?_ ?_⟩⟩
 ·rintro j y ws H7 hy ⟨L,u⟩;rw [List.getElem?_map] at hy;obtain ⟨z,o,rfl⟩:=Option.map_eq_some_iff.mp hy;obtain ⟨e,he⟩:=(m.ks z).mpr (.inl (List.mem_of_getElem? o));obtain ⟨v,hv,fv⟩:=a0.at (show lk N z=some e.1 by rw [J z,he];rfl);simpa only [length_singleton,length_cons,length_nil,List.replicate,Jaz,map_cons,map_nil,Option.join_some];refine ⟨pd,v,rfl,by rw [<- hv];exact DGet.k (k:=Sum.inr z) (L _ _ (S5 _ _ e4)),?_⟩;cbv;refine ⟨by show 2<=sizeLine;ac_nf,?_⟩;rename_i np a9 b5 H7 H8 M e8;cbv;refine ⟨L.trans M,?_⟩;rw [take_succ,o,map_append];exact (u.mono (P':=QV K H8) fun _ _ z=>z.sameT M.t).append (.one ⟨np,v,rfl,e8,by
   show FrV K H8 v (plD tb z).1 (plD tb z).2;rw [Jhk he];exact FrV.same (S5.trans (L.trans M)) fv⟩)
 ·rintro zs H7 ⟨L,u⟩;rw [take_of_length_le (by rw [length_map];exact Nat.le_refl _)] at u;rename_i ol O b2 H7 H8 M e8;cbv;exact k ol zs o2 tb H8 (n.trans (S4.trans (S5.trans (L.trans M)))) (JaD n (JaD S4 (JaD S5 (JaD L O)))) e8 c m (u.mono fun _ _ z=>z.sameT M.t) W
abbrev BaO:Stmt:=inClass (top 47) 6
theorem Jdz:Jao ["self","e"] ["self"] (Jac BaO):=by bv_decide
def JcF (K:W.Frag) (Ad:Adr):Sp:=fun vs H Q E=>∃ (p d:Addr) (ts:List TD) (F:List Str),vs=[.ref p]/\BK K Ad H p d ts/\BkH ts F/\(∀ H',Same H H'->(∃ π,Pot π (ssD ts))->Q .non H')/\∀ (l:Addr) (xs:List V) (R:List SpS) (H':Hp),Same H H'->H l=none->H' l=some (.lst xs)->(¬ ∃ π,Pot π (ssD ts))->(∃ out,JaQ ts out/\RgD (ssD ts) out R)->All2 (CV H') (R.map fun s=>(s.nm,s.fw)) xs->Q (.ref l) H'
theorem JfS (F:FunD K "ring" "Book.ring" BaO dV f fd) (T:Txt K mg Ad) (m_placing:MCal P w K mg base 8 "placing" (Jay Ad) ["self"] (Jbu K Ad)):FnOk P w K mg base (CX1 P w) 9 f fd ["self"] (JcF K Ad):=by
 refine F.okn Jdz (by subst_eqs) (fun O A j s H C Q E G h=>?_)
 obtain ⟨p,d,x,F,rfl,h⟩:=h;refine ⟨_,(Jab (JjN (i:=1) Jdz.nd rfl rfl (m_placing.tr0 G ⋯ (pv 0)) rfl T.m_Impossible (fun _=>
   (Jaf (Jal (JjG (K:=K) rfl (pv 1) rfl))))) (Jaf (Jal JaI))),?_⟩
 obtain ⟨y,D,k,L⟩:=h;obtain ⟨⟨N,B⟩,_⟩:=id y;show tSeq _ _ _ [some (.ref p),none] H;cbv;refine ⟨p,_,N,_,rfl,B,rfl,rfl,?_⟩;cbv;refine ⟨p,d,x,F,rfl,y,D,fun l Y S V g n v q Z X W e=>?_,fun l a I R g n v q h2 r U J M=>?_⟩
 ·cbv;exact k g n e
 ·refine ⟨_,rfl,T.xc,fun o c=>⟨o,_,a,_, .ref l,rfl,Jas,T.xl,by rw [Jah (Jae r c)];exact r,rfl,?_⟩⟩;have m:Same g (upd g o (ExcO o Ad.Impossible (some a))):=fun b u h=>by rw [Jah (Jae h c)];exact h
  exact L l I R _ (n.trans m) v (m _ _ q) U J (M.mono fun _ _ z=>z.sameT m.t)
abbrev Bax:Stmt:=top 42
theorem JeE:Jao ["number"] ["number"] (Jac Bax):=by bv_decide
def Jb6 (K:W.Frag):Sp:=fun vs H Q E=>∃ (v:V) (n:Int × Int),vs=[v]/\FrV K H v n.1 n.2/\FB 1000 700 n/\Q (.int (Jbn n)) H
theorem JeA (F:FunD K "whole_below" "whole_below" Bax dV f fd) (T:Txt K mg Ad)  : FnOk P w K mg base (CX1 P w) 1 f fd ["number"] (Jb6 K):=by
 refine F.okn JeE (by subst_eqs) (fun d A a s H e Q E g h=>?_)
 obtain ⟨v,n,rfl,h⟩:=h;refine ⟨_,(Jaf (Jal (pe_op Jaw (pe_ix ix_U (pv 0) Jad) (pe_ix ix_U (pv 0) Jad)))),?_⟩;obtain ⟨b,c,k⟩:=h;show tRet _ _ [some v] H;cbv;refine ixF0 b (ixF1 b ?_);cbv;exact ⟨divOk (n:=700) (by have:=c.b1;ac_nf) c.s2,k⟩
abbrev Bay:Stmt:=top 43
theorem JeD:Jao ["number"] ["number"] (Jac Bay):=by bv_decide
def Jb5 (K:W.Frag):Sp:=fun vs H Q E=>∃ (v:V) (n:Int × Int),vs=[v]/\FrV K H v n.1 n.2/\FB 1000 700 n/\Q (.int (ceilF n)) H
theorem Jez (F:FunD K "whole_above" "whole_above" Bay dV f fd) (T:Txt K mg Ad)  : FnOk P w K mg base (CX1 P w) 1 f fd ["number"] (Jb5 K):=by
 refine F.okn JeD (by subst_eqs) (fun d A a s H e Q E g h=>?_)
 obtain ⟨v,n,rfl,h⟩:=h;refine ⟨_,(Jaf (Jal (pe_un Jgf (pe_op Jaw (pe_un Jgf (pe_ix ix_U (pv 0) Jad)) (pe_ix ix_U (pv 0) Jad))))),?_⟩;obtain ⟨b,c,k⟩:=h;show tRet _ _ [some v] H;cbv;refine ixF0 b ?_;cbv;refine ixF1 b ?_;cbv;exact ⟨divOk (n:=700) (by have:=c.b1;ac_nf) c.s2,k⟩
abbrev Bas:Stmt:=top 44
theorem Ja6:Jao ["steps","reached_chains","places","enough","step","place"] ["steps","reached_chains","places"] (Jac Bas):=by bv_decide
def JbQ (K:W.Frag) (Ad:Adr):Sp:=fun vs H Q E=>∃ (sL td pd:Addr) (ts:List TD) (tb:Tab) (pb:List (Str × (Int × Int))) (H0:Hp),vs=[.ref sL, .ref td, .ref pd]/\STp K Ad H ts sL/\TDk K H0 H tb td/\PDk K H pb pd/\(∀ s∈Ch.all ts,FB 200 9 s.c)/\(∀ v e,lk tb v=some e->FB 1000 700 e.1)/\(∀ v e,lk pb v=some e->FB 1000 700 e)/\(∀ s∈Ch.all ts, ∃ e,lk pb s.src=some e)/\Q (.int (enD (ssD ts) (fun v=>(lk tb v).map (·.1)) (lk pb))) H
theorem Jd8 (F:FunD K "enough_above" "enough_above" Bas dV f fd) (T:Txt K mg Ad) (Bbh:Cal P w K mg base 1 "whole_above" ["number"] [] (Jb5 K)) (BaW:Cal P w K mg base 1 "whole_below" ["number"] [] (Jb6 K)):FnOk P w K mg base (CX1 P w) 2 f fd ["steps","reached_chains","places"] (JbQ K Ad):=by
 refine F.okn Ja6 (by subst_eqs) (fun a5 A S s H vs Q E I h=>?_)
 obtain ⟨J,o,G,x,c,n,H0,rfl,h⟩:=h;have r:=I.units;refine ⟨_,(Jab (Jaj 3 Ja6.nd Jad) (Jab (Jbg PassesOwn.never rfl (pi_U (pv 0)) (Jat 4 Ja6.nd) (Jaf (ps_if (PW.pt (Jdy (Jcd (JeQ (hu1 r) (Jau (pv 4) rfl) (pv 1)) (by with_unfolding_all rfl)) (JcB (Jcd (JbL (hu1 r) (Jau (pv 4) rfl) (pv 1)) (by with_unfolding_all rfl))))) (Jab (Jaj 5 Ja6.nd (Bbh.ev I ⋯ rfl passF (Jaa (pe_ix ix_U (JaA (hu1 r) (pv 1) (Jau (pv 4) rfl) (fun _ _=>rfl)) Jad) Jag))) (Jaf (Jaj 3 Ja6.nd (Jav (Jh1 rfl) rfl T.n_max Jlw (Jaa (pv 3) (Jaa (pe_op JcU (pe_op JcU (pv 5) (BaW.ev I ⋯ rfl passF (Jaa (JaA (hu1 r) (pv 2) (Jau (pv 4) rfl) (fun _ _=>rfl)) Jag))) (BaW.ev I ⋯ rfl passF (Jaa (Jau (pv 4) rfl) Jag))) Jag))))))
   Jap))) (Jaf (Jal (pv 3))))),?_⟩
 clear r;obtain ⟨⟨⟨sx,hS,hX⟩,_,_⟩,⟨kt,Y,D,_⟩,⟨kp,ep,hP⟩,a1,R,a0,a3,k⟩:=h;have g:=T.c_Step Ad.Step rfl;have lX:=hX.length;show tSeq _ _ _ [some (.ref J),some (.ref o),some (.ref G),none,none,none] H;mleave;refine ⟨J,rfl,ForA.byLN (xs:=sx) hS (fun i σ L=>i<=sx.length/\∃ (U C:Option V),σ=[some (.ref J),some (.ref o),some (.ref G),some (.int (((ssD x).take i).foldl (enS (fun v=>(lk c v).map (·.1)) (lk n)) 0)),U,C]/\L=H) ⟨Nat.zero_le _,none,none,rfl,rfl⟩ (fun i σ L z=>by obtain ⟨_,_,_,_,rfl⟩:=z;exact hS) ?_ ?_⟩
 ·rintro i y σ L hy ⟨hi,U,C,rfl,rfl⟩ N0 l;have O:=(List.getElem?_eq_some_iff.mp hy).1;obtain ⟨s,hs,p,B,vc,pr,rfl,d,a2,a4⟩:=hX.at_ hy;obtain ⟨s0,u,es⟩:=mem_map.mp (List.mem_of_getElem? hs);have j:((ssD x).take (i+1)).foldl (enS (fun v=>(lk c v).map (·.1)) (lk n)) 0=enS (fun v=>(lk c v).map (·.1)) (lk n) (((ssD x).take i).foldl (enS (fun v=>(lk c v).map (·.1)) (lk n)) 0) s:=by rw [take_succ,hs,foldl_append];rfl
  generalize ((ssD x).take i).foldl (enS (fun v=>(lk c v).map (·.1)) (lk n)) 0=m at j ⊢;have M:FB 1000 700 s.cost:=by rw [<- es];exact (a1 s0 u).mono ⋯ ⋯
  mleave;refine ⟨p,_,B,_, .str s.tgt,rfl,d,g.cls,g.n2,rfl,?_⟩;refine ⟨o,_,rfl,DGet.k (k:=Sum.inr s.tgt) Y,?_⟩;cases ea:lk c s.tgt with
  | none=>
   rw [D.no ea];try simpa only [y4fy,Option.isSome_none]
   refine l _ _ ⟨O,some (.ref p),C,?_,rfl⟩;rw [j,Jlz (by show (lk c s.tgt).map _=none;rw [ea];rfl)]
  | some a=>
   obtain ⟨va,t,pa,qa,la,xa,rfl,Z,W,_⟩:=D.at ea;rw [t];try simpa only [y4fy,Option.isSome_some]
   refine ⟨p,_,B,_, .str s.src,rfl,d,g.cls,g.n1,rfl,?_⟩;refine ⟨o,_,rfl,DGet.k (k:=Sum.inr s.src) Y,?_⟩;cases eb:lk c s.src with
   | some b=>
    rw [(D.at eb).choose_spec.1];try simpa only [y4fy,Option.isSome_some]
    refine l _ _ ⟨O,some (.ref p),C,?_,rfl⟩;rw [j,JlA (b:=b.1) (by show (lk c s.src).map _=some _;rw [eb];rfl)]
   | none=>
    rw [D.no eb];try simpa only [y4fy,Option.isSome_none]
    obtain ⟨q,N⟩:∃ e,lk n s.src=some e:=by rw [<- es];exact a3 s0 u
    obtain ⟨vq,X,fq⟩:=hP.at N;refine ⟨p,_,B,_, .str s.tgt,rfl,d,g.cls,g.n2,rfl,?_⟩;refine ⟨o, .ref pa,rfl,by rw [<- t];exact DGet.k (k:=Sum.inr s.tgt) Y,?_⟩;mleave;refine ixT (i:=0) Z rfl ?_;mleave;refine ⟨_,a.1,rfl,W,R _ _ ea,?_⟩;mleave
    (try ((with_reducible refine Nxt.go (by assumption) ?_);mleave))
    mleave;refine ⟨p,_,B,_, .str s.src,rfl,d,g.cls,g.n1,rfl,?_⟩;refine ⟨G,vq,rfl,by rw [<- X];exact DGet.k (k:=Sum.inr s.src) ep,?_⟩;mleave;refine ⟨_,q,rfl,fq,a0 _ _ N,?_⟩;mleave;refine ⟨p,_,B,_,vc,rfl,d,g.cls,g.n3,rfl,?_⟩;mleave;refine ⟨_,s.cost,rfl,a2,M,?_⟩;mleave;refine ⟨_,_,rfl,?_⟩;mleave;refine l _ _ ⟨O,some (.ref p),some (.int (ceilF a.1)),?_,rfl⟩;rw [j,enS_y (a:=a.1) (p:=q) (by show (lk c s.tgt).map _=some _;rw [ea];rfl) (by show (lk c s.src).map _=none;rw [eb];rfl) N]
 ·rintro σ L ⟨hi,U,C,rfl,rfl⟩;mleave;rw [take_of_length_le ∅];exact k
abbrev Bae:Stmt:=top 45
theorem JaU:Jao ["steps","reached_chains","places","lift","told","face"] ["steps","reached_chains","places"] (Jac Bae):=by bv_decide
def Jbc (K:W.Frag) (Ad:Adr):Sp:=fun vs H Q E=>∃ (sL td pd:Addr) (ts:List TD) (tb:Tab) (pb:List (Str × (Int × Int))) (H0:Hp),vs=[.ref sL, .ref td, .ref pd]/\STp K Ad H ts sL/\TDk K H0 H tb td/\PDk K H pb pd/\(∀ s∈Ch.all ts,FB 200 9 s.c)/\(∀ v e,lk tb v=some e->FB 1000 700 e.1)/\(∀ v e,lk pb v=some e->FB 1000 700 e)/\(∀ s∈Ch.all ts, ∃ e,lk pb s.src=some e)/\pb.length<64/\∀ (l:Addr) (zs:List V) (out:List Str) (H':Hp),Same H H'->H l=none->H' l=some (.lst zs)->JhR out (pb.map (·.1))->All2 (QV K H') (stD ts (fun v=>(lk tb v).map (·.1)) (lk pb) out) zs->Q (.ref l) H'
theorem JcS (F:FunD K "stretched_placing" "stretched_placing" Bae dV f fd) (T:Txt K mg Ad) (Ba9:Cal P w K mg base 2 "enough_above" ["steps","reached_chains","places"] [] (JbQ K Ad)) (Bbz:Cal P w K mg base 2 "plus" ["one","other"] [] (Jel K)):FnOk P w K mg base (CX1 P w) 3 f fd ["steps","reached_chains","places"] (Jbc K Ad):=by
 refine F.okn JaU (by subst_eqs) (fun c1 A b0 s H vs Q E hr h=>?_)
 obtain ⟨sL,S,U,I,j,u,H0,rfl,h⟩:=h;have hu:=hr.units;refine ⟨_,(Jab (Jaj 3 JaU.nd (JaP (Jaa (Ba9.ev hr ⋯ rfl passF (Jaa (pv 0) (Jaa (pv 1) (Jaa (pv 2) Jag)))) (Jaa Jad Jag)))) (Jab (Jaj 4 JaU.nd (Jbp Jag)) (Jab (Jbg PassesOwn.never rfl (pi_U (Jav (Jdj rfl) rfl T.Bbx Jcv (Jaa (pv 2) Jag))) (Jat 5 JaU.nd) (Jaf (ps_if (Jcd (JeQ (hu1 hu) (pv 5) (pv 1)) (by with_unfolding_all rfl)) (Jaf (JaW (pe_bm PySem.F.plainAttrs_list PySem.F.slot_list_append PySem.F.type_list_append Jbe (pv 4) (Jaa (JaP (Jaa (pv 5) (Jaa (pe_ix ix_U (JaA (hu1 hu) (pv 1) (pv 5) (fun _ _=>rfl)) Jad) Jag))) Jag) (hs:=by exact Jai rfl)))) (Jaf (JaW (pe_bm PySem.F.plainAttrs_list PySem.F.slot_list_append PySem.F.type_list_append Jbe (pv 4) (Jaa (JaP (Jaa (pv 5) (Jaa (Bbz.ev hr ⋯ rfl passF (Jaa (JaA (hu1 hu) (pv 2) (pv 5) (fun _ _=>rfl)) (Jaa (pv 3) Jag))) Jag))) Jag) (hs:=by exact Jai rfl))))))) (Jaf (Jal (pv 4)))))),?_⟩
 clear hu;obtain ⟨b2,a6,a0,a4,a1,N,b7,c2,k⟩:=h;obtain ⟨kt,et,hT,hf⟩:=id a6;obtain ⟨kp,ep,hP⟩:=id a0;have sl:(1000:Nat)<=sizeLine:=by decide
 show tSeq _ _ _ [some (.ref sL),some (.ref S),some (.ref U),none,none,none] H;cbv;refine ⟨sL,S,U,I,j,u,H0,rfl,b2,a6,a0,a4,a1,N,b7,?_⟩;have B:=en_lt (f:=fun v=>(lk j v).map (·.1)) (g:=lk u) (fun v e h=>by obtain ⟨a,h1,h2⟩:=Option.map_eq_some_iff.mp h;rw [<- h2];exact a1 v a h1) N (ssD I) 0 (fun s hs=>by obtain ⟨y,hy,rfl⟩:=mem_map.mp hs;exact (a4 y hy).mono ⋯ ⋯) (Int.le_refl _) (by exact_mod_cast Nat.two_pow_pos 1010);have B:0<=enD (ssD I) (fun v=>(lk j v).map (·.1)) (lk u)/\enD (ssD I) (fun v=>(lk j v).map (·.1)) (lk u)<2 ^ 1010:=B;cbv;refine ⟨len2,?_⟩;rename_i lf b9 c0 H H1 S1 e1;cbv
 mframe;refine ⟨len0,?_⟩;rename_i L r b8 H1 H2 S2 e2;cbv
 mframe;refine ⟨U,kp,u.map (·.1),rfl,S2 _ _ (S1 _ _ ep),hP.keys,by rw [length_map];ac_nf,?_⟩;intro so b n M;generalize J:upd H2 so _=H3;have S3:=newS n J;have e3:=newE J;have c3:=S1.trans (S2.trans S3);have lo:b.length=u.length:=by rw [M.1.length_eq,length_map]
 have a5:L≠so:=fun z=>by rw [<- z,e2] at n;cases n
 generalize hst':stD I (fun v=>(lk j v).map (·.1)) (lk u)=st at k;have a9:∀ i,(st (b.take i)).length=(b.take i).length:=fun i=>by rw [<- hst'];unfold stD;rw [length_map]
 have fl:FrV K H1 (.ref lf) (enD (ssD I) (fun v=>(lk j v).map (·.1)) (lk u)) 1:=FrV.of e1;generalize hm:enD (ssD I) (fun v=>(lk j v).map (·.1)) (lk u)=m at *;refine ⟨so,rfl,ForA.byLN (xs:=b.map V.str) (SqL.of e3) (fun i σ H'=>i<=b.length/\∃ (v5:Option V) (zs:List V),σ=[some (.ref sL),some (.ref S),some (.ref U),some (.ref lf),some (.ref L),v5]/\Same H1 H'/\H' so=some (.lst (b.map V.str))/\H' L=some (.lst zs)/\All2 (QV K H') (st (b.take i)) zs) ⟨Nat.zero_le _,none,[],rfl,S2.trans S3,e3,S3 _ _ e2,by rw [take_zero, <- hst'];exact rfl⟩ (fun i σ H' z=>by obtain ⟨_,_,_,_,_,z,_⟩:=z;exact SqL.of z) ?_ ?_⟩
 ·rintro i y σ H4 hy ⟨hi,v5,zs,rfl,W,O,d,R⟩ N0 Y;rw [List.getElem?_map] at hy;obtain ⟨v,hv,rfl⟩:=Option.map_eq_some_iff.mp hy;have li:=(List.getElem?_eq_some_iff.mp hv).1;have b4:=R.length;rw [a9,length_take] at b4;have o:=S1.trans W;have a3:=o _ _ et;have b5:=o _ _ ep;obtain ⟨q,hq⟩:=Jdu (M.1.mem_iff.mp (List.mem_of_getElem? hv));have a8:∀ e,(st [v])=[(v,e)]->st (b.take (i+1))=st (b.take i)++[(v,e)]:=fun e h=>by
   rw [take_succ,hv, <- h, <- hst'];unfold stD;rw [map_append];rfl
  cbv;refine ⟨S,_,rfl,DGet.k (k:=Sum.inr v) a3,?_⟩;cases ea:lk j v with
  | some e=>
   obtain ⟨va,a2,p,qv,l,xs,rfl,hp,b3,_⟩:=hT.at ea;rw [a2];try simpa only [Option.isSome_some]
   refine ⟨.inl ⟨rfl,_,SqL.of d⟩,?_⟩;refine ⟨S, .ref p,rfl,by rw [<- a2];exact DGet.k (k:=Sum.inr v) a3,?_⟩;cbv;refine ixT (i:=0) (hp.same o) rfl ?_;cbv;refine ⟨len2,?_⟩;rename_i np X a7 H4 H5 D e5;cbv;refine ⟨L,_,_,rfl,rfl,D _ _ d,by ac_nf,?_⟩;generalize u6:upd H5 L _=Z;cbv;have e6:=putE u6;have T6:SameT H5 Z:=SameT.put u6 (D _ _ d) rfl;refine Y _ _ ⟨li,_,_,rfl,fun c w h=>by rw [<- u6,Jah (Jae h r)];exact D _ _ (W _ _ h),by rw [<- u6,Jah (Ne.symm a5)];exact D _ _ O,e6,?_⟩;rw [a8 e.1 (by rw [<- hst'];exact JjY (by show (lk j v).map _=some _;rw [ea];rfl))];exact (R.mono (P':=QV K Z) fun _ _ z=>z.sameT (D.t.trans T6)).append (.one ⟨np,qv,rfl,T6 _ _ rfl e5,(b3.same (o.trans D)).sameT T6⟩)
  | none=>
   rw [hT.no ea];try simpa only [Option.isSome_none]
   obtain ⟨vq,b6,fq⟩:=hP.at hq;have x:=N _ _ hq;refine ⟨.inl ⟨rfl,_,SqL.of d⟩,?_⟩;refine ⟨U,vq,rfl,by rw [<- b6];exact DGet.k (k:=Sum.inr v) b5,?_⟩;cbv;refine ⟨vq, .ref lf,q.1,q.2,m,1,rfl,FrV.same o fq,fl.same W,x.s1.mono ⋯,x.s2.mono ⋯,?_, .lit ⋯ ⋯,x.b1,by decide,x.g1,by unfold Mth.g;simp,fun ap H5 D e5=>?_⟩
   ·refine (show Mth.Sz 1010 m from ?_).mono ⋯;unfold Mth.Sz;have h1:=B.2;have hC:((2 ^ 1010:Nat):Int)=(2:Int) ^ 1010:=by norm_cast
    rw [<- hC] at h1;have h0:=B.1;generalize (2 ^ 1010:Nat)=C at *;ac_nf
   cbv;refine ⟨len2,?_⟩;rename_i np X a7 H5 Z S6 e6;cbv;refine ⟨L,_,_,rfl,rfl,S6 _ _ (D _ _ d),by ac_nf,?_⟩;generalize u7:upd Z L _=H7;cbv;have e7:=putE u7;have G:=D.trans S6;have T7:SameT Z H7:=SameT.put u7 (G _ _ d) rfl;refine Y _ _ ⟨li,_,_,rfl,fun c w h=>by rw [<- u7,Jah (Jae h r)];exact G _ _ (W _ _ h),by rw [<- u7,Jah (Ne.symm a5)];exact G _ _ O,e7,?_⟩;rw [a8 (addF q (m,1)) (by rw [<- hst', <- hm];exact JjX (by show (lk j v).map _=none;rw [ea];rfl) hq)];exact (R.mono (P':=QV K H7) fun _ _ z=>z.sameT (G.t.trans T7)).append (.one ⟨np, .ref ap,rfl,T7 _ _ rfl e6,⟨ap,rfl,(SqT.of (S6 _ _ e5)).sameT T7⟩⟩)
 ·rintro σ H4 ⟨hi,v5,zs,rfl,W,O,d,R⟩;cbv;rw [take_of_length_le (by rw [length_map];exact Nat.le_refl _)] at R;exact k L zs b H4 (S1.trans W) (JaD S1 r) d M R
abbrev Baz:Stmt:=top 46
theorem Jbh:Jao ["chains","one","other","least","greatest"] ["chains","one","other"] (Jac Baz):=by bv_decide
def JbB (K:W.Frag) (Ad:Adr):Sp:=fun vs H Q E=>∃ (cd:Addr) (one other:Str) (cb:List (Str × Addr)) (kc:List (Key × V)) (tb1 tb2:Tab) (t1 t2:Addr) (H0:Hp),vs=[.ref cd, .str one, .str other]/\H cd=some (.dK kc)/\DV (fun a v=>v=.ref a) cb kc/\lk cb one=some t1/\lk cb other=some t2/\TDk K H0 H tb1 t1/\TDk K H0 H tb2 t2/\(∀ v e,lk tb1 v=some e->FB 1000 700 e.1)/\(∀ v e,lk tb2 v=some e->FB 1000 700 e.1)/\∀ (p:Addr) (vl vg:V) (H':Hp),Same H H'->H' p=some (.tup [vl,vg])->BV K H' ((lk tb2 one).map fun e=>subF (0,1) e.1) vl->BV K H' ((lk tb1 other).map (·.1)) vg->Q (.ref p) H'
theorem Jeu (F:FunD K "gap_between" "gap_between" Baz dV f fd) (T:Txt K mg Ad) (Bbf:Cal P w K mg base 3 "minus" ["one","other"] [] (Jdd K)):FnOk P w K mg base (CX1 P w) 4 f fd ["chains","one","other"] (JbB K Ad):=by
 refine F.okn Jbh (by subst_eqs) (fun a1 A M s H vs Q E Y h=>?_)
 obtain ⟨n,one,other,cb,kc,z,m,u,r,H0,rfl,h⟩:=h;have d:=Y.units;refine ⟨_,(Jab (Jaj 3 Jbh.nd JaI) (Jab (Jaj 4 Jbh.nd JaI) (Jab (ps_if (Jcd (JeQ (hu1 d) (pv 1) (JaA (hu1 d) (pv 0) (pv 2) (fun _ _=>rfl))) (by with_unfolding_all rfl)) (Jaf (Jaj 3 Jbh.nd (Bbf.ev Y ⋯ rfl passF (Jaa (Jdp (v:=.ref _) rfl T.Bb8 T.Bb9) (Jaa (pe_ix ix_U (JaA (hu1 d) (JaA (hu1 d) (pv 0) (pv 2) (fun _ _=>rfl)) (pv 1) (fun _ _=>rfl)) Jad) Jag)))))
   Jap) (Jab (ps_if (Jcd (JeQ (hu1 d) (pv 2) (JaA (hu1 d) (pv 0) (pv 1) (fun _ _=>rfl))) (by with_unfolding_all rfl)) (Jaf (Jaj 4 Jbh.nd (pe_ix ix_U (JaA (hu1 d) (JaA (hu1 d) (pv 0) (pv 1) (fun _ _=>rfl)) (pv 2) (fun _ _=>rfl)) Jad)))
   Jap) (Jaf (Jal (JaP (Jaa (pv 3) (Jaa (pv 4) Jag))))))))),?_⟩
 clear d;obtain ⟨I,Z,h1,h2,⟨k1,D,C,_⟩,⟨k2,y,G,_⟩,a0,R,k⟩:=h;obtain ⟨v1,B,rfl⟩:=Z.at h1;obtain ⟨v2,x,rfl⟩:=Z.at h2;show tSeq _ _ _ [some (.ref n),some (.str one),some (.str other),none,none] H;cbv;refine ⟨n, .ref r,rfl,by rw [<- x];exact DGet.k (k:=Sum.inr other) I,?_⟩;cbv;refine ⟨r,_,rfl,DGet.k (k:=Sum.inr one) y,?_⟩;rename_i N hN;have b:∀ (vl:V) (j:Hp),Same H j->BV K j ((lk m one).map fun e=>subF (0,1) e.1) vl->N [some (.ref n),some (.str one),some (.str other),some vl,some .non] j:=by
  intro vl j c bl
  mframe;refine ⟨n, .ref u,rfl,by rw [<- B];exact DGet.k (k:=Sum.inr one) (c _ _ I),?_⟩;cbv;refine ⟨u,_,rfl,DGet.k (k:=Sum.inr other) (c _ _ D),?_⟩;cases ea:lk z other with
  | none=>
   rw [C.no ea];try simpa only [Option.isSome_none]
   mframe;refine ⟨len2,?_⟩;rename_i p S W j X o O;cbv;exact k p vl .non X (c.trans o) O (bl.sameT o.t) (by rw [ea];rfl)
  | some e=>
   obtain ⟨va,a,q,U,l,xs,rfl,L,J,_⟩:=C.at ea;rw [a];try simpa only [Option.isSome_some]
   refine ⟨n, .ref u,rfl,by rw [<- B];exact DGet.k (k:=Sum.inr one) (c _ _ I),?_⟩;cbv;refine ⟨u, .ref q,rfl,by rw [<- a];exact DGet.k (k:=Sum.inr other) (c _ _ D),?_⟩;cbv;refine ixT (i:=0) (L.same c) rfl ?_;cbv
   mframe;refine ⟨len2,?_⟩;rename_i p S W j X o O;cbv;exact k p vl U X (c.trans o) O (bl.sameT o.t) (by rw [ea];exact J.same (c.trans o))
 cases eb:lk m one with
 | none=>
  rw [G.no eb];try simpa only [Option.isSome_none]
  exact b .non H (Same.refl _) (by rw [eb];rfl)
 | some e=>
  obtain ⟨va,a,q,U,l,xs,rfl,L,J,_⟩:=G.at eb;have g:=R _ _ eb;rw [a];try simpa only [Option.isSome_some]
  refine ⟨n, .ref r,rfl,by rw [<- x];exact DGet.k (k:=Sum.inr other) I,?_⟩;cbv;refine ⟨r, .ref q,rfl,by rw [<- a];exact DGet.k (k:=Sum.inr one) y,?_⟩;cbv;refine ixT (i:=0) L rfl ?_;cbv;refine ⟨.ref Ad.ZERO,U,0,1,e.1.1,e.1.2,rfl,⟨Ad.ZERO,rfl,T.Bb3 _⟩,J, .lit ⋯ ⋯, .lit ⋯ ⋯,g.s1.mono ⋯,g.s2.mono ⋯,by decide,g.b1,by decide,g.g1,fun p j c e1=>?_⟩;refine b (.ref p) j c ?_;rw [eb];exact ⟨p,rfl,SqT.of e1⟩
abbrev Baf:Stmt:=inClass (top 47) 8
theorem JbM:Jao ["self","one","other","faces"] ["self","one","other"] (Jac Baf):=by bv_decide
def Ja0 (K:W.Frag) (Ad:Adr):Sp:=fun vs H Q E=>∃ (p d:Addr) (ts:List TD) (F:List Str) (one other:Str),vs=[.ref p, .str one, .str other]/\BK K Ad H p d ts/\ts.length<=35/\F.length<=8/\(∀ t∈ts,t.st∈F/\t.en∈F)/\(((∃ t∈ts,one=t.st\/one=t.en)/\∃ t∈ts,other=t.st\/other=t.en)->∀ H',Same H H'->Q .non H')/\(¬ ((∃ t∈ts,one=t.st\/one=t.en)/\∃ t∈ts,other=t.st\/other=t.en)->∀ H',Same H H'->E (.ref Ad.NoFace) none H')
theorem JcX (F:FunD K "check_faces" "Book.check_faces" Baf dV f fd) (T:Txt K mg Ad) (m_faces:MCal P w K mg base 2 "faces" (Jay Ad) ["self"] (Ja1 K Ad)):FnOk P w K mg base (CX1 P w) 3 f fd ["self","one","other"] (Ja0 K Ad):=by
 refine F.okx JbM (fun G H Q E h=>?_) (fun M A j s H G Q E I h=>?_)
 ·obtain ⟨p,d,c,F,one,other,rfl,_⟩:=h;rfl
 obtain ⟨p,d,c,F,one,other,rfl,h⟩:=h;refine ⟨_,(Jab (Jaj 3 JbM.nd (m_faces.m0 I ⋯ pass1 (pv 0))) (Jaf (ps_if (PW.pt (pw_or (Jan Jea (pv 1) (pv 3) (by with_unfolding_all rfl)) (Jcp (Jan Jea (pv 2) (pv 3) (by with_unfolding_all rfl))))) (Jaf (Jfi PySem.F.excBase_ValueError T.x_NoFace rfl T.m_NoFace (Jaa Jbf Jag)))
   Jap))),?_⟩
 obtain ⟨y,m,C,o,k,x⟩:=h;obtain ⟨⟨L,D⟩,_⟩:=id y;show tSeq _ _ _ [some (.ref p),some (.str one),some (.str other),none] H;cbv;refine ⟨p,_,L,_,rfl,D,rfl,rfl,?_⟩;cbv;refine ⟨p,d,c,F,rfl,y,m,C,o,fun l q r n J u e=>?_⟩
 mframe;have a:(q.map V.str).all flatV=true:=List.all_eq_true.mpr (fun v B=>by obtain ⟨z,_,rfl⟩:=mem_map.mp B;rfl);refine ⟨l,_,rfl, .inl (SqL.of u),rfl,a,?_⟩;rw [if_pos rfl,Jcj];cbv;by_cases b:∃ t∈c,one=t.st\/one=t.en
 ·rw [decide_eq_true ((e.2.2 one).mpr b)];cbv;refine ⟨l,_,rfl, .inl (SqL.of u),rfl,a,?_⟩;rw [if_pos rfl,Jcj];cbv;by_cases g:∃ t∈c,other=t.st\/other=t.en
  ·rw [decide_eq_true ((e.2.2 other).mpr g)];cbv;exact k ⟨b,g⟩ r n
  ·rw [decide_eq_false fun z=>g ((e.2.2 other).mp z)];cbv;exact ⟨by show 1<=sizeLine;decide,x (fun z=>g z.2) r n⟩
 ·rw [decide_eq_false fun z=>b ((e.2.2 one).mp z)];cbv;exact ⟨by show 1<=sizeLine;decide,x (fun z=>b z.1) r n⟩
abbrev Baj:Stmt:=inClass (top 47) 9
theorem Ja8:Jao ["self","faces","steps","told","face"] ["self","faces"] (Jac Baj):=by bv_decide
def Jba (K:W.Frag) (Ad:Adr):Sp:=fun vs H Q E=>∃ (p d:Addr) (ts:List TD) (F:List Str) (fL:Addr) (gs:List Str),vs=[.ref p, .ref fL]/\BK K Ad H p d ts/\BkH ts F/\SqL K H fL (gs.map V.str)/\gs.length<=8/\(∀ (cd:Addr) (cb:List (Str × Addr)) (kc:List (Key × V)) (H':Hp),Same H H'->H' cd=some (.dK kc)->DV (fun a v=>v=.ref a) cb kc->(∀ g∈gs, ∃ td,lk cb g=some td)->(∀ g td,lk cb g=some td->∃ tb,TDk K H H' tb td/\TTd ts [g] tb)->(∃ π,Pot π (ssD ts))->Q (.ref cd) H')/\∀ od H',Same H H'->(¬ ∃ π,Pot π (ssD ts))->E (.ref Ad.Impossible) od H'
theorem Jdm (F:FunD K "chains_of" "Book.chains_of" Baj dV f fd) (T:Txt K mg Ad) (m_kept:MCal P w K mg base 1 "kept" (Jay Ad) ["self"] (JaY K Ad)) (m_faces:MCal P w K mg base 2 "faces" (Jay Ad) ["self"] (Ja1 K Ad)) (Baw:Cal P w K mg base 6 "steps_of" ["ties"] [] (JbR K Ad)) (Bao:Cal P w K mg base 5 "places_of" ["steps","faces"] [] (JbC K Ad)) (Bag:Cal P w K mg base 4 "chains_from" ["steps","starts"] [] (Jbi K Ad)):FnOk P w K mg base (CX1 P w) 7 f fd ["self","faces"] (Jba K Ad):=by
 refine F.okx Ja8 (fun vs H Q E h=>?_) (fun d5 A b0 s H vs Q E Y h=>?_)
 ·obtain ⟨p,d,o,F,fL,Z,rfl,_⟩:=h;rfl
 obtain ⟨p,d,o,F,fL,Z,rfl,h⟩:=h;have hu:=Y.units;refine ⟨_,(Jab (Jaj 2 Ja8.nd (Baw.ev Y ⋯ rfl pass1 (Jaa (m_kept.m0 Y ⋯ pass1 (pv 0)) Jag))) (Jab (JaW (Bao.ev Y ⋯ rfl pass1 (Jaa (pv 2) (Jaa (m_faces.m0 Y ⋯ pass1 (pv 0)) Jag)))) (Jab (Jaj 3 Ja8.nd JbV) (Jab (Jbg PassesOwn.leaving rfl (pi_U (pv 1)) (Jat 4 Ja8.nd) (Jaf (JbD (hu1 hu) (pv 3) (pv 4) (Bag.ev Y ⋯ rfl pass1 (Jaa (pv 2) (Jaa (Jbp (Jaa (pv 4) Jag)) Jag))) rfl))) (Jaf (Jal (pv 3))))))),?_⟩
 clear hu;obtain ⟨hb,m,hF,l8,k,kE⟩:=h;obtain ⟨⟨dx,hp⟩,_⟩:=id hb;have sl:(1000:Nat)<=sizeLine:=by decide
 have b4:(ssD o).length<=70:=by unfold ssD;rw [length_map];exact m.l70
 show tSeq _ _ _ [some (.ref p),some (.ref fL),none,none,none] H;cbv;refine ⟨p,_,dx,_,rfl,hp,rfl,rfl,?_⟩;cbv;refine ⟨p,d,o,rfl,hb,fun l ys H1 S1 d6 e1 hA=>?_⟩;cbv;refine ⟨l,ys,o,rfl,SqL.of e1,hA,m.ok,fun s M=>(m.fb s M).mono ⋯ ⋯,m.l35,fun sL sx b H2 S2 e2 U a2 d2 c1 b7=>?_⟩;have U:b=bD_ o:=U;subst U;have R:STp K Ad H2 o sL:=⟨⟨sx,SqL.of e2,Jfr b7⟩,a2,fun s M=>⟨(m.fb s M).b1,c1 s M⟩⟩;have e:=S1.trans S2
 mframe;refine ⟨p,_,dx,_,rfl,e _ _ hp,rfl,rfl,?_⟩;cbv;refine ⟨p,d,o,F,rfl,hb.same e,m.l35,m.f8,m.fm,fun fl r H3 X c6 e3 C=>?_⟩;have a3:r.length<=8:=by
  have:=sub_len r F C.1 fun z hz=>by
   obtain ⟨t,ht,h | h⟩:=(C.2.2 z).mp hz
   ·rw [h];exact (m.fm t ht).1
   ·rw [h];exact (m.fm t ht).2
  have:=m.f8;ac_nf
 cbv;have a1:∀ s∈Ch.all o,s.src∈r:=fun s M=>(JbK (F:=r) (fun t ht=>⟨(C.2.2 _).mpr ⟨t,ht, .inl rfl⟩,(C.2.2 _).mpr ⟨t,ht, .inr rfl⟩⟩) s M).1;refine ⟨sL,fl,o,F,r,rfl,R.same X,m,SqL.of e3,a3,a1,fun pd kp d8 pb H4 W c8 e4 d7 d4 d3 d9 u=>?_,fun _ _ _ _ H4 W _ _ _ _ np _ _=>kE _ H4 ((e.trans X).trans W) np⟩
 mframe;rename_i J N d1 H4 H5 S5 e5;cbv
 mframe;have b2:=e.trans (X.trans (W.trans S5));have c7:=JaD (e.trans (X.trans W)) N;refine ⟨fL,rfl,ForA.byLN (xs:=Z.map V.str) (hF.same b2) (fun i σ H'=>i<=Z.length/\∃ (v4:Option V) (I:List (Str × Addr)) (kc:List (Key × V)),σ=[some (.ref p),some (.ref fL),some (.ref sL),some (.ref J),v4]/\Same H4 H'/\H' J=some (.dK kc)/\DV (fun a v=>v=.ref a) I kc/\I.length<=i/\(∀ g∈Z.take i, ∃ j,lk I g=some j)/\∀ g j,lk I g=some j->j≠J/\∃ L,TDk K H H' L j/\TTd o [g] L) ⟨Nat.zero_le _,none,[],[],rfl,S5,e5,rfl,Nat.le_refl _,(fun g m=>by simp at m),fun g j h=>by cases h⟩ (fun i σ H' z=>by obtain ⟨_,_,_,_,_,z,_⟩:=z;exact (hF.same (e.trans (X.trans W))).same z) ?_ ?_⟩
 ·rintro i y σ H6 hy ⟨hi,v4,I,kc,rfl,S6,B,D,b8,G,O⟩ N0 a9;rw [List.getElem?_map] at hy;obtain ⟨g,a4,rfl⟩:=Option.map_eq_some_iff.mp hy;have li:=(List.getElem?_eq_some_iff.mp a4).1;have c5:Z.take (i+1)=Z.take i++[g]:=by rw [take_succ,a4];rfl
  have e0:=D.len;have a6:Same H2 H6:=X.trans (W.trans S6);cbv;refine ⟨by show 1<=sizeLine;ac_nf,?_⟩;rename_i gl d0 c9 H6 H7 S7 e7;cbv;obtain ⟨b5,b3,b9⟩:=((R.same a6).same S7).ex;cbv;refine ⟨sL,gl,b5,ssD o,[g],rfl,b3,b9,SqL.of e7,by show 1<=8;decide,b4, .inr u,fun s M=>?_,fun j kt L P H8 S8 q e8 c4 hP hB c2 b6 _=>?_,fun _ _ _ _ _ _ _ _ _ _ np _ _=>absurd u np⟩
  ·obtain ⟨s',c0,rfl⟩:=mem_map.mp M;exact m.fb s' c0
  have hP:P=lsD o [g]:=hP;subst hP;have S:=S7.trans S8;have a5:=S _ _ B;have a7:j≠J:=fun z=>by rw [z,S7 _ _ B] at q;cases q
  have a8:Same H H7:=e.trans (a6.trans S7);cbv;refine ⟨J,_,rfl,DPut.k (k:=Sum.inr g) a5 ∅,?_⟩;generalize u9:upd H8 J _=H9;cbv;have e9:=putE u9;have a0:∀ L j,j≠J->TDk K H H8 L j->TDk K H H9 L j:=fun L j n ⟨kt,h1,h2,h3⟩=>⟨kt,by rw [<- u9,Jah n];exact h1,h2.mono fun _ _ z=>z.putL u9 a5,h3⟩;refine a9 _ _ ⟨li,_,pu I g j,_,rfl,fun c w h=>by rw [<- u9,Jah (Jae h N)];exact S _ _ (S6 _ _ h),e9,D.put rfl,by have:=Jdx (l:=I) (f:=g) (a:=j);ac_nf,fun f hf=>?_,fun f t x=>?_⟩
  ·rw [c5] at hf;rw [lk_pu];by_cases c:g=f
   ·exact ⟨_,if_pos c⟩
   ·rw [if_neg c];cbv;rcases mem_append.mp hf with hf | hf
    ·exact G f hf
    ·exact absurd (mem_singleton.mp hf).symm c
  ·rw [lk_pu] at x;by_cases c:g=f
   ·rw [if_pos c] at x;cases x;subst c;exact ⟨a7,L,a0 _ _ a7 (TDk.base a8 ⟨kt,e8,c4,q⟩),⟨a2,R.bb,b6,c2,hB⟩⟩
   ·rw [if_neg c] at x;obtain ⟨n,c3,h1,h2⟩:=O f t x;exact ⟨n,c3,a0 _ _ n (h1.same S),h2⟩
 ·rintro σ H6 ⟨hi,v4,I,kc,rfl,S6,B,D,b8,G,O⟩;rw [take_of_length_le (by rw [length_map];exact Nat.le_refl _)] at G;cbv;exact k J I kc H6 (e.trans (X.trans (W.trans S6))) B D G (fun g j h=>(O g j h).2) u
abbrev Ba1:Stmt:=inClass (top 47) 10
theorem JgP:Jao ["self","one","other"] ["self","one","other"] (Jac Ba1):=by bv_decide
def JbO (K:W.Frag) (Ad:Adr):Sp:=fun vs H Q E=>∃ (p d:Addr) (ts:List TD) (F:List Str) (one other:Str),vs=[.ref p, .str one, .str other]/\BK K Ad H p d ts/\BkH ts F/\(((∃ t∈ts,one=t.st\/one=t.en)/\∃ t∈ts,other=t.st\/other=t.en)->∀ (q:Addr) (vl vg:V) (tb1 tb2:Tab) (H':Hp),Same H H'->H' q=some (.tup [vl,vg])->TTd ts [one] tb1->TTd ts [other] tb2->BV K H' ((lk tb2 one).map fun e=>subF (0,1) e.1) vl->BV K H' ((lk tb1 other).map (·.1)) vg->(∃ π,Pot π (ssD ts))->Q (.ref q) H')/\(((∃ t∈ts,one=t.st\/one=t.en)/\∃ t∈ts,other=t.st\/other=t.en)->∀ od H',Same H H'->(¬ ∃ π,Pot π (ssD ts))->E (.ref Ad.Impossible) od H')/\(¬ ((∃ t∈ts,one=t.st\/one=t.en)/\∃ t∈ts,other=t.st\/other=t.en)->∀ H',Same H H'->E (.ref Ad.NoFace) none H')
theorem Jgz (F:FunD K "gap" "Book.gap" Ba1 dV f fd) (T:Txt K mg Ad) (m_check_faces:MCal P w K mg base 3 "check_faces" (Jay Ad) ["self","one","other"] (Ja0 K Ad)) (m_chains_of:MCal P w K mg base 7 "chains_of" (Jay Ad) ["self","faces"] (Jba K Ad)) (BaA:Cal P w K mg base 4 "gap_between" ["chains","one","other"] [] (JbB K Ad)):FnOk P w K mg base (CX1 P w) 8 f fd ["self","one","other"] (JbO K Ad):=by
 refine F.okx JgP (fun W H Q E h=>?_) (fun a0 A t s H W Q E x h=>?_)
 ·obtain ⟨p,d,y,F,one,other,rfl,_⟩:=h;rfl
 obtain ⟨p,d,y,F,one,other,rfl,h⟩:=h;refine ⟨_,(Jab (JaW (m_check_faces.m x ⋯ pass1 (pv 0) (Jaa (pv 1) (Jaa (pv 2) Jag)))) (Jaf (Jal (BaA.ev x ⋯ rfl pass1 (Jaa (m_chains_of.m x ⋯ pass1 (pv 0) (Jaa (Jbp (Jaa (pv 1) (Jaa (pv 2) Jag))) Jag)) (Jaa (pv 1) (Jaa (pv 2) Jag))))))),?_⟩
 obtain ⟨z,a,k,Y,kN⟩:=h;obtain ⟨⟨O,D⟩,_⟩:=id z;have sl:(1000:Nat)<=sizeLine:=by decide
 show tSeq _ _ _ [some (.ref p),some (.str one),some (.str other)] H;cbv;refine ⟨p,_,O,_,rfl,D,rfl,rfl,?_⟩;cbv;refine ⟨p,d,y,F,one,other,rfl,z,a.l35,a.f8,a.fm,fun o H1 N=>?_,kN⟩
 mframe;refine ⟨p,_,O,_,rfl,N _ _ D,rfl,rfl,?_⟩;cbv;refine ⟨len2,?_⟩;rename_i fl L B H1 H2 X Z;cbv;have b:=N.trans X;cbv;refine ⟨p,d,y,F,fl,[one,other],rfl,z.same b,a,SqL.of Z,(show 2<=8 by decide),fun cd cb kc I u V hC i r j=>?_,fun R I u np=>Y o R I (b.trans u) np⟩;obtain ⟨M,c⟩:=i one (by simp);obtain ⟨J,g⟩:=i other (by simp);obtain ⟨l,d1,C⟩:=r one M c;obtain ⟨n,d2,G⟩:=r other J g;cbv;refine ⟨cd,one,other,cb,kc,l,n,M,J,H2,rfl,V,hC,c,g,d1,d2,fun v e h=>C.fb a.fb a.l70 h,fun v e h=>G.fb a.fb a.l70 h,fun q vl S H4 U e4 b1 b2=>?_⟩;cbv;exact k o q vl S l n H4 (b.trans (u.trans U)) e4 C G b1 b2 j
abbrev Bam:Stmt:=inClass (top 47) 11
theorem Jbk:Jao ["self","one","other","steps","places","told"] ["self","one","other"] (Jac Bam):=by bv_decide
def JbF (K:W.Frag) (Ad:Adr):Sp:=fun vs H Q E=>∃ (p d:Addr) (ts:List TD) (F:List Str) (one other:Str),vs=[.ref p, .str one, .str other]/\BK K Ad H p d ts/\BkH ts F/\(∀ H' tb,Same H H'->TTd ts [one] tb->lk tb other=none->(∃ π,Pot π (ssD ts))->Q .non H')/\(∀ (q:Addr) (tb:Tab) (e:(Int × Int) × List SpS) (tb0:Tab) (out:List Str) (H':Hp),Same H H'->TTd ts [one] tb->lk tb other=some e->JaQ ts out->TTd ts out tb0->ShV K H H' e (stD ts (fun v=>(lk tb v).map (·.1)) (fun v=>(lk tb0 v).map (·.1)) out) q->(∃ π,Pot π (ssD ts))->Q (.ref q) H')/\∀ od H',Same H H'->(¬ ∃ π,Pot π (ssD ts))->E (.ref Ad.Impossible) od H'
theorem JdC (F:FunD K "farthest" "Book.farthest" Bam dV f fd) (T:Txt K mg Ad) (m_kept:MCal P w K mg base 1 "kept" (Jay Ad) ["self"] (JaY K Ad)) (m_faces:MCal P w K mg base 2 "faces" (Jay Ad) ["self"] (Ja1 K Ad)) (Baw:Cal P w K mg base 6 "steps_of" ["ties"] [] (JbR K Ad)) (Bao:Cal P w K mg base 5 "places_of" ["steps","faces"] [] (JbC K Ad)) (Bag:Cal P w K mg base 4 "chains_from" ["steps","starts"] [] (Jbi K Ad)) (BaD:Cal P w K mg base 3 "stretched_placing" ["steps","reached_chains","places"] [] (Jbc K Ad)):FnOk P w K mg base (CX1 P w) 7 f fd ["self","one","other"] (JbF K Ad):=by
 refine F.okx Jbk (fun vs H Q E h=>?_) (fun c7 A a2 s H vs Q E I h=>?_)
 ·obtain ⟨p,d,o,F,one,other,rfl,_⟩:=h;rfl
 obtain ⟨p,d,o,F,one,other,rfl,h⟩:=h;have hu:=I.units;refine ⟨_,(Jab (Jaj 3 Jbk.nd (Baw.ev I ⋯ rfl pass1 (Jaa (m_kept.m0 I ⋯ pass1 (pv 0)) Jag))) (Jab (Jaj 4 Jbk.nd (Bao.ev I ⋯ rfl pass1 (Jaa (pv 3) (Jaa (m_faces.m0 I ⋯ pass1 (pv 0)) Jag)))) (Jab (Jaj 5 Jbk.nd (Bag.ev I ⋯ rfl pass1 (Jaa (pv 3) (Jaa (Jbp (Jaa (pv 1) Jag)) Jag)))) (Jab (ps_if (Jcd (JbL (hu1 hu) (pv 2) (pv 5)) (by with_unfolding_all rfl)) (Jaf (Jal JaI))
   Jap) (Jaf (Jal (JaP (Jaa (pe_ix ix_U (JaA (hu1 hu) (pv 5) (pv 2) (fun _ _=>rfl)) Jad) (Jaa (pe_ix ix_U (JaA (hu1 hu) (pv 5) (pv 2) (fun _ _=>rfl)) Jad) (Jaa (BaD.ev I ⋯ rfl pass1 (Jaa (pv 3) (Jaa (pv 5) (Jaa (pv 4) Jag)))) Jag)))))))))),?_⟩
 clear hu;obtain ⟨hb,j,k0,k,kE⟩:=h;obtain ⟨⟨dx,hp⟩,_⟩:=id hb;have sl:(1000:Nat)<=sizeLine:=by decide
 have a6:(ssD o).length<=70:=by unfold ssD;rw [length_map];exact j.l70
 show tSeq _ _ _ [some (.ref p),some (.str one),some (.str other),none,none,none] H;cbv;refine ⟨p,_,dx,_,rfl,hp,rfl,rfl,?_⟩;cbv;refine ⟨p,d,o,rfl,hb,fun l ys H1 S1 c8 e1 hA=>?_⟩;cbv;refine ⟨l,ys,o,rfl,SqL.of e1,hA,j.ok,fun s r=>(j.fb s r).mono ⋯ ⋯,j.l35,fun sL sx b H2 S2 e2 D Y c6 b6 a9=>?_⟩;have D:b=bD_ o:=D;subst D;have B:STp K Ad H2 o sL:=⟨⟨sx,SqL.of e2,Jfr a9⟩,Y,fun s r=>⟨(j.fb s r).b1,b6 s r⟩⟩;have x:=S1.trans S2
 mframe;refine ⟨p,_,dx,_,rfl,x _ _ hp,rfl,rfl,?_⟩;cbv;refine ⟨p,d,o,F,rfl,hb.same x,j.l35,j.f8,j.fm,fun fl g H3 S3 c0 e3 c=>?_⟩;have a0:g.length<=8:=by
  have:=sub_len g F c.1 fun z hz=>by
   obtain ⟨t,m,h | h⟩:=(c.2.2 z).mp hz
   ·rw [h];exact (j.fm t m).1
   ·rw [h];exact (j.fm t m).2
  have:=j.f8;ac_nf
 cbv;have V:∀ s∈Ch.all o,s.src∈g:=fun s r=>(JbK (F:=g) (fun t m=>⟨(c.2.2 _).mpr ⟨t,m, .inl rfl⟩,(c.2.2 _).mpr ⟨t,m, .inr rfl⟩⟩) s r).1;refine ⟨sL,fl,o,F,g,rfl,B.same S3,j,SqL.of e3,a0,V,fun pd kp O pb H4 S4 c1 e4 b4 W u b7 n=>?_,fun _ _ _ _ H4 S4 _ _ _ _ np _ _=>kE _ H4 ((x.trans S3).trans S4) np⟩
 mframe;refine ⟨by show 1<=sizeLine;ac_nf,?_⟩;rename_i gl c5 c2 H4 H5 S5 e5;cbv;have R:=S3.trans (S4.trans S5);have U:=x.trans R;obtain ⟨a7,a5,b0⟩:=(B.same R).ex;cbv;refine ⟨sL,gl,a7,ssD o,[one],rfl,a5,b0,SqL.of e5,by show 1<=8;decide,a6, .inr n,fun s r=>?_,fun td kt tb P H6 S6 X e6 L hP hB b2 b9 _=>?_,fun _ _ _ _ _ _ _ _ _ _ np _ _=>absurd n np⟩
 ·obtain ⟨s',b3,rfl⟩:=mem_map.mp r;exact j.fb s' b3
 have hP:P=lsD o [one]:=hP;subst hP;have m:TTd o [one] tb:=⟨Y,B.bb,b9,b2,hB⟩;have M:=U.trans S6
 mframe;refine ⟨td,_,rfl,DGet.k (k:=Sum.inr other) e6,?_⟩;cases ea:lk tb other with
 | none=>
  rw [L.no ea];try simpa only [Option.isSome_none]
  exact k0 H6 tb M m ea n
 | some e=>
  obtain ⟨va,J,q,qv,lc,cx,rfl,hq,a3,a8,b8,b5⟩:=L.at ea;rw [J];try simpa only [Option.isSome_some]
  mframe;refine ⟨td, .ref q,rfl,by rw [<- J];exact DGet.k (k:=Sum.inr other) e6,?_⟩;cbv;refine ixT (i:=0) hq rfl ?_;cbv;refine ⟨td, .ref q,rfl,by rw [<- J];exact DGet.k (k:=Sum.inr other) e6,?_⟩;cbv;refine ixT (i:=1) hq rfl ?_;cbv;have N:lk pb=fun v=>(lk O v).map (·.1):=funext b7;have S:∀ v,(∃ e,lk pb v=some e)↔v∈g:=fun v=>by
   rw [N];show (∃ e,(lk O v).map _=some e)↔_;constructor
   ·rintro ⟨e,he⟩;obtain ⟨a,h1,_⟩:=Option.map_eq_some_iff.mp he;rcases (u.ks v).mp ⟨a,h1⟩ with h | ⟨s,r⟩
    ·exact h
    ·obtain ⟨_,_,_,_,h3,_⟩:=u.be.ex;obtain ⟨m1,m2,_⟩:=h3 v s r;obtain ⟨y,hy,rfl⟩:=mem_map.mp m1;have:=(JbK (F:=g) (fun t m=>⟨(c.2.2 _).mpr ⟨t,m, .inl rfl⟩,(c.2.2 _).mpr ⟨t,m, .inr rfl⟩⟩) y hy).2;rw [<- m2];exact this
   ·intro hv;obtain ⟨a,h1⟩:=(u.ks v).mpr (.inl hv);exact ⟨a.1,by rw [h1];rfl⟩
  have a1:=S5.trans S6;have a4:pb.length<64:=by
   have:=sub_len (pb.map (·.1)) g W fun z hz=>(S z).mp (Jdu hz);rw [length_map] at this;ac_nf
  refine ⟨sL,td,pd,o,tb,pb,H5,rfl,(B.same R).same S6,⟨kt,e6,L,X⟩,⟨kp,a1 _ _ e4,b4.mono fun _ _ z=>FrV.same a1 z⟩,j.fb,fun v e h=>m.fb j.fb j.l70 h,fun v e h=>?_,fun s r=>?_,a4,fun zl zs o2 H7 S7 Z e7 G hQ=>?_⟩
  ·rw [N] at h;obtain ⟨a,h1,h2⟩:=Option.map_eq_some_iff.mp h;rw [<- h2];exact u.fb j.fb j.l70 h1
  ·exact (S s.src).mpr (JbK (F:=g) (fun t m=>⟨(c.2.2 _).mpr ⟨t,m, .inl rfl⟩,(c.2.2 _).mpr ⟨t,m, .inr rfl⟩⟩) s r).1
  have eo:o2=g:=Jej G.2 c.2.1 (G.1.nodup_iff.mpr W) c.1 fun z=>by
   rw [G.1.mem_iff, <- S z];exact ⟨Jdu,fun ⟨e,he⟩=>JfN he⟩
  subst eo;rw [N] at hQ;cbv;refine ⟨by show 3<=sizeLine;ac_nf,?_⟩;rename_i rq c4 c3 H7 H8 S8 e8;cbv;have C:=S7.trans S8;exact k rq tb e O o2 H8 (M.trans C) m ea c u ⟨qv,lc,cx,zl,zs,e8,a3.same C,C _ _ a8,b8.mono (fun _ _ z=>z.sameT C.t),JaD U b5,S8 _ _ e7,hQ.mono (fun _ _ z=>z.sameT S8.t),JaD M Z⟩ n
abbrev BaH:Stmt:=inClass (top 47) 12
theorem Jdc:Jao ["self","one","other","most","found"] ["self","one","other","most"] (Jac BaH):=by bv_decide
def Jbv (K:W.Frag) (Ad:Adr):Sp:=fun vs H Q E=>∃ (p d:Addr) (ts:List TD) (F:List Str) (one other:Str) (most:Bool),vs=[.ref p, .str one, .str other, .bl most]/\BK K Ad H p d ts/\BkH ts F/\(((∃ t∈ts,one=t.st\/one=t.en)/\∃ t∈ts,other=t.st\/other=t.en)->∀ H' tb,Same H H'->TTd ts [if most then one else other] tb->lk tb (if most then other else one)=none->(∃ π,Pot π (ssD ts))->Q .non H')/\(((∃ t∈ts,one=t.st\/one=t.en)/\∃ t∈ts,other=t.st\/other=t.en)->∀ (q:Addr) (tb:Tab) (e:(Int × Int) × List SpS) (tb0:Tab) (out:List Str) (H':Hp),Same H H'->TTd ts [if most then one else other] tb->lk tb (if most then other else one)=some e->JaQ ts out->TTd ts out tb0->ShV K H H' (if most then e.1 else subF (0,1) e.1,e.2) (stD ts (fun v=>(lk tb v).map (·.1)) (fun v=>(lk tb0 v).map (·.1)) out) q->(∃ π,Pot π (ssD ts))->Q (.ref q) H')/\(((∃ t∈ts,one=t.st\/one=t.en)/\∃ t∈ts,other=t.st\/other=t.en)->∀ od H',Same H H'->(¬ ∃ π,Pot π (ssD ts))->E (.ref Ad.Impossible) od H')/\(¬ ((∃ t∈ts,one=t.st\/one=t.en)/\∃ t∈ts,other=t.st\/other=t.en)->∀ H',Same H H'->E (.ref Ad.NoFace) none H')
theorem Jff (F:FunD K "shown" "Book.shown" BaH dV f fd) (T:Txt K mg Ad) (m_check_faces:MCal P w K mg base 3 "check_faces" (Jay Ad) ["self","one","other"] (Ja0 K Ad)) (m_farthest:MCal P w K mg base 7 "farthest" (Jay Ad) ["self","one","other"] (JbF K Ad)) (Bbf:Cal P w K mg base 3 "minus" ["one","other"] [] (Jdd K)):FnOk P w K mg base (CX1 P w) 8 f fd ["self","one","other","most"] (Jbv K Ad):=by
 refine F.okx Jdc (fun vs H Q E h=>?_) (fun b0 A U s H vs Q E D h=>?_)
 ·obtain ⟨p,d,G,F,one,other,most,rfl,_⟩:=h;rfl
 obtain ⟨p,d,G,F,one,other,most,rfl,h⟩:=h;refine ⟨_,(Jab (JaW (m_check_faces.m D ⋯ pass1 (pv 0) (Jaa (pv 1) (Jaa (pv 2) Jag)))) (Jab (ps_if (Jce (pv 3)) (Jaf (Jal (m_farthest.m D ⋯ pass1 (pv 0) (Jaa (pv 1) (Jaa (pv 2) Jag)))))
   Jap) (Jab (Jaj 4 Jdc.nd (m_farthest.m D ⋯ pass1 (pv 0) (Jaa (pv 2) (Jaa (pv 1) Jag)))) (Jab (ps_if (Jan Jbb (pv 4) JaI (Jar _)) (Jaf (Jal JaI))
   Jap) (Jaf (Jal (JaP (Jaa (Bbf.ev D ⋯ rfl pass1 (Jaa (Jdp (v:=.ref _) rfl T.Bb8 T.Bb9) (Jaa (pe_ix ix_U (pv 4) Jad) Jag))) (Jaa (pe_ix ix_U (pv 4) Jad) (Jaa (pe_ix ix_U (pv 4) Jad) Jag)))))))))),?_⟩
 obtain ⟨I,x,k0,k,kE,kN⟩:=h;obtain ⟨⟨dx,R⟩,_⟩:=id I;have sl:(1000:Nat)<=sizeLine:=by decide
 show tSeq _ _ _ [some (.ref p),some (.str one),some (.str other),some (.bl most),none] H;cbv;refine ⟨p,_,dx,_,rfl,R,rfl,rfl,?_⟩;cbv;refine ⟨p,d,G,F,one,other,rfl,I,x.l35,x.f8,x.fm,fun c H1 b=>?_,kN⟩
 mframe;cases most with
 | true=>
  cbv;refine ⟨p,_,dx,_,rfl,b _ _ R,rfl,rfl,?_⟩;cbv;refine ⟨p,d,G,F,one,other,rfl,I.same b,x,fun n u g r O a=>?_,fun q u e y B n g r he hf Z S a=>?_,fun N n g np=>kE c N n (b.trans g) np⟩
  ·cbv;exact k0 c n u (b.trans g) r O a
  ·cbv;obtain ⟨Y,l,cx,zl,zs,C,V,a3,M,a5,L,X,J⟩:=S;exact k c q u e y B n (b.trans g) r he hf Z ⟨Y,l,cx,zl,zs,C,V,a3,M,JaD b a5,L,X,JaD b J⟩ a
 | false=>
  cbv
  mframe;refine ⟨p,_,dx,_,rfl,b _ _ R,rfl,rfl,?_⟩;cbv;refine ⟨p,d,G,F,other,one,rfl,I.same b,x,fun n u g r O a=>?_,fun q u e y B n g r he hf Z S a=>?_,fun N n g np=>kE c N n (b.trans g) np⟩
  ·have u_:=trivial
   mframe;exact k0 c n u (b.trans g) r O a
  ·have u_:=trivial
   mframe;obtain ⟨Y,l,cx,zl,zs,C,V,a3,M,a5,L,X,J⟩:=S;have o:=r.fb x.fb x.l70 he
   mframe;refine ixT (i:=0) (SqT.of C) rfl ?_;cbv;refine ⟨.ref Ad.ZERO,Y,0,1,e.1.1,e.1.2,rfl,⟨Ad.ZERO,rfl,T.Bb3 _⟩,V, .lit ⋯ ⋯, .lit ⋯ ⋯,o.s1.mono ⋯,o.s2.mono ⋯,by decide,o.b1,by decide,o.g1,fun mp H3 W e3=>?_⟩;cbv;refine ixT (i:=1) (SqT.of (W _ _ C)) rfl ?_;cbv;refine ixT (i:=2) (SqT.of (W _ _ C)) rfl ?_;cbv;refine ⟨by show 3<=sizeLine;ac_nf,?_⟩;rename_i rq a9 a0 H3 H4 S4 e4;cbv;have j:=W.trans S4;exact k c rq u e y B H4 (b.trans (g.trans j)) r he hf Z ⟨.ref mp,l,cx,zl,zs,e4,⟨mp,rfl,SqT.of (S4 _ _ e3)⟩,j _ _ a3,M.mono (fun _ _ z=>z.sameT j.t),JaD b a5,j _ _ L,X.mono (fun _ _ z=>z.sameT j.t),JaD b J⟩ a
abbrev Ban:Stmt:=inClass (top 47) 13
theorem Ja3:Jao ["self","chains","told","tie","bounds"] ["self"] (Jac Ban):=by bv_decide
def JbG (K:W.Frag) (Ad:Adr):Sp:=fun vs H Q E=>∃ (p d:Addr) (ts:List TD) (F:List Str),vs=[.ref p]/\BK K Ad H p d ts/\BkH ts F/\(∀ (l:Addr) (ys:List V) (H':Hp),Same H H'->H l=none->H' l=some (.lst ys)->All2 (TV K H') (nwD ts) ys->(∀ t∈ts,(∃ tb,TTd ts [t.st] tb)/\∃ tb,TTd ts [t.en] tb)->(∃ π,Pot π (ssD ts))->Q (.ref l) H')/\∀ od H',Same H H'->(¬ ∃ π,Pot π (ssD ts))->E (.ref Ad.Impossible) od H'
theorem JdD (F:FunD K "narrowed" "Book.narrowed" Ban dV f fd) (T:Txt K mg Ad) (m_faces:MCal P w K mg base 2 "faces" (Jay Ad) ["self"] (Ja1 K Ad)) (m_chains_of:MCal P w K mg base 7 "chains_of" (Jay Ad) ["self","faces"] (Jba K Ad)) (m_kept:MCal P w K mg base 1 "kept" (Jay Ad) ["self"] (JaY K Ad)) (BaA:Cal P w K mg base 4 "gap_between" ["chains","one","other"] [] (JbB K Ad)):FnOk P w K mg base (CX1 P w) 8 f fd ["self"] (JbG K Ad):=by
 refine F.okx Ja3 (fun vs H Q E h=>?_) (fun c0 A a9 s H vs Q E hr h=>?_)
 ·obtain ⟨p,d,l,F,rfl,_⟩:=h;rfl
 obtain ⟨p,d,l,F,rfl,h⟩:=h;refine ⟨_,(Jab (Jaj 1 Ja3.nd (m_chains_of.m hr ⋯ pass1 (pv 0) (Jaa (m_faces.m0 hr ⋯ pass1 (pv 0)) Jag))) (Jab (Jaj 2 Ja3.nd (Jbp Jag)) (Jab (Jbg PassesOwn.leaving rfl (pi_U (m_kept.m0 hr ⋯ pass1 (pv 0))) (Jat 3 Ja3.nd) (Jab (Jaj 4 Ja3.nd (BaA.ev hr ⋯ rfl pass1 (Jaa (pv 1) (Jaa (Jau (pv 3) rfl) (Jaa (Jau (pv 3) rfl) Jag))))) (Jaf (JaW (pe_bm PySem.F.plainAttrs_list PySem.F.slot_list_append PySem.F.type_list_append Jbe (pv 2) (Jaa (JaP (Jaa (Jau (pv 3) rfl) (Jaa (Jau (pv 3) rfl) (Jaa (Jau (pv 3) rfl) (Jaa (pe_ix ix_U (pv 4) Jad) (Jaa (pe_ix ix_U (pv 4) Jad) Jag)))))) Jag) (hs:=by exact Jai rfl)))))) (Jaf (Jal (pv 2)))))),?_⟩
 obtain ⟨hb,b,k,kE⟩:=h;obtain ⟨⟨dx,hp⟩,_⟩:=id hb;have sl:(1000:Nat)<=sizeLine:=by decide
 show tSeq _ _ _ [some (.ref p),none,none,none,none] H;mleave;refine ⟨p,_,dx,_,rfl,hp,rfl,rfl,?_⟩;mleave;refine ⟨p,_,dx,_,rfl,hp,rfl,rfl,?_⟩;mleave;refine ⟨p,d,l,F,rfl,hb,b.l35,b.f8,b.fm,fun fl j H1 S1 b7 e1 hF=>?_⟩;have l8:j.length<=8:=by
  have:=sub_len j F hF.1 fun z hz=>by
   obtain ⟨t,g,h | h⟩:=(hF.2.2 z).mp hz
   ·rw [h];exact (b.fm t g).1
   ·rw [h];exact (b.fm t g).2
  have:=b.f8;ac_nf
 mleave;refine ⟨p,d,l,F,fl,j,rfl,hb.same S1,b,SqL.of e1,l8,fun cd cb kc H2 S2 e2 hC o B a3=>?_,fun od H2 S2 np=>kE od H2 (S1.trans S2) np⟩;have L:=S1.trans S2;have D:∀ t∈l,t.st∈j/\t.en∈j:=fun t g=>⟨(hF.2.2 _).mpr ⟨t,g, .inl rfl⟩,(hF.2.2 _).mpr ⟨t,g, .inr rfl⟩⟩
 (try ((with_reducible refine Nxt.go (by assumption) ?_);mleave))
 mleave;refine ⟨len0,?_⟩;rename_i X J b8 H2 H3 S3 e3;mleave
 (try ((with_reducible refine Nxt.go (by assumption) ?_);mleave))
 mleave;have a5:=L.trans S3;refine ⟨p,_,dx,_,rfl,a5 _ _ hp,rfl,rfl,?_⟩;mleave;refine ⟨p,d,l,rfl,hb.same a5,fun kl ks H4 S4 G e4 hA=>?_⟩;have lA:=hA.length;have c2:=b.l35;have b0:=S3.trans S4;have a4:=JaD L J;mleave;refine ⟨kl,rfl,ForA.byLN (xs:=ks) (SqL.of e4) (fun i σ W=>i<=ks.length/\∃ (v3 v4:Option V) (ys:List V),σ=[some (.ref p),some (.ref cd),some (.ref X),v3,v4]/\Same H2 W/\W kl=some (.lst ks)/\W X=some (.lst ys)/\All2 (OV K Ad W) l ks/\All2 (TV K W) ((l.take i).map (nwT l)) ys) ⟨Nat.zero_le _,none,none,[],rfl,b0,e4,S4 _ _ e3,hA,by rw [take_zero];exact rfl⟩ (fun i σ W z=>by obtain ⟨_,_,_,_,_,_,z,_⟩:=z;exact SqL.of z) ?_ ?_⟩
 ·rintro i y σ H5 hy ⟨hi,v3,v4,ys,rfl,U,a2,R,hO,hT⟩ N0 a8;have li:=(List.getElem?_eq_some_iff.mp hy).1;obtain ⟨t,g,C,vl,vg,⟨q,dq,rfl,hq⟩,b2,c3,c1⟩:=hO.at_ hy;have a1:=List.mem_of_getElem? g;have n:=T.tie _ b2;obtain ⟨t1,u⟩:=o t.st (D t a1).1;obtain ⟨t2,x⟩:=o t.en (D t a1).2;obtain ⟨N,d1,I⟩:=B t.st t1 u;obtain ⟨O,d2,Z⟩:=B t.en t2 x;have lT:=hT.length;rw [length_map,length_take] at lT;mleave;refine ⟨q,_,dq,_, .str t.st,rfl,hq,n.cls,n.n2,rfl,?_⟩;refine ⟨q,_,dq,_, .str t.en,rfl,hq,n.cls,n.n3,rfl,?_⟩;mleave;refine ⟨cd,t.st,t.en,cb,kc,N,O,t1,t2,H1,rfl,U _ _ e2,hC,u,x,d1.same U,d2.same U,fun v e h=>I.fb b.fb b.l70 h,fun v e h=>Z.fb b.fb b.l70 h,fun bp a0 a6 H6 S6 e6 bl bg=>?_⟩;have a:=S6 _ _ R;have M:=S6 _ _ hq
  (try ((with_reducible refine Nxt.go (by assumption) ?_);mleave))
  mleave;refine ⟨.inl ⟨rfl,_,SqL.of a⟩,?_⟩;refine ⟨q,_,dq,_, .str t.nm,rfl,M,n.cls,n.n1,rfl,?_⟩;refine ⟨q,_,dq,_, .str t.st,rfl,M,n.cls,n.n2,rfl,?_⟩;refine ⟨q,_,dq,_, .str t.en,rfl,M,n.cls,n.n3,rfl,?_⟩;mleave;refine ixT (i:=0) (SqT.of e6) rfl ?_;mleave;refine ixT (i:=1) (SqT.of e6) rfl ?_;mleave;refine ⟨len5,?_⟩;rename_i np b6 b9 H6 H7 S e7;mleave;mleave;refine ⟨X,_,_,rfl,rfl,S _ _ a,by ac_nf,?_⟩;generalize u8:upd H7 X _=H8;mleave;have e8:=putE u8;have r:=S6.trans S;have Y:SameT H7 H8:=SameT.put u8 (S _ _ a) rfl;have b4:kl≠X:=fun z=>by rw [z,e3] at G;cases G
  have a7:=S _ _ a;have b1:∀ t v,OV K Ad H7 t v->OV K Ad H8 t v:=fun t v ⟨C,vl,vg,⟨q,dx,e,I⟩,Z,g3,g4⟩=>⟨C,vl,vg,⟨q,dx,e,by rw [<- u8,Jah (fun z=>by rw [z,a7] at I;cases I)];exact I⟩,Z,g3.sameT Y,g4.sameT Y⟩;refine a8 _ _ ⟨li,_,_,_,rfl,fun c w h=>by rw [<- u8,Jah (Jae h J)];exact r _ _ (U _ _ h),by rw [<- u8,Jah b4];exact r _ _ a2,e8,hO.mono (fun t v z=>b1 t v (z.same r)),?_⟩;rw [take_succ,g,map_append];refine (hT.mono (P':=TV K H8) fun _ _ z=>(z.sameT r.t).sameT Y).append (.one ?_);have b3:=bl.sameT (S.t.trans Y);have b5:=bg.sameT (S.t.trans Y);refine ⟨np,a0,a6,rfl,(SqT.of e7).sameT Y,?_,?_⟩
  ·show BV K H8 ((dD l t.en t.st).map (subF (0,1))) a0;rw [dD_eq Z,Option.map_map];exact b3
  ·show BV K H8 (dD l t.st t.en) a6;rw [dD_eq I];exact b5
 ·rintro σ H5 ⟨hi,v3,v4,ys,rfl,U,a2,R,hO,hT⟩;rw [take_of_length_le ∅] at hT;mleave;refine k X ys H5 (L.trans U) a4 R hT (fun t g=>?_) a3;obtain ⟨t1,u⟩:=o t.st (D t g).1;obtain ⟨t2,x⟩:=o t.en (D t g).2;obtain ⟨N,_,I⟩:=B t.st t1 u;obtain ⟨O,_,Z⟩:=B t.en t2 x;exact ⟨⟨N,I⟩,O,Z⟩
abbrev Ba2:Stmt:=inClass (top 47) 4
theorem Jeg:Jao ["self","tie","made"] ["self","tie"] (Jac Ba2):=by bv_decide
def Jc0 (K:W.Frag) (Ad:Adr):Sp:=fun vs H Q E=>∃ (p d:Addr) (v:V) (ts:List TD) (t:TD),vs=[.ref p,v]/\BK K Ad H p d ts/\TV K H t v/\TOk t/\ts.length<=35/\∀ H',Sx d H H'->BK K Ad H' p d (putT ts t)->Q .non H'
theorem JgA (F:FunD K "put" "Book.put" Ba2 dV f fd) (T:Txt K mg Ad) (Bbs:Cal P w K mg base 6 "tie_of" ["thing"] [] (Jde K Ad)):FnOk P w K mg base (CX1 P w) 7 f fd ["self","tie"] (Jc0 K Ad):=by
 refine F.okn Jeg (by subst_eqs) (fun Z A m s H U Q E J h=>?_)
 obtain ⟨p,d,v,Y,t,rfl,h⟩:=h;have L:=J.units;refine ⟨_,(Jab (Jaj 2 Jeg.nd (Bbs.ev J ⋯ rfl passF (Jaa (pv 1) Jag))) (Jaf (JbD (hu1 L) (Jau (pv 0) rfl) (Jau (pv 2) rfl) (pv 2) rfl))),?_⟩
 clear L;obtain ⟨e,g,C,hl,k⟩:=h;have sl:(1000:Nat)<=sizeLine:=by decide
 have y:=T.book Ad.Book rfl;show tSeq _ _ _ [some (.ref p),some v,none] H;try mstart
 refine ⟨v,tdD t,rfl,g.rep,C.sz,fun z=>absurd z (by rw [C.tie];simp),fun _=>?_⟩;obtain ⟨b,vl,O,rfl,R,a,c⟩:=g;refine ⟨b,_,_,_,_,_,_,_,_,_,_,rfl,R,rfl,a.rep,c.rep,fun w x l B=>?_⟩;have X:OV K Ad x t w:=⟨_,vl,O,B,Jfb Ad _ _,a.sameT l.t,c.sameT l.t⟩;obtain ⟨⟨N,j⟩,W,r,D⟩:=e.same l;try mstart
 refine ⟨p,_,N,_, .ref d,rfl,j,y.cls,y.n1,rfl,?_⟩;obtain ⟨q,S,rfl,n⟩:=id B;have G:=T.tie _ (Jfb Ad (bD t.lo) (bD t.hi));try mstart
 refine ⟨q,_,S,_, .str t.nm,rfl,n,G.cls,G.n1,rfl,?_⟩;have lk:=D.length;refine ⟨d,_,rfl,DPut.k (k:=Sum.inr t.nm) r ∅,?_⟩;generalize I:upd x d _=M;have V:=putE I;have o:Sx d x M:=fun b u e h=>by rw [<- I,Jah e];exact h
 refine k M (fun b u e h=>o b u e (l b u h)) ⟨⟨N,o _ _ (fun z=>by rw [z,r] at j;cases j) j⟩,_,V,?_⟩;exact (D.put X).mono fun _ _ z=>z.sx o r
abbrev BaP:Stmt:=inClass (top 47) 5
theorem Jf5:Jao ["self","name"] ["self","name"] (Jac BaP):=by bv_decide
def JcE (K:W.Frag) (Ad:Adr):Sp:=fun vs H Q E=>∃ (p d:Addr) (z:Str) (ts:List TD),vs=[.ref p, .str z]/\BK K Ad H p d ts/\(z∉nms ts->E (.ref Ad.NoName) none H)/\(z∈nms ts->∀ H',Sx d H H'->BK K Ad H' p d (dropT ts z)->Q .non H')
theorem JfQ (F:FunD K "drop" "Book.drop" BaP dV f fd) (T:Txt K mg Ad)  : FnOk P w K mg base (CX1 P w) 1 f fd ["self","name"] (JcE K Ad):=by
 refine F.okx Jf5 (fun y H Q E h=>?_) (fun J A l s H y Q E D h=>?_)
 ·obtain ⟨p,d,z,t,rfl,_⟩:=h;rfl
 obtain ⟨p,d,z,t,rfl,h⟩:=h;have r:=D.units;refine ⟨_,(Jab (ps_if (Jcd (JbL (hu1 r) (pv 1) (Jau (pv 0) rfl)) (by with_unfolding_all rfl)) (Jaf (Jfi PySem.F.excBase_ValueError T.Bby rfl T.Bcd (Jaa Jbf Jag)))
   Jap) (Jaf (JaW (JjF (Jau (pv 0) rfl) (pv 1) ⟨rfl,rfl,rfl,rfl⟩)))),?_⟩
 clear r;obtain ⟨⟨⟨n,a⟩,e,g,m⟩,C,I⟩:=h;have L:(1000:Nat)<=sizeLine:=by decide
 have j:=T.book Ad.Book rfl;show tSeq _ _ _ [some (.ref p),some (.str z)] H;try mstart
 refine ⟨p,_,n,_, .ref d,rfl,a,j.cls,j.n1,rfl,?_⟩;refine ⟨d,_,rfl,DGet.k (k:=Sum.inr z) g,?_⟩;rw [m.val];by_cases c:z∈nms t
 ·rw [decide_eq_true c];try mstart
  refine ⟨p,_,n,_, .ref d,rfl,a,j.cls,j.n1,rfl,?_⟩;have i:=m.val (z:=z);rw [decide_eq_true c] at i;obtain ⟨v,i⟩:=Option.isSome_iff_exists.mp i;refine ⟨d,rfl, .inl ⟨e, .inl g⟩,e,Sum.inr z,v,g,rfl,i,?_⟩;generalize q:upd H d _=x;have B:=putE q;have o:Sx d H x:=fun b u G h=>by rw [<- q,Jah G];exact h
  exact I c x o ⟨⟨n,o _ _ (fun z=>by rw [z,g] at a;cases a) a⟩,_,B,m.drop.mono fun _ _ z=>z.sx o g⟩
 ·rw [decide_eq_false c];try mstart
  exact ⟨by show 1<=sizeLine;ac_nf,C c⟩
abbrev BaB:Stmt:=top 49
theorem JeC:Jao ["_law_script","_law_k"] ["_law_script","_law_k"] (Jac BaB):=by bv_decide
def Jb2 (K:W.Frag):Sp:=fun vs H Q E=>∃ (a:Addr) (ns:List Int) (k:Int),vs=[.ref a, .int k]/\SqL K H a (ns.map V.int)/\ns.length<=63/\0<=k/\∀ v:Int,Q (.int v) H
theorem Jew (F:FunD K "_law_cell_at" "_law_cell_at" BaB dV f fd) (T:Txt K mg Ad)  : FnOk P w K mg base (CX1 P w) 1 f fd ["_law_script","_law_k"] (Jb2 K):=by
 refine F.okn JeC (by subst_eqs) (fun j A b s H g Q E m h=>?_)
 obtain ⟨a,e,k,rfl,h⟩:=h;refine ⟨_,(Jab (ps_if (Jan Jd9 (pv 1) (Jav JaF rfl T.Bbl Jbw (Jaa (pv 0) Jag)) (Jar _)) (Jaf (Jal (pe_ix ix_U (pv 0) (pv 1))))
   Jap) (Jaf (Jal Jad))),?_⟩
 obtain ⟨d,l,i,q⟩:=h;show tSeq _ _ _ [some (.ref a),some (.int k)] H;try mstop
 refine ⟨_, .inl d,?_⟩;simpa only [length_map];obtain ⟨n,rfl⟩:=Int.eq_ofNat_of_zero_le i;by_cases c:n<e.length
 ·rw [if_pos (by simp;ac_nf)];try mstop
  exact ixL d (by rw [List.getElem?_map,List.getElem?_eq_getElem c];rfl) (q _)
 ·rw [if_neg (by simp;ac_nf)];try mstop
  exact q 0
abbrev Bbc:Stmt:=top 51
theorem Ja9:Jao ["_law_digits","_law_places","_law_off","_law_start","_law_end","_law_apart","_law_low","_law_high","_law_faces"] ["_law_digits","_law_places","_law_off"] (Jac Bbc):=by bv_decide
def Jds (K:W.Frag):Sp:=fun vs H Q E=>∃ (c:Int) (p:Addr) (o:Int) (ls:List Int),vs=[.int c, .ref p, .int o]/\SqL K H p (ls.map V.int)/\2<=ls.length/\ls.length<=6/\(∀ l∈ls, -20<=l/\l<=20)/\-20<=o/\o<=20/\∀ x t H',Same H H'->TV K H' t x->TG6 t->Q x H'
theorem JhG (F:FunD K "_law_tie" "_law_tie" Bbc dV f fd) (T:Txt K mg Ad)  : FnOk P w K mg base (CX1 P w) 1 f fd ["_law_digits","_law_places","_law_off"] (Jds K):=by
 refine F.okn Ja9 (by subst_eqs) (fun c1 A a2 s H vs Q E hr h=>?_)
 obtain ⟨c,p,o,C,rfl,h⟩:=h;have a:=hr.units;refine ⟨_,(Jab (Jaj 3 Ja9.nd (pe_op JaR (pv 0) (Jav JaF rfl T.Bbl Jbw (Jaa (pv 1) Jag)))) (Jab (Jaj 4 Ja9.nd (pe_op JaR (pe_op Jbx (pe_op Jbx (pv 3) Jad) (pe_op JaR (pe_op Jaw (pv 0) Jad) (pe_op JcU (Jav JaF rfl T.Bbl Jbw (Jaa (pv 1) Jag)) Jad))) (Jav JaF rfl T.Bbl Jbw (Jaa (pv 1) Jag)))) (Jab (Jaj 5 Ja9.nd (pe_op Jbx (pe_op JcU (pe_ix ix_U (pv 1) (pv 4)) (pe_ix ix_U (pv 1) (pv 3))) (pv 2))) (Jab (Jaj 6 Ja9.nd (JaP (Jaa (pe_op JcU (pv 5) (pe_op JaR (pe_op Jaw (pv 0) Jad) Jad)) (Jaa Jad Jag)))) (Jab (Jaj 7 Ja9.nd (JaP (Jaa (pe_op Jbx (pv 5) (pe_op JaR (pe_op Jaw (pv 0) Jad) Jad)) (Jaa Jad Jag)))) (Jab (ps_if (Jan (JaX a) (pe_op JaR (pe_op Jaw (pv 0) Jad) Jad) Jad (Jar _)) (Jaf (Jaj 6 Ja9.nd JaI))
   Jap) (Jab (ps_if (Jan (JaX a) (pe_op JaR (pe_op Jaw (pv 0) Jad) Jad) Jad (Jar _)) (Jaf (Jaj 7 Ja9.nd JaI))
   Jap) (Jab (Jaj 8 Ja9.nd (Jbp (Jaa Jbf (Jaa Jbf (Jaa Jbf (Jaa Jbf (Jaa Jbf (Jaa Jbf Jag)))))))) (Jaf (Jal (JaP (Jaa (pe_ix ix_U Jbf (pe_op JaR (pe_op Jaw (pv 0) Jad) Jad)) (Jaa (pe_ix ix_U (pv 8) (pv 3)) (Jaa (pe_ix ix_U (pv 8) (pv 4)) (Jaa (pv 6) (Jaa (pv 7) Jag)))))))))))))))),?_⟩
 clear a;obtain ⟨S,c2,c5,hB,o1,o2,q⟩:=h;have sl:(1000:Nat)<=sizeLine:=by decide
 show tSeq _ _ _ [some (.int c),some (.ref p),some (.int o),none,none,none,none,none,none] H;cbv;refine ⟨_, .inl S,?_⟩;simpa only [length_map];refine ⟨by ac_nf,?_⟩
 mframe;mpure
 refine ⟨_, .inl S,?_⟩;simpa only [length_map];refine ⟨by ac_nf,_, .inl S,?_⟩;simpa only [length_map];refine ⟨by ac_nf,?_⟩;generalize hfy:C.length=f at *;have q1:=Mth.fm (x:=c) (y:=(f:Int)) ∅;have q2:=Mth.fm (x:=c.fdiv 6) (y:=(f:Int)-1) ∅;have a4:=Jjm (x:=c.fmod (f:Int)+1+(c.fdiv 6).fmod ((f:Int)-1)) (f:=(f:Int)) ∅ ∅;obtain ⟨d,Y⟩:=Int.eq_ofNat_of_zero_le q1.1;have q7:=Mth.fm (x:=c.fmod (f:Int)+1+(c.fdiv 6).fmod ((f:Int)-1)) (y:=(f:Int)) ∅;obtain ⟨b,a1⟩:=Int.eq_ofNat_of_zero_le q7.1;have b0:d≠b:=fun z=>by
  have : c.fmod (f:Int)=(c.fmod (f:Int)+1+(c.fdiv 6).fmod ((f:Int)-1)).fmod (f:Int):=by rw [a1,Y,z]
  rcases a4 with e | e <;> ac_nf
 rw [a1,Y];have N:d<C.length:=by ac_nf
 have M:b<C.length:=by ac_nf
 have bs:=hB _ (List.getElem_mem N);have be:=hB _ (List.getElem_mem M)
 mframe;refine ixL (i:=b) S (v:=.int C[b]) (by rw [List.getElem?_map,List.getElem?_eq_getElem M];rfl) ?_;refine ixL (i:=d) S (v:=.int C[d]) (by rw [List.getElem?_map,List.getElem?_eq_getElem N];rfl) ?_;cbv;generalize hAA:C[b]-C[d]+o=AA at *
 mframe;mpure
 have m5:=Mth.fm (x:=c.fdiv 36) (y:=7) ⋯;have n5:=Mth.fm (x:=c.fdiv 252) (y:=7) ⋯;have W:∀ x:Int, -100<=x->x<=100->FB 8 1 (x,1):=fun x h1 h2=>⟨.lit (show -(2 ^ 8)<x by ac_nf) (show x<2 ^ 8 by ac_nf), .lit (show -(2 ^ 1)<(1:Int) by decide) (show (1:Int)<2 ^ 1 by decide),(show (1:Int)<=1 by decide),by unfold Mth.g;simp⟩;refine ⟨len2,?_⟩;rename_i R a8 a9 H H1 S1 e1;cbv
 mframe;mpure
 refine ⟨len2,?_⟩;rename_i G a7 b5 H1 n S2 e2;cbv;have b1:FB 8 1 (AA-(c.fdiv 36).fmod 7,1):=W _ ∅ ∅;have b2:FB 8 1 (AA+(c.fdiv 252).fmod 7,1):=W _ ∅ ∅;have b6:lessF (AA+(c.fdiv 252).fmod 7,1) (AA-(c.fdiv 36).fmod 7,1)=false:=by
  unfold lessF;simp;ac_nf
 have a3:FrV K n (.ref R) (AA-(c.fdiv 36).fmod 7) 1:=FrV.of (S2 _ _ e1);have f2:FrV K n (.ref G) (AA+(c.fdiv 252).fmod 7) 1:=FrV.of e2;generalize hLL:((AA-(c.fdiv 36).fmod 7,1):Int × Int)=LL at *;generalize hHH:((AA+(c.fdiv 252).fmod 7,1):Int × Int)=HH at *;have f1:FrV K n (.ref R) LL.1 LL.2:=by rw [<- hLL];exact a3
 have a6:FrV K n (.ref G) HH.1 HH.2:=by rw [<- hHH];exact f2
 mframe;mpure
 rename_i N2 c3;have B:∀ (L:Option (Int × Int)) (j:V),BV K n L j->(∀ u,L=some u->u=LL)->N2 [some (.int c),some (.ref p),some (.int o),some (.int (d:Int)),some (.int (b:Int)),some (.int AA),some j,some (.ref G),none] n:=by
  intro L j b4 Z
  mframe;mpure
  rename_i N3 c4;have r:∀ (J:Option (Int × Int)) (I:V),BV K n J I->(∀ u,J=some u->u=HH)->N3 [some (.int c),some (.ref p),some (.int o),some (.int (d:Int)),some (.int (b:Int)),some (.int AA),some j,some I,none] n:=by
   intro J I b3 X;have q5:=Mth.fm (x:=c.fdiv 44100) (y:=5) ⋯;obtain ⟨m,hm⟩:=Int.eq_ofNat_of_zero_le q5.1;have m5:m<5:=by ac_nf
   have a5:atI (Str.ofString "abcde").cps.toList (m:Int)=some (97+m):=by
    have e:(Str.ofString "abcde").cps.toList=List.range' 97 5:=by decide
    rw [e];refine JdQ ?_;rw [List.getElem?_range' ∅];simp
   have l8:faceL.length=6:=by decide
   have l:faceL[d]?=some faceL[d]:=List.getElem?_eq_getElem ∅;have k:faceL[b]?=some faceL[b]:=List.getElem?_eq_getElem ∅
   mframe;refine ⟨by show 6<=sizeLine;decide,?_⟩;rename_i fl b7 b8 n H3 S3 e3;cbv;have a0:H3 fl=some (.lst (faceL.map V.str)):=e3
   mframe;mpure
   rw [hm];refine ⟨97+m,by decide,a5,?_⟩;cbv;refine ixL (i:=d) (SqL.of a0) (v:=.str faceL[d]) (by rw [List.getElem?_map,l];rfl) ?_;cbv;refine ixL (i:=b) (SqL.of a0) (v:=.str faceL[b]) (by rw [List.getElem?_map,k];rfl) ?_;cbv;refine ⟨len5,?_⟩;rename_i px c0 b9 H3 H4 S4 e4;cbv;have D:=S3.trans S4;have O:∀ u,L=some u->FB 8 1 u:=fun u a=>by rw [Z u a];exact b1
   have fh:∀ u,J=some u->FB 8 1 u:=fun u a=>by rw [X u a];exact b2
   have U:(⟨#[97+m]⟩:Str)∈nm5L:=mem_map.mpr ⟨m,List.mem_range.mpr m5,rfl⟩;refine q (.ref px) ⟨⟨#[97+m]⟩,faceL[d],faceL[b],L,J⟩ H4 (S1.trans (S2.trans D)) ⟨px,_,_,rfl,SqT.of e4,b4.sameT D.t,b3.sameT D.t⟩ ⟨⟨?_,Jg5 _ (List.mem_of_getElem? l),Jg5 _ (List.mem_of_getElem? k),fun z=>?_,fun u a=>(O u a).ok ⋯ ⋯,fun u a=>(fh u a).ok ⋯ ⋯,?_⟩,U,List.mem_of_getElem? l,List.mem_of_getElem? k,O,fh⟩
   ·exact (show ∀ z∈nm5L,nameS z=true by decide) _ U
   ·have z':faceL[d]=faceL[b]:=z;exact b0 (Jjk l (by rw [z'];exact k))
   ·show lessD (bD J) (bD L)=false;cases J with
    | none=>rfl
    | some u=>
     cases L with
     | none=>rfl
     | some w=>
      rw [Z w rfl,X u rfl];simpa [bD,frD,lessD,lessF] using b6
  split
  ·exact r none .non rfl (fun u a=>by cases a)
  ·exact r (some HH) _ a6 (fun u a=>by cases a;rfl)
 split
 ·exact B none .non rfl (fun u a=>by cases a)
 ·exact B (some LL) _ f1 (fun u a=>by cases a;rfl)
abbrev BaQ:Stmt:=top 50
theorem JaJ:Jao ["_law_ties","_law_placing","_law_there","_law_name","_law_start","_law_end","_law_low","_law_high","_law_one","_law_other","_law_top","_law_bottom"] ["_law_ties","_law_placing"] (Jac BaQ):=by bv_decide
def JbY (K:W.Frag):Sp:=fun vs H Q E=>∃ (a c:Addr) (xs zs:List V) (ts:List TD) (F:List Str) (ps:Pl),vs=[.ref a, .ref c]/\SqL K H a xs/\All2 (TV K H) ts xs/\BkH ts F/\H c=some (.lst zs)/\All2 (QV K H) ps zs/\JaQ ts (ps.map (·.1))/\(∀ z∈ps.map (·.1),FB 1711 701 (look ps z))/\(∀ t∈ts,okT ps t=true)/\∀ H',Same H H'->Q (.bl true) H'
theorem JfY (F:FunD K "_law_holds" "_law_holds" BaQ dV f fd) (T:Txt K mg Ad)  : FnOk P w K mg base (CX1 P w) 1 f fd ["_law_ties","_law_placing"] (JbY K):=by
 refine F.okn JaJ (by subst_eqs) (fun e4 A b7 s H vs Q E hr h=>?_)
 obtain ⟨a,c,xs,zs,ts,F,d,rfl,h⟩:=h;have Z:=hr.units;refine ⟨_,(Jab (ps_if (Jan (Jcx Z) (Jbt (own:=["_law_pair"]) (cs:=[]) rfl (pi_U (pv 1)) (fun _ _ _ _=>(Jat 0 (show [("_law_pair" : Str)].Nodup by decide))) (fun _ _ _ _=>(pe_ix (ix_UK (K:=K) rfl) (pv 0) Jad)) (JbU rfl) ⋯ rfl ⋯ hcs0) (Jed rfl rfl rfl rfl T.Bbx Jcv rfl T.n_set Jka (Jaa (pe_op Jbx (Jbt (own:=["_law_tie_here"]) (cs:=[]) rfl (pi_U (pv 0)) (fun _ _ _ _=>(Jat 0 (show [("_law_tie_here" : Str)].Nodup by decide))) (fun _ _ _ _=>(pe_ix (ix_UK (K:=K) rfl) (pv 0) Jad)) (JbU rfl) ⋯ rfl ⋯ hcs0) (Jbt (own:=["_law_tie_here"]) (cs:=[]) rfl (pi_U (pv 0)) (fun _ _ _ _=>(Jat 0 (show [("_law_tie_here" : Str)].Nodup by decide))) (fun _ _ _ _=>(pe_ix (ix_UK (K:=K) rfl) (pv 0) Jad)) (JbU rfl) ⋯ rfl ⋯ hcs0)) Jag)) (Jar _)) (Jaf (Jal pe_bl))
   Jap) (Jab (Jaj 2 JaJ.nd (Jcy (JeF rfl) rfl T.n_dict JhX (Jaa (pv 1) Jag))) (Jab (Jbg PassesOwn.never rfl (pi_U (pv 0)) (Jf3 rfl (JaT (Jat 3 JaJ.nd) (JaT (Jat 4 JaJ.nd) (JaT (Jat 5 JaJ.nd) (JaT (Jat 6 JaJ.nd) (JaT (Jat 7 JaJ.nd) Jdq)))))) (Jab (Jaj 8 JaJ.nd (JaA (hu1 Z) (pv 2) (pv 4) (fun _ _=>rfl))) (Jab (Jaj 9 JaJ.nd (JaA (hu1 Z) (pv 2) (pv 5) (fun _ _=>rfl))) (Jab (Jaj 10 JaJ.nd (pe_op JcU (pe_op JaH (pe_ix ix_U (pv 9) Jad) (pe_ix ix_U (pv 8) Jad)) (pe_op JaH (pe_ix ix_U (pv 8) Jad) (pe_ix ix_U (pv 9) Jad)))) (Jab (Jaj 11 JaJ.nd (pe_op JaH (pe_ix ix_U (pv 8) Jad) (pe_ix ix_U (pv 9) Jad))) (Jab (ps_if (PW.pt (Jdy (Jan Jck (pv 6) JaI (Jar _)) (JcB (Jan Jd9 (pe_op JaH (pv 10) (pe_ix ix_U (pv 6) Jad)) (pe_op JaH (pe_ix ix_U (pv 6) Jad) (pv 11)) (Jar _))))) (Jaf (Jal pe_bl))
   Jap) (Jaf (ps_if (PW.pt (Jdy (Jan Jck (pv 7) JaI (Jar _)) (JcB (Jan Jd9 (pe_op JaH (pe_ix ix_U (pv 7) Jad) (pv 11)) (pe_op JaH (pv 10) (pe_ix ix_U (pv 7) Jad)) (Jar _))))) (Jaf (Jal pe_bl))
   Jap)))))))) (Jaf (Jal pe_bl))))),?_⟩
 clear Z;obtain ⟨hS,hR,O,hC,hP,M,b2,d3,k⟩:=h;have sl:(1000:Nat)<=sizeLine:=by decide
 have lx:=hR.length;have lz:=hP.length;have e3:=O.l35;have d6:d.length<=8:=by
  have:=sub_len (d.map (·.1)) F M.1 fun z m=>by
   obtain ⟨t,l,h | h⟩:=(M.2.2 z).mp m
   ·rw [h];exact (O.fm t l).1
   ·rw [h];exact (O.fm t l).2
  have:=O.f8;rw [length_map] at *;ac_nf
 show tSeq _ _ _ [some (.ref a),some (.ref c),none,none,none,none,none,none,none,none,none,none] H;cbv;refine ⟨c,rfl, .inl ⟨⟨_,SqL.of hC⟩,CompJ.list (xs:=zs) (fun j o n=>n=H/\o=((d.take j).map (·.1)).map V.str) ⟨rfl,rfl⟩ (fun j o n hj z=>⟨by rw [z.1];exact SqL.of hC,by rw [z.2];simp only [length_map,length_take];ac_nf⟩) ?_ ?_⟩⟩
 ·rintro j y o H6 hy ⟨rfl,rfl⟩;obtain ⟨r,hr,b,v,rfl,hb,hf⟩:=hP.at_ hy;simpa only [length_singleton,length_cons,length_nil,List.replicate,Jaz,map_cons,map_nil,Option.join_some];refine ixT (i:=0) (SqT.of hb) rfl ?_;cbv;rw [take_succ,hr];simp
 rintro o H6 ⟨rfl,rfl⟩;rw [take_of_length_le ∅];rename_i nl e1 d5 H6 H0 S0 e0;cbv;cbv;have S:=hS.same S0;have b4:=hR.mono (P':=TV K H0) fun _ _ z=>z.sameT S0.t;refine ⟨a,rfl, .inl ⟨⟨xs,S⟩,CompJ.list (xs:=xs) (fun i o n=>n=H0/\o=((ts.take i).map (·.st)).map V.str) ⟨rfl,rfl⟩ (fun i o n hi z=>⟨by rw [z.1];exact S,by rw [z.2];simp only [length_map,length_take];ac_nf⟩) ?_ ?_⟩⟩
 ·rintro i x o n hx ⟨rfl,rfl⟩;simpa only [length_singleton,length_cons,length_nil,List.replicate,Jaz,map_cons,map_nil,Option.join_some];obtain ⟨t,l,b,vl,vg,rfl,hq,_,_⟩:=b4.at_ hx;refine ixT (i:=1) hq rfl ?_;cbv;rw [take_succ,l];simp
 rintro o n ⟨rfl,rfl⟩;rw [take_of_length_le ∅];rename_i c1 d4 c0 n H5 S5 e5;cbv;have c7:=b4.mono (P':=TV K H5) fun _ _ z=>z.sameT S5.t;have b3:=S.same S5;cbv;refine ⟨a,rfl, .inl ⟨⟨xs,b3⟩,CompJ.list (xs:=xs) (fun i o n=>n=H5/\o=((ts.take i).map (·.en)).map V.str) ⟨rfl,rfl⟩ (fun i o n hi z=>⟨by rw [z.1];exact b3,by rw [z.2];simp only [length_map,length_take];ac_nf⟩) ?_ ?_⟩⟩
 ·rintro i x o n hx ⟨rfl,rfl⟩;simpa only [length_singleton,length_cons,length_nil,List.replicate,Jaz,map_cons,map_nil,Option.join_some];obtain ⟨t,l,b,vl,vg,rfl,hq,_,_⟩:=c7.at_ hx;refine ixT (i:=2) hq rfl ?_;cbv;rw [take_succ,l];simp
 rintro o c5 ⟨rfl,rfl⟩;rw [take_of_length_le ∅];intro a7 Y;generalize D:upd c5 a7 _=H6;have S6:=newS Y D;have e6:=newE D;cbv;refine .inl ⟨c1,a7,_,_,rfl,rfl,S6 _ _ e5,e6,by simp only [length_map];ac_nf,?_⟩;rename_i lc d7 d8 H6 H7 S7 e7;cbv;cbv;refine ⟨lc,ts.map (·.st)++ts.map (·.en),rfl,by rw [map_append];exact SqL.of e7,by simp only [length_append,length_map];ac_nf,⟨F,by have:=O.f8;ac_nf,fun z m=>?_⟩,fun so o2 b5 c4 b6 b9=>?_⟩
 ·rcases mem_append.mp m with m | m
  ·obtain ⟨t,l,rfl⟩:=mem_map.mp m;exact (O.fm t l).1
  ·obtain ⟨t,l,rfl⟩:=mem_map.mp m;exact (O.fm t l).2
 generalize N:upd H7 so _=H8;have S8:=newS b5 N;have e8:=newE N;have a9:=S5.trans (S6.trans (S7.trans S8));have eo:o2=d.map (·.1):=Jej b9 M.2.1 c4 M.1 fun z=>by
  rw [b6 z,M.2.2];constructor
  ·intro m;rcases mem_append.mp m with m | m
   ·obtain ⟨t,l,rfl⟩:=mem_map.mp m;exact ⟨t,l, .inl rfl⟩
   ·obtain ⟨t,l,rfl⟩:=mem_map.mp m;exact ⟨t,l, .inr rfl⟩
  ·rintro ⟨t,l,rfl | rfl⟩
   ·exact mem_append_left _ (mem_map.mpr ⟨t,l,rfl⟩)
   ·exact mem_append_right _ (mem_map.mpr ⟨t,l,rfl⟩)
 subst eo;have W:=S0.trans a9;cbv;refine JlQ (SqL.of (a9 _ _ e0)) (SqL.of e8) ?_;rw [decide_eq_true rfl];cbv
 mframe;have b8:=hP.mono (P':=QV K H8) fun _ _ z=>z.sameT W.t;obtain ⟨as,qs,c8,d1,c3,a6,a5⟩:=QV.refs b8;refine ⟨c,as,qs,rfl,by rw [<- c8];exact W _ _ hC,d1,c3,?_⟩;rename_i dd e2 d9 H8 H9 S9 e9;cbv;have L:=W.trans S9
 mframe;refine ⟨a,rfl,ForA.byLN (xs:=xs) (hS.same L) (fun i σ n=>∃ (v3 v4 v5 v6 v7 v8 v9 a2 a0:Option V),σ=[some (.ref a),some (.ref c),some (.ref dd),v3,v4,v5,v6,v7,v8,v9,a2,a0]/\n=H9) ⟨_,_,_,_,_,_,_,_,_,rfl,rfl⟩ (fun i σ n z=>by obtain ⟨_,_,_,_,_,_,_,_,_,_,rfl⟩:=z;exact hS.same L) ?_ ?_⟩
 ·rintro i y σ HD hy ⟨v3,v4,v5,v6,v7,v8,v9,a2,a0,rfl,rfl⟩ N0 a4;obtain ⟨t,l,d0⟩:=hR.at_ hy;have J:=List.mem_of_getElem? l;obtain ⟨b,a1,vg,rfl,hq,q,p⟩:=d0.sameT L.t;have ok:=O.ok t J;have ms:t.st∈d.map (·.1):=(M.2.2 _).mpr ⟨t,J, .inl rfl⟩;have me:t.en∈d.map (·.1):=(M.2.2 _).mpr ⟨t,J, .inr rfl⟩;obtain ⟨ve,c2,c6⟩:=Jc7 a6 M.1 a5 me;obtain ⟨vs,c9,d2⟩:=Jc7 a6 M.1 a5 ms;have fe:=c6.same S9;have fs:=d2.same S9;have G:=b2 _ me;have I:=b2 _ ms;have g:=d3 t J;have ba:1<=(apart d t).2:=Mth.JbJ (Int.mul_ne_zero (by have:=G.b1;ac_nf) (by show (look d t.st).2≠0;have:=I.b1;ac_nf));have ea:vl (apart d t)=vl (look d t.en)-vl (look d t.st):=by
   unfold apart;rw [JeV G.b1 (show 1<=(negF (look d t.st)).2 from I.b1),Jeq,Rat.sub_eq_add_neg]
  have ex:=Jj3 I.b1 G.b1;rw [<- ea] at ex;have bt:1<=(look d t.st).2*(look d t.en).2:=by
   have h1:=I.b1;have h2:=G.b1;exact Int.le_trans h1 (by have:=Int.mul_le_mul_of_nonneg_left h2 (show 0<=(look d t.st).2 by ac_nf);rw [Int.mul_one] at this;exact this)
  unfold okT okB at g;rw [Bool.and_eq_true] at g;have a8:∀ u v:Int × Int,1<=u.2->1<=v.2->vl u=vl (apart d t)->1<=v.2->(lessF (apart d t) v=false->lessF u v=false)/\(lessF v (apart d t)=false->lessF v u=false):=fun u v Z B e _=>by
   constructor
   ·intro h;cases z:lessF u v with
    | false=>rfl
    | true=>
     have:=(Jco Z B).mp z;rw [e] at this;rw [(Jco ba B).mpr this] at h;cases h
   ·intro h;cases z:lessF v u with
    | false=>rfl
    | true=>
     have:=(Jco B Z).mp z;rw [e] at this;rw [(Jco B ba).mpr this] at h;cases h
  cbv;refine ⟨b,_,rfl,hq,rfl,?_⟩;cbv;refine ⟨dd,vs,rfl,by rw [<- c9];exact DGet.k (k:=Sum.inr t.st) e9,?_⟩
  mframe;refine ⟨dd,ve,rfl,by rw [<- c2];exact DGet.k (k:=Sum.inr t.en) e9,?_⟩
  mframe;refine ixF0 fe ?_;cbv;refine ixF1 fs ?_;cbv;refine ⟨mulOk G.s1 I.s2,?_⟩;refine ixF0 fs ?_;cbv;refine ixF1 fe ?_;cbv;refine ⟨mulOk I.s1 G.s2,?_⟩
  mframe;refine ixF1 fs ?_;cbv;refine ixF1 fe ?_;cbv;refine ⟨mulOk I.s2 G.s2,?_⟩;have a3:=(G.s1.mul I.s2).sub (I.s1.mul G.s2);have b0:=I.s2.mul G.s2;generalize (look d t.en).1*(look d t.st).2-(look d t.st).1*(look d t.en).2=tp at *;generalize (look d t.st).2*(look d t.en).2=bt_ at *
  mframe;rename_i N2 f0;have C:N2 [some (.ref a),some (.ref c),some (.ref dd),some (.str t.nm),some (.str t.st),some (.str t.en),some a1,some vg,some vs,some ve,some (.int tp),some (.int bt_)] HD:=by
   mframe;cases hh:t.hi with
   | none=>
    rw [hh] at p;replace p:vg=.non:=p;subst p;cbv;exact a4 _ _ ⟨_,_,_,_,_,_,_,_,_,rfl,rfl⟩
   | some B=>
    have oh:=ok.hi B hh;rw [hh] at p g;have fh:FrV K HD vg B.1 B.2:=p;obtain ⟨pg,rfl,_⟩:=id fh;have m:(!lessF B (apart d t))=true:=g.2;have X:=(a8 (tp,bt_) B bt oh.b1 ex oh.b1).2 (by simpa using m);try simpa only [Option.isSome_none]
    try rw [if_pos (by simp)]
    refine ixF0 fh ?_;try simpa only [Option.isSome_none]
    refine ⟨mulOk oh.s1 b0,?_⟩;refine ixF1 fh ?_;try simpa only [Option.isSome_none]
    refine ⟨mulOk a3 oh.s2,?_⟩;try simpa only [Option.isSome_none]
    have U:decide (B.1*bt_<tp*B.2)=false:=X;rw [U];cbv;exact a4 _ _ ⟨_,_,_,_,_,_,_,_,_,rfl,rfl⟩
  cases hlw:t.lo with
  | none=>
   rw [hlw] at q;replace q:a1=.non:=q;subst q;try simpa only [Option.isSome_none]
   exact C
  | some lv=>
   have ol:=ok.lo lv hlw;rw [hlw] at q g;have R:FrV K HD a1 lv.1 lv.2:=q;obtain ⟨pl,rfl,_⟩:=id R;have m:(!lessF (apart d t) lv)=true:=g.1;have X:=(a8 (tp,bt_) lv bt ol.b1 ex ol.b1).1 (by simpa using m);try simpa only [Option.isSome_none]
   try rw [if_pos (by simp)]
   refine ixF1 R ?_;try simpa only [Option.isSome_none]
   refine ⟨mulOk a3 ol.s2,?_⟩;refine ixF0 R ?_;try simpa only [Option.isSome_none]
   refine ⟨mulOk ol.s1 b0,?_⟩;try simpa only [Option.isSome_none]
   have U:decide (tp*lv.2<lv.1*bt_)=false:=X;rw [U];try simpa only [Option.isSome_none]
   exact C
 ·rintro σ HD ⟨v3,v4,v5,v6,v7,v8,v9,a2,a0,rfl,rfl⟩;cbv;exact k HD L
abbrev Bbd:Stmt:=top 52
theorem JeS:Jao ["_law_book","_law_ties","_law_tie_here","_law_drop","_law_names"] ["_law_book","_law_ties","_law_tie_here","_law_drop"] (Jac Bbd):=by bv_decide
def Jdr (K:W.Frag) (Ad:Adr):Sp:=fun vs H Q E=>∃ (p d l:Addr) (x:V) (t:TD) (dr:Bool) (xs:List V) (ts:List TD),vs=[.ref p, .ref l,x, .bl dr]/\BK K Ad H p d ts/\H l=some (.lst xs)/\All2 (TV K H) ts xs/\G6 ts/\TV K H t x/\TG6 t/\∀ ts' xs' H',(∀ b u,b≠d->b≠l->H b=some u->H' b=some u)->BK K Ad H' p d ts'->H' l=some (.lst xs')->All2 (TV K H') ts' xs'->G6 ts'->Q (.bl true) H'
theorem JhF (F:FunD K "_law_put" "_law_put" Bbd dV f fd) (T:Txt K mg Ad) (m_drop:MCal P w K mg base 1 "drop" (Jay Ad) ["self","name"] (JcE K Ad)) (m_put:MCal P w K mg base 7 "put" (Jay Ad) ["self","tie"] (Jc0 K Ad)):FnOk P w K mg base (CX1 P w) 9 f fd ["_law_book","_law_ties","_law_tie_here","_law_drop"] (Jdr K Ad):=by
 refine F.okn JeS (by subst_eqs) (fun b1 A a7 s H vs Q E hr h=>?_)
 obtain ⟨p,d,l,x,t,dr,xs,c,rfl,h⟩:=h;refine ⟨_,(Jab (JhJ (j:=4) (own:=["_law_row"]) (cs:=[]) JeS.nd rfl (Or.inl rfl) rfl (pi_U (pv 1)) (fun _ _ _ _=>(Jat 0 (show [("_law_row" : Str)].Nodup by decide))) (fun _ _ _ _=>(pe_ix (ix_UK (K:=K) rfl) (pv 0) Jad)) (JbU rfl) ⋯ rfl ⋯ hcs0) (Jab (ps_if (PW.pt (Jdy (Jan Jhh (pe_ix ix_U (pv 2) Jad) (pv 4) (by with_unfolding_all rfl)) (JcB (Jce (pv 3))))) (Jab (JaW (m_drop.m hr ⋯ passF (pv 0) (Jaa (pe_ix ix_U (pv 2) Jad) Jag))) (Jab (JaW (pe_bm PySem.F.plainAttrs_list PySem.F.slot_list_pop PySem.F.type_list_pop Jjx (pv 1) (Jaa (pe_bm PySem.F.plainAttrs_list PySem.F.slot_list_index PySem.F.type_list_index Jhf (pv 4) (Jaa (pe_ix ix_U (pv 2) Jad) Jag)) Jag))) (Jaf (Jal pe_bl))))
   Jap) (Jab (JaW (m_put.m hr ⋯ passF (pv 0) (Jaa (pv 2) Jag))) (Jab (ps_if (Jan Jhh (pe_ix ix_U (pv 2) Jad) (pv 4) (by with_unfolding_all rfl)) (Jaf (JiP (pv 2) (JlY (pv 1) (pe_bm PySem.F.plainAttrs_list PySem.F.slot_list_index PySem.F.type_list_index Jhf (pv 4) (Jaa (pe_ix ix_U (pv 2) Jad) Jag)) set_list))) (Jaf (JaW (pe_bm PySem.F.plainAttrs_list PySem.F.slot_list_append PySem.F.type_list_append Jbe (pv 1) (Jaa (pv 2) Jag) (hs:=by exact Jai rfl))))) (Jaf (Jal pe_bl)))))),?_⟩
 obtain ⟨R,e0,hA,N,tv,tg,k⟩:=h;have sl:(1000:Nat)<=sizeLine:=by decide
 have l5:=(bkh6 N.all N.nd).2;have la:=hA.length;have a8:∀ (i:Nat),((c.take i).map fun t=>V.str t.nm).length<=6:=fun i=>by rw [length_map,length_take];ac_nf
 show tSeq _ _ _ [some (.ref p),some (.ref l),some x,some (.bl dr),none] H;try mstop
 refine ⟨l,rfl, .inl ⟨⟨xs,SqL.of e0⟩,CompJ.list (xs:=xs) (fun i I H'=>H'=H/\I=(c.take i).map fun t=>V.str t.nm) ⟨rfl,rfl⟩ (fun i I H' hi z=>⟨by rw [z.1];exact SqL.of e0,by rw [z.2];have:=a8 i;ac_nf⟩) ?_ ?_⟩⟩
 ·rintro i x I H' hx ⟨rfl,rfl⟩;simpa only [length_singleton,List.replicate,Jaz,map_cons,map_nil,Option.join_some];obtain ⟨t,ht,b,vl,vg,rfl,U,_,_⟩:=hA.at_ hx;refine ixT (i:=0) U rfl ?_;rw [take_succ,ht];simp
 ·rintro I H' ⟨rfl,rfl⟩;rw [take_of_length_le ∅];rename_i J M a9 H' H3 X e2;have C:H3 J=some (.lst ((nms c).map V.str)):=by
   rw [e2,map_map];rfl
  have Z:=R.same X;have a1:=hA.mono (P':=TV K H3) fun _ _ w=>w.sameT X.t;have S:=tv.sameT X.t;have D:=X _ _ e0;have a3:((nms c).map V.str).all flatV=true:=by simp [flatV]
  obtain ⟨⟨dx,hp⟩,b0,L,_⟩:=id Z;have a6:l≠d:=fun w=>by rw [w,L] at D;cases D
  have a4:J≠d:=fun w=>by rw [w,L] at C;cases C
  have b3:J≠l:=fun w=>by rw [w,e0] at M;cases M
  obtain ⟨b,vl,vg,rfl,U,b4,b2⟩:=id S;try try mstop
  refine ixT (i:=0) U rfl ?_;try try mstop
  refine ⟨J,_,rfl, .inl (SqL.of C),rfl,a3,?_⟩;rw [if_neg ⋯,Jcj];refine ⟨_,rfl,iteAB (fun Y h2=>?_) ?_⟩
  ·have W:t.nm∈nms c:=by simpa using Y
   refine ⟨p,_,dx,_,rfl,hp,rfl,rfl,?_⟩;refine ixT (i:=0) U rfl ?_;refine ⟨p,d,t.nm,c,rfl,Z,fun h=>absurd W h,fun _ y r G=>?_⟩;have a:=r _ _ a6 D;have v:=r _ _ a4 C;obtain ⟨j,O⟩:=List.getElem?_of_mem W;have g:=O;unfold nms at g;rw [List.getElem?_map] at g;obtain ⟨u,hu,eu⟩:=Option.map_eq_some_iff.mp g;have lj:j<xs.length:=by have:=(List.getElem?_eq_some_iff.mp hu).1;ac_nf
   refine ⟨.inl ⟨rfl,_,SqL.of a⟩, .inl ⟨rfl,_,SqL.of v⟩,?_⟩;refine ixT (i:=0) (U.sameT (r.t L)) rfl ?_;refine ⟨J,nms c,t.nm,j,rfl,rfl,v,O,Jhg N.nd O,?_⟩;refine ⟨l,xs,(j:Int),j,_,rfl,rfl,a,by ac_nf,by ac_nf,(by have:=seqIndex_of (k:=(j:Int)) (n:=xs.length) ∅ ∅;rw [Int.toNat_natCast] at this;exact this),List.getElem?_eq_getElem lj,?_⟩;generalize B:upd y l _=q;have e5:=putE B;have o:SameT y q:=SameT.put B a rfl;have e:Sx l y q:=fun b u R h=>by rw [<- B,Jah R];exact h
   refine k (dropT c t.nm) (xs.eraseIdx j) q (fun b u Y h2 h=>e _ _ h2 (r _ _ Y (X _ _ h))) (G.sl a e) e5 ?_ N.drop;rw [Jgr N.nd hu eu];exact (a1.mono (P':=TV K q) fun _ _ w=>(w.sameT (r.t L)).sameT o).erase
  ·refine ⟨p,_,dx,_,rfl,hp,rfl,rfl,?_⟩;refine ⟨p,d, .ref b,c,t,rfl,Z,S,tg.ok,by ac_nf,fun y r G=>?_⟩;have a:=r _ _ a6 D;have v:=r _ _ a4 C;have a5:=S.sameT (r.t L);have a2:=a1.mono (P':=TV K y) fun _ _ w=>w.sameT (r.t L);have a0:G6 (putT c t):=N.put tg;refine ixT (i:=0) (U.sameT (r.t L)) rfl ?_;refine ⟨J,_,rfl, .inl (SqL.of v),rfl,a3,?_⟩;rw [if_neg ⋯,Jcj];refine ⟨_,rfl,?_⟩;by_cases W:t.nm∈nms c
   ·rw [decide_eq_true W,if_pos rfl];obtain ⟨j,O⟩:=List.getElem?_of_mem W;have g:=O;unfold nms at g;rw [List.getElem?_map] at g;obtain ⟨u,hu,eu⟩:=Option.map_eq_some_iff.mp g;have lj:j<xs.length:=by have:=(List.getElem?_eq_some_iff.mp hu).1;ac_nf
    refine ⟨.ref l,rfl, .ref J,rfl, .inl ⟨rfl,_,SqL.of v⟩,?_⟩;try mstop
    refine ixT (i:=0) (U.sameT (r.t L)) rfl ?_;refine ⟨J,nms c,t.nm,j,rfl,rfl,v,O,Jhg N.nd O,?_⟩;refine ⟨l,xs,(j:Int),j,rfl,rfl,a,by unfold ixN;rw [if_pos ∅,if_pos ∅,Int.toNat_natCast],?_⟩;generalize B:upd y l _=q;have e5:=putE B;have o:SameT y q:=SameT.put B a rfl;have e:Sx l y q:=fun b u R h=>by rw [<- B,Jah R];exact h
    refine k (putT c t) (xs.set j (.ref b)) q (fun b u Y h2 h=>e _ _ h2 (r _ _ Y (X _ _ h))) (G.sl a e) e5 ?_ a0;rw [JjQ N.nd hu eu];exact (a2.mono (P':=TV K q) fun _ _ w=>w.sameT o).set (a5.sameT o)
   ·rw [decide_eq_false W,if_neg ⋯];refine ⟨.inl ⟨rfl,_,SqL.of a⟩,l,xs, .ref b,rfl,rfl,a,by ac_nf,?_⟩;generalize B:upd y l _=q;have e5:=putE B;have o:SameT y q:=SameT.put B a rfl;have e:Sx l y q:=fun b u R h=>by rw [<- B,Jah R];exact h
    refine k (putT c t) (xs++[.ref b]) q (fun b u Y h2 h=>e _ _ h2 (r _ _ Y (X _ _ h))) (G.sl a e) e5 ?_ a0;have ep:putT c t=c++[t]:=by unfold putT;rw [if_neg W]
    rw [ep];exact (a2.mono (P':=TV K q) fun _ _ w=>w.sameT o).append (.one (a5.sameT o))
abbrev BaR:Stmt:=top 53
theorem Jga:Jao ["_law_book","_law_kind","_law_one","_law_other"] ["_law_book","_law_kind","_law_one","_law_other"] (Jac BaR):=by bv_decide
def JcK (K:W.Frag) (Ad:Adr):Sp:=fun vs H Q E=>∃ (p d:Addr) (ts:List TD) (F:List Str) (kd:Nat) (one other:Str),vs=[.ref p, .int (kd:Int), .str one, .str other]/\BK K Ad H p d ts/\BkH ts F/\((∃ t∈ts,one=t.st\/one=t.en)/\∃ t∈ts,other=t.st\/other=t.en)/\kd<=4/\(∀ v H',Same H H'->Ans K ts kd one other H H' v->(∃ π,Pot π (ssD ts))->Q v H')/\∀ od H',Same H H'->(¬ ∃ π,Pot π (ssD ts))->E (.ref Ad.Impossible) od H'
theorem JfX (F:FunD K "_law_asked" "_law_asked" BaR dV f fd) (T:Txt K mg Ad) (m_placing:MCal P w K mg base 8 "placing" (Jay Ad) ["self"] (Jbu K Ad)) (m_gap:MCal P w K mg base 8 "gap" (Jay Ad) ["self","one","other"] (JbO K Ad)) (m_shown:MCal P w K mg base 8 "shown" (Jay Ad) ["self","one","other","most"] (Jbv K Ad)) (m_shownd1:MCalD P w K mg base 8 "shown" (Jay Ad) ["self","one","other","most"] [.bl true] (Jbv K Ad)) (m_narrowed:MCal P w K mg base 8 "narrowed" (Jay Ad) ["self"] (JbG K Ad)):FnOk P w K mg base (CX1 P w) 9 f fd ["_law_book","_law_kind","_law_one","_law_other"] (JcK K Ad):=by
 refine F.okx Jga (fun vs H Q E h=>?_) (fun a3 A O s H vs Q E x h=>?_)
 ·obtain ⟨p,d,y,F,t,one,other,rfl,_⟩:=h;rfl
 obtain ⟨p,d,y,F,t,one,other,rfl,h⟩:=h;have I:=x.units;refine ⟨_,(Jab (ps_if (Jan (JaX I) (pv 1) Jad (Jar _)) (Jaf (Jal (m_placing.m0 x ⋯ pass1 (pv 0))))
   Jap) (Jab (ps_if (Jan (JaX I) (pv 1) Jad (Jar _)) (Jaf (Jal (m_gap.m x ⋯ pass1 (pv 0) (Jaa (pv 2) (Jaa (pv 3) Jag)))))
   Jap) (Jab (ps_if (Jan (JaX I) (pv 1) Jad (Jar _)) (Jaf (Jal (m_shown.m x ⋯ pass1 (pv 0) (Jaa (pv 2) (Jaa (pv 3) (Jaa pe_bl Jag))))))
   Jap) (Jab (ps_if (Jan (JaX I) (pv 1) Jad (Jar _)) (Jaf (Jal (m_shownd1.m x ⋯ pass1 (pv 0) (Jaa (pv 2) (Jaa (pv 3) Jag)))))
   Jap) (Jaf (Jal (m_narrowed.m0 x ⋯ pass1 (pv 0)))))))),?_⟩
 clear I;obtain ⟨z,G,u,a0,k,D⟩:=h;obtain ⟨⟨J,B⟩,_⟩:=id z;show tSeq _ _ _ [some (.ref p),some (.int (t:Int)),some (.str one),some (.str other)] H;cbv;by_cases Y:t=0
 ·rw [if_pos (by simp [Y])];cbv;cbv;refine ⟨p,_,J,_,rfl,B,rfl,rfl,?_⟩;cbv;refine ⟨p,d,y,F,rfl,z,G,fun l U n o i g h1 C hF r R c=>?_,fun _ _ _ _ i g _ _ _ _ np _ _=>D _ i g np⟩;cbv;exact k _ i g (.inl ⟨Y,l,U,n,o,rfl,C,hF,r,R⟩) c
 rw [if_neg (by simp;ac_nf)];cbv
 mframe;by_cases Z:t=1
 ·rw [if_pos (by simp [Z])];cbv;cbv;refine ⟨p,_,J,_,rfl,B,rfl,rfl,?_⟩;cbv;refine ⟨p,d,y,F,one,other,rfl,z,G,fun _ q vl vg a1 a2 i g C g1 g2 b1 b2 c=>?_,fun _=>D,fun h=>absurd u h⟩;cbv;refine k _ i g (.inr (.inl ⟨Z,q,vl,vg,rfl,C,?_,?_⟩)) c
  ·rw [dD_eq g2,Option.map_map];exact b1
  ·rw [dD_eq g1];exact b2
 rw [if_neg (by simp;ac_nf)];cbv
 mframe;by_cases M:t=2
 ·rw [if_pos (by simp [M])];cbv;cbv;refine ⟨p,_,J,_,rfl,B,rfl,rfl,?_⟩;cbv;have j:∀ {α : Type} {a b : α},(if t=3 then a else b)=b:=fun {α a b}=>if_neg ∅;refine ⟨p,d,y,F,one,other,false,rfl,z,G,fun _ i o g r N c=>?_,fun _ q o e v n i g r S W V X c=>?_,fun _=>D,fun h=>absurd u h⟩
  ·cbv;exact k _ i g (.inr (.inr (.inl ⟨.inl M,o,by rw [j];exact r, .inl ⟨rfl,by rw [j];exact N⟩⟩))) c
  ·cbv;exact k _ i g (.inr (.inr (.inl ⟨.inl M,o,by rw [j];exact r, .inr ⟨q,e,v,n,rfl,by rw [j];exact S,W,V,by rw [j];exact X⟩⟩))) c
 rw [if_neg (by simp;ac_nf)];cbv
 mframe;by_cases L:t=3
 ·rw [if_pos (by simp [L])];cbv;cbv;refine ⟨p,_,J,_,rfl,B,rfl,rfl,?_⟩;cbv;have j:∀ {α : Type} {a b : α},(if t=3 then a else b)=a:=fun {α a b}=>if_pos L;refine ⟨p,d,y,F,one,other,true,rfl,z,G,fun _ i o g r N c=>?_,fun _ q o e v n i g r S W V X c=>?_,fun _=>D,fun h=>absurd u h⟩
  ·cbv;exact k _ i g (.inr (.inr (.inl ⟨.inr L,o,by rw [j];exact r, .inl ⟨rfl,by rw [j];exact N⟩⟩))) c
  ·cbv;exact k _ i g (.inr (.inr (.inl ⟨.inr L,o,by rw [j];exact r, .inr ⟨q,e,v,n,rfl,by rw [j];exact S,W,V,by rw [j];exact X⟩⟩))) c
 rw [if_neg (by simp;ac_nf)];cbv
 mframe;refine ⟨p,_,J,_,rfl,B,rfl,rfl,?_⟩;cbv;refine ⟨p,d,y,F,rfl,z,G,fun l U i g h1 C R hE c=>?_,D⟩;cbv;exact k _ i g (.inr (.inr (.inr ⟨by ac_nf,l,U,rfl,C,R,hE⟩))) c
abbrev Ba3:Stmt:=top 54
theorem JbN:Jao ["_law_book","_law_kind","_law_one","_law_other","_law_word","_law_found"] ["_law_book","_law_kind","_law_one","_law_other"] (Jac Ba3):=by bv_decide
def Jc5 (K:W.Frag) (Ad:Adr):Sp:=fun vs H Q E=>∃ (p d:Addr) (ts:List TD) (F:List Str) (kd:Nat) (one other:Str),vs=[.ref p, .int (kd:Int), .str one, .str other]/\BK K Ad H p d ts/\BkH ts F/\((∃ t∈ts,one=t.st\/one=t.en)/\∃ t∈ts,other=t.st\/other=t.en)/\kd<=4/\(∀ q v H',Same H H'->H' q=some (.tup [.str (Str.ofString "told"),v])->Ans K ts kd one other H H' v->(∃ π,Pot π (ssD ts))->Q (.ref q) H')/\∀ q v H',Same H H'->H' q=some (.tup [.str (Str.ofString "impossible"),v])->(¬ ∃ π,Pot π (ssD ts))->Q (.ref q) H'
theorem JgF (F:FunD K "_law_told" "_law_told" Ba3 dV f fd) (T:Txt K mg Ad) (Bbu:Cal P w K mg base 9 "_law_asked" ["_law_book","_law_kind","_law_one","_law_other"] [] (JcK K Ad)):FnOk P w K mg base (CX1 P w) 10 f fd ["_law_book","_law_kind","_law_one","_law_other"] (Jc5 K Ad):=by
 refine F.okn JbN (by subst_eqs) (fun V A n s H I Q E S h=>?_)
 obtain ⟨p,d,D,F,m,c,a,rfl,h⟩:=h;refine ⟨_,(Jab (Jaj 4 JbN.nd Jbf) (Jab (Jaj 5 JbN.nd JaI) (Jab (Jle (k:=5) JbN.nd rfl (Or.inl rfl) (Bbu.tr S ⋯ rfl (Jaa (pv 0) (Jaa (pv 1) (Jaa (pv 2) (Jaa (pv 3) Jag))))) rfl T.m_Impossible (fun _=>
   (Jaf (Jaj 4 JbN.nd Jbf)))) (Jaf (Jal (JaP (Jaa (pv 4) (Jaa (pv 5) Jag)))))))),?_⟩
 obtain ⟨U,R,y,o,k,L⟩:=h;show tSeq _ _ _ [some (.ref p),some (.int (m:Int)),some (.str c),some (.str a),none,none] H;cbv
 mframe
 mframe;refine ⟨p,d,D,F,m,c,a,rfl,U,R,y,o,fun v g t M e=>?_,fun C g t W=>?_⟩
 ·cbv;refine ⟨len2,?_⟩;rename_i q z r g B j N;cbv;exact k q v B (t.trans j) N (M.same j) e
 ·refine ⟨_,rfl,T.xc,fun l x=>?_⟩;have j:Same g (upd g l (ExcO l Ad.Impossible C)):=fun b u h=>by rw [Jah (Jae h x)];exact h
  generalize upd g l (ExcO l Ad.Impossible C)=B at *
  mframe;refine ⟨len2,?_⟩;rename_i q z r B J O G;cbv;exact L q _ J (t.trans (j.trans O)) G W
abbrev Ba4:Stmt:=top 55
theorem JaC:Jao ["_law_ties","_law_ring_here","_law_total","_law_here","_law_first","_law_name","_law_forward","_law_tie_here","_law_start","_law_end","_law_cost"] ["_law_ties","_law_ring_here"] (Jac Ba4):=by bv_decide
def Jc4 (K:W.Frag):Sp:=fun vs H Q E=>∃ (a l:Addr) (xs cx:List V) (ts:List TD) (R:List SpS),vs=[.ref a, .ref l]/\SqL K H a xs/\All2 (TV K H) ts xs/\G6 ts/\SqL K H l cx/\All2 (CV H) (R.map fun s=>(s.nm,s.fw)) cx/\Rng (ssD ts) R/\sumC R<0/\∀ H',Same H H'->Q (.bl true) H'
theorem JgE (F:FunD K "_law_ring" "_law_ring" Ba4 dV f fd) (T:Txt K mg Ad)  : FnOk P w K mg base (CX1 P w) 1 f fd ["_law_ties","_law_ring_here"] (Jc4 K):=by
 refine F.okn JaC (by subst_eqs) (fun g0 A b7 s H vs Q E hr h=>?_)
 obtain ⟨a,l,xs,cx,ts,R,rfl,h⟩:=h;have O:=hr.units;refine ⟨_,(Jab (Jaj 2 JaC.nd (JaP (Jaa Jad (Jaa Jad Jag)))) (Jab (Jaj 3 JaC.nd JaI) (Jab (Jaj 4 JaC.nd JaI) (Jab (Jbg PassesOwn.never rfl (pi_U (pv 1)) (Jf3 rfl (JaT (Jat 5 JaC.nd) (JaT (Jat 6 JaC.nd) Jdq))) (Jaf (Jbg PassesOwn.never rfl (pi_U (pv 0)) (Jat 7 JaC.nd) (Jaf (ps_if (Jan (JaX O) (pe_ix ix_U (pv 7) Jad) (pv 5) (Jar _)) (Jab (JiP (pe_ix ix_U (Jbp (Jaa (JaP (Jaa (pe_ix ix_U (pv 7) Jad) (Jaa (pe_ix ix_U (pv 7) Jad) (Jaa (pe_ix ix_U (pv 7) Jad) Jag)))) (Jaa (JaP (Jaa (pe_ix ix_U (pv 7) Jad) (Jaa (pe_ix ix_U (pv 7) Jad) (Jaa (pe_ix ix_U (pv 7) Jad) Jag)))) Jag))) (Jcy JfD rfl T.Bcg JhY (Jaa (pv 6) Jag))) (Jf3 rfl (JaT (Jat 8 JaC.nd) (JaT (Jat 9 JaC.nd) (JaT (Jat 10 JaC.nd) Jdq))))) (Jab (ps_if (PW.pt (pw_or (Jan Jbb (pv 10) JaI (Jar _)) (Jcp (PW.pt (Jdy (Jan Jck (pv 3) JaI (Jar _)) (JcB (Jan (Jcx O) (pv 3) (pv 8) (Jar _)))))))) (Jaf (Jal pe_bl))
   Jap) (Jab (ps_if (Jan Jbb (pv 3) JaI (Jar _)) (Jaf (Jaj 4 JaC.nd (pv 8)))
   Jap) (Jab (Jaj 3 JaC.nd (pv 9)) (Jab (Jaj 10 JaC.nd (pe_ix ix_U (Jbp (Jaa (JaP (Jaa (pe_un Jgf (pe_ix ix_U (pv 10) Jad)) (Jaa (pe_ix ix_U (pv 10) Jad) Jag))) (Jaa (pv 10) Jag))) (Jcy JfD rfl T.Bcg JhY (Jaa (pv 6) Jag)))) (Jaf (Jaj 2 JaC.nd (JaP (Jaa (pe_op Jbx (pe_op JaH (pe_ix ix_U (pv 2) Jad) (pe_ix ix_U (pv 10) Jad)) (pe_op JaH (pe_ix ix_U (pv 10) Jad) (pe_ix ix_U (pv 2) Jad))) (Jaa (pe_op JaH (pe_ix ix_U (pv 2) Jad) (pe_ix ix_U (pv 10) Jad)) Jag))))))))))
   Jap))))) (Jaf (Jal (Jda (Ja4 (JaX O) (pv 3) (pv 4) (Jar _)) (Jdw (Ja4 Jd9 (pe_ix ix_U (pv 2) Jad) Jad (Jar _)))))))))),?_⟩
 clear O;obtain ⟨hS,hA,hG,hl,hc,hg,a8,k⟩:=h;have sl:(1000:Nat)<=sizeLine:=by decide
 have l5:=(bkh6 hG.all hG.nd).2;have lx:=hA.length;have c7:=hc.length;rw [length_map] at c7;have lR:R.length<=10:=by
  have I:=hg.len;have:=JeW (ts:=ts) ts.length;rw [take_of_length_le (Nat.le_refl _)] at this;ac_nf
 have N:∀ s∈R,s.cost.2=1/\-256<s.cost.1/\s.cost.1<256:=fun s C=>by
  obtain ⟨y,hy,rfl⟩:=mem_map.mp (hg.mem s C);exact (JhU (P:=fun s=>FB 8 1 s.c) (fun t ht s C=>(hG.all t ht).fb s C) y hy).one
 have d0:∀ i, -2560<=sumC (R.take i)/\sumC (R.take i)<=2560:=fun i=>by
  have I:=Jhm (R.take i) fun s C=>(N s (List.mem_of_mem_take C)).2;have Y:(R.take i).length<=10:=by rw [length_take];ac_nf
  ac_nf
 obtain ⟨z,hz⟩:=hg.adj;have r0:R.length≠0:=fun q=>hg.ne (eq_nil_of_length_eq_zero q);obtain ⟨P,hP⟩:∃ P:Nat->Hp->V->V->V->Prop,P=fun i G m d g=>(∃ q,m=.ref q/\SqT K G q [.int (sumC (R.take i)), .int 1])/\((i=0/\d=.non/\g=.non)\/(i≠0/\g=.str z/\∃ y,(z::R.map (·.tgt))[i]?=some y/\d=.str y)):=⟨_,rfl⟩;have g4:∀ i H1 H2 m d g,Same H1 H2->P i H1 m d g->P i H2 m d g:=fun i H1 H2 m d g S h=>by
  subst hP;obtain ⟨⟨q,I,Y⟩,h3⟩:=h;exact ⟨⟨q,I,Y.same S⟩,h3⟩
 show tSeq _ _ _ [some (.ref a),some (.ref l),none,none,none,none,none,none,none,none,none] H;cbv;refine ⟨len2,?_⟩;rename_i tz d4 d2 H H1 S1 e1;cbv
 mframe
 mframe
 mframe;refine ⟨l,rfl,ForA.byLN (xs:=cx) (hl.same S1) (fun i σ G=>i<=cx.length/\∃ (m d g:V) (v5 v6 v7 Z v9 p:Option V),σ=[some (.ref a),some (.ref l),some m,some d,some g,v5,v6,v7,Z,v9,p]/\Same H G/\P i G m d g) ⟨Nat.zero_le _,_,_,_,none,none,none,none,none,none,rfl,S1,by subst hP;exact ⟨⟨tz,rfl,SqT.of e1⟩, .inl ⟨rfl,rfl,rfl⟩⟩⟩ (fun i σ G z=>by obtain ⟨_,_,_,_,_,_,_,_,_,_,_,z,_⟩:=z;exact hl.same z) ?_ ?_⟩
 ·rintro i x σ H2 hx ⟨hi,m,d,g,v5,v6,v7,Z,v9,p,rfl,S2,o⟩ N0 b6;have li:=(List.getElem?_eq_some_iff.mp hx).1;obtain ⟨r,b3,c1⟩:=hc.at_ hx;rw [List.getElem?_map] at b3;obtain ⟨s,C,rfl⟩:=Option.map_eq_some_iff.mp b3;obtain ⟨y,hy,rfl⟩:=mem_map.mp (hg.mem s (List.mem_of_getElem? C));obtain ⟨b,rfl,c6⟩:=c1.sameT S2.t;obtain ⟨jt,t,a4,a9,a1⟩:=JjZ hy;have o1:=N _ (List.mem_of_getElem? C);have d1:R.take (i+1)=R.take i++[toS (bD_ ts) y]:=by rw [take_succ,C];rfl
  have B:(z::R.map (·.tgt))[i]?=some y.src:=by
   rw [<- hz,List.getElem?_append_left (by rw [length_map];ac_nf),List.getElem?_map,C];rfl
  cbv;refine ⟨b,_,rfl,SqT.of c6,rfl,?_⟩;cbv;refine ⟨a,rfl,ForA.byLN (xs:=xs) (hS.same S2) (fun j σ G=>j<=xs.length/\∃ (m d g:V) (v7 Z v9 p:Option V),σ=[some (.ref a),some (.ref l),some m,some d,some g,some (.str y.nm),some (.bl y.fw),v7,Z,v9,p]/\Same H G/\(j<=jt->P i G m d g)/\(jt<j->P (i+1) G m d g)) ⟨Nat.zero_le _,m,d,g,_,_,_,_,rfl,S2,fun _=>o,fun z=>absurd z (Nat.not_lt_zero _)⟩ (fun i σ G z=>by obtain ⟨_,_,_,_,_,_,_,_,_,z,_⟩:=z;exact hS.same z) ?_ ?_⟩
  ·clear o;rintro j w σ H3 hw ⟨hj,m,d,g,v7,Z,v9,p,rfl,S3,a5,a0⟩ N1 b4;have lj:=(List.getElem?_eq_some_iff.mp hw).1;obtain ⟨u,O,c5⟩:=hA.at_ hw;obtain ⟨bu,ul,ug,rfl,U,c8,c4⟩:=c5.sameT S3.t;cbv;refine ixT (i:=0) U rfl ?_;cbv;by_cases cj:j=jt
   ·subst cj;rw [a4] at O;cases O;rw [if_pos (by simp [a9])];cbv;cbv;refine ixT (i:=2) U rfl ?_;refine ixT (i:=1) U rfl ?_;refine ixT (i:=3) U rfl ?_;refine ⟨by show 3<=sizeLine;ac_nf,?_⟩;rename_i t1 f8 f0 H3 H4 S4 e4;cbv;have a2:=U.same S4;cbv;refine ixT (i:=1) a2 rfl ?_;refine ixT (i:=2) a2 rfl ?_;refine ixT (i:=4) a2 rfl ?_;refine ⟨by show 3<=sizeLine;ac_nf,?_⟩;rename_i t2 d5 d9 H4 H5 S5 e5;cbv;refine ⟨len2,?_⟩;rename_i tl f9 d8 H5 H6 S6 e6;cbv;have L:=S4.trans (S5.trans S6);refine .inr ⟨_,rfl,?_⟩;obtain ⟨X,t3,vc,r,b0,h3,c9,fc,a7⟩:∃ (X:Nat) (t3:Addr) (vc:V) (r:Int × Int),(if y.fw=true then (1:Int) else 0)=(X:Int)/\[V.ref t1,V.ref t2][X]?=some (.ref t3)/\H6 t3=some (.tup [.str y.src, .str y.dst,vc])/\FrV K H6 vc r.1 r.2/\((y.fw=true/\X=1/\r=y.c)\/(y.fw=false/\X=0/\y.c=negF r)):=by
     rcases a1 with ⟨f1,f2,f3,f4⟩ | ⟨f1,lv,f2,f3,f4,f5⟩
     ·refine ⟨1,t2,ug,y.c,by rw [f1];rfl,rfl,by rw [f3,f4];exact S6 _ _ e5,?_, .inl ⟨f1,rfl,rfl⟩⟩;have : BV K H6 t.hi ug:=c4.sameT L.t;rw [f2] at this;exact this
     ·refine ⟨0,t1,ul,lv,by rw [f1];rfl,rfl,by rw [f4,f5];exact S6 _ _ (S5 _ _ e4),?_, .inr ⟨f1,rfl,f3⟩⟩;have : BV K H6 t.lo ul:=c8.sameT L.t;rw [f2] at this;exact this
    rw [b0];refine ixL (i:=X) (SqL.of e6) h3 ?_;cbv;refine ⟨t3,_,rfl,SqT.of c9,rfl,?_⟩;cbv;obtain ⟨pc,rfl,e3⟩:=id fc;have o:=a5 (Nat.le_refl _);have g3:=S3.trans L;have g5:r.2=1/\-256<r.1/\r.1<256:=by
     rcases a7 with ⟨_,_,h⟩ | ⟨_,_,h⟩
     ·rw [h];exact o1
     ·have a6:y.c.2=1/\-256<y.c.1/\y.c.1<256:=o1;rw [h] at a6;have e1:(negF r).1 = -r.1:=rfl;have e2:(negF r).2=r.2:=rfl;rw [e1,e2] at a6;ac_nf
    mframe;rename_i N2 g1;rw [hP] at o;obtain ⟨⟨q,rfl,c3⟩,D⟩:=o;have W:N2 [some (.ref a),some (.ref l),some (.ref q),some d,some g,some (.str y.nm),some (.bl y.fw),some (.ref bu),some (.str y.src),some (.str y.dst),some (.ref pc)] H6:=by
     mframe;rename_i N3 g2;have v:N3 [some (.ref a),some (.ref l),some (.ref q),some d,some (.str z),some (.str y.nm),some (.bl y.fw),some (.ref bu),some (.str y.src),some (.str y.dst),some (.ref pc)] H6:=by
      mframe
      mframe;refine ixF0 fc ?_;cbv;refine ixF1 fc ?_;cbv;refine ⟨len2,?_⟩;rename_i ng f7 e0 H6 H7 S7 e7;cbv;refine ⟨len2,?_⟩;rename_i cl f6 d7 H7 H8 S8 e8;cbv;refine .inr ⟨_,rfl,?_⟩;obtain ⟨v2,b8,J⟩:∃ v2,[V.ref ng,V.ref pc][X]?=some v2/\FrV K H8 v2 y.c.1 y.c.2:=by
       rcases a7 with ⟨_,I,Y⟩ | ⟨_,I,Y⟩
       ·rw [I, <- Y];exact ⟨_,rfl,fc.same (S7.trans S8)⟩
       ·rw [I,Y];exact ⟨_,rfl,FrV.of (S8 _ _ e7)⟩
      rw [b0];refine ixL (i:=X) (SqL.of e8) b8 ?_;have b2:=L.trans (S7.trans S8);have a3:=c3.same b2;have oy:y.c.2=1/\-256<y.c.1/\y.c.1<256:=o1;rw [oy.1] at J;have ha:=d0 i;have b5:Mth.Sz 20 (sumC (R.take i)):=.lit (show -(2 ^ 20)<sumC (R.take i) by ac_nf) (show sumC (R.take i)<2 ^ 20 by ac_nf);have b9:Mth.Sz 20 y.c.1:=.lit (show -(2 ^ 20)<y.c.1 by ac_nf) (show y.c.1<2 ^ 20 by ac_nf);have M:Mth.Sz 20 (1:Int):=.lit ⋯ ⋯
      mframe;refine ixT (i:=0) a3 rfl ?_;cbv;refine ixF1 J ?_;cbv;refine ⟨mulOk b5 M,?_⟩;refine ixF0 J ?_;cbv;refine ixT (i:=1) a3 rfl ?_;cbv;refine ⟨mulOk b9 M,?_⟩;cbv;refine ixT (i:=1) a3 rfl ?_;cbv;refine ixF1 J ?_;cbv;refine ⟨mulOk M M,?_⟩;refine ⟨len2,?_⟩;rename_i nt d6 d3 H8 H9 S9 e9;cbv;have c2:H9 nt=some (.tup [.int (sumC (R.take (i+1))), .int 1]):=by
       rw [e9,d1,Ji1];show some (HO.tup [V.int (sumC (R.take i)*1+y.c.1*1),V.int (1*1)])=some (HO.tup [V.int (sumC (R.take i)+y.c.1),V.int 1]);rw [Int.mul_one,Int.mul_one,Int.mul_one]
      refine b4 _ _ ⟨lj, .ref nt, .str y.dst, .str z,_,_,_,_,rfl,S3.trans (b2.trans S9),fun h=>absurd h ∅,fun _=>?_⟩;rw [hP];refine ⟨⟨nt,rfl,SqT.of c2⟩, .inr ⟨by ac_nf,rfl,y.dst,?_,rfl⟩⟩;rw [List.getElem?_cons_succ,List.getElem?_map,C];rfl
     rcases D with ⟨i0,rfl,rfl⟩ | ⟨_,rfl,yy,n,rfl⟩
     ·try simpa only [Option.isSome_none]
      try rw [if_pos (by simp)]
      have : y.src=z:=by
       rw [i0] at B;exact (Option.some.inj B).symm
      rw [this] at v ⊢;exact v
     ·try simpa only [Option.isSome_none]
      try rw [if_neg (by simp)]
      exact v
    rcases D with ⟨i0,rfl,rfl⟩ | ⟨_,rfl,yy,n,rfl⟩
    ·try rw [if_neg (by simp)]
     exact W
    ·rw [B] at n;cases n;try rw [if_pos (by simp)]
     try simpa only [Option.isSome_none]
     try rw [if_neg (by simp)]
     exact W
   ·have nn:¬ u.nm=y.nm:=fun e=>by
     have I:(nms ts)[j]?=some u.nm:=by unfold nms;rw [List.getElem?_map,O];rfl
     have Y:(nms ts)[jt]?=some u.nm:=by unfold nms;rw [List.getElem?_map,a4,e,a9];rfl
     have b1:=(List.getElem?_eq_some_iff.mp I).1;exact cj ((List.getElem?_inj b1 hG.nd).mp (I.trans Y.symm))
    rw [if_neg (by simpa using nn)];cbv;cbv;exact b4 _ _ ⟨lj,m,d,g,_,_,_,_,rfl,S3,fun h=>a5 ∅,fun h=>a0 ∅⟩
  ·rintro σ H3 ⟨hj,m,d,g,v7,Z,v9,p,rfl,S3,a5,a0⟩;have b1:=(List.getElem?_eq_some_iff.mp a4).1;exact b6 _ _ ⟨li,m,d,g,_,_,_,_,_,_,rfl,S3,a0 ∅⟩
 ·rintro σ H2 ⟨hi,m,d,g,v5,v6,v7,Z,v9,p,rfl,S2,o⟩;subst hP;obtain ⟨⟨q,rfl,U⟩,h3⟩:=o;rw [take_of_length_le ∅] at U;obtain ⟨rfl,yy,n,rfl⟩:g=.str z/\∃ y,(z::R.map (·.tgt))[cx.length]?=some y/\d=.str y:=by
   rcases h3 with ⟨h0,_⟩ | ⟨_,h⟩
   ·ac_nf
   ·exact h
  rw [<- hz,List.getElem?_append_right (by rw [length_map];ac_nf),length_map,show cx.length-R.length=0 by ac_nf] at n;have n:z=yy:=by simpa using n
  subst n;cbv;refine ixT (i:=0) U rfl ?_;cbv;rw [decide_eq_true a8];exact k H2 S2
abbrev BaS:Stmt:=top 56
theorem JcD:Jao ["_law_ties","_law_found","_law_one","_law_other","_law_there","_law_top"] ["_law_ties","_law_found","_law_one","_law_other"] (Jac BaS):=by bv_decide
def JcM (K:W.Frag):Sp:=fun vs H Q E=>∃ (a q:Addr) (xs zs:List V) (ts:List TD) (F:List Str) (ps:Pl) (one other:Str) (qv:V) (l zl:Addr) (f:Int × Int),vs=[.ref a, .ref q, .str one, .str other]/\SqL K H a xs/\All2 (TV K H) ts xs/\BkH ts F/\H q=some (.tup [qv, .ref l, .ref zl])/\FrV K H qv f.1 f.2/\H zl=some (.lst zs)/\All2 (QV K H) ps zs/\JaQ ts (ps.map (·.1))/\(∀ z∈ps.map (·.1),FB 1711 701 (look ps z))/\(∀ t∈ts,okT ps t=true)/\one∈ps.map (·.1)/\other∈ps.map (·.1)/\FB 1711 701 f/\((look ps other).1*(look ps one).2-(look ps one).1*(look ps other).2)*f.2=f.1*(look ps one).2*(look ps other).2/\∀ H',Same H H'->Q (.bl true) H'
theorem Jf0 (F:FunD K "_law_shown" "_law_shown" BaS dV f fd) (T:Txt K mg Ad) (BaT:Cal P w K mg base 1 "_law_holds" ["_law_ties","_law_placing"] [] (JbY K)):FnOk P w K mg base (CX1 P w) 2 f fd ["_law_ties","_law_found","_law_one","_law_other"] (JcM K):=by
 refine F.okn JcD (by subst_eqs) (fun a1 A J s H vs Q E hr h=>?_)
 obtain ⟨a,q,xs,zs,ts,F,p,c,b,qv,l,U,f,rfl,h⟩:=h;have g:=hr.units;refine ⟨_,(Jab (Jaj 4 JcD.nd (Jcy (JeF rfl) rfl T.n_dict JhX (Jaa (pe_ix ix_U (pv 1) Jad) Jag))) (Jab (Jaj 5 JcD.nd (pe_op JcU (pe_op JaH (pe_ix ix_U (JaA (hu1 g) (pv 4) (pv 3) (fun _ _=>rfl)) Jad) (pe_ix ix_U (JaA (hu1 g) (pv 4) (pv 2) (fun _ _=>rfl)) Jad)) (pe_op JaH (pe_ix ix_U (JaA (hu1 g) (pv 4) (pv 2) (fun _ _=>rfl)) Jad) (pe_ix ix_U (JaA (hu1 g) (pv 4) (pv 3) (fun _ _=>rfl)) Jad)))) (Jaf (Jal (Jda (BaT.ev hr ⋯ rfl passF (Jaa (pv 0) (Jaa (pe_ix ix_U (pv 1) Jad) Jag))) (Jdw (Ja4 (JaX g) (pe_op JaH (pv 5) (pe_ix ix_U (pe_ix ix_U (pv 1) Jad) Jad)) (pe_op JaH (pe_op JaH (pe_ix ix_U (pe_ix ix_U (pv 1) Jad) Jad) (pe_ix ix_U (JaA (hu1 g) (pv 4) (pv 2) (fun _ _=>rfl)) Jad)) (pe_ix ix_U (JaA (hu1 g) (pv 4) (pv 3) (fun _ _=>rfl)) Jad)) (Jar _)))))))),?_⟩
 clear g;obtain ⟨hS,hR,hg,G,fq,hC,M,S,n,W,m1,Y,N,he,k⟩:=h;have sl:(1000:Nat)<=sizeLine:=by decide
 have lz:=M.length;show tSeq _ _ _ [some (.ref a),some (.ref q),some (.str c),some (.str b),none,none] H;cbv;refine ixT (i:=2) (SqT.of G) rfl ?_;cbv;obtain ⟨as,qs,X,R,L,D,B⟩:=QV.refs M;refine ⟨U,as,qs,rfl,by rw [<- X];exact hC,R,L,?_⟩;rename_i r a0 Z H H1 e o;cbv;obtain ⟨O,m,v⟩:=Jc7 D S.1 B m1;obtain ⟨V,j,y⟩:=Jc7 D S.1 B Y;have v:=v.same e;have y:=y.same e;have u:=n _ m1;have C:=n _ Y
 mframe;refine ⟨r,V,rfl,by rw [<- j];exact DGet.k (k:=Sum.inr b) o,?_⟩;refine ixF0 y ?_;cbv;refine ⟨r,O,rfl,by rw [<- m];exact DGet.k (k:=Sum.inr c) o,?_⟩;refine ixF1 v ?_;cbv;refine ⟨mulOk C.s1 u.s2,?_⟩;cbv;refine ⟨r,O,rfl,by rw [<- m];exact DGet.k (k:=Sum.inr c) o,?_⟩;refine ixF0 v ?_;cbv;refine ⟨r,V,rfl,by rw [<- j];exact DGet.k (k:=Sum.inr b) o,?_⟩;refine ixF1 y ?_;cbv;refine ⟨mulOk u.s1 C.s2,?_⟩;have I:=(C.s1.mul u.s2).sub (u.s1.mul C.s2);generalize (look p b).1*(look p c).2-(look p c).1*(look p b).2=tp at *
 mframe;refine ixT (i:=2) (SqT.of (e _ _ G)) rfl ?_;cbv;refine ⟨a,U,xs,zs,ts,F,p,rfl,hS.same e,hR.mono (fun _ _ z=>z.sameT e.t),hg,e _ _ hC,M.mono (fun _ _ z=>z.sameT e.t),S,n,W,fun H2 x=>?_⟩;have d:=e.trans x;cbv;refine ixT (i:=0) (SqT.of (d _ _ G)) rfl ?_;cbv;refine ixF1 (fq.same d) ?_;cbv;refine ⟨mulOk I N.s2,?_⟩;refine ixT (i:=0) (SqT.of (d _ _ G)) rfl ?_;cbv;refine ixF0 (fq.same d) ?_;cbv;refine ⟨r,O,rfl,by rw [<- m];exact DGet.k (k:=Sum.inr c) (x _ _ o),?_⟩;refine ixF1 (v.same x) ?_;cbv;refine ⟨mulOk N.s1 u.s2,?_⟩;cbv;refine ⟨r,V,rfl,by rw [<- j];exact DGet.k (k:=Sum.inr b) (x _ _ o),?_⟩;refine ixF1 (y.same x) ?_;cbv;refine ⟨mulOk (N.s1.mul u.s2) C.s2,?_⟩;cbv;rw [he,decide_eq_true rfl];exact k H2 d
abbrev BaC:Stmt:=top 57
theorem JbA:Jao ["_law_book","_law_faces","_law_gone","_law_refused"] ["_law_book","_law_faces"] (Jac BaC):=by bv_decide
def Jb3 (K:W.Frag) (Ad:Adr):Sp:=fun vs H Q E=>∃ (p d fl:Addr) (ts:List TD) (out:List Str),vs=[.ref p, .ref fl]/\BK K Ad H p d ts/\BkH ts faceL/\SqL K H fl (out.map V.str)/\JaQ ts out/\∀ H',Same H H'->Q (.bl true) H'
theorem Jex (F:FunD K "_law_no_face" "_law_no_face" BaC dV f fd) (T:Txt K mg Ad) (m_gap:MCal P w K mg base 8 "gap" (Jay Ad) ["self","one","other"] (JbO K Ad)):FnOk P w K mg base (CX1 P w) 9 f fd ["_law_book","_law_faces"] (Jb3 K Ad):=by
 refine F.okn JbA (by subst_eqs) (fun a1 A D s H vs Q E X h=>?_)
 obtain ⟨p,d,G,Z,a,rfl,h⟩:=h;have J:=X.units;refine ⟨_,(Jab (JgL (j:=2) (own:=["_law_face"]) (cs:=[(1,"_law_faces")]) JbA.nd rfl (Or.inl rfl) rfl (pi_U (Jbp (Jaa Jbf (Jaa Jbf (Jaa Jbf (Jaa Jbf (Jaa Jbf (Jaa Jbf Jag)))))))) (fun _ _ _ _=>(Jat 0 (show [("_law_face" : Str),("_law_faces" : Str)].Nodup by decide))) (fun _ _ _ _=>(Jan (JiJ (K:=K) rfl) (pv 0) (pv 1) (by with_unfolding_all rfl))) (fun _ _ _ _=>(pv 0)) (JbU rfl) ⋯ rfl ⋯ (hcs1 rfl rfl rfl)) (Jab (ps_if (PW.pt (pw_or (Jan (JaX J) (Jav JaF rfl T.Bbl Jbw (Jaa (pv 2) Jag)) Jad (Jar _)) (Jcp (Jan (JaX J) (Jav JaF rfl T.Bbl Jbw (Jaa (pv 1) Jag)) Jad (Jar _))))) (Jaf (Jal pe_bl))
   Jap) (Jab (Jaj 3 JbA.nd pe_bl) (Jab (Jl0 (m_gap.tr X ⋯ (pv 0) (Jaa (pe_ix ix_U (pv 2) (pe_un Jgf Jad)) (Jaa (pe_ix ix_U (pv 1) Jad) Jag))) rfl T.m_NoFace (fun _=>
   (Jaf (Jaj 3 JbA.nd pe_bl)))) (Jaf (Jal (pv 3))))))),?_⟩
 clear J;obtain ⟨hb,hg,g,hF,k⟩:=h;obtain ⟨⟨dx,hp⟩,_⟩:=id hb;have sl:(1000:Nat)<=sizeLine:=by decide
 have n:(a.map V.str).all flatV=true:=List.all_eq_true.mpr (fun v hv=>by obtain ⟨z,_,rfl⟩:=mem_map.mp hv;rfl);show tSeq _ _ _ [some (.ref p),some (.ref G),none,none] H;cbv;refine ⟨by show 6<=sizeLine;decide,?_⟩;rename_i al N W H H1 S e1;cbv;have m:H1 al=some (.lst (faceL.map V.str)):=e1;have l6:faceL.length=6:=by decide
 have o:=g.same S;refine ⟨al,rfl, .inl ⟨⟨_,SqL.of m⟩,Jct.list (xs:=faceL.map V.str) (fun j C Y=>Y=H1/\C=((faceL.take j).filter fun z=>decide (z∉a)).map V.str) ⟨rfl,rfl⟩ (fun j C Y hj U=>⟨by rw [U.1];exact SqL.of m,by rw [U.2,length_map];have h2:=List.length_filter_le (fun z=>decide (z∉a)) (faceL.take j);rw [length_take] at h2;ac_nf⟩) ?_ ?_⟩⟩
 ·rintro j x C H2 hx ⟨rfl,rfl⟩;simpa only [length_singleton,length_cons,length_nil,List.replicate,Jaz,map_cons,map_nil,Option.join_some];rw [List.getElem?_map] at hx;obtain ⟨z,y,rfl⟩:=Option.map_eq_some_iff.mp hx;refine ⟨G,_,rfl, .inl o,rfl,n,?_⟩;rw [if_pos rfl,Jcj];cbv;by_cases c:z∈a
  ·rw [decide_eq_true c];cbv;rw [take_succ,y,List.filter_append];simp [c]
  ·rw [decide_eq_false c];cbv;rw [take_succ,y,List.filter_append];simp [c]
 rintro C H2 ⟨rfl,rfl⟩;rw [take_of_length_le (by rw [length_map];exact Nat.le_refl _)];rename_i go R a0 H2 O S3 M;cbv;have e:=S.trans S3;generalize hgl:(faceL.filter fun z=>decide (z∉a))=gl at *;have t:∀ z∈gl,z∉a:=fun z y=>by
  rw [<- hgl] at y;simpa using (List.mem_filter.mp y).2
 mframe;refine ⟨_, .inl (SqL.of M),?_⟩;simpa only [Option.isSome_none];rcases List.eq_nil_or_concat gl with g0 | ⟨A,z0,g0⟩
 ·rw [g0,if_pos (by simp)];exact k O e
 rw [List.concat_eq_append] at g0;have q:=t z0 (by rw [g0];simp);rw [if_neg (by rw [g0];simp;ac_nf)];cbv;refine ⟨_, .inl (g.same e),?_⟩;simpa only [Option.isSome_none];cases a with
 | nil=>
  rw [if_pos (by simp)];cbv;exact k O e
 | cons f0 r=>
  rw [if_neg (by simp;ac_nf)];cbv
  mframe
  mframe;refine ⟨p,_,dx,_,rfl,e _ _ hp,rfl,rfl,?_⟩;cbv;refine ⟨_, .str z0, .inl (SqL.of M),by rw [g0,map_append];exact Jje _ _,?_⟩;cbv;refine ixL (i:=0) (g.same e) (v:=.str f0) rfl ?_;cbv;refine ⟨p,d,Z,faceL,z0,f0,rfl,hb.same e,hg,fun l=>absurd ((hF.2.2 z0).mpr l.1) q,fun l=>absurd ((hF.2.2 z0).mpr l.1) q,fun _ L S4=>?_⟩;refine ⟨_,rfl,T.xn,fun B I=>?_⟩;have S5:Same L (upd L B (ExcO B Ad.NoFace none)):=fun b u h=>by rw [Jah (Jae h I)];exact h
  generalize upd L B (ExcO B Ad.NoFace none)=H5 at *
  mframe;exact k H5 (e.trans (S4.trans S5))
abbrev BaU:Stmt:=top 58
theorem Ja7:Jao ["_law_book","_law_ties","_law_kind","_law_one","_law_other","_law_fresh","_law_ring_here","_law_word","_law_found","_law_bound","_law_at"] ["_law_book","_law_ties","_law_kind","_law_one","_law_other"] (Jac BaU):=by bv_decide
def JcL (K:W.Frag) (Ad:Adr):Sp:=fun vs H Q E=>∃ (p d a:Addr) (xs:List V) (ts:List TD) (kd:Nat) (one other:Str),vs=[.ref p, .ref a, .int (kd:Int), .str one, .str other]/\BK K Ad H p d ts/\SqL K H a xs/\All2 (TV K H) ts xs/\G6 ts/\((∃ t∈ts,one=t.st\/one=t.en)/\∃ t∈ts,other=t.st\/other=t.en)/\kd<=4/\∀ H',Same H H'->Q (.bl true) H'
theorem JfZ (F:FunD K "_law_right" "_law_right" BaU dV f fd) (T:Txt K mg Ad) (k_Book:KCal P w K mg base 7 "Book" Ad.Book ["self","ties"] (Jbl K Ad)) (m_ring:MCal P w K mg base 9 "ring" (Jay Ad) ["self"] (JcF K Ad)) (BbD:Cal P w K mg base 1 "_law_ring" ["_law_ties","_law_ring_here"] [] (Jc4 K)) (BbE:Cal P w K mg base 10 "_law_told" ["_law_book","_law_kind","_law_one","_law_other"] [] (Jc5 K Ad)) (BaT:Cal P w K mg base 1 "_law_holds" ["_law_ties","_law_placing"] [] (JbY K)) (m_gap:MCal P w K mg base 8 "gap" (Jay Ad) ["self","one","other"] (JbO K Ad)) (Bbv:Cal P w K mg base 2 "_law_shown" ["_law_ties","_law_found","_law_one","_law_other"] [] (JcM K)):FnOk P w K mg base (CX1 P w) 11 f fd ["_law_book","_law_ties","_law_kind","_law_one","_law_other"] (JcL K Ad):=by
 refine F.okn Ja7 (by subst_eqs) (fun n0 A i5 s H vs Q E hr h=>?_)
 obtain ⟨p,d,a,xs,r,Y,one,other,rfl,h⟩:=h;have hu:=hr.units;refine ⟨_,(Jab (Jaj 5 Ja7.nd (k_Book.ev hr ⋯ rfl passF (Jaa (pv 1) Jag))) (Jab (Jaj 6 Ja7.nd (m_ring.m0 hr ⋯ passF (pv 0))) (Jab (ps_if (Jan (Jcx hu) (Ja4 Jbb (pv 6) JaI (Jar _)) (Ja4 Jbb (m_ring.m0 hr ⋯ passF (pv 5)) JaI (Jar _)) (Jar _)) (Jaf (Jal pe_bl))
   Jap) (Jab (ps_if (PW.pt (Jdy (Jan Jck (pv 6) JaI (Jar _)) (JcB (JcA (Jce (BbD.ev hr ⋯ rfl passF (Jaa (pv 1) (Jaa (pv 6) Jag)))))))) (Jaf (Jal pe_bl))
   Jap) (Jab (JiP (BbE.ev hr ⋯ rfl passF (Jaa (pv 0) (Jaa (pv 2) (Jaa (pv 3) (Jaa (pv 4) Jag))))) (Jf3 rfl (JaT (Jat 7 Ja7.nd) (JaT (Jat 8 Ja7.nd) Jdq)))) (Jab (ps_if (Jan Jck (pv 6) JaI (Jar _)) (Jaf (Jal (Ja4 (JaX hu) (pv 7) Jbf (Jar _))))
   Jap) (Jab (ps_if (Jan (Jcx hu) (pv 7) Jbf (Jar _)) (Jaf (Jal pe_bl))
   Jap) (Jab (ps_if (Jan (JaX hu) (pv 2) Jad (Jar _)) (Jaf (Jal (BaT.ev hr ⋯ rfl passF (Jaa (pv 1) (Jaa (pv 8) Jag)))))
   Jap) (Jab (ps_if (Jan Jhh (pv 2) (JaP (Jaa Jad (Jaa Jad Jag))) (by with_unfolding_all rfl)) (Jab (Jaj 9 Ja7.nd (pe_ix ix_U (m_gap.m hr ⋯ passF (pv 5) (Jaa (pv 3) (Jaa (pv 4) Jag))) (pe_op JcU (pv 2) Jad))) (Jab (ps_if (Jan Jbb (pv 8) JaI (Jar _)) (Jaf (Jal (Ja4 Jbb (pv 9) JaI (Jar _))))
   Jap) (Jaf (Jal (Jda (Ja4 (JaX hu) (pe_ix ix_U (pv 8) Jad) (pv 9) (Jar _)) (Jdw (Bbv.ev hr ⋯ rfl passF (Jaa (pv 1) (Jaa (pv 8) (Jaa (pv 3) (Jaa (pv 4) Jag)))))))))))
   Jap) (Jab (ps_if (Jan (JaX hu) (pv 2) Jad (Jar _)) (Jaf (Jal (Ja4 (JaX hu) (pv 8) (m_gap.m hr ⋯ passF (pv 5) (Jaa (pv 3) (Jaa (pv 4) Jag))) (Jar _))))
   Jap) (Jab (Jaj 10 Ja7.nd (pe_ix ix_U (JiK (own:=["_law_k"]) (cs:=[(3,"_law_one"),(1,"_law_ties")]) rfl (Jee rfl T.Bb4 (Jaa (Jav JaF rfl T.Bbl Jbw (Jaa (pv 1) Jag)) Jag)) (fun _ _ _ _=>(Jat 0 (show [("_law_k" : Str),("_law_one" : Str),("_law_ties" : Str)].Nodup by decide))) (fun _ _ _ _=>(Jan (Jkq (K:=K) rfl) (pv 1) (JaP (Jaa (pe_ix (ix_UK (K:=K) rfl) (pe_ix (ix_UK (K:=K) rfl) (pv 2) (pv 0)) Jad) (Jaa (pe_ix (ix_UK (K:=K) rfl) (pe_ix (ix_UK (K:=K) rfl) (pv 2) (pv 0)) Jad) Jag))) (by with_unfolding_all rfl))) (fun _ _ _ _=>(pv 0)) (JbU rfl) ⋯ rfl ⋯ (hcs2 rfl rfl rfl rfl rfl rfl)) Jad)) (Jab (ps_if (PW.pt (pw_or (Jan (Jcx hu) (Jav JaF rfl T.Bbl Jbw (Jaa (pv 8) Jag)) (Jav JaF rfl T.Bbl Jbw (Jaa (pv 1) Jag)) (Jar _)) (Jcp (Jan (Jcx hu) (JdM sl_V (pe_ix ix_U (pv 8) (pv 10)) JgK (Jef Jad)) (JdM sl_V (pe_ix ix_U (pv 1) (pv 10)) JgK (Jef Jad)) (Jar _))))) (Jaf (Jal pe_bl))
   Jap) (Jaf (Jal (Ja4 (JaX hu) (JdM sl_V (pe_ix ix_U (pv 8) (pv 10)) (Jef Jad) JgK) (m_gap.m hr ⋯ passF (pv 5) (Jaa (pe_ix ix_U (pe_ix ix_U (pv 1) (pv 10)) Jad) (Jaa (pe_ix ix_U (pe_ix ix_U (pv 1) (pv 10)) Jad) Jag))) (Jar _)))))))))))))))),?_⟩
 clear hu;obtain ⟨hb,hS,hA,hG,X,h8,k⟩:=h;obtain ⟨⟨dx,hp⟩,_⟩:=id hb;have sl:(1000:Nat)<=sizeLine:=by decide
 obtain ⟨N,l5⟩:=bkh6 hG.all hG.nd;obtain ⟨j5,n1⟩:=bDok N;have la:=hA.length;have tr:∀ (H':Hp) (q:Addr) (v1 v2:V) (o1 o2:Option (Int × Int)),H' q=some (.tup [v1,v2])->BV K H' o1 v1->BV K H' o2 v2->Rep K H' (.tup [bD o1,bD o2]) (.ref q):=fun H' q v1 v2 o1 o2 h1 h2 h3=>by
  simp only [Rep,RepL];exact ⟨_,_,rfl,SqT.of h1,_,_,rfl,h2.rep,_,_,rfl,h3.rep,rfl⟩
 have td:∀ o1 o2:Option (Int × Int),depD (.tup [bD o1,bD o2])<=50:=fun o1 o2=>by
  have hb:∀ o:Option (Int × Int),depD (bD o)<=1:=fun o=>by cases o <;> simp [bD,depD,frD,depL]
  have h1:=hb o1;have h2:=hb o2;simp only [depD,depL];ac_nf
 show tSeq _ _ _ [some (.ref p),some (.ref a),some (.int (Y:Int)),some (.str one),some (.str other),none,none,none,none,none,none] H;cbv;intro bx f3 g6 k1 l2;have Sm:Same H (upd (upd H f3 (.own bx)) bx (.ins Ad.Book f3 [])):=fun b u q=>by rw [Jah (Jae q g6),Jah (Jae q k1)];exact q
 refine ⟨bx,f3,a,xs,r,H,rfl,Jas,g6,Sm,hS,hA,N.ok,hG.nd,N.l35,fun d9 H9 S9 hd d4=>⟨rfl,?_⟩⟩;obtain ⟨⟨b9,e2⟩,_⟩:=id d4
 mframe;refine ⟨p,_,dx,_,rfl,S9 _ _ hp,rfl,rfl,?_⟩;cbv;refine ⟨p,d,r,faceL,rfl,hb.same S9,N,fun j2 U B=>?_,fun rl rx R j2 U l8 j1 np hR i7=>?_⟩
 ·have u_:=trivial
  mframe;refine ⟨bx,_,b9,_,rfl,U _ _ e2,rfl,rfl,?_⟩;cbv;refine ⟨bx,d9,r,faceL,rfl,d4.same U,N,fun i8 b7 _=>?_,fun _ _ _ _ _ _ _ np _ _=>absurd B np⟩;cbv
  mframe
  mframe;have M:=S9.trans (U.trans b7);refine ⟨p,d,r,faceL,Y,one,other,rfl,hb.same M,N,X,h8,fun q v c5 d5 k7 j9 _=>?_,fun _ _ _ _ _ np=>absurd B np⟩;cbv;refine ⟨q,_,rfl,SqT.of k7,rfl,?_⟩;cbv
  mframe
  mframe
  mframe;have y:=M.trans d5;have d8:=U.trans (b7.trans d5);have c1:=d8 _ _ e2;have a0:=d4.same d8;have b3:=hA.mono (P':=TV K c5) fun _ _ z=>z.sameT y.t;have b4:=hS.same y;obtain ⟨x,d6⟩:=Jlu N B;rcases j9 with ⟨rfl,l,ys,C,tb,rfl,h2,h3,h4,h5⟩ | ⟨rfl,q1,vl1,vg1,rfl,g1,g2,g3⟩ | ⟨h23,tb,O,hv⟩ | ⟨rfl,l,ys,rfl,h2,h3,h4⟩
  ·rw [if_pos (by simp)];cbv;exact ⟨a,l,xs,ys,r,faceL,plL tb C,rfl,b4,b3,N,h2,h5,by rw [JgI];exact h3,pl_fb N h4 h3,pl_ok N h4 h3,fun H' S'=>k H' (y.trans S')⟩
  ·rw [if_neg (by simp)];cbv
   mframe;refine ⟨len2,?_⟩;rename_i tp e0 e1 c5 b8 D a9;cbv;refine ⟨tp,_,rfl, .inr (SqT.of a9),rfl,rfl,?_⟩;rw [if_neg ⋯,show inV (.int ((1:Nat):Int)) [.int 2, .int 3]=false by decide];cbv;cbv
   mframe;refine ⟨bx,_,b9,_,rfl,D _ _ c1,rfl,rfl,?_⟩;cbv;refine ⟨bx,d9,r,faceL,one,other,rfl,a0.same D,N,fun _ q2 W S g8 i0 I J e6 t1 t2 b1 b2 _=>?_,fun _ _ _ _ np=>absurd B np,fun h=>absurd X h⟩;cbv;have d0:BV K I ((dD r other one).map (subF (0,1))) W:=by rw [dD_eq t2,Option.map_map];exact b1
   have c6:BV K I (dD r one other) S:=by rw [dD_eq t1];exact b2
   have g:=D.trans J;refine ⟨_,_,tr _ _ _ _ _ _ (g _ _ g1) (g2.sameT g.t) (g3.sameT g.t),tr _ _ _ _ _ _ e6 d0 c6,td _ _,rfl,?_⟩;rw [JbT];exact k I (y.trans g)
  ·have e7:Y=2\/Y=3:=h23;rw [if_neg (by simp;ac_nf)];cbv
   mframe;refine ⟨len2,?_⟩;rename_i tp e0 e1 c5 b8 D a9;cbv;refine ⟨tp,_,rfl, .inr (SqT.of a9),rfl,rfl,?_⟩;rw [if_neg ⋯,show inV (.int (Y:Int)) [.int 2, .int 3]=true by rcases e7 with rfl | rfl <;> decide];cbv;cbv;refine ⟨bx,_,b9,_,rfl,D _ _ c1,rfl,rfl,?_⟩;cbv;refine ⟨bx,d9,r,faceL,one,other,rfl,a0.same D,N,fun _ gq W S g8 i0 I J e6 t1 t2 b1 b2 _=>?_,fun _ _ _ _ np=>absurd B np,fun h=>absurd X h⟩;have d0:BV K I ((dD r other one).map (subF (0,1))) W:=by rw [dD_eq t2,Option.map_map];exact b1
   have c6:BV K I (dD r one other) S:=by rw [dD_eq t1];exact b2
   have g:=D.trans J;cbv;obtain ⟨ix,vb,ob,k3,j4,d1,b6⟩:∃ (ix:Nat) (vb:V) (ob:Option (Int × Int)),(Y:Int)-2=(ix:Int)/\[W,S][ix]?=some vb/\BV K I ob vb/\ob=(lk tb (if Y=3 then other else one)).map fun e=>if Y=3 then e.1 else subF (0,1) e.1:=by
    rcases e7 with rfl | rfl
    ·refine ⟨0,W,_,rfl,rfl,d0,?_⟩;rw [dD_eq (show TTd r [other] tb from O),Option.map_map];rfl
    ·refine ⟨1,S,_,rfl,rfl,c6,?_⟩;rw [dD_eq (show TTd r [one] tb from O)];rfl
   rw [k3];refine ixT (i:=ix) (SqT.of e6) j4 ?_
   mframe;rcases hv with ⟨rfl,hn⟩ | ⟨q2,e,tb0,C,rfl,he,hF,h0,qv,l,cx,zl,zs,a1,a2,a3,a4,a5,a6,a7,a8⟩
   ·rw [hn] at b6;subst b6;replace d1:vb=.non:=d1;subst d1;cbv;exact k I (y.trans g)
   ·rw [he] at b6;subst b6;have fq:=a2.same g;have i2:FrV K I vb (if Y=3 then e.1 else subF (0,1) e.1).1 (if Y=3 then e.1 else subF (0,1) e.1).2:=d1;obtain ⟨pq,rfl,n3⟩:=id fq;obtain ⟨pb,rfl,n2⟩:=id i2;rw [if_neg (by simp)];cbv
    mframe;refine ixT (i:=0) (SqT.of (g _ _ a1)) rfl ?_;refine ⟨_,_,fq.rep,i2.rep,by simp [depD,depL],rfl,?_⟩;rw [JbT];refine ⟨true,rfl,?_⟩;rw [if_pos rfl];cbv;have m1:one∈C:=(hF.2.2 _).mpr X.1;have m2:other∈C:=(hF.2.2 _).mpr X.2;obtain ⟨ff,l0,i3,k4⟩:FB 1711 701 (if Y=3 then e.1 else subF (0,1) e.1)/\((look (stD r (fT tb) (fT tb0) C) other).1*(look (stD r (fT tb) (fT tb0) C) one).2-(look (stD r (fT tb) (fT tb0) C) one).1*(look (stD r (fT tb) (fT tb0) C) other).2)*(if Y=3 then e.1 else subF (0,1) e.1).2=(if Y=3 then e.1 else subF (0,1) e.1).1*(look (stD r (fT tb) (fT tb0) C) one).2*(look (stD r (fT tb) (fT tb0) C) other).2/\(∀ z∈(stD r (fT tb) (fT tb0) C).map (·.1),FB 1711 701 (look (stD r (fT tb) (fT tb0) C) z))/\∀ t∈r,okT (stD r (fT tb) (fT tb0) C) t=true:=by
     rcases e7 with rfl | rfl
     ·have O:TTd r [other] tb:=O;have he:lk tb one=some e:=he;have c4:=O.fb N.fb N.l70 he;obtain ⟨f1,f2⟩:=Jks (tb0:=tb0) O hF m2 m1 he;refine ⟨?_,?_,st_fb d6 O h0 hF,st_ok d6 O h0 hF⟩
      ·rw [if_neg ⋯,sub0 c4.lo];cbv;exact c4.neg.mono ⋯ ⋯
      ·rw [if_neg ⋯,sub0 c4.lo,f1,f2];cbv;show (0*e.1.2-e.1.1*1)*e.1.2 = -e.1.1*e.1.2*1;grind
     ·have O:TTd r [one] tb:=O;have he:lk tb other=some e:=he;have c4:=O.fb N.fb N.l70 he;obtain ⟨f1,f2⟩:=Jks (tb0:=tb0) O hF m1 m2 he;refine ⟨?_,?_,st_fb d6 O h0 hF,st_ok d6 O h0 hF⟩
      ·rw [if_pos rfl];cbv;exact c4.mono ⋯ ⋯
      ·rw [if_pos rfl,f1,f2];cbv;show (e.1.1*1-0*e.1.2)*e.1.2=e.1.1*1*e.1.2;grind
    exact ⟨a,q2,xs,zs,r,faceL,stD r (fT tb) (fT tb0) C,one,other, .ref pq,l,zl,_,rfl,b4.same g,b3.mono (fun _ _ z=>z.sameT g.t),N,g _ _ a1,fq,g _ _ a6,a7.mono (fun _ _ z=>z.sameT g.t),by rw [Jdf];exact hF,i3,k4,by rw [Jdf];exact m1,by rw [Jdf];exact m2,ff,l0,fun H' S'=>k H' (y.trans (g.trans S'))⟩
  ·rw [if_neg (by simp)];cbv
   mframe;refine ⟨len2,?_⟩;rename_i tp e0 e1 c5 b8 D a9;cbv;refine ⟨tp,_,rfl, .inr (SqT.of a9),rfl,rfl,?_⟩;rw [if_neg ⋯,show inV (.int ((4:Nat):Int)) [.int 2, .int 3]=false by decide];cbv;cbv
   mframe;try rw [if_neg ⋯]
   mframe;have c2:=b4.same D;have f8:=b3.mono (P':=TV K b8) fun _ _ z=>z.sameT D.t;refine ⟨_, .inl c2,?_⟩;refine ⟨_,rfl,by ac_nf,by ac_nf,?_⟩;rw [Int.toNat_natCast];refine Jct.range (n:=xs.length) (fun i ws H'=>Same b8 H'/\∃ js:List Nat,ws=js.map (fun j:Nat=>V.int (j:Int))/\js.length<=i/\(∀ j∈js,j<xs.length)/\∀ (j:Nat) (t:TD),j<i->r[j]?=some t->one∈[t.st,t.en]->js≠[]) ⟨(fun _ _ h=>h),[],rfl,Nat.le_refl _,(fun j hj=>by cases hj),fun j t hj=>absurd hj (Nat.not_lt_zero _)⟩ (fun i ws H' hi z=>by obtain ⟨_,js,rfl,h,_⟩:=z;rw [length_map];ac_nf) ?_ ?_
   ·rintro i ws I hi ⟨J,js,rfl,j3,hj,c7⟩;obtain ⟨t,O,b,k6,i6,e4,hq,_,_⟩:=f8.at_ (List.getElem?_eq_getElem hi);have hx:xs[i]?=some (.ref b):=by rw [List.getElem?_eq_getElem hi,e4]
    have hq:=hq.sameT J.t;rw [Int.zero_add];simpa only [length_singleton,length_cons,length_nil,List.replicate,Jaz,map_cons,map_nil,Option.join_some];refine ixL (i:=i) (c2.same J) hx ?_;cbv;refine ixT (i:=1) hq rfl ?_;cbv;refine ixL (i:=i) (c2.same J) hx ?_;cbv;refine ixT (i:=2) hq rfl ?_;cbv;refine ⟨show (2:Nat)<=sizeLine by ac_nf,?_⟩;rename_i tq l7 m7 I d2 d7 e9;cbv;refine ⟨tq,_,rfl, .inr (SqT.of e9),rfl,rfl,?_⟩;rw [if_neg ⋯,show ([V.str t.st,V.str t.en]:List V)=[t.st,t.en].map V.str from rfl,Jcj];cbv;by_cases c:one∈[t.st,t.en]
    ·rw [decide_eq_true c];cbv;refine ⟨J.trans d7,js++[i],by simp,by simp;ac_nf,fun j h=>?_,fun _ _ _ _ _=>by simp⟩;rcases mem_append.mp h with h | h
     ·exact hj j h
     ·rw [mem_singleton.mp h];exact hi
    ·rw [decide_eq_false c];cbv;refine ⟨J.trans d7,js,rfl,by ac_nf,hj,fun j t' e3 h1 h2=>?_⟩;by_cases cj:j<i
     ·exact c7 j t' cj h1 h2
     ·have : j=i:=by ac_nf
      subst this;rw [O] at h1;cases h1;exact absurd h2 c
   rintro ws I ⟨J,js,rfl,j3,hj,c7⟩;rename_i kl l6 l9 I d2 d7 e9;cbv;have f0:=J.trans d7;have j7:js≠[]:=by
    obtain ⟨t,d3,ho⟩:=X.1;obtain ⟨j,e3⟩:=List.getElem?_of_mem d3;refine c7 j t (by have:=(List.getElem?_eq_some_iff.mp e3).1;ac_nf) e3 ?_;rcases ho with rfl | rfl <;> simp
   obtain ⟨j0,jr,rfl⟩:=List.exists_cons_of_ne_nil j7;have h6:=hj j0 mem_cons_self;refine ixL (i:=0) (SqL.of e9) (v:=.int (j0:Int)) rfl ?_
   mframe;have G:=D.trans f0;have g7:=b3.mono (P':=TV K d2) fun _ _ z=>z.sameT G.t;have b5:=b4.same G;have h9:=h3.mono (P':=TV K d2) fun _ _ z=>z.sameT G.t;have ly:ys.length=r.length:=by rw [h3.length];unfold nwD;rw [length_map]
   obtain ⟨t,O,b,k6,i6,e4,hq,_,_⟩:=g7.at_ (List.getElem?_eq_getElem h6);have hx:xs[j0]?=some (.ref b):=by rw [List.getElem?_eq_getElem h6,e4]
   obtain ⟨u,hu,b2,W,S,k2,f9,h7,i1⟩:=h9.at_ (List.getElem?_eq_getElem (show j0<ys.length by ac_nf));have hy:ys[j0]?=some (.ref b2):=by rw [List.getElem?_eq_getElem (show j0<ys.length by ac_nf),k2]
   have eu:u=nwT r t:=by
    unfold nwD at hu;rw [List.getElem?_map,O] at hu;exact (Option.some.inj hu).symm
   subst eu;have d3:=List.mem_of_getElem? O;refine ⟨_, .inl (SqL.of (G _ _ h2)),?_⟩;cbv;refine ⟨_, .inl b5,?_⟩;cbv;rw [show ((ys.length:Nat):Int)=(xs.length:Int) by ac_nf];rw [decide_eq_true rfl];cbv;refine ixL (i:=j0) (SqL.of (G _ _ h2)) hy ?_;cbv;refine .inl (.inr ⟨b2,_,rfl,f9,show ¬ (HT.sIx 5 0 none=0/\HT.sIx 5 5 (some 3)=5) by decide,?_⟩);rename_i s1 m3 m5 d2 k9 e8 i4;cbv;cbv;refine ixL (i:=j0) (b5.same e8) hx ?_;cbv;refine .inl (.inr ⟨b,_,rfl,hq.same e8,show ¬ (HT.sIx 5 0 none=0/\HT.sIx 5 5 (some 3)=5) by decide,?_⟩);rename_i s2 m6 l4 k9 c9 f7 l1;cbv;have g0:c9 s1=some (.tup [.str t.nm, .str t.st, .str t.en]):=f7 _ _ i4;have f5:c9 s2=some (.tup [.str t.nm, .str t.st, .str t.en]):=l1;have r3:∀ q,c9 q=some (.tup [.str t.nm, .str t.st, .str t.en])->Rep K c9 (.tup [.str t.nm, .str t.st, .str t.en]) (.ref q):=fun q h=>by
    simp only [Rep,RepL];exact ⟨_,_,rfl,SqT.of h,_,_,rfl,rfl,_,_,rfl,rfl,_,_,rfl,rfl,rfl⟩
   cbv;refine ⟨_,_,r3 _ g0,r3 _ f5,by simp [depD,depL],rfl,?_⟩;rw [JbT];cbv
   mframe;have Z:=e8.trans f7;have c0:=G.trans Z;refine ixL (i:=j0) (SqL.of (c0 _ _ h2)) hy ?_;cbv;refine .inl (.inr ⟨b2,_,rfl,f9.same Z,show ¬ (HT.sIx 5 0 (some 3)=0/\HT.sIx 5 5 none=5) by decide,?_⟩);rename_i s3 l3 m4 c9 j8 g5 i9;cbv;have g4:j8 s3=some (.tup [W,S]):=i9;have b0:=c0.trans g5;have L:=Z.trans g5;cbv;refine ⟨bx,_,b9,_,rfl,b0 _ _ c1,rfl,rfl,?_⟩;cbv;refine ixL (i:=j0) (b5.same L) hx ?_;cbv;refine ixT (i:=1) (hq.same L) rfl ?_;cbv;refine ixL (i:=j0) (b5.same L) hx ?_;cbv;refine ixT (i:=2) (hq.same L) rfl ?_;cbv;have k5:(∃ t'∈r,t.st=t'.st\/t.st=t'.en)/\∃ t'∈r,t.en=t'.st\/t.en=t'.en:=⟨⟨t,d3, .inl rfl⟩,⟨t,d3, .inr rfl⟩⟩;refine ⟨bx,d9,r,faceL,t.st,t.en,rfl,a0.same b0,N,fun _ q2 k8 j6 g8 i0 c3 e5 k0 t1 t2 b1 b2 _=>?_,fun _ _ _ _ np=>absurd B np,fun h=>absurd k5 h⟩;have d0:BV K c3 ((dD r t.en t.st).map (subF (0,1))) k8:=by rw [dD_eq t2,Option.map_map];exact b1
   have c6:BV K c3 (dD r t.st t.en) j6:=by rw [dD_eq t1];exact b2
   have c8:=L.trans e5;have g9:BV K c3 ((dD r t.en t.st).map (subF (0,1))) W:=h7.sameT c8.t;have f6:BV K c3 (dD r t.st t.en) S:=i1.sameT c8.t;cbv;refine ⟨_,_,tr _ _ _ _ _ _ (e5 _ _ g4) g9 f6,tr _ _ _ _ _ _ k0 d0 c6,td _ _,rfl,?_⟩;rw [JbT];exact k c3 (y.trans (b0.trans e5))
 ·have u_:=trivial
  mframe;refine ⟨bx,_,b9,_,rfl,U _ _ e2,rfl,rfl,?_⟩;cbv;refine ⟨bx,d9,r,faceL,rfl,d4.same U,N,fun _ _ B=>absurd B np,fun m8 m9 R2 i8 b7 _ _ _ _ _=>?_⟩;cbv
  mframe;have M:=S9.trans (U.trans b7);obtain ⟨C,hF,hR⟩:=hR;have f4:=hR.rng;refine ⟨a,rl,xs,rx,r,R,rfl,hS.same M,hA.mono (fun _ _ z=>z.sameT M.t),hG,SqL.of (b7 _ _ j1),i7.mono (fun _ _ z=>z.sameT b7.t),f4,JiU hG.all j5 f4,fun c5 d5=>?_⟩;have y:=M.trans d5;cbv
  mframe;refine ⟨p,d,r,faceL,Y,one,other,rfl,hb.same y,N,X,h8,fun _ _ _ _ _ _ B=>absurd B np,fun q v b8 D a9 _=>?_⟩;cbv;refine ⟨q,_,rfl,SqT.of a9,rfl,?_⟩;cbv
  mframe;exact k b8 (y.trans D)
abbrev BbV:Stmt:=top 59
theorem JbI:Jao ["_law_script","_law_first","_law_places","_law_k","_law_book","_law_ties","_law_cell","_law_digits","_law_deep","_law_off","_law_faces","_law_one","_law_other"] ["_law_script"] (Jac BbV):=by bv_decide
def Bb2 (K:W.Frag):Sp:=fun vs H Q E=>∃ (a:Addr) (ns:List Int),vs=[.ref a]/\SqL K H a (ns.map V.int)/\ns.length<=63/\∀ H',Q (.bl true) H'
theorem JlS (F:FunD K "law" "law" BbV dV f fd) (T:Txt K mg Ad) (Bbi:Cal P w K mg base 1 "_law_cell_at" ["_law_script","_law_k"] [] (Jb2 K)) (k_Book:KCal P w K mg base 7 "Book" Ad.Book ["self","ties"] (Jbl K Ad)) (BbH:Cal P w K mg base 1 "_law_tie" ["_law_digits","_law_places","_law_off"] [] (Jds K)) (BbI:Cal P w K mg base 9 "_law_put" ["_law_book","_law_ties","_law_tie_here","_law_drop"] [] (Jdr K Ad)) (Bbj:Cal P w K mg base 9 "_law_no_face" ["_law_book","_law_faces"] [] (Jb3 K Ad)) (Bbw:Cal P w K mg base 11 "_law_right" ["_law_book","_law_ties","_law_kind","_law_one","_law_other"] [] (JcL K Ad)) (m_ties:MCal P w K mg base 2 "ties" (Jay Ad) ["self"] (JcG K Ad)):FnOk P w K mg base (CX1 P w) 12 f fd ["_law_script"] (Bb2 K):=by
 refine F.okn JbI (by subst_eqs) (fun j3 A e8 s H vs Q E hr h=>?_)
 obtain ⟨a,ns,rfl,h⟩:=h;have hu:=hr.units;refine ⟨_,(Jab (Jaj 1 JbI.nd (Bbi.ev hr ⋯ rfl passF (Jaa (pv 0) (Jaa Jad Jag)))) (Jab (Jaj 2 JbI.nd (Jbp Jag)) (Jab (Jbg PassesOwn.never rfl (Jee rfl T.Bb4 (Jaa (pe_op Jbx Jad (pe_op JaR (pv 1) Jad)) Jag)) (Jat 3 JbI.nd) (Jaf (JaW (pe_bm PySem.F.plainAttrs_list PySem.F.slot_list_append PySem.F.type_list_append Jbe (pv 2) (Jaa (pe_op JcU (pe_op JaR (pe_op Jaw (pv 1) (pe_op Jbx Jad (pe_op JaH Jad (pv 3)))) Jad) Jad) Jag) (hs:=by exact Jai rfl))))) (Jab (Jaj 4 JbI.nd (k_Book.ev hr ⋯ rfl passF (Jaa (Jbp Jag) Jag))) (Jab (Jaj 5 JbI.nd (Jbp Jag)) (Jab (Jbg PassesOwn.never rfl (pi_U (JdM sl_V (pv 0) (Jef Jad) (Jef Jad))) (Jat 6 JbI.nd) (Jab (Jaj 7 JbI.nd (pe_op Jaw (pe_op JaR (pe_op JaH (pv 6) Jad) Jad) Jad)) (Jab (Jaj 8 JbI.nd (pe_op Jaw (pe_op JaR (pe_op JaH (pv 6) Jad) Jad) Jad)) (Jab (ps_if (Jan (JaX hu) (pe_op JaR (pe_op Jaw (pv 1) Jad) Jad) Jad (Jar _)) (Jab (Jaj 7 JbI.nd (pe_op Jaw (pv 6) Jad)) (Jaf (Jaj 8 JbI.nd (pe_op Jaw (pv 6) Jad))))
   Jap) (Jab (Jaj 9 JbI.nd Jad) (Jab (ps_if (PW.pt (Jdy (Jan (JaX hu) (pe_op JaR (pe_op Jaw (pv 1) Jad) Jad) Jad (Jar _)) (JcB (Jan (JaX hu) (pe_op JaR (pv 8) Jad) Jad (Jar _))))) (Jaf (Jaj 9 JbI.nd (pe_op JcU (pe_op JaR (pe_op Jaw (pv 8) Jad) Jad) Jad)))
   Jap) (Jab (JaW (BbI.ev hr ⋯ rfl passF (Jaa (pv 4) (Jaa (pv 5) (Jaa (BbH.ev hr ⋯ rfl passF (Jaa (pv 7) (Jaa (pv 2) (Jaa (pv 9) Jag)))) (Jaa (Ja4 (JaX hu) (pe_op JaR (pv 6) Jad) Jad (Jar _)) Jag)))))) (Jab (Jaj 10 JbI.nd (Jed rfl rfl rfl rfl T.Bbx Jcv rfl T.n_set Jka (Jaa (pe_op Jbx (Jbt (own:=["_law_tie_here"]) (cs:=[]) rfl (pi_U (pv 5)) (fun _ _ _ _=>(Jat 0 (show [("_law_tie_here" : Str)].Nodup by decide))) (fun _ _ _ _=>(pe_ix (ix_UK (K:=K) rfl) (pv 0) Jad)) (JbU rfl) ⋯ rfl ⋯ hcs0) (Jbt (own:=["_law_tie_here"]) (cs:=[]) rfl (pi_U (pv 5)) (fun _ _ _ _=>(Jat 0 (show [("_law_tie_here" : Str)].Nodup by decide))) (fun _ _ _ _=>(pe_ix (ix_UK (K:=K) rfl) (pv 0) Jad)) (JbU rfl) ⋯ rfl ⋯ hcs0)) Jag))) (Jab (ps_if (JcA (Jce (Bbj.ev hr ⋯ rfl passF (Jaa (pv 4) (Jaa (pv 10) Jag))))) (Jaf (Jal pe_bl))
   Jap) (Jaf (ps_if (Jan JiF (Jav JaF rfl T.Bbl Jbw (Jaa (pv 10) Jag)) Jad (Jar _)) (Jab (Jaj 11 JbI.nd (pe_ix ix_U (pv 10) (pe_op JaR (pe_op Jaw (pv 6) Jad) (Jav JaF rfl T.Bbl Jbw (Jaa (pv 10) Jag))))) (Jab (Jaj 12 JbI.nd (pe_ix ix_U (pv 10) (pe_op JaR (pe_op Jaw (pv 6) Jad) (Jav JaF rfl T.Bbl Jbw (Jaa (pv 10) Jag))))) (Jaf (ps_if (JcA (Jce (Bbw.ev hr ⋯ rfl passF (Jaa (pv 4) (Jaa (pv 5) (Jaa (pe_op JaR (pe_op Jaw (pv 6) Jad) Jad) (Jaa (pv 11) (Jaa (pv 12) Jag)))))))) (Jaf (Jal pe_bl))
   Jap))))
   Jap))))))))))) (Jaf (Jal (Ja4 (JaX hu) (m_ties.m0 hr ⋯ passF (pv 4)) (pv 5) (Jar _)))))))))),?_⟩
 clear hu;obtain ⟨hS,hl,k⟩:=h;have sl:(1000:Nat)<=sizeLine:=by decide
 show tSeq _ _ _ [some (.ref a),none,none,none,none,none,none,none,none,none,none,none,none] H;cbv;refine ⟨a,ns,0,rfl,hS,hl,by decide,fun c0=>?_⟩
 mframe;refine ⟨len0,?_⟩;rename_i pl d4 i3 H H1 S1 e1;cbv
 mframe;mpure
 have qf:=Mth.fm (x:=c0) (y:=5) ⋯;refine ⟨_,rfl,by ac_nf,by ac_nf,?_⟩;refine ForR.byN (fun i σ j=>∃ (v3:Option V) (ls:List Int),σ=[some (.ref a),some (.int c0),some (.ref pl),v3,none,none,none,none,none,none,none,none,none]/\Same H j/\j pl=some (.lst (ls.map V.int))/\ls.length=i/\∀ l∈ls, -20<=l/\l<=20) ⟨none,[],rfl,S1,e1,rfl,by simp⟩ ?_ ?_
 ·rintro i σ H2 hi ⟨v3,ls,rfl,S2,e2,c3,hB⟩ N0 a9;cbv;refine ⟨.inl ⟨rfl,_,SqL.of e2⟩,?_⟩;cbv;refine ⟨mulOk (n:=8) (m:=8) (.lit ∅ ∅) (.lit ∅ ∅),?_⟩;cbv;refine ⟨divOk (n:=8) ∅ (.lit ∅ ∅),?_⟩;cbv;mpure
  cbv;have q1:=Mth.fm (x:=c0.fdiv (30+7*(0+(i:Int)))) (y:=41) ⋯;refine ⟨pl,_,_,rfl,rfl,e2,by rw [length_map];ac_nf,?_⟩;generalize u3:upd H2 pl _=H3;cbv;have e3:=putE u3;refine a9 _ _ ⟨_,ls++[(c0.fdiv (30+7*(0+(i:Int)))).fmod 41-20],rfl,fun bb u hb=>?_,by rw [e3,map_append];rfl,by simp [c3],fun l g6=>?_⟩
  ·rw [<- u3,Jah (Jae hb d4)];exact S2 _ _ hb
  ·rcases mem_append.mp g6 with h' | h'
   ·exact hB _ h'
   ·rw [mem_singleton.mp h'];ac_nf
 rintro σ H2 ⟨v3,ls,rfl,S2,e2,c3,hB⟩;have l2:2<=ls.length:=by ac_nf
 have l6:ls.length<=6:=by ac_nf
 cbv;refine ⟨len0,?_⟩;rename_i el i8 i9 H2 H3 S3 e3;cbv;cbv;intro R b9 d2 g1 i0;have Sm:Same H3 (upd (upd H3 b9 (.own R)) R (.ins Ad.Book b9 [])):=fun b u q=>by rw [Jah (Jae q d2),Jah (Jae q g1)];exact q
 refine ⟨R,b9,el,[],[],H3,rfl,Jas,d2,Sm,SqL.of e3,rfl,(fun t B=>by cases B),(by simp [nms]),⋯,fun d H9 S9 hd g2=>⟨rfl,?_⟩⟩;have d0:=S9 _ _ (S3 _ _ e2);have h6:pl≠d:=fun z=>by rw [<- z,S3 _ _ e2] at hd;cases hd
 mframe;refine ⟨len0,?_⟩;rename_i M a8 i5 H9 f4 b6 c8;cbv;have h4:pl≠M:=fun z=>by rw [<- z,d0] at a8;cases a8
 mframe;refine .inl (.inl ⟨a,_,rfl,(((hS.same S2).same S3).same S9).same b6,?_⟩);rename_i cl a7 i4 f4 b1 b0 a3;cbv;have f2:cl≠M:=fun z=>by rw [z,c8] at a7;cases a7
 have a0:=(g2.same b6).same b0;obtain ⟨_,j0,d8,_⟩:=id a0;have g9:cl≠d:=fun z=>by rw [z,d8] at a3;cases a3
 have c9:∀ (i:Nat) (y:V),(cutV (ns.map V.int) (some 1) (some 25))[i]?=some y->∃ c,y=V.int c:=fun i y h=>by
  have:=List.mem_of_getElem? h;unfold cutV at this;obtain ⟨c,_,rfl⟩:=mem_map.mp (List.mem_of_mem_drop (List.mem_of_mem_take this));exact ⟨c,rfl⟩
 cbv;refine ⟨cl,rfl,ForA.byLN (xs:=cutV (ns.map V.int) (some 1) (some 25)) (SqL.of a3) (fun i σ j=>∃ (v6 v7 v8 v9 Y I J:Option V) (xs:List V) (ts:List TD),σ=[some (.ref a),some (.int c0),some (.ref pl),v3,some (.ref R),some (.ref M),v6,v7,v8,v9,Y,I,J]/\(∀ b u,b≠d->b≠M->b1 b=some u->j b=some u)/\BK K Ad j R d ts/\j M=some (.lst xs)/\All2 (TV K j) ts xs/\G6 ts) ⟨_,_,_,_,_,_,_,[],[],rfl,(fun _ _ _ _ h=>h),a0,b0 _ _ c8,rfl,⟨(fun t B=>by cases B),by simp [nms]⟩⟩ (fun i σ j z=>by obtain ⟨_,_,_,_,_,_,_,_,_,_,h,_⟩:=z;exact SqL.of (h _ _ g9 f2 a3)) ?_ ?_⟩
 ·rintro i y σ b4 hy ⟨v6,v7,v8,v9,Y,I,J,xs,ts,rfl,b5,r,Z,hA,hG⟩ N0 a9;obtain ⟨p,rfl⟩:=c9 i y hy;cbv;mpure
  mframe;mpure
  mframe;mpure
  rename_i N2 g3;have a6:∀ dg dp:Int,N2 [some (.ref a),some (.int c0),some (.ref pl),v3,some (.ref R),some (.ref M),some (.int p),some (.int dg),some (.int dp),v9,Y,I,J] b4:=by
   intro dg dp
   mframe
   mframe;mpure
   rename_i N3 g8;have U:∀ o:Int, -20<=o->o<=20->N3 [some (.ref a),some (.int c0),some (.ref pl),v3,some (.ref R),some (.ref M),some (.int p),some (.int dg),some (.int dp),some (.int o),Y,I,J] b4:=by
    intro o o1 o2
    mframe;refine ⟨dg,pl,o,ls,rfl,SqL.of (b5 _ _ h6 h4 (b0 _ _ (b6 _ _ d0))),l2,l6,hB,o1,o2,fun x t j5 a2 tv tg=>?_⟩;cbv;mpure
    refine ⟨R,d,M,x,t,_,xs,ts,rfl,r.same a2,a2 _ _ Z,hA.mono (fun _ _ z=>z.sameT a2.t),hG,tv,tg,fun G O d9 e9 L C D N=>?_⟩;obtain ⟨hg,l5⟩:=bkh6 N.all N.nd;have la:=D.length;have b7:∀ b u,b≠d->b≠M->b1 b=some u->d9 b=some u:=fun b u h1 h2 h=>e9 b u h1 h2 (a2 _ _ (b5 b u h1 h2 h))
    mframe;refine ⟨M,rfl, .inl ⟨⟨O,SqL.of C⟩,CompJ.list (xs:=O) (fun i ws j=>j=d9/\ws=((G.take i).map (·.st)).map V.str) ⟨rfl,rfl⟩ (fun i ws j hi z=>⟨by rw [z.1];exact SqL.of C,by rw [z.2];simp only [length_map,length_take];ac_nf⟩) ?_ ?_⟩⟩
    ·rintro i x ws j hx ⟨rfl,rfl⟩;simpa only [length_singleton,length_cons,length_nil,List.replicate,Jaz,map_cons,map_nil,Option.join_some];obtain ⟨t,B,b,vl,vg,rfl,hq,_,_⟩:=D.at_ hx;refine ixT (i:=1) hq rfl ?_;cbv;rw [take_succ,B];simp
    rintro ws j ⟨rfl,rfl⟩;rw [take_of_length_le ∅];rename_i f6 h8 f3 j c4 b8 h5;cbv;have d3:=D.mono (P':=TV K c4) fun _ _ z=>z.sameT b8.t;have a4:=b8 _ _ C;cbv;refine ⟨M,rfl, .inl ⟨⟨O,SqL.of a4⟩,CompJ.list (xs:=O) (fun i ws j=>j=c4/\ws=((G.take i).map (·.en)).map V.str) ⟨rfl,rfl⟩ (fun i ws j hi z=>⟨by rw [z.1];exact SqL.of a4,by rw [z.2];simp only [length_map,length_take];ac_nf⟩) ?_ ?_⟩⟩
    ·rintro i x ws j hx ⟨rfl,rfl⟩;simpa only [length_singleton,length_cons,length_nil,List.replicate,Jaz,map_cons,map_nil,Option.join_some];obtain ⟨t,B,b,vl,vg,rfl,hq,_,_⟩:=d3.at_ hx;refine ixT (i:=2) hq rfl ?_;cbv;rw [take_succ,B];simp
    rintro ws g0 ⟨rfl,rfl⟩;rw [take_of_length_le ∅];intro c6 b2;generalize X:upd g0 c6 _=h7;have e5:=newS b2 X;have e7:=newE X;cbv;refine .inl ⟨f6,c6,_,_,rfl,rfl,e5 _ _ h5,e7,by simp only [length_map];ac_nf,?_⟩;rename_i lc i6 i7 h7 h0 e6 h9;cbv;cbv;refine ⟨lc,G.map (·.st)++G.map (·.en),rfl,by rw [map_append];exact SqL.of h9,by simp only [length_append,length_map];ac_nf,⟨faceL,by have:=hg.f8;ac_nf,fun z S=>?_⟩,fun so g d5 f9 e0 f0=>?_⟩
    ·rcases mem_append.mp S with S | S
     ·obtain ⟨t,B,rfl⟩:=mem_map.mp S;exact (hg.fm t B).1
     ·obtain ⟨t,B,rfl⟩:=mem_map.mp S;exact (hg.fm t B).2
    generalize a5:upd h0 so _=j4;have f1:=newS d5 a5;have c7:=newE a5;have hF:JaQ G g:=⟨f9,f0,fun z=>by
     rw [e0 z];constructor
     ·intro S;rcases mem_append.mp S with S | S
      ·obtain ⟨t,B,rfl⟩:=mem_map.mp S;exact ⟨t,B, .inl rfl⟩
      ·obtain ⟨t,B,rfl⟩:=mem_map.mp S;exact ⟨t,B, .inr rfl⟩
     ·rintro ⟨t,B,rfl | rfl⟩
      ·exact mem_append_left _ (mem_map.mpr ⟨t,B,rfl⟩)
      ·exact mem_append_right _ (mem_map.mpr ⟨t,B,rfl⟩)⟩
    have a1:=b8.trans (e5.trans (e6.trans f1))
    mframe;refine ⟨R,d,so,G,g,rfl,L.same a1,hg,SqL.of c7,hF,fun d1 d7=>?_⟩;have e:=a1.trans d7;have b3:∀ b u,b≠d->b≠M->b1 b=some u->d1 b=some u:=fun b u h1 h2 h=>e _ _ (b7 b u h1 h2 h);have W:=d7 _ _ c7;cbv
    mframe;refine ⟨_, .inl (SqL.of W),?_⟩;cbv;have e4:∀ I J j,Same d1 j->N0 [some (.ref a),some (.int c0),some (.ref pl),v3,some (.ref R),some (.ref M),some (.int p),some (.int dg),some (.int dp),some (.int o),some (.ref so),I,J] j:=fun I J j S'=>a9 _ _ ⟨_,_,_,_,_,_,_,O,G,rfl,fun b u h1 h2 h=>S' _ _ (b3 b u h1 h2 h),L.same (e.trans S'),S' _ _ (e _ _ C),D.mono (fun _ _ z=>z.sameT (e.trans S').t),N⟩;by_cases c:0<g.length
    ·rw [if_pos (by rw [length_map];simpa using c)];cbv;have r1:=Mth.fm (x:=p.fdiv 20) (y:=(g.length:Int)) ∅;have r2:=Mth.fm (x:=p.fdiv 120) (y:=(g.length:Int)) ∅;have r3:=Mth.fm (x:=p.fdiv 4) (y:=5) ⋯;obtain ⟨i1,h1⟩:=Int.eq_ofNat_of_zero_le r1.1;obtain ⟨i2,h2⟩:=Int.eq_ofNat_of_zero_le r2.1;obtain ⟨kd,h3⟩:=Int.eq_ofNat_of_zero_le r3.1;have l1:i1<g.length:=by ac_nf
     have c5:i2<g.length:=by ac_nf
     mpure
     refine ⟨_, .inl (SqL.of W),?_⟩;try simpa only [length_map]
     refine ⟨by ac_nf,?_⟩;rw [h1];refine ixL (i:=i1) (SqL.of W) (v:=.str g[i1]) (by rw [List.getElem?_map,List.getElem?_eq_getElem l1];rfl) ?_
     mframe;mpure
     refine ⟨_, .inl (SqL.of W),?_⟩;try simpa only [length_map]
     refine ⟨by ac_nf,?_⟩;rw [h2];refine ixL (i:=i2) (SqL.of W) (v:=.str g[i2]) (by rw [List.getElem?_map,List.getElem?_eq_getElem c5];rfl) ?_
     mframe;mpure
     rw [h3];refine ⟨R,d,M,O,G,kd,g[i1],g[i2],rfl,L.same e,SqL.of (e _ _ C),D.mono (fun _ _ z=>z.sameT e.t),N,⟨(hF.2.2 _).mp (List.getElem_mem l1),(hF.2.2 _).mp (List.getElem_mem c5)⟩,by ac_nf,fun j1 f7=>?_⟩;cbv;exact e4 _ _ _ f7
    ·rw [if_neg (by rw [length_map];simpa using c)];cbv;exact e4 _ _ _ fun _ _ h=>h
   clear g8;have q4:=Mth.fm (x:=dp.fdiv 5) (y:=41) ⋯;by_cases c1:decide ((c0.fdiv 10).fmod 3=1)=true
   ·rw [if_pos c1];cbv;refine ⟨by decide,?_⟩;by_cases c2:decide (dp.fmod 5=0)=true
    ·rw [if_pos c2];cbv;mpure
     exact U _ ∅ ∅
    ·rw [if_neg c2];cbv;exact U 0 ∅ ∅
   ·rw [if_neg c1];cbv;exact U 0 ∅ ∅
  clear g3;by_cases c1:decide ((c0.fdiv 5).fmod 2=1)=true
  ·rw [if_pos c1];cbv;cbv;mpure
   mframe;mpure
   exact a6 _ _
  ·rw [if_neg c1];cbv;exact a6 _ _
 ·rintro σ b4 ⟨v6,v7,v8,v9,Y,I,J,xs,ts,rfl,b5,r,Z,hA,hG⟩;cbv;obtain ⟨⟨dx,hp⟩,_⟩:=id r;refine ⟨R,_,dx,_,rfl,hp,rfl,rfl,?_⟩;cbv;have l5:=(bkh6 hG.all hG.nd).2;refine ⟨R,d,ts,rfl,r,by ac_nf,fun g7 j2 Hz d6 S ez f5=>?_⟩;have g4:Rep K Hz (.lst (ts.map tdD)) (.ref g7):=by
   simp only [Rep];exact ⟨_,_,rfl,SqL.of ez,f5.repL fun t v z=>z.rep⟩
  have g5:Rep K Hz (.lst (ts.map tdD)) (.ref M):=by
   simp only [Rep];exact ⟨_,_,rfl,SqL.of (d6 _ _ Z),(hA.mono (P':=TV K Hz) fun _ _ z=>z.sameT d6.t).repL fun t v z=>z.rep⟩
  cbv;refine ⟨_,_,g4,g5,by have:=Jke ts;simp only [depD];ac_nf,rfl,?_⟩;rw [JbT];exact k Hz
end
theorem lenE1 {α} {P:List α->Prop} (h:∀ a,P [a]):∀ us:List α,us.length=1->P us|[a],_=>h a
theorem lenE2 {α} {P:List α->Prop} (h:∀ a b,P [a,b]):∀ us:List α,us.length=2->P us|[a,b],_=>h a b
theorem lenE3 {α} {P:List α->Prop} (h:∀ a b c,P [a,b,c]):∀ us:List α,us.length=3->P us|[a,b,c],_=>h a b c
theorem lenE4 {α} {P:List α->Prop} (h:∀ a b c d,P [a,b,c,d]):∀ us:List α,us.length=4->P us|[a,b,c,d],_=>h a b c d
theorem lenE5 {α} {P:List α->Prop} (h:∀ a b c d e,P [a,b,c,d,e]):∀ us:List α,us.length=5->P us|[a,b,c,d,e],_=>h a b c d e
variable {n:Nat}
theorem lenD3 {α} {P:List α->Prop} {ds:List α} (h:∀ a b c,P [a,b,c]) (e:ds.length+3=n) (us:List α) (k:(us++ds).length=n):P us:=lenE3 h us (by rw [length_append] at k;ac_nf)
theorem lenD4 {α} {P:List α->Prop} {ds:List α} (h:∀ a b c d,P [a,b,c,d]) (e:ds.length+4=n) (us:List α) (k:(us++ds).length=n):P us:=lenE4 h us (by rw [length_append] at k;ac_nf)
def FnG (K:W.Frag) (f:Addr) (n q:Str) (s:Stmt) (d:Value):Prop:=∃ fd,FunD K n q s d f fd/\W.keepIn K (.ref f)=true
def FnA (K:W.Frag) (f:Addr) (n:Str) (s:Stmt):Prop:=∃ fd,FunD K n n s .none f fd/\W.keepIn K (.ref f)=true/\W.nsIn K mainGlobals n=some (some (.ref f))
variable {x:Str} {st:Stmt} {oc dc pm cd ct:Value} {od an:Option Addr}
theorem fnG {K:W.Frag} {f:Addr} {q:Str} {d:Value} {kV:Value} {sl:Array (Option Value)} (l:K.lookup f=some ⟨oc,od, .func (W.fnOf x q (Jam st) (Jak st) (Jac st) d kV dc pm an cd ct),sl⟩) (c:W.codeIn K cd q=true) (k:W.keepIn K (.ref f)=true):FnG K f x q st d:=⟨_,Jaq l c k,k⟩
theorem fnA {K:W.Frag} {f:Addr} {kV:Value} {sl:Array (Option Value)} (a:W.nsIn K mainGlobals x=some (some (.ref f))) (l:K.lookup f=some ⟨oc,od, .func (W.fnOf x x (Jam st) (Jak st) (Jac st) .none kV dc pm an cd ct),sl⟩) (c:W.codeIn K cd x=true) (k:W.keepIn K (.ref f)=true):FnA K f x st:=⟨_,Jaq l c k,k,a⟩
local macro_rules|`(∅)=>`(⟨$(Lean.mkIdent `SlackError),$(Lean.mkIdent `NoTie),$(Lean.mkIdent `NoName),$(Lean.mkIdent `NoFace),$(Lean.mkIdent `Impossible),$(Lean.mkIdent `Tie),$(Lean.mkIdent `Free),$(Lean.mkIdent `AtLeast),$(Lean.mkIdent `AtMost),$(Lean.mkIdent `Just),$(Lean.mkIdent `Between),$(Lean.mkIdent `Scale),$(Lean.mkIdent `Step),$(Lean.mkIdent `Book),(.str "abcdefghijklmnopqrstuvwxyz" $(Lean.mkIdent `Baa)),(.int 8 $(Lean.mkIdent `Bab)),$(Lean.mkIdent `ZERO)⟩)
local macro_rules|`($f:ident∘$n:str)=>`(W.nsIn $(Lean.mkIdent `K) mainGlobals $n=some (some (.ref $f)))|`($i:num∘$n:str∘$t:ident)=>`(FnA $(Lean.mkIdent `K) $(Lean.mkIdent (.mkSimple s!"f{i.getNat}")) $n $t)|`($i:num∘$n:str∘$q:str∘$t:ident)=>`(FnG $(Lean.mkIdent `K) $(Lean.mkIdent (.mkSimple s!"f{i.getNat}")) $n $q $t .none)
local macro_rules|`($c:ident∣$n:str)=>`(W.codeIn $(Lean.mkIdent `K) $c $n=true)
local macro_rules|`(-$f)=>`(W.keepIn $(Lean.mkIdent `K) (.ref $f)=true)
local macro_rules|`($f:ident/$n:str)=>`(W.findIn $(Lean.mkIdent `K) (.ref $f) $n=some none)|`($f:ident/$n:str/$g:ident)=>`(W.findIn $(Lean.mkIdent `K) (.ref $f) $n=some (some (.ref $g)))
local macro_rules|`(!$f:ident)=>`(FunD.binds $f (by bv_omega))
local macro_rules|`(tactic|bv_omega)=>`(tactic|first|exact fun _ _ _ _ _ _=>lenE1 fun _=>rfl|exact fun _ _ _ _ _ _=>lenE2 fun _ _=>rfl|exact fun _ _ _ _ _ _=>lenE3 fun _ _ _=>rfl|exact fun _ _ _ _ _ _=>lenE4 fun _ _ _ _=>rfl|exact fun _ _ _ _ _ _=>lenE5 fun _ _ _ _ _=>rfl)
theorem all_mk {l:W.OpenLaw} {w:World} {K:W.Frag} {h:Heap} {mg:Str->Option Value} {fa:Addr} {SlackError NoTie NoName NoFace Impossible Tie Free AtLeast AtMost Just Between Scale Step Book f1 f2 f3 f4 f5 f6 f7 f8 f9 f10 f11 f12 f13 f14 f15 f16 f17 f18 f19 f20 T20 f21 f22 f23 f24 f25 f26 f27 f28 f29 f30 f31 f32 f33 f34 f35 f36 f37 f38 f39 f40 f41 T41 f42 f43 f44 f45 f46 f47 f48 f49 f50 f51 f52 f53 f54 f55 ZERO xN_Impossible:Addr} {tc20:Value} {td20:Option Addr} {tn20:Nat} {ts20:Array (Option Value)} {tk20a:Tok} {tc41:Value} {td41:Option Addr} {tn41:Nat} {ts41:Array (Option Value)} {od55 an55:Option Addr} {sl55:Array (Option Value)} {oc55 kV55 dc55 pm55 cd55 ct55:Value} {Baa:Tok} {Bab:Tok} {Bch:Option Addr} {Bci:Nat} {Bcj:Array (Option Value)} {Bce Bcf:Tok} {xd_Impossible:Option Addr} {xnm_Impossible xq_Impossible:Str} {xbs_Impossible xsub_Impossible:List Value} {xsn_Impossible:List Str} {xab_Impossible:Bool} {xcol_Impossible:Option Bool} {xk0_Impossible xk1_Impossible xk2_Impossible xk3_Impossible xk5_Impossible:Option Value} (X:K.In h) (G:h.Ns mainGlobals mg) (hfa:mg "law"=some (.ref fa))
 (aa:SlackError∘"SlackError") (ab:NoTie∘"NoTie") (ac:NoName∘"NoName") (ad:NoFace∘"NoFace") (ae:Impossible∘"Impossible") (af:Tie∘"Tie") (ag:Free∘"Free") (ah:AtLeast∘"AtLeast") (ai:AtMost∘"AtMost") (aj:Just∘"Just") (ak:Between∘"Between") (al:Scale∘"Scale") (am:Step∘"Step") (an:Book∘"Book") (l1:1∘"common_divisor"∘Bah) (l2:2∘"plus"∘BbR) (l3:3∘"minus"∘BbA) (l4:4∘"under"∘BbB) (l5:5∘"is_name"∘Bbb) (l6:6∘"is_whole"∘BaX) (l7:7∘"is_fraction"∘Bat) (l8:8∘"is_bound"∘BaY) (l9:9∘"are_faces"∘BaI) (l10:10∘"are_bounds"∘BaE) (l11:11∘"is_tie"∘Bbq) (a12:Tie/"__init__"/f12) (l12:12∘"__init__"∘"Tie.__init__"∘Bap) (a13:Tie/"plain"/f13) (l13:13∘"plain"∘"Tie.plain"∘BaJ) (l14:14∘"tie_of"∘Bbr) (a15:Tie/"steps"/f15) (l15:15∘"steps"∘"Tie.steps"∘BaK) (a16:Scale/"__init__"/f16) (l16:16∘"__init__"∘"Scale.__init__"∘Bai) (a17:Scale/"lifted"/f17) (l17:17∘"lifted"∘"Scale.lifted"∘Baq) (a18:Step/"__init__"/f18) (l18:18∘"__init__"∘"Step.__init__"∘Bak) (l19:19∘"steps_of"∘BaZ) (a20:Impossible/"__init__"/f20) (l20:FnG K f20 "__init__" "Impossible.__init__" Bad (.ref T20)) (t20:K.lookup T20=some ⟨tc20,td20, .seq #[.str "" tk20a, .none] tn20,ts20⟩) (l21:21∘"ring_behind"∘Bau) (l22:22∘"last_steps"∘BaF) (l23:23∘"chains_from"∘Bav) (l24:24∘"faces_of"∘Ba0) (a25:Book/"kept"/f25) (l25:25∘"kept"∘"Book.kept"∘BaL) (a26:Book/"ties"/f26) (l26:26∘"ties"∘"Book.ties"∘BaM) (a27:Book/"faces"/f27) (l27:27∘"faces"∘"Book.faces"∘BaG) (a28:Book/"__init__"/f28) (l28:28∘"__init__"∘"Book.__init__"∘Bal) (l29:29∘"places_of"∘BaN) (a30:Book/"placing"/f30) (l30:30∘"placing"∘"Book.placing"∘Bar) (a31:Book/"ring"/f31) (l31:31∘"ring"∘"Book.ring"∘BaO) (l32:32∘"whole_below"∘Bax) (l33:33∘"whole_above"∘Bay) (l34:34∘"enough_above"∘Bas) (l35:35∘"stretched_placing"∘Bae) (l36:36∘"gap_between"∘Baz) (a37:Book/"check_faces"/f37) (l37:37∘"check_faces"∘"Book.check_faces"∘Baf) (a38:Book/"chains_of"/f38) (l38:38∘"chains_of"∘"Book.chains_of"∘Baj) (a39:Book/"gap"/f39) (l39:39∘"gap"∘"Book.gap"∘Ba1) (a40:Book/"farthest"/f40) (l40:40∘"farthest"∘"Book.farthest"∘Bam) (a41:Book/"shown"/f41) (l41:FnG K f41 "shown" "Book.shown" BaH (.ref T41)) (t41:K.lookup T41=some ⟨tc41,td41, .seq #[.bool true] tn41,ts41⟩) (a42:Book/"narrowed"/f42) (l42:42∘"narrowed"∘"Book.narrowed"∘Ban) (a43:Book/"put"/f43) (l43:43∘"put"∘"Book.put"∘Ba2) (a44:Book/"drop"/f44) (l44:44∘"drop"∘"Book.drop"∘BaP) (l45:45∘"_law_cell_at"∘BaB) (l46:46∘"_law_tie"∘Bbc) (l47:47∘"_law_holds"∘BaQ) (l48:48∘"_law_put"∘Bbd) (l49:49∘"_law_asked"∘BaR) (l50:50∘"_law_told"∘Ba3) (l51:51∘"_law_ring"∘Ba4) (l52:52∘"_law_shown"∘BaS) (l53:53∘"_law_no_face"∘BaC) (l54:54∘"_law_right"∘BaU) (a55:f55∘"law") (l55:K.lookup f55=some ⟨oc55,od55, .func (W.fnOf "law" "law" (Jam BbV) (Jak BbV) (Jac BbV) .none kV55 dc55 pm55 an55 cd55 ct55),sl55⟩) (c55:cd55∣"law") (k55:-f55) (ao:W.nsIn K mainGlobals "abs"=some none) (ap:W.nsIn K mainGlobals "isinstance"=some none) (aq:W.nsIn K mainGlobals "len"=some none) (ar:W.nsIn K mainGlobals "all"=some none) (au:W.nsIn K mainGlobals "int"=some none) (av:W.nsIn K mainGlobals "bool"=some none) (aw:W.nsIn K mainGlobals "tuple"=some none) (ax:W.nsIn K mainGlobals "str"=some none) (ay:W.nsIn K mainGlobals "range"=some none) (az:W.nsIn K mainGlobals "list"=some none) (aA:W.nsIn K mainGlobals "reversed"=some none) (aB:W.nsIn K mainGlobals "sorted"=some none) (aC:W.nsIn K mainGlobals "set"=some none) (aD:W.nsIn K mainGlobals "max"=some none) (aE:W.nsIn K mainGlobals "dict"=some none) (aF:W.nsIn K mainGlobals "SMALL_LETTERS"=some (some (.str "abcdefghijklmnopqrstuvwxyz" Baa))) (aG:W.nsIn K mainGlobals "LONGEST_NAME"=some (some (.int 8 Bab))) (aH:ZERO∘"ZERO") (aI:K.lookup ZERO=some ⟨.type "tuple",Bch, .seq #[.int 0 Bce, .int 1 Bcf] Bci,Bcj⟩) (aJ:W.excIn K SlackError [.type "ValueError", .type "Exception", .type "BaseException", .type "object"] "ValueError.__new__"=true) (aK:W.excIn K NoTie [.type "ValueError", .type "Exception", .type "BaseException", .type "object"] "ValueError.__new__"=true) (aL:W.excIn K NoFace [.type "ValueError", .type "Exception", .type "BaseException", .type "object"] "ValueError.__new__"=true) (aM:W.excIn K NoName [.type "ValueError", .type "Exception", .type "BaseException", .type "object"] "ValueError.__new__"=true) (aN:K.lookup Impossible=some (excClassObj xnm_Impossible xq_Impossible Impossible xN_Impossible xbs_Impossible (.ref SlackError::BMV) true xsn_Impossible xsub_Impossible xab_Impossible xcol_Impossible xd_Impossible xk0_Impossible xk1_Impossible xk2_Impossible xk3_Impossible xk5_Impossible "ValueError.__new__")) (aO:Mk K Free f12) (aP:Free/"steps"/f15) (aQ:Free/"plain"/f13) (aR:Mk K AtLeast f12) (aS:AtLeast/"steps"/f15) (aT:AtLeast/"plain"/f13) (aU:Mk K AtMost f12) (aV:AtMost/"steps"/f15) (aW:AtMost/"plain"/f13) (aX:Mk K Just f12) (aY:Just/"steps"/f15) (aZ:Just/"plain"/f13) (a0:Mk K Between f12) (ba:Between/"steps"/f15) (bb:Between/"plain"/f13) (bc:W.isFn K (.ref f15)=true) (bd:W.isFn K (.ref f13)=true) (be:Mk K Scale f16) (bf:Mk K Step f18) (bg:W.isFn K (.ref f17)=true) (bh:Mk K Book f28) (bi:W.isFn K (.ref f20)=true) (bj:-Impossible) (bk:W.isFn K (.ref f25)=true) (bm:W.isFn K (.ref f26)=true) (bn:W.isFn K (.ref f27)=true) (bo:W.isFn K (.ref f31)=true) (bp:W.isFn K (.ref f30)=true) (bq:W.isFn K (.ref f43)=true) (br:W.isFn K (.ref f44)=true) (bs:W.isFn K (.ref f37)=true) (bt:W.isFn K (.ref f38)=true) (bu:W.isFn K (.ref f39)=true) (bv:W.isFn K (.ref f40)=true) (bw:W.isFn K (.ref f41)=true) (bx:W.isFn K (.ref f42)=true) (bz:TieC K Free) (bA:TieC K AtLeast) (bB:TieC K AtMost) (bC:TieC K Just) (bD:TieC K Between) (bE:Jlt K Scale) (bF:StepC K Step) (bG:BookC K Book) (bH:W.findIn K (.ref Impossible) "__setattr__"=some (some (.builtin "object.__setattr__"))) (bI:Impossible/"around") (bJ:W.hasDictIn K Impossible=true) (bK:W.findIn K (.ref Impossible) "__getattribute__"=some (some (.builtin "BaseException.__getattribute__"))) (bL:Impossible/"__getattr__") (bM:W.mroIn K Impossible (.type "BaseException")=some true) (bN:W.specialIn K (.ref SlackError) "__getattribute__"=some (some (.builtin "type.__getattribute__"))) (bO:W.readsIn K SlackError (.type "type")=true) (bP:W.findCls K (.ref SlackError) (.type "type") "__init__"=some (.val (.builtin "ValueError.__init__"))) (bQ:W.typeIn K (.ref Impossible)=some (.type "type")) (bR:W.mroIn K Impossible (.ref Impossible)=some true) (bS:W.hasDictIn K NoFace=true) (bT:W.typeIn K (.ref NoFace)=some (.type "type")) (bU:W.mroIn K NoFace (.type "BaseException")=some true) (bV:W.mroIn K NoFace (.ref NoFace)=some true)
  : ∃ fd:FuncData,(∀ (s:Shared) (v:Value),BindsTo s fd ⟨[v],[]⟩ [("_law_script",v)])/\∀ base:Heap,K.In base->base.Ns mainGlobals mg->FnOk l.prog w K mg base (CX1 l.prog w) 12 fa fd ["_law_script"] (Bb2 K):=by
 have e:=hfa.symm.trans (W.mg_of X G a55);cases e;have o:∀ {x:Str} {v:Value},W.nsIn K mainGlobals x=some (some v)->mg x=some v:=fun h=>W.mg_of X G h;have n:∀ {x:Str},W.nsIn K mainGlobals x=some none->mg x=none:=fun h=>W.mg_none_of X G h;have T:Txt K mg ∅:=⟨n ao,n ap,n aq,n ar,n au,n av,n aw,n ax,n ay,n az,n aA,n aB,n aC,n aD,n aE,o aa,o ab,o ac,o ad,o ae,o af,o ag,o ah,o ai,o aj,o ak,o al,o am,o an,o aF,⟨_,rfl⟩,o aG,⟨_,rfl⟩,o aH,rfl,fun H=>.inr ⟨_,_,_,aI,rfl,rfl,by show 2<=sizeLine;decide, .cons ⟨_,rfl⟩ (.cons ⟨_,rfl⟩ (.nil))⟩,aJ,aK,aL,aM,(fun C hC=>by rcases hC with rfl | rfl | rfl | rfl | rfl<;>assumption),(fun C hC=>by cases hC;exact bE),(fun C hC=>by cases hC;exact bF),(fun C hC=>by cases hC;exact bG),⟨bS,bT,bU,bV⟩,⟨bH,bI⟩,⟨bJ,bK,bL,bI,bM⟩,⟨bN,bO,bP⟩,⟨bJ,bQ,bM,bR⟩⟩;obtain ⟨_,F1,k1,a1⟩:=l1;obtain ⟨_,F2,k2,a2⟩:=l2;obtain ⟨_,F3,k3,a3⟩:=l3;obtain ⟨_,F4,k4,a4⟩:=l4;obtain ⟨_,F5,k5,a5⟩:=l5;obtain ⟨_,F6,k6,a6⟩:=l6;obtain ⟨_,F7,k7,a7⟩:=l7;obtain ⟨_,F8,k8,a8⟩:=l8;obtain ⟨_,F9,k9,a9⟩:=l9;obtain ⟨_,F10,k10,a10⟩:=l10;obtain ⟨_,F11,k11,a11⟩:=l11;obtain ⟨_,F12,k12⟩:=l12;obtain ⟨_,F13,k13⟩:=l13;obtain ⟨_,F14,k14,a14⟩:=l14;obtain ⟨_,F15,k15⟩:=l15;obtain ⟨_,F16,k16⟩:=l16;obtain ⟨_,F17,k17⟩:=l17;obtain ⟨_,F18,k18⟩:=l18;obtain ⟨_,F19,k19,a19⟩:=l19;obtain ⟨_,F20,k20⟩:=l20;have b20:=F20.bindsD (ps:=["self","words","around"]) t20 rfl [] fun _ _ _ _ _ _=>lenD3 (fun _ _ _=>⟨_,rfl,rfl⟩) rfl;obtain ⟨_,F21,k21,a21⟩:=l21;obtain ⟨_,F22,k22,a22⟩:=l22;obtain ⟨_,F23,k23,a23⟩:=l23;obtain ⟨_,F24,k24,a24⟩:=l24;obtain ⟨_,F25,k25⟩:=l25;obtain ⟨_,F26,k26⟩:=l26;obtain ⟨_,F27,k27⟩:=l27;obtain ⟨_,F28,k28⟩:=l28;obtain ⟨_,F29,k29,a29⟩:=l29;obtain ⟨_,F30,k30⟩:=l30;obtain ⟨_,F31,k31⟩:=l31;obtain ⟨_,F32,k32,a32⟩:=l32;obtain ⟨_,F33,k33,a33⟩:=l33;obtain ⟨_,F34,k34,a34⟩:=l34;obtain ⟨_,F35,k35,a35⟩:=l35;obtain ⟨_,F36,k36,a36⟩:=l36;obtain ⟨_,F37,k37⟩:=l37;obtain ⟨_,F38,k38⟩:=l38;obtain ⟨_,F39,k39⟩:=l39;obtain ⟨_,F40,k40⟩:=l40;obtain ⟨_,F41,k41⟩:=l41;have b41:=F41.bindsD (ps:=["self","one","other","most"]) t41 rfl [] fun _ _ _ _ _ _=>lenD4 (fun _ _ _ _=>⟨_,rfl,rfl⟩) rfl;obtain ⟨_,F42,k42⟩:=l42;obtain ⟨_,F43,k43⟩:=l43;obtain ⟨_,F44,k44⟩:=l44;obtain ⟨_,F45,k45,a45⟩:=l45;obtain ⟨_,F46,k46,a46⟩:=l46;obtain ⟨_,F47,k47,a47⟩:=l47;obtain ⟨_,F48,k48,a48⟩:=l48;obtain ⟨_,F49,k49,a49⟩:=l49;obtain ⟨_,F50,k50,a50⟩:=l50;obtain ⟨_,F51,k51,a51⟩:=l51;obtain ⟨_,F52,k52,a52⟩:=l52;obtain ⟨_,F53,k53,a53⟩:=l53;obtain ⟨_,F54,k54,a54⟩:=l54;have F55:=Jaq l55 c55 k55;refine ⟨W.fnOf "law" "law" (Jam BbV) (Jak BbV) (Jac BbV) .none kV55 dc55 pm55 an55 cd55 ct55,fun s v=>.of_eq rfl,fun base _ _=>?_⟩;have cC:∀ {ps:List Str} {sp:Sp} {fd:FuncData} {k:Nat} {x:Str} {f:Addr},FnOk l.prog w K mg base (CX1 l.prog w) k f fd ps sp->W.nsIn K mainGlobals x=some (some (.ref f))->W.keepIn K (.ref f)=true->Binds K fd ps []->Cal l.prog w K mg base k x ps [] sp:=fun h a c b=>⟨_,_,[],h,o a,c,b, .nil⟩;have cK:∀ {ps:List Str} {sp:Sp} {fd:FuncData} {k:Nat} {x:Str} {f C:Addr},FnOk l.prog w K mg base (CX1 l.prog w) k f fd ps sp->W.nsIn K mainGlobals x=some (some (.ref C))->Mk K C f->Binds K fd ps []->KCal l.prog w K mg base k x C ps sp:=fun h a c b=>⟨_,_,h,o a,c,b⟩;have cM:∀ {ps:List Str} {sp:Sp} {fd:FuncData} {k:Nat} {m:Str} {Cs:Addr->Prop} {f:Addr},FnOk l.prog w K mg base (CX1 l.prog w) k f fd ps sp->(∀ C,Cs C->Cls K C/\Meth K C m f)->W.keepIn K (.ref f)=true->Binds K fd ps []->MCal l.prog w K mg base k m Cs ps sp:=fun h a c b=>⟨_,_,h,a,c,b⟩;have cB:∀ {ps:List Str} {sp:Sp} {fd:FuncData} {k:Nat} {m:Str} {f:Addr},FnOk l.prog w K mg base (CX1 l.prog w) k f fd ps sp->W.findIn K (.ref Book) m=some (some (.ref f))->W.isFn K (.ref f)=true->W.keepIn K (.ref f)=true->Binds K fd ps []->MCal l.prog w K mg base k m (Jay ∅) ps sp:=fun h a c d b=>⟨_,_,h,fun C hC=>⟨(T.book C hC).cls,by cases hC;exact ⟨a,c,d⟩⟩,d,b⟩;have bW:=cC (Jdo F1 T) a1 k1 (!F1);have bX:=cC (JkY F2 T bW) a2 k2 (!F2);have bY:=cC (JjB F3 T bX) a3 k3 (!F3);have bZ:=cC (JjC F4 T) a4 k4 (!F4);have b0:=cC (JhE F5 T) a5 k5 (!F5);have ca:=cC (JgD F6 T) a6 k6 (!F6);have cb:=cC (Jev F7 T ca bW) a7 k7 (!F7);have cc:=cC (JgC F8 T cb) a8 k8 (!F8);have cd:=cC (JfW F9 T b0) a9 k9 (!F9);have ce:=cC (Jfg F10 T cc bZ) a10 k10 (!F10);have cf:=cC (JiD F11 T b0 cd ce) a11 k11 (!F11);have K12:=Jd7 (P:=l.prog) (w:=w) (base:=base) F12 T;have cg:=cK (Jd7 F12 T) ag aO (!F12);have ch:=cK K12 ah aR (!F12);have ci:=cK K12 ai aU (!F12);have cj:=cK K12 aj aX (!F12);have ck:=cK K12 ak a0 (!F12);have cl:=cM (m:="plain") (Cs:=IsTie ∅) (JfU F13 T) (fun C hC=>⟨(T.tie C hC).cls,(by rcases hC with rfl | rfl | rfl | rfl | rfl <;> first | exact ⟨aQ,bd,k13⟩ | exact ⟨aT,bd,k13⟩ | exact ⟨aW,bd,k13⟩ | exact ⟨aZ,bd,k13⟩ | exact ⟨bb,bd,k13⟩)⟩) k13 (!F13);have cm:=cC (JiE F14 T cf cg ch ci cj ck) a14 k14 (!F14);have cn:=cM (m:="steps") (Cs:=IsTie ∅) (JfV F15 T bY) (fun C hC=>⟨(T.tie C hC).cls,(by rcases hC with rfl | rfl | rfl | rfl | rfl <;> first | exact ⟨aP,bc,k15⟩ | exact ⟨aS,bc,k15⟩ | exact ⟨aV,bc,k15⟩ | exact ⟨aY,bc,k15⟩ | exact ⟨ba,bc,k15⟩)⟩) k15 (!F15);have co:=cK (Jdn F16 T bW) al be (!F16);have cp:=cM (m:="lifted") (Cs:=Jgi ∅) (Jd6 F17 T bW) (fun C hC=>⟨(T.BbS C hC).cls,(by cases hC;exact ⟨a17,bg,k17⟩)⟩) k17 (!F17);have cq:=cK (JdF F18 T cp) am bf (!F18);have cr:=cC (JgG F19 T cn co cq) a19 k19 (!F19);have K20:=Jcr (P:=l.prog) (w:=w) (base:=base) F20 T;have cs:XCal l.prog w K mg base 1 "Impossible" Impossible SlackError ["self","words","around"] (Ja5 K ∅):=⟨f20,_,K20,W.mg_of X G ae,⟨aJ,⟨_,_,_,_,_,_,_,_,_,_,_,_,_,_,aN⟩,a20,bi,bj⟩,b20⟩;have ct:=cC (Jey F21 T) a21 k21 (!F21);have cu:=cC (Jfh F22 T ct cs) a22 k22 (!F22);have cv:=cC (Jet F23 T cu bX) a23 k23 (!F23);have cw:=cC (JgB F24 T) a24 k24 (!F24);have cx:=cB (JfR F25 T) a25 bk k25 (!F25);have cy:=cB (JfT F26 T cx cl) a26 bm k26 (!F26);have cz:=cB (Jfe F27 T cx cw) a27 bn k27 (!F27);have cA:=cK (JdE F28 T cm) an bh (!F28);have cD:=cC (Jf1 F29 T cv) a29 k29 (!F29);have cE:=cB (Jd5 F30 T cx cz cr cD) a30 bp k30 (!F30);have cF:=cB (JfS F31 T cE) a31 bo k31 (!F31);have cG:=cC (JeA F32 T) a32 k32 (!F32);have cH:=cC (Jez F33 T) a33 k33 (!F33);have cI:=cC (Jd8 F34 T cH cG) a34 k34 (!F34);have cJ:=cC (JcS F35 T cI bX) a35 k35 (!F35);have cL:=cC (Jeu F36 T bY) a36 k36 (!F36);have cN:=cB (JcX F37 T cz) a37 bs k37 (!F37);have cO:=cB (Jdm F38 T cx cz cr cD cv) a38 bt k38 (!F38);have cP:=cB (Jgz F39 T cN cO cL) a39 bu k39 (!F39);have cQ:=cB (JdC F40 T cx cz cr cD cv cJ) a40 bv k40 (!F40);have K41:=Jff (P:=l.prog) (w:=w) (base:=base) F41 T cN cQ bY;have cR:=cB (Jff F41 T cN cQ bY) a41 bw k41 b41;have cS:MCalD l.prog w K mg base 8 "shown" (Jay ∅) ["self","one","other","most"] [.bl true] (Jbv K ∅):=⟨f41,_,[.bool true],K41,fun C hC=>⟨(T.book C hC).cls,(by cases hC;exact ⟨a41,bw,k41⟩)⟩,k41,F41.bindsD (ps:=["self","one","other","most"]) t41 rfl [.bool true] fun _ _ _ _ _ _=>lenD3 (fun _ _ _=>⟨_,rfl,rfl⟩) rfl, .cons rfl .nil⟩;have cT:=cB (JdD F42 T cz cO cx cL) a42 bx k42 (!F42);have cU:=cB (JgA F43 T cm) a43 bq k43 (!F43);have cV:=cB (JfQ F44 T) a44 br k44 (!F44);have cW:=cC (Jew F45 T) a45 k45 (!F45);have cX:=cC (JhG F46 T) a46 k46 (!F46);have cY:=cC (JfY F47 T) a47 k47 (!F47);have cZ:=cC (JhF F48 T cV cU) a48 k48 (!F48);have c0:=cC (JfX F49 T cE cP cR cS cT) a49 k49 (!F49);have c1:=cC (JgF F50 T c0) a50 k50 (!F50);have c2:=cC (JgE F51 T) a51 k51 (!F51);have c3:=cC (Jf0 F52 T cY) a52 k52 (!F52);have c4:=cC (Jex F53 T cP) a53 k53 (!F53);have c5:=cC (JfZ F54 T cA cF c2 c1 cY cP c3) a54 k54 (!F54);exact JlS F55 T cW cA cX cZ c4 c5 cy
theorem walk {l:PySem.W.OpenLaw} {q:Program} {loose:List Str} {XP:(Str->Option Value)->Heap->Prop} {YP:World->Heap->Prop} {d:DefRec} {K:Params->PySem.W.Frag} (hn:l.most=some 63) (hdf:d.params.defaults=[])
  (hY:∀ (w:World) (h:Heap),YP w h->(K w.params).In h)
  (F:∀ (w:World) (mg:Str->Option Value) (fa:Addr) (h:Heap),(K w.params).In h->h.Ns mainGlobals mg->mg d.name=some (.ref fa) ->
   ∃ fd:FuncData,(∀ (s:Shared) (u:Value),BindsTo s fd ⟨[u],[]⟩ [("_law_script",u)])/\∀ base:Heap,(K w.params).In base->base.Ns mainGlobals mg->FnOk l.prog w (K w.params) mg base (CX1 l.prog w) 12 fa fd ["_law_script"] (Bb2 (K w.params))) :
  PySem.W.WalkO q loose XP YP l.row.toRowW d [] (fun f vs=>PySem.call f vs) :=
 L2.Ji9 (n:=63) (k:=12) (x:="_law_script") (CX:=fun w=>CX1 l.prog w) (sp:=fun w=>Bb2 (K w.params)) hn (by decide) hdf ⟨rfl,by decide,by decide⟩ hY F (fun _ _ a ns hl _ hS=>⟨a,ns,rfl,hS,hl,fun _=>rfl⟩) fun _ _ _ _ _ z=>by
  obtain ⟨_,_,_,_,_,_,_,_,_,_,_,_,z⟩:=z;exact z
end Prg
open PySem PySem.W PyProof.Rows
local macro_rules|`(command|universe $xs*)=>do return Lean.mkNullNode (<-xs.mapM fun x=>`(command|noncomputable def $(Lean.mkIdent (.str `PySem.W.Fast s!"tw{x.getId.toString.foldl (fun a c=>a*52+(c.toNat-if c.toNat<97 then 39 else 97)) 0}")):ident:Nat:=0))
universe brkIjwppncNV brlYGTszpfUD brzSonnHkHfe brQuJvGZGhoU bscIFONdmNvm bsRuIlNTytEi bsXBipozLTbl btfxlkBKGkmv btkIDqTagTBj btCxRqdyBxBE btKwyacccdMw btNJzkHiLXxk btNXRoupqkKj btUYcNgmaprZ buNzSiZPEmYO buNIhIIlXVcq bvpvYTphFSHC bvFKbCzHUrLg bwbaAoDgkrTX bwmrZmYUXeKL bwqNjbuwOSpU bwrwpYRdPHvR bwtxPZZTNIJu bwEhGDpPbowd bwMxEETAGpuc bxiuedEgbOYC bxkfhQuyemFl bxrZDIhujMzl bxAEkkmEoYDw byidKFlfsnbZ byonPgGEEtSD bywDfYroRWgB byXRaUjXxstM bzrOwnuFIhtg bzLnyErCmoCp bzQCWcLloXhp bzXARjGzyORs bAcZJTQuYFOj bAnPnskOFuPU bAokWEtgrVVt bAqJiFgnoQva hRPjmAWBsmW bAZSLKmUcYhw bBjCDyASCKzJ bBlriOLydObx hWoDQjkacBj bBuuEGhHjQeO bBLueIjHLXgQ hYGWwZiejIg bBYhMjvSReiO bCncStLxRegs bCqHQQYEePLE bCqNKvOquxRg bCrMkgNzqbdj bCtBNTWZikfQ bCHAYNXgTKPr bCJtwaZsDuAB bDdqmDpyXfni bDeWPewHBDGi bDyUhUymlxAw bDJMBgUuXJem ikgNsaetmdI bEsCgurOGYVD bEEDkCrijozR bFijxAhhVAOP ironVaDeJxJ irvfmuIECej bFxUWTtnDRCH bFIapwYsJoiE bFIVfijdjFpn bFLrecNKWdKv bFRoqcubdzgU bFSmBpCnzuax bGgLunVqMonX ixkxXsCphDF bGCFrBzUPYbT bGJBKkcvZRlM bGNkrDaPHxee bGPggKoXUvfp bGRArNwfMfFm bGTNeLcQLXJV bHHfbjoDXpcQ bHRHyQndXpcq bIxlIvqrEsgo bIzHXFmqMBFa bIWJWGkbgXTX bJaMpRsXdSRA bJtKIEIDWuDW bJzyBwLvgOye iQqwtsITztr bKocuRMVwFJv bKzCpPFhQWlF bKHullixZfjH bKUjhmenxbLa bLrjegTrMQNx bLRbpMuFmOFb bLSIRBZMfYsQ bMpQHdDIlVQg jcryjRzPeoy jcPQDsoWUdt bMEhyaRAmuKG bMGdHrzfmaFM bNcOzCcpUaHN bNosGKkkZzIO bNoudplDWrTr bNpWOojtPlMq bNqSpRKDEfbK bNyNMfczAjUV bNJRKgwDzisF bNKdmftrDWBx bNLDxiUAOUCz bNVTmBnSFqJn bOboxmnpAbXD bObNxIjIyVPJ bOjIhiIeUPPj bOnRRnbmAiRC bOqXgjcCkcuU bOsTaDXhwMVr bODllSXVPkIi bOSpYnGMATuf bPEpZJtNYaDA bPXVNUgZCYjk bQgGwlAbNqzO jvGfBccEWEf bQkZnxtQVVJV bQpoModyrYUJ bQqqdvsqxTKO bQJIDAYHMLxQ bQKidXstxgrs bRqAwpdXZHpI bRxPjeyAGXCa jCymRDlucbl bRDjdlUONHbe bSGtRCGstQZn bSLwuSqKdvxs bTkZIAKjRDCo bTTuIAWZSleq jQaVeTFjZCZ bUqohcaOOsFL bUwdZrVPZfaU bUwkSVTavfOO bUBylrhKlHEt bUGAISlZJUzh bUJlfYEthryN bUJypxfUpssN bULsdVOUbUaL bUMSjdKmFerE bUNTweNTuIfB jTJdvEZOmwX bUSldZPtJwsv bUVdpjqGWecR bVqansIHkdQX bVrUydHTWNOt bVuZlsyOaGSv jXcVXyMJFcu bVBtBPWaVOVS bVDULShBLBIs bWeZDNKjtlMi bWgwEZuePjLj bWkIzqSwXDJD bWIvefWjBsle bWTLHrnvXIPP bXpnWUYTiofU bXNopllkLONE bXQGUgIVEnWB bXZHFxztgOVr bYlpvAawMDKE bYmHzXHHvjnJ bYuSCgqEwidn bYyJslIcUjHS bZlcChfbJlvt bZIOVwffTsNR bZQdqHqfYlJk caeMtxHVcbBr cakOVQELygTF calqRQyjIHdm kwJwQCsFRlf kwNIASShXQQ cawmeqMXCaON cawQUZbDJdus caQXBirEjrkk cbmNyDRBxUjA cbylDQodqTCJ cbKUXgWjPeuF cbPgzyUAkonQ cbXtiRgSBLsJ ccbkwtTzGkpt ccjVOqZtXqbi cclRGbeVEOkf ccqNIILpMMZn kHdnKSSPyEn ccuLBJCjvKSn kIKaZBjNnBI kLrLrpEsxdx kLDtMotEQUS cduoMeIXRiit cdEZXMILNVDK cdKsUdleaoVq cdXLUHFSJUUS cdXWyzeAlnNP celgVsmyEHGk ceJLOnwfTBXq ceQTGoVmJxeK cfpLTIplOkyX cfyMpYIXzram cfzeRPnluoua cfzlsrFGyuay kXVPQyKrusf cfFqxknmuptn cfGMqeeNdJPm cfLcfLIwMOwK cfUjPjEmEFXY cghKaQazJKum cgkwkYVmLzxY cgrYtRckPNKc cguZwwYEkmVc cgELaPrbbedp leDDXSMCwUC leTYGEnIKwb chafDTQaiLwQ chmcKmibyjOJ chsZedAdDaLV chAOKXORidwx chMjLKcuIHNL ljclaukvtiD chXbVDuFYJiU chXdFNDBrOTH cibCFVtJJBZP ciMQLXBKoKZW cjCRMlZmnjwC cjFepLRswwKx cjGvFlasErxi ltCYqDvXvBK cjOOhujOoSxa cjOWdSGiWguE bhmWcCwLWNk cjYSzEZybElT lvGnxFgctnE ckuZCfxbYMuB ckAOLhtIzSFD ckAPKRqqUrnk ckXYjhNyDasB cllIdrhQfmis clnzKRjFmugY clrvHwOaXJyK lBZJSDneZOa lDoZXRRaxNE lEDOwpdgHVx cmbCSjHnEnMF cmwqGnyralMX cmHejQGPDPyn cmKyMOLVFwnc cmLXKoSbSHQb cmVDnpCTLIqQ cmWAwzOrbkgF cncpdSiYfDIf cnjpANWJrBIm lMdAMqnnPxO cnxdTNXCQWbT cnMSClwGDmzY cobwuaUMdxly colgqJVdONbv copetyAXLIiM covBCtsOtzAc coBwXjyczrvX coLrnGHSjtJd coNQobJnhRVw coPotrysshDZ coTNleCcRSRB coXhlGyaXqOe cpdeliAMIhqj cpecDMhdhIFW cpqHYjfzPVkN lXTDPWGivKA cpHnoPrwMZtW lYiqFiYhabS cpMbzKowlKSt cpMELWDPcXpz cpPKyOuqpxIq cpSzBhiHjifx cqgHCclCmjOm cqjhsHHKavyQ cqvPlwkTRliD cqzmVrROZcfs cqIoaBMJaUhC cqIDjRpSpTHO cqRfteWQPwTc mfloiogzGPL crghJmQqwvKr croXZYFTwACC crqkyAHALFjD crYEkfpFLQks csbeFrKdxpBb mkHoLErBRso csnsjPgTIXzc csFdNvzLFqKQ csKKuLxqPPBv csMLKlBTJsev ctcKfhEGIFVq ctiZDlCDUkBb msQUzdLlkHD ctJnKVPAvKoF ctNbbktvdGaU ctSywlLxThcS cucdzQaBlzTZ mvSObQjicpL cuuQOPFsaXjw mxdwKVTHNEf cuJQIMlRVCHO cuZicuivBoTG cvddcYcOONNm cveNauGvNDTp cvigHlGrZZnK cvPtSveXgxxG cvWZMPppSnFD cwlptyRjkSGu cwslsVjALsoX cwELyxqrpSiB cwIpBiPGNNvt cwTdNypYPCuG cxgFZxULRFvf cxgZastYfxUT cxnkVvSItRZt notLCCyedph nrWLtLdBgVK ntGObhMiUua nCezeKMLdic nKiNDTOQBjE nKkeYpHvCnV oeWnFYLsYOA ojNECXWCDgW olmEEMkeGWY oAMwamLhose bxCeRiBRyxT oMuuwpMTgZC oYKyyBGsNoq oZilWKRheNI oZprUDbsfyC pfuNhqpdWLK poznNJagdIh pvqtkCQsnKj pzYDiGEsYfB pMYWRksZHXm qgbQvzLLiJF qVxVLFGjyvA qYqiFlTExah rnqTkpLKuAn rtcSRZRftOQ rzhFQigNOAM bNmRsEEzErQ bNYktzcKwOT rPZJLMNTjqS bPgCGPHppKf sJnqafVaPdq sWPgCIfohfm tfllfCVJWnF tujXbBwRzXf tyanQIyRtfJ tGDObuHpEOX caffyrYJVKf ucdzXvOFMzb utLiPSPVPHd uCXxfIeloRH uFbkFojaugT uIqIhDfTDnt uScCuRgutqP viCJSDZecgU vllYHSZolei voESqoGnjaM vsSMAigBVOx vBKWJCrBSbb vEwkEPtNHAV vFWAkyKSNJL vKoCqzBRUEC vOTKHIKqhjI vWhBIoohqnk vZIMAelmRVY clDnlZSKwtx wKwvcenMdAp xdFBaagPnZR xhgKHFQiWJh xhZguOFTSwe xzOGyAYnTXh xCkVpKtKrRo xDqocitysvS xLOGLnezBqy ybDrJyglzGW ymgFNhiPUYz ynApwYHWCNh yovZlYymlwo yzoLXyjnUpK yFaXzZpclaC yTbJYBOTRRx yWRKyzsOQbR ziyYkQatKhy zpwZqLXbEQN cCRnSAZNUnP zGgDYYHjcuL zQhfisaAnTW AafLtfdToIZ ADwVXOJJdwQ AEGdjNpQbWd AKUNlmIfsnn AVzOiISkEOx BlZjbFMcqgG BxLANGMvwdu BxZpfmWTZPj ByaxpFePAGo BFURrRpGjth BIsEdRyNPXC BNQRvtQNoCe BRsguvFqiZt BYciXUkeNmo CgeHVqKVbTv cQNVfNFtyaJ cVwcZfRsflE cWsvnEZtJgL cWRdhlOIvjW DxlwTachVlz DAyMlOxNSXq DYRqrSXmmxG DYWKZxdmVCe DZdlGnZsPaU EgkEEZYGmju EFgMIpawZCf ETMOdqFJPrM FiiRCNuVpqB FpKPqzARaoN FrCLXwUCmIi FAjXHghgexp dhXaXhcUrQt FDCbWbHGAwR FIviGixVesW FNVruVwuakr GvJQXCKdJCZ GyEKLNKdvXt GyMSdmCEVnC GBvgwieuwEj GCejylRQehP dnpnaxJkUNC GRXEiGYgRge GURjJliIEch HCwYloMErQT HDrLNelGQZq HHLgvbmgXBv HJHihuVjIix HLegxdsksHb IdRlBvIAVsv IlLrroEUVjI JFTTssVcyek JGiWoKwgBGM dGVKBPwejWw KvnEWgUYjjL KvwHYJAeqVf KzIUuiaQpWt KCHngpAtZgB LiWjRMSPqvR LrsGgmkBDJO LATROhEldwG LHOXMxauzCr MayQqaZeCkI MeKNvATzwGL MigyOymBzfO MlvwWhUCDdr MqMeRrVDPVA MxEsNIpdpqY MDxHPrJimzH MXgNkSxbcjH NecnyNbJOQj NjMVmINmBXQ NMEQqQRikxy OdpzNZZICvn OkIOLMXDKun OAZEGOJLYQY OKIWslymcZD OWHLziXiAhL OXrrOpygbmp OZxQHcfvHUb PbapAwBKUAU PbWxmRqrWmK PhDwvhbZtMw PhQKbOowbhl PmOOXglyyAx PpYkwVfGnAB PzrqkoqmXFK PFUdRnVcgPc ejmLVuyDiSX PPDPsHyDYPc PZJHuhujPJf QapWvJZHKAz QgsOmmWJtgJ emHRTgnPiVZ QBVoqqyEixf QCdtWNfCdGD QPcrDQEGSDO QTWuEClSrfU QUPeSXkcaqo cmkumjeSqG RjBgwLrNdwh RmmFvdDKjDZ RnjawdxwxWb RAmWwfbgVWT ewqCQrFReYO StANUXnSyvc SCDEltJHyKM SFpexoWSxQD SIeIhHEwuuz SMJACwPAlDg TfzxpiKRzOd TmxznMsvQod TEBOhvCYxuW TZtnRAEwvXf UjAPXFuVZaW UCsILIuEWnZ VkRrehEGtZN VmHoTZfMyPR VpvUmtvgBGf VsMcXTqiUIC VuIVRTQLxlF VzApjqlZHUR eMYiPfboLuA WBBfQvPUzDU WEPYhkElOSH WPEbsUrnCEV WQNKJjhapoe eVknVYjlgcl XJsxeNBKOJI XKaypeZiOHH eZweZDCBOeO XUniCwMrdmU YkYhiBuBMbZ fcaOvrzllmC YuUhKmfuNmq YCRWMPoMsQy YCTfFSxYhbr YGFgpdKgMZu YKpaYFaYFQD YVLQdAWhiGZ YWcuyXalIjX ZpRCUJNXYOb ZudLRPqpZKG ZvmTVZGcnQf ZCTZzfNPZEq fimVzIohLNm ZOBEPvKIMxY ZOZzvhFBniE ZVcWdNhDGMW bafjjfLcLerT balPEcDdIlRP baDftTrugOZD baDGdRYpTZbe baUdobVgBtsU baXxrmMOscki bbhqEqZdArHm bbjcxSKMGQgP bbxsNciJlsLT bbBkeOIYYJjC bbHJIrqDsDtF bbJRlWVxCqpn bcaqTflZuiVC bcgNsJNYnuWh bchuFUbKmmCx fwLuhFHTOKC bcvyEuPNajNX bcDMjwnNFoti bcDXqxEASpvL bcKEFhVGYjxw bcPjizIjAmLl bdekvDNDzqcM bdsxbivFnZsl bdwGdLdATVKM bdzvAxdKYvNt bdAMrYmbkDHt bdBPchfpTwxK bdTjskxAIBIp bdWocwvIJPPS beEALDzdTiBe beIYZVQzdmvU beMHOOuqzEDW bfqUNcpPCjvy bfuGSSyzADlB bfzSdVJciqJz bfCYGQWiYbUk bfNhvBEoeWNN bfVNRQTMVMPw bglsHOGQAmqV bgsdlFwHULIG bguuVatTHMJp bgIRrAWJpgHZ fTydybFHZwp bhhqKMLXDUBm bhsWuIKyhwCh bhyGgEfVgenS bhzxDWqanMmq bhGpIeMcwakm bhIhdhkutdvi bhPEppbtFozn bhTIgszfeLFK bieFlSuyxSYC bifwPDjKFida bisLoApcJNDq biywjFCuUbzZ biBcYBtAUqOY biGpCAGkfKvm biUQsEujWafL bjauiHFPoViw bjoYyjfyiIyb ghHYswwOGCX bjGgFxWqNvtt gkdihKjMopj gknngRRcqyW gkFxZznmWkQ bkmAMahpcMDD bksHGkAnUqAu bkvJgklKJGvr bkyooOenrPRk bkJIUcbcydqz goiahAFnSUY blfBHTDuobFp blhejwELrIsL blmUypNLjAYA blEgYVpnHLcG blObDUcdadaD blPJWUTifTMW bmhoNOvdhlvQ bmpuhpsEXSWo bmsdlaDCtUuD bmwZVYEFbRPb bmxYaJIEmBJz bmHqOwLwhTFO bmUWdAWeEjZm bnvnaemoTVrR bnDCcsUQiksD gDNVsBBKYDM bnMfLyrwZOzQ gEtAQhBYFWy gGbOrpUdeno boHXupCpOSwg boMhugiKwxbY bpfACtesUDMk bpVESSJhYOzg bpXCTWHbWxme bpZaIEpQTBTa bpZRisbIMDyZ bqaODnRXSxjZ bqnIbdcsUcwz bqoteglqfENw gSOTkyshuJp bqNdXtiaKVlT bqRPvXxFHAnr bqTARIDZUqHj
set_option maxRecDepth 100000 in
set_option maxHeartbeats 0 in
theorem PySem.Challenge.cw_slackchain_k36_books_asked_between_deeds_holds : PySem.Challenge.rw_slackchain_k36_books_asked_between_deeds.Holds := by
 w_on;o_law;k_head;(case hw=>w_witness2)
 k_fill
 refine Prg.walk (l:=PySem.Challenge.rw_slackchain_k36_books_asked_between_deeds) rfl rfl (fun w h Y=>PySem.W.kIn_of Y) ?F;case F=>
  intro w mg fa h KX G hmg;refine' Prg.all_mk KX G hmg ?_ ?_ ?_ ?_ ?_ ?_ ?_ ?_ ?_ ?_ ?_ ?_ ?_ ?_ (Prg.fnA ?_ ?_ ?_ ?_) (Prg.fnA ?_ ?_ ?_ ?_) (Prg.fnA ?_ ?_ ?_ ?_) (Prg.fnA ?_ ?_ ?_ ?_) (Prg.fnA ?_ ?_ ?_ ?_) (Prg.fnA ?_ ?_ ?_ ?_) (Prg.fnA ?_ ?_ ?_ ?_) (Prg.fnA ?_ ?_ ?_ ?_) (Prg.fnA ?_ ?_ ?_ ?_) (Prg.fnA ?_ ?_ ?_ ?_) (Prg.fnA ?_ ?_ ?_ ?_) ?_ (Prg.fnG ?_ ?_ ?_) ?_ (Prg.fnG ?_ ?_ ?_) (Prg.fnA ?_ ?_ ?_ ?_) ?_ (Prg.fnG ?_ ?_ ?_) ?_ (Prg.fnG ?_ ?_ ?_) ?_ (Prg.fnG ?_ ?_ ?_) ?_ (Prg.fnG ?_ ?_ ?_) (Prg.fnA ?_ ?_ ?_ ?_) ?_ (Prg.fnG ?_ ?_ ?_) ?_ (Prg.fnA ?_ ?_ ?_ ?_) (Prg.fnA ?_ ?_ ?_ ?_) (Prg.fnA ?_ ?_ ?_ ?_) (Prg.fnA ?_ ?_ ?_ ?_) ?_ (Prg.fnG ?_ ?_ ?_) ?_ (Prg.fnG ?_ ?_ ?_) ?_ (Prg.fnG ?_ ?_ ?_) ?_ (Prg.fnG ?_ ?_ ?_) (Prg.fnA ?_ ?_ ?_ ?_) ?_ (Prg.fnG ?_ ?_ ?_) ?_ (Prg.fnG ?_ ?_ ?_) (Prg.fnA ?_ ?_ ?_ ?_) (Prg.fnA ?_ ?_ ?_ ?_) (Prg.fnA ?_ ?_ ?_ ?_) (Prg.fnA ?_ ?_ ?_ ?_) (Prg.fnA ?_ ?_ ?_ ?_) ?_ (Prg.fnG ?_ ?_ ?_) ?_ (Prg.fnG ?_ ?_ ?_) ?_ (Prg.fnG ?_ ?_ ?_) ?_ (Prg.fnG ?_ ?_ ?_) ?_ (Prg.fnG ?_ ?_ ?_) ?_ ?_ (Prg.fnG ?_ ?_ ?_) ?_ (Prg.fnG ?_ ?_ ?_) ?_ (Prg.fnG ?_ ?_ ?_) (Prg.fnA ?_ ?_ ?_ ?_) (Prg.fnA ?_ ?_ ?_ ?_) (Prg.fnA ?_ ?_ ?_ ?_) (Prg.fnA ?_ ?_ ?_ ?_) (Prg.fnA ?_ ?_ ?_ ?_) (Prg.fnA ?_ ?_ ?_ ?_) (Prg.fnA ?_ ?_ ?_ ?_) (Prg.fnA ?_ ?_ ?_ ?_) (Prg.fnA ?_ ?_ ?_ ?_) (Prg.fnA ?_ ?_ ?_ ?_) ?_ ?_ ?_ ?_ ?_ ?_ ?_ ?_ ?_ ?_ ?_ ?_ ?_ ?_ ?_ ?_ ?_ ?_ ?_ ?_ ?_ ?_ ?_ ?_ ?_ ?_ ?_ ?_ ⟨?_,?_,?_,?_⟩ ?_ ?_ ⟨?_,?_,?_,?_⟩ ?_ ?_ ⟨?_,?_,?_,?_⟩ ?_ ?_ ⟨?_,?_,?_,?_⟩ ?_ ?_ ⟨?_,?_,?_,?_⟩ ?_ ?_ ?_ ?_ ⟨?_,?_,?_,?_⟩ ⟨?_,?_,?_,?_⟩ ?_ ⟨?_,?_,?_,?_⟩ ?_ ?_ ?_ ?_ ?_ ?_ ?_ ?_ ?_ ?_ ?_ ?_ ?_ ?_ ?_ ⟨⟨?_,?_,?_,?_⟩,?_,?_,?_,?_,?_⟩ ⟨⟨?_,?_,?_,?_⟩,?_,?_,?_,?_,?_⟩ ⟨⟨?_,?_,?_,?_⟩,?_,?_,?_,?_,?_⟩ ⟨⟨?_,?_,?_,?_⟩,?_,?_,?_,?_,?_⟩ ⟨⟨?_,?_,?_,?_⟩,?_,?_,?_,?_,?_⟩ ⟨⟨?_,?_,?_,?_⟩,?_,?_⟩ ⟨⟨?_,?_,?_,?_⟩,?_,?_,?_,?_,?_⟩ ⟨⟨?_,?_,?_,?_⟩,?_⟩ ?_ ?_ ?_ ?_ ?_ ?_ ?_ ?_ ?_ ?_ ?_ ?_ ?_ ?_ ?_;all_goals try first|k_is|k_exc|(show _=_;k_is)
